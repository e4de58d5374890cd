import PyProof.Rows.All
import Wide.All
import OpenK.AllK
import Wide.FinOn
import Lean
import PyProof.EqAt
import PyProof.EqKinds
import PyProof.TupleCall
import PySem.Challenge.RW_answertrees_k19_rings
open List (mem_filter mem_range filterMap_cons mem_cons_self mem_cons_of_mem mem_cons mem_append mem_append_left getElem?_set_self getElem?_set_ne mem_filterMap mem_append_right size_toArray append_nil nodup_cons of_mem_zip length_take getElem?_append_right getElem?_append_left getElem?_map mem_of_getElem? length_append length_map length_replicate length_drop length_set map_nil map_cons lookup_cons length_cons all_cons all_map all_eq_true getElem_mem find?_cons any_cons length_nil nodup_nil ext_getElem getElem?_eq_getElem toList_toArray getD_eq_getElem?_getD any_map map_append drop_zero drop_eq_getElem_cons drop_length any_eq_true contains_iff_mem append_assoc getElem?_of_mem take_length length_zipIdx getElem?_zipIdx not_lt pairwise_cons foldl_append length_range pairwise_iff_getElem getElem_map mem_map not_mem_nil map_map map_congr_left any_eq_false mem_singleton cons_append nodup_append map_id' length_pos_of_mem flatten_append mem_flatten getElem_range take_append_drop nil_append all_nil map_take take_of_length_le mem_of_mem_take perm_cons_erase take_succ foldl_cons map_drop find?_eq_none find?_some find?_append getElem?_take getElem?_inj length_pos_iff mem_of_find?_eq_some take_add_one mem_flatMap getLast?_map)
open Nat (lt_of_lt_of_le lt_irrefl ne_of_lt le_trans le_of_lt ne_of_gt le_refl le_succ lt_succ_self zero_le lt_succ_of_lt lt_trans le_succ_of_le zero_add not_lt_zero)
open Bool (and_eq_true false_eq_true or_eq_true not_eq_true')
open Option (isSome_iff_exists getD_none isSome_map map_eq_some_iff none_or or_none toList_some bind_some)
open Array (length_toList perm_iff_toList_perm getD_eq_getD_getElem? getElem?_toList)
open Int (toNat_natCast emod_nonneg emod_lt_of_pos)
open PySem.Heap (get?_push_size lt_size get?_push_of_some get?_update_self get?_update_other size_push)
open PySem.W (Frag methodObj keepIn fnOf codeIn kitOne kia_one nsIn mg_of mg_none_of)
open PySem.F (slot_tuple_add entry_tuple_add args_tuple_add_2 slot_dict_get entry_dict_get plainAttrs_dict type_dict_get slot_list_index plainAttrs_list)
set_option compiler.extract_closed false
set_option Elab.async false
set_option linter.all false
set_option maxRecDepth 100000
namespace L2
open PySem PySem.Spec PyProof.Rows
variable {a b it:Addr} {A:Around} {g':Array GenState} {op:CmpOp} {X:Cx} {d':Drawn} {c e tg:Expr} {fd:FuncData} {base h:Heap} {H:Hp} {CX:IE} {g:Int->Int->Int} {pins:List (Addr×Obj)} {ch fp:List Addr} {es:List Expr} {body:List Stmt} {N ps:List Str} {xs:List V} {us:List Value} {M:Model} {i j k n t':Nat} {o:Obj} {p pos:Pos} {P:Program} {K:Frag} {r:R2} {scope:Scope} {s:Shared} {sp:Sp} {σ:St} {qual x:Str} {kindOf:Str->Option NameKind} {mg:Str->Option Value} {ta:TA} {t te:TE} {tb:TS} {tc:TT} {α κ:Type} {y:V} {u v:Value} {E Q:Value->Shared->Prop} {f:Value->Value->Sem Value} {w:World}
noncomputable abbrev Key:=Sum Int Str
noncomputable def mB:Key->Value->Bool
 | .inl k,v=>Value.isInt k v
 | .inr x,v=>Value.isStrOf x v
noncomputable def ac3 (w:World):Key->Int
 | .inl k=>hashInt k
 | .inr x=>hashStr w x
theorem cA:∀{k:Key} {v:Value},mB k v=true->(∃i t,k=Sum.inl i/\v=Value.int i t)\/ (∃x t,k=Sum.inr x/\v=Value.str x t)
 | .inl i,v,h=>by
  obtain⟨t,e⟩:=Value.isInt_shape (k:=i) (v:=v) h
  exact .inl ⟨i,t,rfl,e⟩
 | .inr x,v,h=>by
  obtain⟨t,e⟩:=Value.isStrOf_shape (x:=x) (v:=v) h
  exact .inr ⟨x,t,rfl,e⟩
theorem HI (i:Int) (t:Tok):mB (.inl i) (.int i t)=true:=by simp[mB,Value.isInt]
theorem HR (x:Str) (t:Tok):mB (.inr x) (.str x t)=true:=by simp[mB,Value.isStrOf]
theorem WQ (a b:Int):decide ((Sum.inl a:Key)=Sum.inl b)=(a==b):=by
 by_cases e:a=b
 ·subst e;simp
 ·have h:¬(Sum.inl a:Key)=Sum.inl b:=fun q=>e (Sum.inl.inj q)
  rw[decide_eq_false h]
  exact(beq_eq_false_iff_ne.mpr e).symm
theorem T8 (a b:Str):decide ((Sum.inr a:Key)=Sum.inr b)=decide (a=b):=by
 by_cases e:a=b
 ·subst e;simp
 ·have h:¬(Sum.inr a:Key)=Sum.inr b:=fun q=>e (Sum.inr.inj q)
  rw[decide_eq_false h,decide_eq_false e]
theorem X5 (a:Int) (b:Str):decide ((Sum.inl a:Key)=Sum.inr b)=false:=decide_eq_false (fun q=>nomatch q)
theorem X7 (a:Str) (b:Int):decide ((Sum.inr a:Key)=Sum.inl b)=false:=decide_eq_false (fun q=>nomatch q)
noncomputable def bT (prog:Program) (w:World):PySem.KeyKind prog w Key where
 is:=mB
 hash:=ac3 w
 inj:=fun v a b ha hb=>by
  rcases cA ha with⟨i,t,rfl,rfl⟩|⟨x,t,rfl,rfl⟩
  ·rcases cA hb with⟨j,u,rfl,e⟩|⟨y,u,rfl,e⟩
   ·injection e with e1 _;rw[e1]
   ·exact nomatch e
  ·rcases cA hb with⟨j,u,rfl,e⟩|⟨y,u,rfl,e⟩
   ·exact nomatch e
   ·injection e with e1 _;rw[e1]
 byValue:=fun k v h=>by
  rcases cA h with⟨i,t,rfl,rfl⟩|⟨x,t,rfl,rfl⟩<;>rfl
 pyHash:=fun hv h=>by
  rcases cA hv with⟨i,t,rfl,rfl⟩|⟨x,t,rfl,rfl⟩
  ·exact wpAny_pyHash_int h
  ·exact wpAny_pyHash_str h
 eqBool:=fun hu hv h=>by
  rcases cA hu with⟨i,t,rfl,rfl⟩|⟨x,t,rfl,rfl⟩
  ·rcases cA hv with⟨j,u,rfl,rfl⟩|⟨y,u,rfl,rfl⟩
   ·rw[WQ]at h;exact wpAny_eqBool_int h
   ·rw[X5]at h;exact SeqAt.EqAt.int_str i t y u _ _ _ _ h
  ·rcases cA hv with⟨j,u,rfl,rfl⟩|⟨y,u,rfl,rfl⟩
   ·rw[X7]at h;exact SeqAt.EqAt.str_int x t j u _ _ _ _ h
   ·rw[T8]at h;exact wpAny_eqBool_str h
 «strs»:=fun k x t v h=>by
  rcases cA h with⟨i,u,rfl,e⟩|⟨y,u,rfl,e⟩
  ·exact nomatch e
  ·injection e with e1 _
   subst e1
   cases v<;>rfl
theorem AA (prog:Program) (w:World) (i:Int) (t:Tok):(bT prog w).is (.inl i) (.int i t)=true:=HI i t
theorem BD (prog:Program) (w:World) (x:Str) (t:Tok):(bT prog w).is (.inr x) (.str x t)=true:=HR x t
inductive V where
 |aY|bl (b:Bool)|int (i:Int)|str (x:Str)|YY (b:Array UInt8)|flt (b:UInt64)|ref (a:Addr)|ty (n:String)
 deriving DecidableEq
noncomputable def RelV:V->Value->Prop
 | .aY,u=>u=Value.none
 | .bl b,u=>u=Value.bool b
 | .int i,u=>∃t,u=Value.int i t
 | .str x,u=>∃t,u=Value.str x t
 | .YY b,u=>∃t,u=Value.bytes b t
 | .flt b,u=>∃t,u=Value.float b t
 | .ref a,u=>u=Value.ref a
 | .ty n,u=>u=Value.type n
noncomputable abbrev Vals:List V->List Value->Prop:=Paired RelV
theorem Vals.length (r:Vals xs us):xs.length=us.length:=Paired.length r
theorem Vals.get:∀{xs:List V} {us:List Value} {i:Nat} {x:V},Vals xs us->xs[i]? =some x->∃u,us[i]? =some u/\RelV x u
 |_,_,_,_,.nil,e=>by simp at e
 |_,_,0,_,.cons r _,e=>by simp at e;subst e;exact⟨_,rfl,r⟩
 |_,_,i+1,x,.cons _ t,e=>by
  obtain⟨u,h1,h2⟩:=Vals.get (i:=i) (x:=x) t (by simpa using e)
  exact⟨u,by simpa using h1,h2⟩
theorem Vals.set {x:V} (r:RelV x u):∀{xs:List V} {us:List Value} (i:Nat),Vals xs us->Vals (xs.set i x) (us.set i u)
 |_,_,_,.nil=>.nil
 |_,_,0,.cons _ t=>.cons r t
 |_,_,i+1,.cons q t=>.cons q (Vals.set r i t)
theorem Vals.append:∀{xs ys:List V} {us ws:List Value},Vals xs us->Vals ys ws->Vals (xs++ys) (us++ws)
 |_,_,_,_,.nil,s=>s
 |_,_,_,_,.cons r t,s=>.cons r (Vals.append t s)
theorem Vals.take:∀{xs:List V} {us:List Value} (n:Nat),Vals xs us->Vals (xs.take n) (us.take n)
 |_,_,0,_=>.nil
 |_,_,_+1,.nil=>.nil
 |_,_,n+1,.cons r t=>.cons r (Vals.take n t)
theorem Vals.drop:∀{xs:List V} {us:List Value} (n:Nat),Vals xs us->Vals (xs.drop n) (us.drop n)
 |_,_,0,r=>r
 |_,_,_+1,.nil=>.nil
 |_,_,n+1,.cons _ t=>Vals.drop n t
noncomputable def rE:Option V->Option Value->Prop
 |some v,some u=>RelV v u
 |none,none=>True
 |_,_=>False
noncomputable def KV:List (κ×V)->List (κ×Value)->Prop:=Paired fun(p:κ×V) (q:κ×Value)=>p.1=q.1/\RelV p.2 q.2
noncomputable def kV:Key->V
 | .inl i=>.int i
 | .inr x=>.str x
inductive HO where
 |lst (xs:List V)
 |tup (xs:List V)
 |dK (kvs:List (Key×V)) (ep:Nat)|dT (kvs:List (List Key×V))
 |set (S:Int->Bool) (n:Nat)
 |ins (C dx:Addr) (fs:List (Str×V))
 |own (x:Addr)
 |xd (fs:List (Str×V))
 |met (f x:Addr)
 |rng (lo hi:Int)
 |NU (o:Obj) (u:HO)
 |VG (ps:Array Value)
 |ext (φ:Heap->Prop)
noncomputable abbrev Hp:=Addr->Option HO
noncomputable def upd (H:Hp) (a:Addr) (o:HO):Hp:=fun b=>if b=a then some o else H b
theorem aW {o:HO}:upd H a o a=some o:=by unfold upd;rw[if_pos rfl]
theorem aS {o:HO} (h:b≠a):upd H a o b=H b:=by unfold upd;rw[if_neg h]
theorem K5 {o u:HO} (h:H a=some o) (h':H b=some u) (d:o≠u):a≠b:=by
 intro e;subst e;rw[h]at h';exact d (Option.some.inj h')
theorem b8 {o:HO} (h:H a=some o) (h':H b=none):a≠b:=by
 intro e;subst e;rw[h]at h';cases h'
noncomputable def pP (h:Heap) (a:Addr) (items:Array Value):Prop:=IsTup h a items/\∀o,h.get? a=some o->o.dict=none
theorem pP.new (h:Heap) (items:Array Value):pP (h.push {cls:=.type "tuple",data:=.seq items}) h.objs.size items:=⟨IsTup.new _ _,fun o e=>by rw[get?_push_size _ rfl]at e;cases e;rfl⟩
theorem pP.of {items:Array Value} {sl:Array (Option Value)} (e:h.get? a=some {cls:=.type "tuple",dict:=none,data:=.seq items n,slots:=sl}):pP h a items:=⟨⟨_,e,rfl,_,rfl⟩,fun o q=>by rw[e]at q;cases q;rfl⟩
section
variable (P:Program) (w:World)
noncomputable def c9 (H:Hp) (h:Heap) (a:Addr):HO->Prop
 | .lst xs=>xs.length<=sizeLine/\∃(its:List Value) (n:Nat),Vals xs its/\h.get? a=some {cls:=.type "list",data:=.seq its.toArray n}
 | .tup xs=>xs.length<=sizeLine/\∃its:List Value,Vals xs its/\pP h a its.toArray
 | .dK kvs ep=>kvs.length<=sizeLine/\(a==sysModules)=false/\∃vs,KV kvs vs/\h.DictAt (bT P w) a vs ep
 | .dT kvs=>kvs.length<=sizeLine/\(a==sysModules)=false/\∃xs:List (List Key×Addr×Value),
   Paired (fun(p:List Key×V) (q:List Key×Addr×Value)=>p.1=q.1/\H q.2.1=some (.tup (p.1.map kV))/\RelV p.2 q.2.2) kvs xs/\
   ∃o es ep,h.get? a=some o/\o.ExactDict/\o.data= .dict es ep/\es.toList=xs.map (entryOfKey (tupleKind (bT P w)))/\(xs.map (·.1)).Nodup
 | .set S n=>h.SetOf (intKind P w) a S n
 | .ins C dx fs=>H dx=some (.own a)/\fs.length<=1000/\dx≠a/\h.get? a=some (PySem.W.instObj C dx)/\
   ∃mA,h.Ns1 dx mA/\(∀f,rE (fs.lookup f) (mA f))/\PySem.Within mA (fs.map (·.1))
 | .own _=>∃o,h.get? a=some o
 | .xd fs=>∃mA,h.Ns1 a mA/\∀f,rE (fs.lookup f) (mA f)
 | .rng lo hi=>∃t u v,h.get? a=some {cls:=.type "range",data:=.fields #[.int lo t,.int hi u,.int 1 v]}
 | .NU o u=>h.get? a=some o/\c9 H h a u
 | .VG ps=>h.get? a=some {cls:=.none,data:=.fields ps}
 | .met f x=>h.get? a=some (methodObj (.ref f) (.ref x))
 | .ext φ=>φ h/\(∃o,h.get? a=some o)/\∀h1 h2:Heap,φ h1->(∀o,h1.get? a=some o->h2.get? a=some o)->φ h2
noncomputable def mX (H:Hp) (h:Heap):Prop:=∀a o,H a=some o->c9 P w H h a o
end
section
variable {P:Program} {w:World} {H H':Hp} {h h':Heap} {a:Addr} {o:HO}
theorem c9.lt (x:c9 P w H h a o):a<h.objs.size:=by
 cases o with
 |lst xs=>obtain⟨_,_,_,_,e⟩:=x;exact lt_size e
 |tup xs=>obtain⟨_,_,_,p⟩:=x;exact p.1.lt
 |dK kvs ep=>obtain⟨_,_,_,_,o,_,e,_⟩:=x;exact lt_size e
 |dT kvs=>obtain⟨_,_,_,_,o,_,_,e,_⟩:=x;exact lt_size e
 |set S n=>obtain⟨o,_,_,_,e,_⟩:=x;exact lt_size e
 |ins C dx fs=>obtain⟨_,_,_,e,_⟩:=x;exact lt_size e
 |own y=>obtain⟨_,e⟩:=x;exact lt_size e
 |xd fs=>obtain⟨_,⟨_,_,_,e,_⟩,_⟩:=x;exact lt_size e
 |rng lo hi=>obtain⟨_,_,_,e⟩:=x;exact lt_size e
 |NU ob u=>obtain⟨e,_⟩:=x;exact lt_size e
 |VG ps=>exact lt_size (show h.get? a=some _ from x)
 |met f y=>exact lt_size (show h.get? a=some _ from x)
 |ext φ=>obtain⟨_,⟨_,e⟩,_⟩:=x;exact lt_size e
theorem Paired.XS {β:Type} {F G:α->β->Prop}:∀{l₁:List α} {l₂:List β},Paired F l₁ l₂->(∀a b,F a b->G a b)->Paired G l₁ l₂
 |_,_,.nil,_=>.nil
 |_,_,.cons r t,f=>.cons (f _ _ r) (Paired.XS t f)
theorem c9.aH (x:c9 P w H h a o) (k:∀b u,(b=a\/ H b=some (.own a))->h.get? b=some u->h'.get? b=some u)
  (ho:∀b,H b=some (.own a)->H' b=some (.own a)) (ht:∀b xs,H b=some (.tup xs)->H' b=some (.tup xs)):c9 P w H' h' a o:=by
 induction o with
 |lst xs=>obtain⟨z,its,n,r,e⟩:=x;exact⟨z,its,n,r,k _ _ (.inl rfl) e⟩
 |tup xs=>obtain⟨z,its,r,⟨ob,e,c⟩,nd⟩:=x;exact⟨z,its,r,⟨ob,k _ _ (.inl rfl) e,c⟩,fun o' e'=>by rw[k _ _ (.inl rfl) e]at e';cases e';exact nd _ e⟩
 |dK kvs ep=>obtain⟨z,y,vs,r,ob,es,e,c⟩:=x;exact⟨z,y,vs,r,ob,es,k _ _ (.inl rfl) e,c⟩
 |dT kvs=>
  obtain⟨z,y,xs,r,ob,es,ep,e,c⟩:=x
  exact⟨z,y,xs,Paired.XS r fun p q z=>⟨z.1,ht _ _ z.2.1,z.2.2⟩,ob,es,ep,k _ _ (.inl rfl) e,c⟩
 |set S n=>obtain⟨ob,es,ep,t,e,c⟩:=x;exact⟨ob,es,ep,t,k _ _ (.inl rfl) e,c⟩
 |ins C dx fs=>
  obtain⟨d,z,ne,e,mA,⟨od,es,ep,e2,c⟩,r⟩:=x
  exact⟨ho _ d,z,ne,k _ _ (.inl rfl) e,mA,⟨od,es,ep,k _ _ (.inr d) e2,c⟩,r⟩
 |own y=>obtain⟨ob,e⟩:=x;exact⟨ob,k _ _ (.inl rfl) e⟩
 |xd fs=>obtain⟨mA,⟨od,es,ep,e,c⟩,r⟩:=x;exact⟨mA,⟨od,es,ep,k _ _ (.inl rfl) e,c⟩,r⟩
 |rng lo hi=>obtain⟨t,u,v,e⟩:=x;exact⟨t,u,v,k _ _ (.inl rfl) e⟩
 |NU ob u ih=>obtain⟨e,q⟩:=x;exact⟨k _ _ (.inl rfl) e,ih q⟩
 |VG ps=>
  have e:h.get? a=some {cls:=.none,data:=.fields ps}:=x
  show h'.get? a=some {cls:=.none,data:=.fields ps}
  exact k a _ (.inl rfl) e
 |met f y=>
  have e:h.get? a=some (methodObj (.ref f) (.ref y)):=x
  show h'.get? a=some (methodObj (.ref f) (.ref y))
  exact k a _ (.inl rfl) e
 |ext φ=>obtain⟨p,⟨o,e⟩,st⟩:=x;exact⟨st _ _ p fun o q=>k _ _ (.inl rfl) q,⟨o,k _ _ (.inl rfl) e⟩,st⟩
theorem mX.lt (x:mX P w H h) (e:H a=some o):a<h.objs.size:=(x a o e).lt
theorem mX.fresh (x:mX P w H h) (e:h.objs.size<=a):H a=none:=by
 cases q:H a with
 |none=>rfl
 |some u=>exact absurd (lt_of_lt_of_le (x.lt q) e) (lt_irrefl _)
theorem mX.kept (x:mX P w H h) (k:∀b u,h.get? b=some u->h'.get? b=some u):mX P w H h':=fun a o e=>
 (x a o e).aH (fun b u _ q=>k b u q) (fun _ q=>q) fun _ _ q=>q
theorem mX.laid (x:mX P w H h) (k:∀b u,h.get? b=some u->h'.get? b=some u) (hp:h.objs.size<=a) (new:c9 P w (upd H a o) h' a o):mX P w (upd H a o) h':=fun b u e=>by
 have hn:=x.fresh hp
 by_cases hb:b=a
 ·subst hb;rw[aW]at e;cases e;exact new
 ·rw[aS hb]at e
  exact(x b u e).aH (fun c v _ q=>k c v q) (fun c q=>by rw[aS (b8 q hn)];exact q) fun c xs q=>by rw[aS (b8 q hn)];exact q
end
noncomputable def Rd (H:Hp) (a:Addr) (u:HO):Prop:=H a=some u\/ ∃o,H a=some (.NU o u)
theorem Rd.ok {a:Addr} {u:HO} (r:Rd H a u) (x:mX P w H h):c9 P w H h a u:=by
 rcases r with r|⟨o,r⟩
 ·exact x a u r
 ·obtain⟨_,q⟩:=x a _ r
  exact q
noncomputable def YM:Option HO->Prop
 |some (.lst _)=>True
 |some (.dK _ _)=>True
 |some (.dT _)=>True
 |some (.set _ _)=>True
 |some (.ins _ _ _)=>True
 |some (.ext _)=>True
 |_=>False
section
variable {P:Program} {w:World} {H:Hp} {h h':Heap} {x e:Addr} {o':HO}
theorem mX.write (ok:mX P w H h) (mu:YM (H x)) (he:e=x\/ H e=some (.own x)) (k:∀b u,b≠e->h.get? b=some u->h'.get? b=some u) (heo:∃u,h'.get? e=some u)
  (new:c9 P w (upd H x o') h' x o'):mX P w (upd H x o') h':=fun b u q=>by
 have nown:∀c y,H c=some (.own y)->c≠x:=fun c y r z=>by subst z;rw[r]at mu;exact mu
 have ntup:∀c xs,H c=some (.tup xs)->c≠x:=fun c xs r z=>by subst z;rw[r]at mu;exact mu
 by_cases hb:b=x
 ·subst hb;rw[aW]at q;cases q;exact new
 ·rw[aS hb]at q
  by_cases hbe:b=e
  ·have q':H b=some (.own x):=by
    rcases he with z|z
    ·exact absurd (hbe.trans z) hb
    ·rw[hbe];exact z
   rw[q]at q';cases q'
   obtain⟨v,hv⟩:=heo
   exact⟨v,by rw[hbe];exact hv⟩
  ·refine(ok b u q).aH (fun c v hc r=>k c v ?_ r) (fun c r=>by rw[aS (nown c b r)];exact r) fun c xs r=>by rw[aS (ntup c xs r)];exact r
   rcases hc with rfl|hc
   ·exact hbe
   ·rintro rfl
    rcases he with z|z
    ·exact nown c b hc z
    ·rw[hc]at z;cases z;exact hb rfl
end
structure Un (fs ex:List Addr) (H H':Hp) (h h':Heap):Prop where
 keep:∀b o,h.get? b=some o->H b=none->b∉fs->b∉ex->h'.get? b=some o
 slot:∀b o,h.get? b=some o->H b=none->b∈fs->b∉ex->∃sl,h'.get? b=some {o with slots:=sl}
 free:∀b o,h.get? b=some o->H b=none->b∉ex->H' b=none
 there:∀b o,h.get? b=some o->b∉ex->∃o',h'.get? b=some o'
 uU:∀b xs,H b=some (.tup xs)->H' b=some (.tup xs)
 sJ:∀b o u,H b=some (.NU o u)->H' b=some (.NU o u)
 uI:∀b ps,H b=some (.VG ps)->∃more,H' b=some (.VG (ps++more))
section
variable {fs fs' ex ex':List Addr} {H H1 H2:Hp} {h h1 h2 h':Heap} {a x e:Addr} {o:HO}
theorem Un.any (u:Un fs ex H H1 h h1) {ob:Obj} (q:h.get? b=some ob) (n:H b=none) (hx:b∉ex):∃sl,h1.get? b=some {ob with slots:=sl}:=by
 by_cases hb:b∈fs
 ·exact u.slot b ob q n hb hx
 ·exact⟨ob.slots,u.keep b ob q n hb hx⟩
theorem Un.kept (k:∀b u,h.get? b=some u->h'.get? b=some u):Un fs ex H H h h':=
 ⟨fun b ob q _ _ _=>k b ob q,fun b ob q _ _ _=>⟨ob.slots,k b ob q⟩,fun _ _ _ n _=>n,fun b ob q _=>⟨ob,k b ob q⟩,fun _ _ q=>q,fun _ _ _ q=>q,fun _ ps q=>⟨#[],by rw[q];simp⟩⟩
theorem Un.refl:Un fs ex H H h h:=Un.kept fun _ _ q=>q
theorem Un.laid (k:∀b u,h.get? b=some u->h'.get? b=some u) (hp:h.objs.size<=a) (hn:H a=none):Un fs ex H (upd H a o) h h' where
 keep:=fun b u q _ _ _=>k b u q
 slot:=fun b u q _ _ _=>⟨u.slots,k b u q⟩
 free:=fun b u q n _=>by rw[aS (ne_of_lt (lt_of_lt_of_le (lt_size q) hp))];exact n
 there:=fun b u q _=>⟨u,k b u q⟩
 uU:=fun b xs q=>by rw[aS (b8 q hn)];exact q
 sJ:=fun b u xs q=>by rw[aS (b8 q hn)];exact q
 uI:=fun b ps q=>⟨#[],by rw[aS (b8 q hn),q];simp⟩
theorem Un.write (mu:YM (H x)) (he:e=x\/ H e=some (.own x)) (k:∀b u,b≠e->h.get? b=some u->h'.get? b=some u) (heo:∃u,h'.get? e=some u):Un fs ex H (upd H x o) h h':=by
 have hx:∀b,H b=none->b≠x:=fun b n z=>by subst z;rw[n]at mu;exact mu
 have hb:∀b,H b=none->b≠e:=fun b n z=>by
  subst z
  rcases he with r|r
  ·exact hx b n r
  ·rw[n]at r;cases r
 have hm:∀b u,H b=some u->¬YM (some u)->b≠x:=fun b u q nm z=>by subst z;rw[q]at mu;exact nm mu
 refine⟨fun b u q n _ _=>k b u (hb b n) q,fun b u q n _ _=>⟨u.slots,k b u (hb b n) q⟩,fun b u q n _=>by rw[aS (hx b n)];exact n,fun b u q _=>?_,
  fun b xs q=>by rw[aS (hm b _ q fun z=>z)];exact q,fun b u xs q=>by rw[aS (hm b _ q fun z=>z)];exact q,fun b ps q=>⟨#[],by rw[aS (hm b _ q fun z=>z),q];simp⟩⟩
 by_cases hbe:b=e
 ·subst hbe;exact heo
 ·exact⟨u,k b u hbe q⟩
end
noncomputable def trk (h:Heap) (H:Hp):List Addr:=(List.range h.objs.size).filter fun a=>(H a).isSome
noncomputable def yP (h:Heap) (H:Hp):Heap:=PySem.W.hideAll h (trk h H)
theorem GK (h:Heap) (H:Hp):(yP h H).objs.size=h.objs.size:=PySem.W.hideAll_size _ _
theorem IK (e:h.get? b=some o) (n:H b=none):(yP h H).get? b=some o:=
 PySem.W.hideAll_get _ e fun hm=>by
  have q:(H b).isSome=true:=(mem_filter.mp hm).2
  rw[n]at q;simp at q
theorem N9 {H:Hp} {b:Addr} (e:(yP h H).get? b=some o):h.get? b=some o/\H b=none:=by
 have e':h.get? b=some o:=PySem.W.of_hideAll (trk h H) e
 refine⟨e',?_⟩
 cases q:H b with
 |none=>rfl
 |some x=>
  have hm:b∈trk h H:=mem_filter.mpr ⟨mem_range.mpr (lt_size e'),by simp[q]⟩
  have z:(yP h H).get? b=none:=PySem.W.hideAll_none (trk h H) hm
  rw[z]at e;cases e
structure Mod (K:Frag) (mg:Str->Option Value) (base:Heap):Prop where
 kin:K.In base
 glob:base.Ns mainGlobals mg
 blt:∃mb,base.Ns builtinsNs mb/\∀x:Str,x≠"__name__"->mb x=bootBuiltins x
 nolimit:base.NoLimit
structure Cx where
 prog:Program
 w:World
 K:Frag
 mg:Str->Option Value
 base:Heap
 A:Around
 N:List Str
 iN:Shared
 JE:Hp
 env:Env
 outer:List Env
 stack:List Env
 ex:List Addr
 fn:Str->Bool
 calm:Bool
 pn:List (Addr×Obj)
 xe:Value->Shared->Prop
noncomputable def G2 (l:List Env):List Addr:=l.filterMap (·.frame)
noncomputable abbrev Cx.fs (X:Cx):List Addr:=G2 X.outer
noncomputable def Vis (sc:Scope) (x:Str):Prop:=sc.names.lookup x=some .local\/ sc.names.lookup x=some .cell\/ sc.names.lookup x=some .free
noncomputable def Loc (sc:Scope) (x:Str):Prop:=sc.names.lookup x=some .local\/ sc.names.lookup x=some .cell
noncomputable def Look (env:Env) (h:Heap) (m:Str->Option Value) (x:Str) (u:Value):Prop:=
 (env.kindOf x=some .local/\m x=some u)\/ ((env.kindOf x=some .cell\/ env.kindOf x=some .free)/\∃c,env.cells.lookup x=some c/\h.IsCell c (some u))
structure Cx.Ok (X:Cx):Prop where
 mod:Mod X.K X.mg X.base
 kind:X.env.scope.kind= .function
 glob:X.env.globals=mainGlobals
 blt:X.env.builtins=builtinsNs
 above:X.iN.heap.objs.size<=X.env.locals
 inj:∀x y c,X.env.cells.lookup x=some c->X.env.cells.lookup y=some c->x=y
 has:∀x,(X.env.kindOf x=some .cell\/ X.env.kindOf x=some .free)->∃c,X.env.cells.lookup x=some c
 YO:∀x c,X.fn x=true->X.env.cells.lookup x=some c->X.iN.heap.objs.size<=c
 hd:X.calm=true->X.A.handled=none
 frames:X.A.frames=some X.stack
 ZS:X.stack=X.outer\/ (X.stack=X.env::X.outer/\X.env.frame=some X.env.locals)
 exf:∀b∈X.ex,b≠X.env.locals/\∀x c,X.env.cells.lookup x=some c->c≠b
 bs:∀b o,X.base.get? b=some o->X.iN.heap.get? b=some o/\X.JE b=none
 Q5:X.base.objs.size<=X.iN.heap.objs.size
 HV:∀b o,X.base.get? b=some o->b∉X.ex
 zR:∀b∈X.ex,b∉X.fs
 rN:X.iN.heap.FunFrames X.base X.outer
 UQ:∀b∈X.fs,X.JE b=none
structure Inv (X:Cx) (pins:List (Addr×Obj)) (σ:List (Option V)) (H:Hp) (s:Shared):Prop where
 ok:X.Ok
 os:s.os=X.iN.os
 bare:AllBare s.gens
 base:Un X.fs X.ex X.JE H X.iN.heap s.heap
 loc:∃m,s.heap.Ns X.env.locals m/\∀(i:Nat) (x:Str) (v:V),X.N[i]? =some x->σ[i]? =some (some v)->Vis X.env.scope x->∃u,RelV v u/\Look X.env s.heap m x u
 cell:∀x c,X.env.cells.lookup x=some c->∃v,s.heap.IsCell c v
 free:H X.env.locals=none
 mD:∀x c,X.env.cells.lookup x=some c->H c=none
 pin:∀p∈X.pn++pins,s.heap.get? p.1=some p.2/\H p.1=none/\p.1≠X.env.locals/\p.1∉X.fs/\∀v,p.2.data≠ .cell v
 bN:mX X.prog X.w H s.heap
 len:σ.length=X.N.length
section
variable {X:Cx} {pins:List (Addr×Obj)} {σ:List (Option V)} {H H':Hp} {s:Shared} {h':Heap}
theorem Cx.Ok.abS (ok:X.Ok) (e:X.base.get? b=some o):b∉X.fs:=fun hb=>by
 have:=(ok.rN.mem hb).1
 rw[e]at this;cases this
theorem Inv.bs (I:Inv X pins σ H s):∀b o,X.base.get? b=some o->s.heap.get? b=some o/\H b=none:=fun b o e=>
 ⟨I.base.keep b o (I.ok.bs b o e).1 (I.ok.bs b o e).2 (I.ok.abS e) (I.ok.HV b o e),I.base.free b o (I.ok.bs b o e).1 (I.ok.bs b o e).2 (I.ok.HV b o e)⟩
theorem Inv.bk (I:Inv X pins σ H s):∀b o,X.base.get? b=some o->s.heap.get? b=some o:=fun b o e=>(I.bs b o e).1
theorem Inv.mod (I:Inv X pins σ H s):Mod X.K X.mg X.base:=I.ok.mod
theorem Inv.HU (I:Inv X pins σ H s):X.K.In s.heap:=I.ok.mod.kin.keeps I.bk
theorem Inv.lt (I:Inv X pins σ H s):X.env.locals<s.heap.objs.size:=let⟨_,hn,_⟩:=I.loc;hn.lt
theorem Inv.sz (I:Inv X pins σ H s):X.iN.heap.objs.size<=s.heap.objs.size:=le_trans I.ok.above (le_of_lt I.lt)
theorem Inv.ZA (I:Inv X pins σ H s) (h:s.heap.objs.size<=a):a∉X.fs:=fun hb=>by
 obtain⟨_,o,ho,_⟩:=I.ok.rN.mem hb
 exact absurd (lt_of_lt_of_le (lt_size ho) (le_trans I.sz h)) (lt_irrefl _)
theorem Inv.S6 (I:Inv X pins σ H s):∀x c,X.env.cells.lookup x=some c->c≠X.env.locals:=fun x c e z=>by
 obtain⟨v,o,ho,hd⟩:=I.cell x c e
 obtain⟨m,⟨o',es,ep,ho',hd',_⟩,_⟩:=I.loc
 rw[z,ho']at ho;cases ho;rw[hd']at hd;cases hd
theorem Inv.rN (I:Inv X pins σ H s):s.heap.FunFrames X.base X.outer:=by
 have all:∀(l:List Env),(∀b∈G2 l,b∈X.fs)->X.iN.heap.FunFrames X.base l->s.heap.FunFrames X.base l:=by
  intro l
  induction l with
  |nil=>intro _ _;trivial
  |cons env r ih=>
   intro hs hl
   obtain⟨hk,⟨L,o,hf,hn,ho,hd⟩,hr⟩:=hl
   have hL:L∈X.fs:=hs L (by unfold G2;rw[filterMap_cons,hf];exact mem_cons_self)
   obtain⟨sl,e⟩:=I.base.slot L o ho (I.ok.UQ L hL) hL fun z=>I.ok.zR L z hL
   exact⟨hk,⟨L,_,hf,hn,e,hd⟩,ih (fun b hb=>hs b (by unfold G2;rw[filterMap_cons,hf];exact mem_cons_of_mem _ hb)) hr⟩
 exact all X.outer (fun _ hb=>hb) I.ok.rN
theorem Inv.stack (I:Inv X pins σ H s):s.heap.FunFrames X.base X.stack:=by
 rcases I.ok.ZS with e|⟨e,hf⟩
 ·rw[e];exact I.rN
 ·rw[e]
  obtain⟨m,hn,_⟩:=I.loc
  refine .cons (by rw[I.ok.kind];decide) hf hn ?_ I.rN
  exact Heap.get?_none_of_le (le_trans I.ok.Q5 I.ok.above)
theorem Inv.CA (I:Inv X pins σ H s):∀b∈G2 X.stack,b∈X.env.locals::X.fs:=fun b hb=>by
 rcases I.ok.ZS with e|⟨e,hf⟩
 ·rw[e]at hb;exact mem_cons_of_mem _ hb
 ·rw[e]at hb
  unfold G2 at hb
  rw[filterMap_cons,hf]at hb
  exact hb
theorem Inv.E3 (I:Inv X pins σ H s):∀b∈G2 X.stack,H b=none:=fun b hb=>by
 rcases mem_cons.mp (I.CA b hb)with e|hb
 ·rw[e];exact I.free
 ·obtain⟨_,o,ho,_⟩:=I.ok.rN.mem hb
  exact I.base.free b o ho (I.ok.UQ b hb) fun z=>I.ok.zR b z hb
theorem Inv.step (I:Inv X pins σ H s)
  (hch:∀b∈ch,(b∈X.ex\/ X.iN.heap.objs.size<=b)/\b≠X.env.locals/\(∀x c,X.env.cells.lookup x=some c->c≠b)/\∀p∈X.pn++pins,p.1≠b)
  (keep:∀b o,b≠X.env.locals->b∉X.fs->b∉ch->s.heap.get? b=some o->H b=none->h'.get? b=some o)
  (slot:∀b o,b≠X.env.locals->b∈X.fs->b∉ch->s.heap.get? b=some o->H b=none->∃sl,h'.get? b=some {o with slots:=sl}) (free:∀b o,b∉ch->s.heap.get? b=some o->H b=none->H' b=none)
  (there:∀b o,b∉ch->s.heap.get? b=some o->∃o',h'.get? b=some o')
  (uU:∀b xs,H b=some (.tup xs)->H' b=some (.tup xs)) (sJ:∀b o u,H b=some (.NU o u)->H' b=some (.NU o u)) (uI:∀b ps,H b=some (.VG ps)->∃more,H' b=some (.VG (ps++more)))
  (ns:∀m,s.heap.Ns X.env.locals m->h'.Ns X.env.locals m) (bN:mX X.prog X.w H' h') (hg:AllBare g'):
  Inv X pins σ H' {s with heap:=h',gens:=g',drawn:=d',toks:=t'}:=by
 have neL:∀b o,X.iN.heap.get? b=some o->b≠X.env.locals:=fun b o e=>ne_of_lt (lt_of_lt_of_le (lt_size e) I.ok.above)
 have neC:∀b o,X.iN.heap.get? b=some o->b∉X.ex->b∉ch:=fun b o e hx hb=>by
  rcases(hch b hb).1 with z|z
  ·exact hx z
  ·exact absurd (lt_of_lt_of_le (lt_size e) z) (lt_irrefl _)
 have cellK:∀x c,X.env.cells.lookup x=some c->∀v,s.heap.IsCell c v->h'.IsCell c v:=fun x c e v ⟨o,ho,hd⟩=>by
  have nch:c∉ch:=fun z=>(hch c z).2.2.1 x c e rfl
  by_cases hc:c∈X.fs
  ·obtain⟨sl,q⟩:=slot c o (I.S6 x c e) hc nch ho (I.mD x c e)
   exact⟨_,q,hd⟩
  ·exact⟨o,keep c o (I.S6 x c e) hc nch ho (I.mD x c e),hd⟩
 refine⟨I.ok,I.os,hg,⟨fun b o e n hb hx=>?_,fun b o e n hb hx=>?_,fun b o e n hx=>?_,fun b o e hx=>?_,fun b xs e=>uU b xs (I.base.uU b xs e),fun b o xs e=>sJ b o xs (I.base.sJ b o xs e),fun b ps e=>?_⟩,?_,fun x c e=>?_,?_,fun x c e=>?_,fun p hp=>?_,bN,I.len⟩
 ·exact keep b o (neL b o e) hb (neC b o e hx) (I.base.keep b o e n hb hx) (I.base.free b o e n hx)
 ·obtain⟨sl,e1⟩:=I.base.slot b o e n hb hx
  obtain⟨sl',e2⟩:=slot b _ (neL b o e) hb (neC b o e hx) e1 (I.base.free b o e n hx)
  exact⟨sl',e2⟩
 ·obtain⟨o',e1⟩:=I.base.there b o e hx
  exact free b o' (neC b o e hx) e1 (I.base.free b o e n hx)
 ·obtain⟨o',e1⟩:=I.base.there b o e hx
  exact there b o' (neC b o e hx) e1
 ·obtain⟨m1,e1⟩:=I.base.uI b ps e
  obtain⟨m2,e2⟩:=uI b _ e1
  exact⟨m1++m2,by rw[e2,Array.append_assoc]⟩
 ·obtain⟨m,hn,hl⟩:=I.loc
  refine⟨m,ns m hn,fun i x v e1 e2 e3=>?_⟩
  obtain⟨u,r,l⟩:=hl i x v e1 e2 e3
  refine⟨u,r,?_⟩
  rcases l with l|⟨k,c,e,z⟩
  ·exact .inl l
  ·exact .inr ⟨k,c,e,cellK x c e _ z⟩
 ·obtain⟨v,z⟩:=I.cell x c e
  exact⟨v,cellK x c e v z⟩
 ·obtain⟨m,⟨o,_,_,ho,_⟩,_⟩:=I.loc
  exact free _ o (fun z=>(hch _ z).2.1 rfl) ho I.free
 ·obtain⟨v,o,ho,hd⟩:=I.cell x c e
  exact free c o (fun z=>(hch c z).2.2.1 x c e rfl) ho (I.mD x c e)
 ·obtain⟨e,n,ne,nf,d⟩:=I.pin p hp
  have nch:p.1∉ch:=fun z=>(hch p.1 z).2.2.2 p hp rfl
  exact⟨keep p.1 p.2 ne nf nch e n,free p.1 p.2 nch e n,ne,nf,d⟩
theorem Inv.un (I:Inv X pins σ H s) (u:Un X.fs [] H H' s.heap h') (bN:mX X.prog X.w H' h'):Inv X pins σ H' {s with heap:=h',toks:=t'}:=by
 obtain⟨m,⟨o,es,ep,ho,r⟩,_⟩:=id I.loc
 obtain⟨sl,hL⟩:=u.any ho I.free (by simp)
 exact I.step (g':=s.gens) (d':=s.drawn) (ch:=[]) (fun _ z=>nomatch z) (fun b o _ hb _ e n=>u.keep b o e n hb (by simp)) (fun b o _ hb _ e n=>u.slot b o e n hb (by simp)) (fun b o _ e n=>u.free b o e n (by simp)) (fun b o _ e=>u.there b o e (by simp)) u.uU u.sJ u.uI (fun m' hm=>by
  obtain⟨o',es',ep',ho',r'⟩:=hm
  rw[ho]at ho';cases ho'
  exact⟨_,es',ep',hL,r'⟩) bN I.bare
theorem Inv.call (I:Inv X pins σ H s) (u:Un (G2 X.stack) ch H H' s.heap h') (bN:mX X.prog X.w H' h') (hg:AllBare g')
  (hch:∀b∈ch,(b∈X.ex\/ X.iN.heap.objs.size<=b)/\b≠X.env.locals/\(∀x c,X.env.cells.lookup x=some c->c≠b)/\∀p∈X.pn++pins,p.1≠b):
  Inv X pins σ H' {s with heap:=h',gens:=g',drawn:=d',toks:=t'}:=by
 obtain⟨m,⟨o,es,ep,ho,r⟩,_⟩:=id I.loc
 obtain⟨sl,hL⟩:=u.any ho I.free fun z=>(hch _ z).2.1 rfl
 exact I.step (ch:=ch) hch (fun b o hL hb hc e n=>u.keep b o e n (fun z=>(mem_cons.mp (I.CA b z)).elim hL hb) hc) (fun b o _ _ hc e n=>u.any e n hc) (fun b o hc e n=>u.free b o e n hc) (fun b o hc e=>u.there b o e hc) u.uU u.sJ u.uI (fun m' hm=>by
  obtain⟨o',es',ep',ho',r'⟩:=hm
  rw[ho]at ho';cases ho'
  exact⟨_,es',ep',hL,r'⟩) bN hg
theorem Inv.turned (I:Inv X pins σ H s) (k:∀b o,b≠it->s.heap.get? b=some o->h'.get? b=some o) (hn:H it=none) (hL:it≠X.env.locals)
  (h1:it∈X.ex\/ X.iN.heap.objs.size<=it) (h2:∀x c,X.env.cells.lookup x=some c->c≠it) (h3:∀p∈X.pn++pins,p.1≠it):Inv X pins σ H {s with heap:=h',toks:=t'}:=by
 have nit:∀b u,H b=some u->b≠it:=fun b u e z=>by rw[z,hn]at e;cases e
 refine I.step (g':=s.gens) (d':=s.drawn) (ch:=[it]) (fun b hb=>?_) (fun b o _ _ hc e _=>k b o (fun z=>hc (by simp[z])) e) (fun b o _ _ hc e _=>⟨o.slots,k b o (fun z=>hc (by simp[z])) e⟩) (fun _ _ _ _ n=>n)
  (fun b o hc e=>⟨o,k b o (fun z=>hc (by simp[z])) e⟩) (fun _ _ e=>e) (fun _ _ _ e=>e) (fun b ps e=>⟨#[],by rw[e];simp⟩) (fun m hm=>?_) (fun b u e=>?_) I.bare
 ·have e:b=it:=by simpa using hb
  subst e
  exact⟨h1,hL,h2,h3⟩
 ·obtain⟨o,es,ep,ho,r⟩:=hm
  exact⟨o,es,ep,k _ o (Ne.symm hL) ho,r⟩
 ·refine(I.bN b u e).aH (fun c v hc q=>k c v ?_ q) (fun _ q=>q) fun _ _ q=>q
  rcases hc with z|z
  ·rw[z];exact nit b u e
  ·exact nit c _ z
theorem Inv.tok (I:Inv X pins σ H s) (t:Nat):Inv X pins σ H {s with toks:=t}:=I.un (h':=s.heap) (t':=t) Un.refl I.bN
theorem Inv.kept (I:Inv X pins σ H s) (k:∀b u,s.heap.get? b=some u->h'.get? b=some u):Inv X pins σ H {s with heap:=h',toks:=t'}:=I.un (Un.kept k) (I.bN.kept k)
theorem Inv.laid {o:HO} (I:Inv X pins σ H s) (k:∀b u,s.heap.get? b=some u->h'.get? b=some u) (hp:s.heap.objs.size<=a) (new:c9 X.prog X.w (upd H a o) h' a o):
  Inv X pins σ (upd H a o) {s with heap:=h',toks:=t'}:=I.un (Un.laid k hp (I.bN.fresh hp)) (I.bN.laid k hp new)
theorem Inv.write {x e:Addr} {o:HO} (I:Inv X pins σ H s) (mu:YM (H x)) (he:e=x\/ H e=some (.own x)) (k:∀b u,b≠e->s.heap.get? b=some u->h'.get? b=some u) (heo:∃u,h'.get? e=some u)
  (new:c9 X.prog X.w (upd H x o) h' x o):Inv X pins σ (upd H x o) {s with heap:=h',toks:=t'}:=I.un (Un.write mu he k heo) (I.bN.write mu he k heo new)
theorem Inv.sC {pins':List (Addr×Obj)} (I:Inv X pins σ H s) (h:∀p∈pins',s.heap.get? p.1=some p.2/\H p.1=none/\p.1≠X.env.locals/\p.1∉X.fs/\∀v,p.2.data≠ .cell v):Inv X pins' σ H s:=
 ⟨I.ok,I.os,I.bare,I.base,I.loc,I.cell,I.free,I.mD,fun p hp=>(mem_append.mp hp).elim (fun z=>I.pin p (mem_append_left _ z)) (h p),I.bN,I.len⟩
theorem zY (hN:N.Nodup) (a:N[i]? =some x) (b:N[j]? =some x):i=j:=by
 obtain⟨h1,e1⟩:=List.getElem?_eq_some_iff.mp a
 obtain⟨h2,e2⟩:=List.getElem?_eq_some_iff.mp b
 exact(List.getElem_inj hN).mp (e1.trans e2.symm)
theorem GB {x:Str} {v:V} {Q:Unit->Shared->Prop} (I:Inv X pins σ H s) (hN:X.N.Nodup) (hi:X.N[i]? =some x) (hx:Loc X.env.scope x) (r:RelV v u)
  (h:∀s',Inv X pins (σ.set i (some v)) H s'->(∃a,Heap.SameBut a s.heap s'.heap/\(a=X.env.locals\/ X.env.cells.lookup x=some a))->Q () s') (hf:X.fn x=true\/ X.env.scope.names.lookup x=some .local:=by first|exact .inl rfl|exact .inr rfl|assumption):wpAny M A (storeName X.env x u) Q E s:=by
 obtain⟨m,hn,hl⟩:=id I.loc
 have hcls:(X.env.scope.kind== .class||(X.env.scope.kind== .module && X.env.locals !=X.env.globals))=false:=by rw[I.ok.kind];rfl
 have hiσ:i<σ.length:=by rw[I.len];exact(List.getElem?_eq_some_iff.mp hi).1
 have S6:=I.S6
 have tracked:∀{a:Addr} {h':Heap},(∃o,s.heap.get? a=some o/\H a=none)->Heap.SameBut a s.heap h'->mX X.prog X.w H h':=fun{a h'} ha hs b ob e=>by
  obtain⟨_,_,hfree⟩:=ha
  refine(I.bN b ob e).aH (fun c w' hc q=>(hs.2 c ?_).trans q) (fun _ q=>q) fun _ _ q=>q
  rintro rfl
  rcases hc with rfl|hc
  ·rw[hfree]at e;cases e
  ·rw[hfree]at hc;cases hc
 rcases hx with hk|hk
 ·refine wpAny_storeName_local hk hn (fun h' hn' hs=>?_) hcls
  obtain⟨oL,_,_,hoL,_⟩:=id hn
  refine h _ ⟨I.ok,I.os,I.bare,⟨fun b o e n hb hx=>?_,fun b o e n hb hx=>?_,I.base.free,fun b o e hx=>?_,I.base.uU,I.base.sJ,I.base.uI⟩,⟨_,hn',fun j y v' e1 e2 e3=>?_⟩,fun y c e=>?_,I.free,I.mD,fun p hp=>?_,tracked ⟨oL,hoL,I.free⟩ hs,by simpa using I.len⟩ ⟨_,hs,.inl rfl⟩
  ·exact(hs.2 b (ne_of_lt (lt_of_lt_of_le (lt_size e) I.ok.above))).trans (I.base.keep b o e n hb hx)
  ·obtain⟨sl,e1⟩:=I.base.slot b o e n hb hx
   exact⟨sl,(hs.2 b (ne_of_lt (lt_of_lt_of_le (lt_size e) I.ok.above))).trans e1⟩
  ·obtain⟨o',e1⟩:=I.base.there b o e hx
   exact⟨o',(hs.2 b (ne_of_lt (lt_of_lt_of_le (lt_size e) I.ok.above))).trans e1⟩
  ·by_cases hj:j=i
   ·subst hj
    rw[hi]at e1;cases e1
    rw[getElem?_set_self hiσ]at e2
    cases e2
    exact⟨u,r,.inl ⟨hk,by simp⟩⟩
   ·rw[getElem?_set_ne (Ne.symm hj)]at e2
    obtain⟨u',r',q⟩:=hl j y v' e1 e2 e3
    refine⟨u',r',?_⟩
    rcases q with⟨k,e⟩|⟨k,c,e,z⟩
    ·refine .inl ⟨k,?_⟩
     have:y≠x:=fun e=>hj (zY hN e1 (e▸hi))
     simp[this,e]
    ·exact .inr ⟨k,c,e,z.sameBut hs (S6 y c e)⟩
  ·obtain⟨w',z⟩:=I.cell y c e
   exact⟨w',z.sameBut hs (S6 y c e)⟩
  ·obtain⟨e,n,ne,nf,d⟩:=I.pin p hp
   exact⟨(hs.2 p.1 ne).trans e,n,ne,nf,d⟩
 ·have hfn:X.fn x=true:=by
   rcases hf with z|z
   ·exact z
   ·rw[z]at hk;cases hk
  obtain⟨c,hc⟩:=I.ok.has x (.inl hk)
  obtain⟨w',z⟩:=I.cell x c hc
  refine wpAny_storeName_cell I.ok.kind hk hc z (fun h' hc' hs=>?_)
  obtain⟨oc,hoc,hocd⟩:=id z
  refine h {s with heap:=h'} ⟨I.ok,I.os,I.bare,⟨fun b o e n hb hx=>?_,fun b o e n hb hx=>?_,I.base.free,fun b o e hx=>?_,I.base.uU,I.base.sJ,I.base.uI⟩,⟨m,hn.sameBut hs (Ne.symm (S6 x c hc)),fun j y v' e1 e2 e3=>?_⟩,fun y c' e=>?_,I.free,I.mD,fun p hp=>?_,tracked ⟨oc,hoc,I.mD x c hc⟩ hs,by simpa using I.len⟩ ⟨c,hs,.inr hc⟩
  ·exact(hs.2 b (ne_of_lt (lt_of_lt_of_le (lt_size e) (I.ok.YO x c hfn hc)))).trans (I.base.keep b o e n hb hx)
  ·obtain⟨sl,e1⟩:=I.base.slot b o e n hb hx
   exact⟨sl,(hs.2 b (ne_of_lt (lt_of_lt_of_le (lt_size e) (I.ok.YO x c hfn hc)))).trans e1⟩
  ·obtain⟨o',e1⟩:=I.base.there b o e hx
   exact⟨o',(hs.2 b (ne_of_lt (lt_of_lt_of_le (lt_size e) (I.ok.YO x c hfn hc)))).trans e1⟩
  ·by_cases hj:j=i
   ·subst hj
    rw[hi]at e1;cases e1
    rw[getElem?_set_self hiσ]at e2
    cases e2
    exact⟨u,r,.inr ⟨.inl hk,c,hc,hc'⟩⟩
   ·rw[getElem?_set_ne (Ne.symm hj)]at e2
    obtain⟨u',r',q⟩:=hl j y v' e1 e2 e3
    refine⟨u',r',?_⟩
    rcases q with q|⟨k,c',e,z'⟩
    ·exact .inl q
    ·refine .inr ⟨k,c',e,z'.sameBut hs ?_⟩
     rintro rfl
     exact hj (zY hN e1 (I.ok.inj _ _ _ e hc▸hi))
  ·by_cases hcc:c'=c
   ·subst hcc;exact⟨_,hc'⟩
   ·obtain⟨w2,z2⟩:=I.cell y c' e
    exact⟨w2,z2.sameBut hs hcc⟩
  ·obtain⟨e,n,ne,nf,d⟩:=I.pin p hp
   refine⟨(hs.2 p.1 ?_).trans e,n,ne,nf,d⟩
   intro q
   rw[q,hoc]at e
   have q':oc=p.2:=Option.some.inj e
   exact d w' (by rw[<-q'];exact hocd)
theorem lN {v:V} {Q:Unit->Shared->Prop} (I:Inv X pins σ H s) (hN:X.N.Nodup) (hi:X.N[i]? =some x) (hx:Loc X.env.scope x) (r:RelV v u)
  (h:∀s',Inv X pins (σ.set i (some v)) H s'->Q () s') (hf:X.fn x=true\/ X.env.scope.names.lookup x=some .local:=by first|exact .inl rfl|exact .inr rfl|assumption):wpAny M A (storeName X.env x u) Q E s:=
 GB I hN hi hx r (fun s' I' _=>h s' I') hf
theorem Inv.LH {s':Shared} (I:Inv X pins σ H s) (ho:s'.os=s.os) (u:Un (G2 X.stack) ch H H' s.heap s'.heap) (bN:mX X.prog X.w H' s'.heap) (hg:AllBare s'.gens)
  (hch:∀b∈ch,(b∈X.ex\/ X.iN.heap.objs.size<=b)/\b≠X.env.locals/\(∀x c,X.env.cells.lookup x=some c->c≠b)/\∀p∈X.pn++pins,p.1≠b):Inv X pins σ H' s':=by
 obtain⟨h',g',d',t',o'⟩:=s'
 have e:o'=s.os:=ho
 subst e
 exact I.call (g':=g') (t':=t') (d':=d') u bN hg hch
end
noncomputable abbrev XK:=Value->Option Addr->Hp->Prop
noncomputable abbrev St:=List (Option V)
noncomputable abbrev VK:=V->Hp->Prop
noncomputable abbrev TE:=St->Hp->VK->Prop
noncomputable abbrev TT:=St->Hp->(Bool->Hp->Prop)->Prop
noncomputable abbrev TA:=St->Hp->(List V->Hp->Prop)->Prop
structure Ends where
 nx:St->Hp->Prop
 rt:VK
 bk:St->Hp->Prop:=fun _ _=>False
 ct:St->Hp->Prop:=fun _ _=>False
noncomputable abbrev TS:=Ends->St->Hp->Prop
noncomputable def EP (X:Cx) (pins:List (Addr×Obj)) (σ:St) (Q:VK) (u:Value) (s':Shared):Prop:=∃v H',Inv X pins σ H' s'/\RelV v u/\Q v H'
noncomputable def TP (X:Cx) (pins:List (Addr×Obj)) (σ:St) (Q:Bool->Hp->Prop) (b:Bool) (s':Shared):Prop:=∃H',Inv X pins σ H' s'/\Q b H'
noncomputable def AP (X:Cx) (pins:List (Addr×Obj)) (σ:St) (Q:List V->Hp->Prop) (us:List Value) (s':Shared):Prop:=∃vs H',Inv X pins σ H' s'/\Vals vs us/\Q vs H'
noncomputable def SP (X:Cx) (pins:List (Addr×Obj)) (D:Ends) (f:Flow) (s':Shared):Prop:=
 match f with
 | .next=>∃σ' H',Inv X pins σ' H' s'/\D.nx σ' H'
 | .brk=>∃σ' H',Inv X pins σ' H' s'/\D.bk σ' H'
 | .cont=>∃σ' H',Inv X pins σ' H' s'/\D.ct σ' H'
 | .ret u=>∃v σ' H',Inv X pins σ' H' s'/\RelV v u/\D.rt v H'
noncomputable def PE (X:Cx) (e:Expr) (t:TE):Prop:=
 ∀(pins:List (Addr×Obj)) (s:Shared) (σ:St) (H:Hp) (Q:VK),Inv X pins σ H s->t σ H Q->wpAny (model X.prog X.w) X.A (eval e X.env) (EP X pins σ Q) X.xe s
noncomputable def PT (X:Cx) (e:Expr) (t:TT):Prop:=
 ∀(pins:List (Addr×Obj)) (s:Shared) (σ:St) (H:Hp) (Q:Bool->Hp->Prop),Inv X pins σ H s->t σ H Q->wpAny (model X.prog X.w) X.A (isTrue e X.env (eval e X.env)) (TP X pins σ Q) X.xe s
noncomputable def PW (X:Cx) (e:Expr) (t:TT):Prop:=
 ∀(whole:Sem Value) (pins:List (Addr×Obj)) (s:Shared) (σ:St) (H:Hp) (Q:Bool->Hp->Prop),Inv X pins σ H s->t σ H Q->wpAny (model X.prog X.w) X.A (isTrue e X.env whole) (TP X pins σ Q) X.xe s
theorem PW.pt {t:TT} (h:PW X e t):PT X e t:=h _
noncomputable def PA (X:Cx) (es:List Expr) (t:TA):Prop:=
 ∀(pos:Pos) (pins:List (Addr×Obj)) (s:Shared) (σ:St) (H:Hp) (Q:List V->Hp->Prop),Inv X pins σ H s->t σ H Q->wpAny (model X.prog X.w) X.A (spliced (backTo pos (starEach es X.env))) (AP X pins σ Q) X.xe s
noncomputable def PS (X:Cx) (st:Stmt) (t:TS):Prop:=
 ∀(pins:List (Addr×Obj)) (s:Shared) (σ:St) (H:Hp) (D:Ends),Inv X pins σ H s->t D σ H->wpAny (model X.prog X.w) X.A (exec st X.env) (SP X pins D) X.xe s
noncomputable def EL (X:Cx) (st:List Stmt) (t:TS):Prop:=
 ∀(pins:List (Addr×Obj)) (s:Shared) (σ:St) (H:Hp) (D:Ends),Inv X pins σ H s->t D σ H->wpAny (model X.prog X.w) X.A (execs st X.env) (SP X pins D) X.xe s
theorem cM {t:Sem α} {Q Q':α->Shared->Prop} (h:wpAny M A t Q E s) (hQ:∀a s,Q a s->Q' a s):wpAny M A t Q' E s:=wpAny_mono h hQ fun _ _ x=>x
section
variable {X:Cx}
noncomputable def xK (i:Nat):TE:=fun σ H Q=>∃v,σ[i]? =some (some v)/\Q v H
noncomputable def tC (v:V):TE:=fun _ H Q=>Q v H
theorem YE {i:Nat} {x:Str} (hN:X.N[i]? =some x) (hv:Vis X.env.scope x) (hd:(x==("__debug__":Str))=false:=by decide) (hcd:(x==("__classdict__":Str))=false:=by decide):PE X (.Name x pos) (xK i):=by
 intro pins s σ H Q I h
 obtain⟨v,e,h⟩:=h
 obtain⟨m,hn,hl⟩:=I.loc
 obtain⟨u,r,l⟩:=hl i x v hN e hv
 have fin:EP X pins σ Q u s:=⟨v,H,I,r,h⟩
 rcases l with⟨hk,hm⟩|⟨hk,c,hc,hcell⟩
 ·exact wpAny_Name (wpAny_loadName_local I.ok.kind hk hn hm fin) hd
 ·rcases hk with hk|hk
  ·exact wpAny_Name (wpAny_loadName_cell I.ok.kind hk hc hcell fin) hd
  ·exact wpAny_Name (wpAny_loadName_free I.ok.kind hk hc hcell fin hcd) hd
theorem aG {i j pos}:PE X (.Constant (.int i) j pos) (tC (.int i)):=fun _ _ _ H _ I h=>wpAny_Constant_int ⟨.int i,H,I.tok _,⟨_,rfl⟩,h⟩
theorem nG {b j pos}:PE X (.Constant (.bool b) j pos) (tC (.bl b)):=fun _ _ _ H _ I h=>Constant_bool ⟨.bl b,H,I,rfl,h⟩
theorem gR {j pos}:PE X (.Constant .none j pos) (tC .aY):=fun _ _ _ H _ I h=>Constant_none ⟨.aY,H,I,rfl,h⟩
theorem eG {x j pos}:PE X (.Constant (.str x) j pos) (tC (.str x)):=fun _ _ _ H _ I h=>Calls.Constant_str ⟨.str x,H,I.tok _,⟨_,rfl⟩,h⟩
noncomputable def Gl (X:Cx) (x:Str):Prop:=X.env.kindOf x=some .globalImplicit
theorem PL (I:Inv X pins σ H s) (hg:Gl X x) (hm:X.mg x=some u) (h:Q u s)
  (hd:(x==("__debug__":Str))=false:=by decide):wpAny (model X.prog X.w) X.A (eval (.Name x pos) X.env) Q E s:=
 Calls.Name_function_global I.ok.kind hg (Calls.loadGlobal_global (by rw[I.ok.glob];exact I.mod.glob.keeps I.bk) hm h) hd
theorem qE (I:Inv X pins σ H s) (hg:Gl X x) (hm:X.mg x=none) (hv:bootBuiltins x=some u) (h:Q u s)
  (hn:x≠"__name__":=by decide) (hd:(x==("__debug__":Str))=false:=by decide):wpAny (model X.prog X.w) X.A (eval (.Name x pos) X.env) Q E s:=by
 obtain⟨mb,h1,h2⟩:=I.mod.blt
 exact Calls.Name_function_global I.ok.kind hg (Calls.loadGlobal_builtin (by rw[I.ok.glob];exact I.mod.glob.keeps I.bk) hm (by rw[I.ok.blt];exact h1.keeps I.bk) ((h2 x hn).trans hv) h) hd
theorem FL {v:V} (hg:Gl X x) (hm:X.mg x=none) (hv:bootBuiltins x=some u) (r:RelV v u) (hn:x≠"__name__":=by decide) (hd:(x==("__debug__":Str))=false:=by decide):PE X (.Name x pos) (tC v):=
 fun _ _ _ H _ I h=>qE I hg hm hv ⟨v,H,I,r,h⟩ hn hd
variable {a b:Expr} {ta tb:TE} {pos:Pos}
noncomputable def tB (t:TE):TT:=fun σ H Q=>t σ H fun x H1=>∃c,x= .bl c/\Q c H1
theorem uB (h:PE X e t) (he:∀whole,isTrue e X.env whole=(do let v<-whole;standAt e.pos;holding [v] (truthy v)):=by intro _;rfl):PT X e (tB t):=by
 intro pins s σ H Q I hw
 refine isTrue_plain (cM (h pins s σ H _ I hw) fun v s1 ⟨x,H1,I1,r1,q1⟩=>?_) (he _)
 obtain⟨d,rfl,q⟩:=q1
 cases r1
 exact wpAny_truthy_bool ⟨H1,I1,q⟩
variable {tA tB':TT} {rest:List Expr}
noncomputable def aaK (t u:TT):TT:=fun σ H Q=>t σ H fun c H1=>if c=true then u σ H1 Q else Q false H1
noncomputable def tOr (t u:TT):TT:=fun σ H Q=>t σ H fun c H1=>if c=true then Q true H1 else u σ H1 Q
noncomputable def aaB (t:TT):TT:=fun σ H Q=>t σ H fun c H1=>Q (!c) H1
theorem mL (ha:PT X a tA):PW X (.BoolOp .And [a] pos) tA:=by
 intro wh pins s σ H Q I h
 refine isTrue_and (cM (ha pins s σ H Q I h) fun c s1 e=>?_)
 cases c with
 |true=>exact isTrue_and_nil e
 |false=>exact e
theorem yA (ha:PT X a tA):PW X (.BoolOp .Or [a] pos) tA:=by
 intro wh pins s σ H Q I h
 refine isTrue_or (cM (ha pins s σ H Q I h) fun c s1 e=>?_)
 cases c with
 |false=>exact isTrue_or_nil e
 |true=>exact e
theorem qA (ha:PT X a tA) (hb:PW X (.BoolOp .And (b::rest) pos) tB'):PW X (.BoolOp .And (a::b::rest) pos) (aaK tA tB'):=by
 intro wh pins s σ H Q I h
 refine isTrue_and (cM (ha pins s σ H _ I h) fun c s1 ⟨H1,I1,q1⟩=>?_)
 cases c with
 |true=>exact hb wh pins s1 σ H1 Q I1 q1
 |false=>exact⟨H1,I1,q1⟩
theorem A9 (ha:PT X a tA) (hb:PW X (.BoolOp .Or (b::rest) pos) tB'):PW X (.BoolOp .Or (a::b::rest) pos) (tOr tA tB'):=by
 intro wh pins s σ H Q I h
 refine isTrue_or (cM (ha pins s σ H _ I h) fun c s1 ⟨H1,I1,q1⟩=>?_)
 cases c with
 |true=>exact⟨H1,I1,q1⟩
 |false=>exact hb wh pins s1 σ H1 Q I1 q1
theorem wW (ha:PT X a tA):PT X (.UnaryOp .Not a pos) (aaB tA):=by
 intro pins s σ H Q I h
 exact isTrue_not (ha pins s σ H (fun c H1=>Q (!c) H1) I h)
noncomputable def SI (ta tb:TE):TE:=fun σ H Q=>ta σ H fun x H1=>∃c,x= .bl c/\if c=true then tb σ H1 Q else Q (.bl false) H1
theorem TC {op} (h:PE X a t):PE X (.BoolOp op [a] pos) t:=fun pins s σ H Q I hw=>BoolOp_one (h pins s σ H Q I hw)
theorem CI (ha:PE X a ta) (hb:PE X (.BoolOp .And (b::rest) pos) tb):PE X (.BoolOp .And (a::b::rest) pos) (SI ta tb):=by
 intro pins s σ H Q I h
 refine BoolOp_and (cM (ha pins s σ H _ I h) fun v s1 ⟨x,H1,I1,r1,q1⟩=>?_)
 obtain⟨c,rfl,q1⟩:=q1
 cases r1
 refine wpAny_truthy_bool ?_
 cases c with
 |true=>exact hb pins s1 σ H1 Q I1 q1
 |false=>exact⟨.bl false,H1,I1,rfl,q1⟩
noncomputable def tIf (t:TT) (ta tb:TE):TE:=fun σ H Q=>t σ H fun c H1=>if c=true then ta σ H1 Q else tb σ H1 Q
theorem oT (hc:PT X c tA) (ha:PE X a ta) (hb:PE X b tb):PE X (.IfExp c a b pos) (tIf tA ta tb):=by
 intro pins s σ H Q I h
 refine wpAny_IfExp (cM (hc pins s σ H _ I h) fun d s1 ⟨H1,I1,q1⟩=>?_)
 cases d with
 |true=>exact ha pins s1 σ H1 Q I1 q1
 |false=>exact hb pins s1 σ H1 Q I1 q1
end
noncomputable def iR (K:Frag) (H:Hp) (a:Addr) (xs:List V):Prop:=
 Rd H a (.lst xs)\/
  ∃(o:Obj) (its:Array Value) (n:Nat),K.lookup a=some o/\o.cls= .type "list"/\o.dict=none/\o.data= .seq its n/\its.size<=sizeLine/\Vals xs its.toList
noncomputable def nD (K:Frag) (H:Hp) (a:Addr) (xs:List V):Prop:=
 Rd H a (.tup xs)\/
  ∃(o:Obj) (its:Array Value) (n:Nat),K.lookup a=some o/\o.cls= .type "tuple"/\o.data= .seq its n/\its.size<=sizeLine/\Vals xs its.toList
noncomputable def ab0:Value->Option V
 | .none=>some .aY
 | .bool b=>some (.bl b)
 | .int i _=>some (.int i)
 | .str x _=>some (.str x)
 | .bytes b _=>some (.YY b)
 | .float b _=>some (.flt b)
 | .ref a=>some (.ref a)
 | .type n=>some (.ty n)
 |_=>none
theorem RelV.abs {x:V} (r:RelV x u):ab0 u=some x:=by
 cases x with
 |aY=>cases r;rfl
 |bl _=>cases r;rfl
 |int _=>obtain⟨t,rfl⟩:=r;rfl
 |str _=>obtain⟨t,rfl⟩:=r;rfl
 |YY _=>obtain⟨t,rfl⟩:=r;rfl
 |flt _=>obtain⟨t,rfl⟩:=r;rfl
 |ref _=>cases r;rfl
 |ty _=>cases r;rfl
theorem RelV.inj {x:V} (r:RelV x u) (q:RelV y u):x=y:=Option.some.inj (r.abs.symm.trans q.abs)
theorem Vals.inj:∀{xs ys:List V} {us:List Value},Vals xs us->Vals ys us->xs=ys
 |_,_,_,.nil,.nil=>rfl
 |_,_,_,.cons r t,.cons r' t'=>by rw[r.inj r',Vals.inj t t']
section
variable {X:Cx} {pins:List (Addr×Obj)} {σ:St} {H:Hp} {s:Shared} {a:Addr} {xs ys:List V}
theorem iR.of (h:H a=some (.lst xs)):iR K H a xs:=.inl (.inl h)
theorem nD.of (h:H a=some (.tup xs)):nD K H a xs:=.inl (.inl h)
theorem Inv.list (I:Inv X pins σ H s) (h:iR X.K H a xs):∃its:List Value,Vals xs its/\PlainL s.heap a its.toArray/\xs.length<=sizeLine:=by
 rcases h with h|⟨o,its,n,hk,hc,hd,hs,hz,r⟩
 ·obtain⟨z,its,n,r,e⟩:=h.ok I.bN
  exact⟨its,r,⟨_,n,e,rfl,rfl,rfl⟩,z⟩
 ·refine⟨its.toList,r,⟨o,n,I.HU a o hk,hc,hd,by simpa using hs⟩,?_⟩
  have e:=r.length
  simp only[length_toList]at e
  omega
theorem Inv.tuple (I:Inv X pins σ H s) (h:nD X.K H a xs):∃its:List Value,Vals xs its/\IsTup s.heap a its.toArray/\xs.length<=sizeLine:=by
 rcases h with h|⟨o,its,n,hk,hc,hs,hz,r⟩
 ·obtain⟨z,its,r,p⟩:=h.ok I.bN
  exact⟨its,r,p.1,z⟩
 ·refine⟨its.toList,r,⟨o,I.HU a o hk,hc,n,by simpa using hs⟩,?_⟩
  have e:=r.length
  simp only[length_toList]at e
  omega
theorem Inv.AQ (I:Inv X pins σ H s) (h:iR X.K H a xs) (h':iR X.K H a ys):xs=ys:=by
 obtain⟨its,r,⟨o,n,e,_,_,d⟩,_⟩:=I.list h
 obtain⟨its',r',⟨o',n',e',_,_,d'⟩,_⟩:=I.list h'
 rw[e]at e';cases e'
 rw[d]at d'
 injection d' with d1 _
 have:its=its':=by simpa using congrArg Array.toList d1
 subst this
 exact r.inj r'
theorem Inv.vR (I:Inv X pins σ H s) (h:nD X.K H a xs) (h':nD X.K H a ys):xs=ys:=by
 obtain⟨its,r,⟨o,e,_,n,d⟩,_⟩:=I.tuple h
 obtain⟨its',r',⟨o',e',_,n',d'⟩,_⟩:=I.tuple h'
 rw[e]at e';cases e'
 rw[d]at d'
 injection d' with d1 _
 have:its=its':=by simpa using congrArg Array.toList d1
 subst this
 exact r.inj r'
end
noncomputable abbrev Cx.uT (X:Cx) (E:Value->Shared->Prop):Cx:={X with xe:=E}
noncomputable abbrev Cx.ZC (X:Cx):Cx:=X.uT fun _ _=>False
theorem Cx.Ok.uT (ok:X.Ok) (E:Value->Shared->Prop):(X.uT E).Ok:=
 ⟨ok.mod,ok.kind,ok.glob,ok.blt,ok.above,ok.inj,ok.has,ok.YO,ok.hd,ok.frames,ok.ZS,ok.exf,ok.bs,ok.Q5,ok.HV,ok.zR,ok.rN,ok.UQ⟩
theorem Cx.Ok.lU (ok:(X.uT E).Ok):X.Ok:=
 ⟨ok.mod,ok.kind,ok.glob,ok.blt,ok.above,ok.inj,ok.has,ok.YO,ok.hd,ok.frames,ok.ZS,ok.exf,ok.bs,ok.Q5,ok.HV,ok.zR,ok.rN,ok.UQ⟩
section
variable {X:Cx} {pins:List (Addr×Obj)} {σ:St} {H:Hp} {s:Shared} {E:Value->Shared->Prop}
theorem Inv.uT (I:Inv X pins σ H s) (E:Value->Shared->Prop):Inv (X.uT E) pins σ H s:=⟨I.ok.uT E,I.os,I.bare,I.base,I.loc,I.cell,I.free,I.mD,I.pin,I.bN,I.len⟩
theorem Inv.lU (I:Inv (X.uT E) pins σ H s):Inv X pins σ H s:=⟨I.ok.lU,I.os,I.bare,I.base,I.loc,I.cell,I.free,I.mD,I.pin,I.bN,I.len⟩
theorem SP.lU {D:Ends} {f:Flow} {s':Shared} (h:SP (X.uT E) pins D f s'):SP X pins D f s':=by
 cases f with
 |next=>obtain⟨σ',H',I,q⟩:=h;exact⟨σ',H',I.lU,q⟩
 |brk=>obtain⟨σ',H',I,q⟩:=h;exact⟨σ',H',I.lU,q⟩
 |cont=>obtain⟨σ',H',I,q⟩:=h;exact⟨σ',H',I.lU,q⟩
 |ret u=>obtain⟨v,σ',H',I,r,q⟩:=h;exact⟨v,σ',H',I.lU,r,q⟩
theorem EL.ZC {st:List Stmt} {t:TS} (h:EL X.ZC st t):EL X st t:=fun pins s σ H D I hw=>
 wpAny_mono (h pins s σ H D (I.uT _) hw) (fun _ _ q=>q.lU) fun _ _ z=>False.elim z
end
section
variable {X:Cx} {st:Stmt} {rest:List Stmt} {t u:TS} {e:Expr} {te:TE} {pos:Pos}
noncomputable def KP:TS:=fun D σ H=>D.nx σ H
noncomputable def PB (t u:TS):TS:=fun D σ H=>t {D with nx:=u D} σ H
theorem cC:EL X [] KP:=fun _ _ σ H _ I h=>wpAny_execs_nil ⟨σ,H,I,h⟩
theorem aE (h1:PS X st t) (h2:EL X rest u):EL X (st::rest) (PB t u):=by
 intro pins s σ H D I h
 refine wpAny_execs_cons (cM (h1 pins s σ H {D with nx:=u D} I h) fun f s1 q=>?_)
 cases f with
 |next=>
  obtain⟨σ',H',I',q⟩:=q
  exact h2 pins s1 σ' H' D I' q
 |ret v=>exact q
 |brk=>exact q
 |cont=>exact q
theorem aJ (h1:PS X st t):EL X [st] t:=by
 intro pins s σ H D I h
 refine wpAny_execs_cons (cM (h1 pins s σ H D I h) fun f s1 q=>?_)
 cases f with
 |next=>exact wpAny_execs_nil q
 |ret v=>exact q
 |brk=>exact q
 |cont=>exact q
theorem Inv.quiet (I:Inv X pins σ H s):interactive X.env=false:=by simp[interactive,I.ok.kind]
noncomputable def MW (te:TE):TS:=fun D σ H=>te σ H fun _ H1=>D.nx σ H1
theorem mR (he:PE X e te) (hs:swapsWith e none pos.line X.env=pure false:=by rfl):PS X (.Expr e pos) (MW te):=by
 intro pins s σ H D I h
 exact wpAny_Expr_any (cM (he pins s σ H _ I h) fun v s1 ⟨x,H1,I1,r1,q1⟩=>⟨σ,H1,I1,q1⟩) I.quiet hs
noncomputable def WN (te:TE):TS:=fun D σ H=>te σ H D.rt
theorem bP (he:PE X e te):PS X (.Return (some e) pos) (WN te):=by
 intro pins s σ H D I h
 exact wpAny_Return_some (cM (he pins s σ H _ I h) fun v s1 ⟨x,H1,I1,r1,q1⟩=>⟨x,σ,H1,I1,r1,q1⟩)
noncomputable def W7 (c:TT) (t u:TS):TS:=fun D σ H=>c σ H fun b H1=>if b=true then t D σ H1 else u D σ H1
theorem eD {a b:List Stmt} (hc:PT X c tc) (ha:EL X a t) (hb:EL X b u):PS X (.If c a b pos) (W7 tc t u):=by
 intro pins s σ H D I h
 refine wpAny_If (cM (hc pins s σ H _ I h) fun d s1 ⟨H1,I1,q1⟩=>?_)
 cases d with
 |true=>exact ha pins s1 σ H1 D I1 q1
 |false=>exact hb pins s1 σ H1 D I1 q1
end
noncomputable abbrev TG:=V->St->Hp->(St->Hp->Prop)->Prop
noncomputable abbrev EY:=List V->St->Hp->(St->Hp->Prop)->Prop
noncomputable def PG (X:Cx) (target:Expr) (t:TG):Prop:=
 ∀(pins:List (Addr×Obj)) (s:Shared) (σ:St) (H:Hp) (v:V) (u:Value) (Q:St->Hp->Prop),Inv X pins σ H s->RelV v u->t v σ H Q->
  wpAny (model X.prog X.w) X.A (assign target X.env u) (fun _ s'=>∃σ' H',Inv X pins σ' H' s'/\Q σ' H') X.xe s
noncomputable def ZQ (X:Cx) (ts:List Expr) (t:EY):Prop:=
 ∀(pins:List (Addr×Obj)) (s:Shared) (σ:St) (H:Hp) (vs:List V) (us:List Value) (Q:St->Hp->Prop),Inv X pins σ H s->Vals vs us->t vs σ H Q->
  wpAny (model X.prog X.w) X.A (assignInOrder ((assignEach ts X.env).map (·.2)) us) (fun _ s'=>∃σ' H',Inv X pins σ' H' s'/\Q σ' H') X.xe s
noncomputable abbrev WK:=V->V->V->Hp->(Hp->Prop)->Prop
noncomputable def Y5 (X:Cx) (t:WK):Prop:=
 ∀(pins:List (Addr×Obj)) (s:Shared) (σ:St) (H:Hp) (o i v:V) (ov iv u:Value) (Q:Hp->Prop),Inv X pins σ H s->RelV o ov->RelV i iv->RelV v u->t o i v H Q->
  wpAny (model X.prog X.w) X.A (setItem ov iv u) (fun _ s'=>∃H',Inv X pins σ H' s'/\Q H') X.xe s
section
variable {X:Cx} {pos:Pos}
noncomputable def lY (i:Nat):TG:=fun v σ H Q=>Q (σ.set i (some v)) H
theorem aP (hN:X.N.Nodup) (hi:X.N[i]? =some x) (hx:Loc X.env.scope x) (hf:X.fn x=true\/ X.env.scope.names.lookup x=some .local:=by first|exact .inl rfl|exact .inr rfl|assumption):PG X (.Name x pos) (lY i):=by
 intro pins s σ H v u Q I r h
 exact wpAny_assign_Name (lN I hN hi hx r (fun s' I'=>⟨_,H,I',h⟩) hf)
noncomputable def WH:EY:=fun vs σ H Q=>vs=[]/\Q σ H
noncomputable def LA (t:TG) (u:EY):EY:=fun vs σ H Q=>∃v r,vs=v::r/\t v σ H fun σ' H'=>u r σ' H' Q
theorem gB:ZQ X [] WH:=by
 intro pins s σ H vs us Q I r h
 obtain⟨e,h⟩:=h
 subst e
 cases r
 exact assignInOrder_nil ⟨σ,H,I,h⟩
theorem bS {t:TG} {u:EY} (h1:PG X e t) (h2:ZQ X es u)
  (hs:(assignEach (e::es) X.env).map (·.2)=assign e X.env::(assignEach es X.env).map (·.2):=by rfl):ZQ X (e::es) (LA t u):=by
 intro pins s σ H vs us Q I r h
 obtain⟨v,vr,e1,h⟩:=h
 subst e1
 cases r with
 |cons r rr=>
  rw[hs]
  refine assignInOrder_cons (cM (h1 pins s σ H _ _ _ I r h) fun _ s1 ⟨σ1,H1,I1,q1⟩=>?_)
  exact h2 pins s1 σ1 H1 _ _ Q I1 rr q1
noncomputable def RC (K:Frag) (n:Nat) (t:EY):TG:=fun v σ H Q=>∃a xs,v= .ref a/\nD K H a xs/\xs.length=n/\t xs σ H Q
theorem U6 {t:EY} (hc:X.calm=true) (h:ZQ X es t)
  (hn:(assignEach es X.env).length=n:=by rfl) (hst:(assignEach es X.env).findIdx? (·.1)=none:=by rfl):PG X (.Tuple es k pos) (RC X.K n t):=by
 intro pins s σ H v u Q I r hw
 obtain⟨a,xs,e1,hq,hl,hw⟩:=hw
 subst e1
 cases r
 obtain⟨its,rv,ht,hz⟩:=I.tuple hq
 refine assign_Tuple_tuple (I.ok.hd hc) ht (by simp[hn,<-hl,rv.length]) hst fun h' hx=>?_
 have I1:Inv X pins σ H {s with heap:=h'}:=I.kept (t':=s.toks) fun b o e=>hx b o (ne_of_lt (lt_size e)) e
 exact h pins _ σ H xs _ Q I1 (by simpa using rv) hw
noncomputable def uM (to ti:TE) (t:WK):TG:=fun v σ H Q=>to σ H fun o H1=>ti σ H1 fun i H2=>t o i v H2 fun H3=>Q σ H3
theorem MS {o i:Expr} {to ti:TE} {t:WK} (ho:PE X o to) (hi:PE X i ti) (hs:Y5 X t)
  (ha:∀v,assign (.Subscript o i pos) X.env v=(do
   let ov<-holding [v] (eval o X.env)
   let iv<-holding [v,ov] (eval i X.env)
   standAt pos
   holding [v,ov,iv] (setItem ov iv v)
   release [v,ov,iv] []):=by intro _;rfl):PG X (.Subscript o i pos) (uM to ti t):=by
 intro pins s σ H v u Q I r h
 rw[ha]
 refine wpAny_bind (wpAny_holding (cM (ho pins s σ H _ I h) fun ov s1 ⟨x,H1,I1,r1,q1⟩=>?_))
 refine wpAny_bind (wpAny_holding (cM (hi pins s1 σ H1 _ I1 q1) fun iv s2 ⟨y,H2,I2,r2,q2⟩=>?_))
 refine wpAny_bind (wpAny_standAt (wpAny_bind (wpAny_holding (cM (hs pins s2 σ H2 x y v ov iv u _ I2 r1 r2 r q2) fun _ s3 ⟨H3,I3,q3⟩=>?_))))
 exact wpAny_release ⟨σ,H3,I3,q3⟩
noncomputable def tH (te:TE) (g:TG):TS:=fun D σ H=>te σ H fun x H1=>g x σ H1 D.nx
theorem DR {g:TG} (he:PE X e te) (hg:PG X tg g) (hs:swapsWithSole [tg] e pos.line X.env=pure false:=by rfl) (hw:swappedStores [tg] e X.env=pure none:=by rfl)
  (h1:(assignEach [tg] X.env).map (·.2)=[assign tg X.env]:=by rfl):PS X (.Assign [tg] e pos) (tH te g):=by
 intro pins s σ H D I h
 refine wpAny_Assign_stores (cM (he pins s σ H _ I h) fun v s1 ⟨x,H1,I1,r1,q1⟩=>?_) hs hw
 rw[h1]
 exact cM (hg pins s1 σ H1 x v _ I1 r1 q1) fun _ s2 q=>q
theorem aU {pos':Pos} (hN:X.N.Nodup) (hi:X.N[i]? =some x) (hx:Loc X.env.scope x) (he:PE X e te) (hs:swapsWith e (some (.Name x pos')) pos.line X.env=pure false:=by rfl) (hf:X.fn x=true\/ X.env.scope.names.lookup x=some .local:=by first|exact .inl rfl|exact .inr rfl|assumption):
  PS X (.Assign [.Name x pos'] e pos) (tH te (lY i)):=by
 intro pins s σ H D I h
 refine wpAny_Assign_Name (cM (he pins s σ H _ I h) fun v s1 ⟨y,H1,I1,r1,q1⟩=>?_) hs
 exact lN I1 hN hi hx r1 (fun s2 I2=>⟨_,H1,I2,q1⟩) hf
noncomputable def aaS (i j:Nat) (ta:TA):TS:=fun D σ H=>ta σ H fun vs H1=>∃v w,vs=[v,w]/\D.nx ((σ.set i (some v)).set j (some w)) H1
theorem W8 {y:Str} {a b:Expr} {px py pt:Pos} {kt k2 pt2} (hc:X.calm=true) (hN:X.N.Nodup) (hi:X.N[i]? =some x) (hj:X.N[j]? =some y) (hij:i≠j)
  (hx:X.env.scope.names.lookup x=some .local) (hy:X.env.scope.names.lookup y=some .local) (ha:PA X [a,b] ta)
  (hw:swappedStores [.Tuple [.Name x px,.Name y py] kt pt] (.Tuple [a,b] k2 pt2) X.env=pure (some [x,y]))
  (hs:swapsWithSole [.Tuple [.Name x px,.Name y py] kt pt] (.Tuple [a,b] k2 pt2) pos.line X.env=pure false:=by rfl):
  PS X (.Assign [.Tuple [.Name x px,.Name y py] kt pt] (.Tuple [a,b] k2 pt2) pos) (aaS i j ta):=by
 intro pins s σ H D I h
 rw[exec_Assign_arm]
 refine wpAny_bind (wpAny_standAt ?_)
 rw[hs]
 refine wpAny_bind (wpAny_pure ?_)
 rw[if_neg (by decide)]
 refine wpAny_bind (Tuple_ (cM (ha _ pins s σ H _ I h) fun us s1 ⟨vs,H1,I1,r1,q1⟩=>?_))
 obtain⟨v,w,e1,q1⟩:=q1
 subst e1
 obtain⟨u1,u2,rfl,rv,rw'⟩:∃u1 u2,us=[u1,u2]/\RelV v u1/\RelV w u2:=by
  cases r1 with
  | cons p q=>
   cases q with
   |cons p' q'=>
    cases q'
    exact⟨_,_,rfl,p,p'⟩
 refine wpAny_newObj_type ?_ (by show 2<=sizeLine;decide)
 have I2:Inv X pins σ H1 {s1 with heap:=s1.heap.push {cls:=.type "tuple",data:=.seq [u1,u2].toArray}}:=I1.kept (t':=s1.toks) fun b o e=>get?_push_of_some _ e
 rw[hw]
 refine wpAny_bind (wpAny_pure ?_)
 show wpAny (model X.prog X.w) X.A (do rule "assign.swapped-stores";let items<-unpackItems (.ref s1.heap.objs.size) 2 none;assignInOrder [fun v=>bindName X.env y v,fun v=>bindName X.env x v] items.reverse;pure Flow.next) _ _ _
 refine wpAny_bind (wpAny_rule (wpAny_bind (unpackItems_tuple (items:= #[u1,u2]) (I.ok.hd hc) (IsTup.new s1.heap _) fun h' hx'=>?_)))
 have I3:=I2.kept (h':=h') (t':=s1.toks) fun b o e=>hx' b o (ne_of_lt (lt_size e)) e
 show wpAny _ _ (assignInOrder [fun v=>bindName X.env y v,fun v=>bindName X.env x v] [u2,u1]>>=fun _=>pure Flow.next) _ _ _
 refine wpAny_bind (assignInOrder_cons (wpAny_bindName (lN I3 hN hj (.inl hy) rw' (fun s2 I4=>?_) (.inr hy))))
 refine assignInOrder_cons (wpAny_bindName (lN I4 hN hi (.inl hx) rv (fun s3 I5=>assignInOrder_nil (wpAny_pure ?_)) (.inr hx)))
 rw[List.set_comm _ _ (Ne.symm hij)]at I5
 exact⟨_,H1,I5,q1⟩
end
section
variable {X:Cx} {pos:Pos}
noncomputable def KU (c:TT) (tb:TS):TS:=fun D σ H=>∃W:Nat->St->Hp->Prop,(∃m,W m σ H)/\∀m σ H,W m σ H->
 c σ H fun b H1=>if b=true then∃N:St->Hp->Prop,(∀σ' H',N σ' H'->∃m',m'<m/\W m' σ' H')/\tb {D with nx:=N,ct:=N,bk:=D.nx} σ H1 else D.nx σ H1
theorem J1 (hp:PassesOwn (model X.prog X.w) X.A X.env X.xe) (hc:PT X c tc) (hb:EL X body tb):PS X (.While c body [] pos) (KU tc tb):=by
 intro pins s σ H D I h
 obtain⟨W,⟨m0,w0⟩,turn⟩:=h
 refine wpAny_While (codeAny_whileLoop (fun n s'=>∃σ' H',Inv X pins σ' H' s'/\W n σ' H') ?_ m0 ⟨σ,H,I,w0⟩)
 rintro n s1 ⟨σ1,H1,I1,w1⟩
 refine wpAny_passesOwn hp (cM (hc pins s1 σ1 H1 _ I1 (turn n σ1 H1 w1)) fun b s2 ⟨H2,I2,q2⟩=>?_)
 cases b with
 | true=>
  obtain⟨N,hN,q2⟩:=q2
  rw[if_pos rfl]
  refine wpAny_passesOwn hp (cM (hb pins s2 σ1 H2 _ I2 q2) fun f s3 q3=>?_)
  cases f with
  |next=>
   obtain⟨σ3,H3,I3,n3⟩:=q3
   obtain⟨m',hm,w3⟩:=hN σ3 H3 n3
   exact⟨m',hm,σ3,H3,I3,w3⟩
  |cont=>
   obtain⟨σ3,H3,I3,n3⟩:=q3
   obtain⟨m',hm,w3⟩:=hN σ3 H3 n3
   exact⟨m',hm,σ3,H3,I3,w3⟩
  |brk=>exact q3
  |ret v=>exact q3
 |false=>
  rw[if_neg Bool.false_ne_true]
  exact wpAny_execs_nil ⟨σ1,H2,I2,q2⟩
end
structure It where
 go:Nat->Hp->Prop
 YL:Nat->Hp->V->Hp->Prop
 stop:Nat->Hp->Prop
noncomputable def pB (X:Cx) (pins:List (Addr×Obj)) (H:Hp) (b:Addr):Prop:=
 H b=none/\b≠X.env.locals/\b∉X.fs/\(b∈X.ex\/ X.iN.heap.objs.size<=b)/\(∀x c,X.env.cells.lookup x=some c->c≠b)/\∀p∈X.pn++pins,p.1≠b
theorem Inv.rF {H':Hp} (I:Inv X pins σ H s) (hb:s.heap.objs.size<=b) (hn:H' b=none):pB X pins H' b:=by
 refine⟨hn,ne_of_gt (lt_of_lt_of_le I.lt hb),I.ZA hb,.inr (le_trans I.sz hb),fun x c e z=>?_,fun p hp z=>?_⟩
 ·obtain⟨v,q⟩:=I.cell x c e
  exact absurd (lt_of_lt_of_le q.lt (by rw[z];exact hb)) (lt_irrefl _)
 ·exact absurd (lt_of_lt_of_le (lt_size (I.pin p hp).1) (by rw[z];exact hb)) (lt_irrefl _)
structure Turn (P:Program) (w:World) (K:Frag) (tg:Expr) (J:It) (fp:List Addr) (it:Addr) (tn:Nat->Heap->Prop):Prop where
 mem:it∈fp
 obj:∀i h,tn i h->∀b∈fp,∃o,h.get? b=some o/\∀v,o.data≠ .cell v
 keep:∀i h h',tn i h->(∀b∈fp,∀o,h.get? b=some o->h'.get? b=some o)->tn i h'
 item:∀(X:Cx),X.prog=P->X.w=w->X.K=K->X.calm=true->∀(i:Nat) (pins:List (Addr×Obj)) (s:Shared) (σ:St) (H:Hp) (E:Value->Shared->Prop),Inv X pins σ H s->(∀b∈fp,pB X pins H b)->tn i s.heap->J.go i H->
  wpAny (model P w) X.A (pyNext (.ref it)) (fun r s1=>∃u,r=some u/\
   wpAny (model P w) X.A (letOwnedTupleGo tg (.ref it) u) (fun _ s2=>∃x H',Inv X pins σ H' s2/\RelV x u/\J.YL i H x H'/\tn (i+1) s2.heap/\∀b∈fp,H' b=none) E s1) E s
 done:∀(X:Cx),X.prog=P->X.w=w->X.K=K->X.calm=true->∀(i:Nat) (pins:List (Addr×Obj)) (s:Shared) (σ:St) (H:Hp) (E:Value->Shared->Prop),Inv X pins σ H s->(∀b∈fp,pB X pins H b)->tn i s.heap->J.stop i H->
  wpAny (model P w) X.A (pyNext (.ref it)) (fun r s1=>r=none/\Inv X pins σ H s1) E s
 self:∀(A:Around) (i:Nat) (s:Shared) (Q:Value->Shared->Prop) (E:Value->Shared->Prop),tn i s.heap->Q (.ref it) s->wpAny (model P w) A (pyIter (.ref it)) Q E s
noncomputable abbrev TI:=St->Hp->(It->Hp->Prop)->Prop
noncomputable def PIE (X:Cx) (pins:List (Addr×Obj)) (σ:St) (tg:Expr) (R:It->Hp->Prop) (itv:Value) (s2:Shared):Prop:=
 ∃(it:Addr) (fp:List Addr) (tn:Nat->Heap->Prop) (J:It) (H':Hp),itv= .ref it/\Inv X pins σ H' s2/\Turn X.prog X.w X.K tg J fp it tn/\tn 0 s2.heap/\(∀b∈fp,pB X pins H' b)/\R J H'
noncomputable def PI (X:Cx) (tg iter:Expr) (wi:TI):Prop:=
 ∀(pins:List (Addr×Obj)) (s:Shared) (σ:St) (H:Hp) (R:It->Hp->Prop),Inv X pins σ H s->wi σ H R->
  wpAny (model X.prog X.w) X.A (eval iter X.env) (fun v s1=>wpAny (model X.prog X.w) X.A (pyIter v) (PIE X pins σ tg R) X.xe s1) X.xe s
theorem vG {tg:Expr} {u:Value} {n:String} {vs:Array Value} {Q:Unit->Shared->Prop} (ho:s.heap.get? it=some o) (hc:o.cls= .type n) (hd:o.data= .fields vs)
    (hn:["enumerate","zip","dict_itemiterator","dict_reverseitemiterator","odict_iterator","itertools.zip_longest","itertools.pairwise"].contains n=false) (hQ:Q () s):wpAny M A (letOwnedTupleGo tg (.ref it) u) Q E s:=by
  unfold letOwnedTupleGo
  cases tg<;>first
    |exact wpAny_pure hQ
    |(cases u<;>first
        |exact wpAny_pure hQ
        | (refine wpAny_bind (wpAny_load ho ?_)
           rw[hc,hd]
           show wpAny M A (if(["enumerate","zip","dict_itemiterator","dict_reverseitemiterator","odict_iterator","itertools.zip_longest","itertools.pairwise"].contains n && vs[0]? ==some (rawInt _))=true then _ else _) Q E s
           rw[if_neg (by intro h;rw[hn,Bool.false_and]at h;cases h)]
           exact wpAny_pure hQ))
noncomputable def Itl (K:Frag) (a:Addr):It:=
 ⟨fun i H=>∃xs x,iR K H a xs/\xs[i]? =some x,fun i H x H'=>H'=H/\∀xs,iR K H a xs->xs[i]? =some x,fun i H=>∃xs,iR K H a xs/\xs.length<=i⟩
noncomputable def Itt (K:Frag) (a:Addr):It:=
 ⟨fun i H=>∃xs x,nD K H a xs/\xs[i]? =some x,fun i H x H'=>H'=H/\∀xs,nD K H a xs->xs[i]? =some x,fun i H=>∃xs,nD K H a xs/\xs.length<=i⟩
noncomputable def YR (lo:Int) (n:Nat):It:=⟨fun i _=>i<n,fun i H x H'=>H'=H/\x= .int (lo+i),fun i _=>n<=i⟩
theorem HN (a it:Addr):Turn P w K tg (Itl K a) [it] it (fun i h=>h.IsListIter it a i)where
 mem:=by simp
 obj:=fun i h st b hb=>by
  have e:b=it:=by simpa using hb
  subst e
  obtain⟨o,e,c,d⟩:=st
  exact⟨o,e,fun v z=>by rw[d]at z;cases z⟩
 keep:=fun i h h' st k=>st.at fun o e=>k it (by simp) o e
 item:=by
  intro X hP hw hK hc i pins s σ H E I hf st hg
  subst hP hw hK
  obtain⟨xs,x,hq,hx⟩:=hg
  obtain⟨its,rv,p,hz⟩:=I.list hq
  obtain⟨u,hu,ru⟩:=rv.get hx
  obtain⟨f0,f1,f2,f3,f4,f5⟩:=hf it (by simp)
  refine wpAny_pyNext_list_item st p.isList (x:=u) (by simpa using hu) fun h' st' sb=>?_
  have I1:Inv X pins σ H {s with heap:=h'}:=I.turned (t':=s.toks) (fun b o hb e=>(sb.2 b hb).trans e) f0 f1 f3 f4 f5
  obtain⟨o,e,c,d⟩:=id st'
  exact⟨u,rfl,vG (s:={s with heap:=h'}) e c d (by decide) ⟨x,H,I1,ru,⟨rfl,fun ys hy=>by rw[I.AQ hy hq];exact hx⟩,st',fun b hb=>(hf b hb).1⟩⟩
 done:=by
  intro X hP hw hK hc i pins s σ H E I hf st hg
  subst hP hw hK
  obtain⟨xs,hq,hx⟩:=hg
  obtain⟨its,rv,p,hz⟩:=I.list hq
  obtain⟨f0,f1,f2,f3,f4,f5⟩:=hf it (by simp)
  have hl:=rv.length
  exact wpAny_pyNext_list_end (I.ok.hd hc) st p.isList (by simp;omega) fun h' eb=>⟨rfl,I.turned (t':=s.toks) (fun b o hb e=>eb b o hb e) f0 f1 f3 f4 f5⟩
 self:=fun _ _ _ _ _ st h=>wpAny_pyIter_listiter st h
theorem DF (a it:Addr):Turn P w K tg (Itt K a) [it] it (fun i h=>h.IsTupleIter it a i)where
 mem:=by simp
 obj:=fun i h st b hb=>by
  have e:b=it:=by simpa using hb
  subst e
  obtain⟨o,e,c,d⟩:=st
  exact⟨o,e,fun v z=>by rw[d]at z;cases z⟩
 keep:=fun i h h' st k=>st.at fun o e=>k it (by simp) o e
 item:=by
  intro X hP hw hK hc i pins s σ H E I hf st hg
  subst hP hw hK
  obtain⟨xs,x,hq,hx⟩:=hg
  obtain⟨its,rv,p,hz⟩:=I.tuple hq
  obtain⟨u,hu,ru⟩:=rv.get hx
  obtain⟨f0,f1,f2,f3,f4,f5⟩:=hf it (by simp)
  refine wpAny_pyNext_tuple_item st (show s.heap.IsTuple a its.toArray from p) (x:=u) (by simpa using hu) fun h' st' sb=>?_
  have I1:Inv X pins σ H {s with heap:=h'}:=I.turned (t':=s.toks) (fun b o hb e=>(sb.2 b hb).trans e) f0 f1 f3 f4 f5
  obtain⟨o,e,c,d⟩:=id st'
  exact⟨u,rfl,vG (s:={s with heap:=h'}) e c d (by decide) ⟨x,H,I1,ru,⟨rfl,fun ys hy=>by rw[I.vR hy hq];exact hx⟩,st',fun b hb=>(hf b hb).1⟩⟩
 done:=by
  intro X hP hw hK hc i pins s σ H E I hf st hg
  subst hP hw hK
  obtain⟨xs,hq,hx⟩:=hg
  obtain⟨its,rv,p,hz⟩:=I.tuple hq
  obtain⟨f0,f1,f2,f3,f4,f5⟩:=hf it (by simp)
  have hl:=rv.length
  exact wpAny_pyNext_tuple_end (I.ok.hd hc) st (show s.heap.IsTuple a its.toArray from p) (by simp;omega) fun h' eb=>⟨rfl,I.turned (t':=s.toks) (fun b o hb e=>eb b o hb e) f0 f1 f3 f4 f5⟩
 self:=fun _ _ _ _ _ st h=>wpAny_pyIter_tupleiter st h
theorem CO (it:Addr) (lo:Int) (n:Nat):Turn P w K tg (YR lo n) [it] it (fun i h=>IsRangeIter h it (lo+(i:Nat)*1) ((n:Int) - (i:Nat)) 1)where
 mem:=by simp
 obj:=fun i h st b hb=>by
  have e:b=it:=by simpa using hb
  subst e
  exact⟨_,st,fun v z=>by
   have z':Data.fields _=Data.cell v:=z
   cases z'⟩
 keep:=fun i h h' st k=>k it (by simp) _ st
 item:=by
  intro X hP hw hK hc i pins s σ H E I hf st hg
  subst hP hw hK
  obtain⟨f0,f1,f2,f3,f4,f5⟩:=hf it (by simp)
  have W:=Walks.range (prog:=X.prog) (w:=X.w) (I.ok.hd hc) it lo 1 n
  refine W.item i s _ _ hg st fun v h' tk hv st' kk=>?_
  obtain⟨t,rfl⟩:=hv
  have I1:Inv X pins σ H {s with heap:=h',toks:=tk}:=I.turned (fun b o hb e=>kk b o (by simpa using hb) e) f0 f1 f3 f4 f5
  refine⟨_,rfl,vG (s:={s with heap:=h',toks:=tk}) (n:="range_iterator") st' rfl rfl (by decide) ⟨.int (lo+i),H,I1,⟨t,?_⟩,⟨rfl,rfl⟩,st',fun b hb=>(hf b hb).1⟩⟩
  rw[Int.mul_one]
 done:=by
  intro X hP hw hK hc i pins s σ H E I hf st hg
  subst hP hw hK
  obtain⟨f0,f1,f2,f3,f4,f5⟩:=hf it (by simp)
  exact wpAny_pyNext_range_end (I.ok.hd hc) st (by have:n<=i:=hg;omega) fun h' eb=>⟨rfl,I.turned (t':=s.toks) (fun b o hb e=>eb b o hb e) f0 f1 f3 f4 f5⟩
 self:=fun _ _ _ _ _ st h=>wpAny_pyIter_rangeiter st h
section
variable {X:Cx} {tg:Expr}
theorem AB {R:It->Hp->Prop} {lo hi:Int} {t u v:Tok} {tk:Nat} (I:Inv X pins σ H s) (h1: -(2^62)<=lo) (h2:lo<2^62) (h3: -(2^62)<=hi) (h4:hi<2^62)
  (q:R (YR lo (hi - lo).toNat) H):wpAny (model X.prog X.w) X.A (pyIter (.ref s.heap.objs.size)) (PIE X pins σ tg R) E {s with heap:=s.heap.push {cls:=.type "range",data:=.fields #[.int lo t,.int hi u,.int 1 v]},toks:=tk}:=by
 refine wpAny_pyIter_range (IsRange.new ..) (small_one h1 h2 h3 h4) ?_
 have I1:Inv X pins σ H {s with heap:=s.heap.push {cls:=.type "range",data:=.fields #[.int lo t,.int hi u,.int 1 v]},toks:=tk}:=I.kept fun b o e=>get?_push_of_some _ e
 refine⟨(s.heap.push {cls:=.type "range",data:=.fields #[.int lo t,.int hi u,.int 1 v]}).objs.size,[(s.heap.push {cls:=.type "range",data:=.fields #[.int lo t,.int hi u,.int 1 v]}).objs.size],_,_,H,rfl,
  I1.kept (t':=tk) fun b o e=>get?_push_of_some _ e,CO _ lo (hi - lo).toNat,?_,fun b hb=>?_,q⟩
 ·have e1:lo+((0:Nat):Int)*1=lo:=by simp
  have e2:(((hi - lo).toNat:Nat):Int) - ((0:Nat):Int)=Builtin.Range.rangeSize lo hi 1:=by rw[rangeSize_one];split<;>omega
  show IsRangeIter _ _ (lo+((0:Nat):Int)*1) ((((hi - lo).toNat:Nat):Int) - ((0:Nat):Int)) 1
  rw[e1,e2]
  exact get?_push_size _ rfl
 ·have e:b=(s.heap.push {cls:=.type "range",data:=.fields #[.int lo t,.int hi u,.int 1 v]}).objs.size:=by simpa using hb
  subst e
  exact I1.rF (le_refl _) (I1.bN.fresh (le_refl _))
noncomputable def SV (ta:TA):TI:=fun σ H R=>ta σ H fun vs H1=>∃j:Int,vs=[.int j]/\ -(2^62)<=j/\j<2^62/\R (YR 0 j.toNat) H1
noncomputable def RR (ta:TA):TI:=fun σ H R=>ta σ H fun vs H1=>∃i j:Int,vs=[.int i,.int j]/\(-(2^62)<=i/\i<2^62/\ -(2^62)<=j/\j<2^62)/\R (YR i (j - i).toNat) H1
theorem dE {a:Expr} (hg:Gl X "range") (hm:X.mg "range"=none) (ha:PA X [a] ta) (hs:starEach [a] X.env=[(false,eval a X.env)]:=by rfl):PI X tg (.Call (.Name "range" p) [a] [] pos) (SV ta):=by
 intro pins s σ H R I h
 refine Call_ (qE I hg hm boot_range (PyProof.Rows.callWith_type1 (cM (ha pos pins s σ H _ I h) fun us s1 ⟨vs,H1,I1,r1,q1⟩=>?_) hs rfl))
 obtain⟨j,e,q1,q2,q⟩:=q1
 subst e
 cases r1 with
 |cons r rr=>
  cases rr
  obtain⟨t,rfl⟩:=r
  exact call_range_1 (AB I1 (by omega) (by omega) q1 q2 (by simpa using q))
theorem GN {a b:Expr} (hg:Gl X "range") (hm:X.mg "range"=none) (ha:PA X [a,b] ta) (hs:starEach [a,b] X.env=[(false,eval a X.env),(false,eval b X.env)]:=by rfl) (hs2:starEach [b] X.env=[(false,eval b X.env)]:=by rfl):
  PI X tg (.Call (.Name "range" p) [a,b] [] pos) (RR ta):=by
 intro pins s σ H R I h
 refine Call_ (qE I hg hm boot_range (PyProof.Rows.callWith_type1 (cM (ha pos pins s σ H _ I h) fun us s1 ⟨vs,H1,I1,r1,q1⟩=>?_) (by rw[hs,hs2]) (by rw[hs2];rfl)))
 obtain⟨i,j,e,⟨q1,q2,q3,q4⟩,q⟩:=q1
 subst e
 cases r1 with
 | cons r rr=>
  cases rr with
  |cons r' rr=>
   cases rr
   obtain⟨t,rfl⟩:=r
   obtain⟨t',rfl⟩:=r'
   exact call_range_2 (AB I1 q1 q2 q3 q4 q)
noncomputable def TB (wi:TI) (g:TG) (tb:TS):TS:=fun D σ H=>wi σ H fun J H1=>∃W:Nat->Nat->St->Hp->Prop,(∃m,W 0 m σ H1)/\∀i m σ H,W i m σ H->
 (J.stop i H/\D.nx σ H)\/ (J.go i H/\∃N:St->Hp->Prop,(∀σ' H',N σ' H'->∃m',m'<m/\W (i+1) m' σ' H')/\∀x H',J.YL i H x H'->g x σ H' fun σ2 H2=>tb {D with nx:=N,ct:=N,bk:=D.nx} σ2 H2)
noncomputable def nS (fp:List Addr) (h:Heap):List (Addr×Obj):=fp.filterMap fun b=>(h.get? b).map fun o=>(b,o)
theorem dP (hb:b∈fp) (e:h.get? b=some o):(b,o)∈nS fp h:=mem_filterMap.mpr ⟨b,hb,by rw[e];rfl⟩
theorem GF {h:Heap} {p:Addr×Obj} (hp:p∈nS fp h):p.1∈fp/\h.get? p.1=some p.2:=by
 obtain⟨b,hb,e⟩:=mem_filterMap.mp hp
 cases q:h.get? b with
 |none=>rw[q]at e;cases e
 |some o=>
  rw[q]at e
  have e':(b,o)=p:=Option.some.inj e
  subst e'
  exact⟨hb,q⟩
theorem Inv.pinned (I:Inv X pins σ H s) (hf:∀b∈fp,pB X pins H b) (ho:∀b∈fp,∃o,s.heap.get? b=some o/\∀v,o.data≠ .cell v):Inv X (pins++nS fp s.heap) σ H s:=
 I.sC fun p hp=>(mem_append.mp hp).elim (fun z=>I.pin p (mem_append_right _ z)) fun z=>by
  obtain⟨hb,e⟩:=GF z
  obtain⟨f0,f1,f2,_⟩:=hf p.1 hb
  obtain⟨o,e',d⟩:=ho p.1 hb
  rw[e]at e';cases e'
  exact⟨e,f0,f1,f2,d⟩
theorem Inv.jZ {pl:List (Addr×Obj)} (I:Inv X (pins++pl) σ H s):Inv X pins σ H s:=I.sC fun p hp=>I.pin p (mem_append_right _ (mem_append_left _ hp))
theorem cS {iter:Expr} {wi:TI} {g:TG} (hp:PassesOwn (model X.prog X.w) X.A X.env X.xe) (hc:X.calm=true) (hi:PI X tg iter wi) (hg:PG X tg g) (hb:EL X body tb)
  (hs:∀x,foldedSetIterable iter X.env x=pure x:=by intro _;rfl):PS X (.For tg iter body [] pos) (TB wi g tb):=by
 intro pins s σ H D I h
 refine wpAny_For (cM (hi pins s σ H _ I h) fun v s1 h1=>cM h1 fun itv s2 h2=>?_) hs
 obtain⟨it,fp,tn,J,H2,e,I2,T,st2,f2,W,⟨m0,w0⟩,turn⟩:=h2
 subst e
 have stat:∀{H':Hp},(∀b∈fp,H' b=none)->∀b∈fp,pB X pins H' b:=fun hn b hb=>⟨hn b hb,(f2 b hb).2⟩
 refine codeAny_forLoop_any (fun n s'=>∃i σ' H',Inv X pins σ' H' s'/\tn i s'.heap/\(∀b∈fp,H' b=none)/\W i n σ' H') ?_ m0 ⟨0,σ,H2,I2,st2,fun b hb=>(f2 b hb).1,w0⟩
 rintro n s3 ⟨i,σ3,H3,I3,st3,fr3,w3⟩
 rcases turn i n σ3 H3 w3 with⟨stop,qn⟩|⟨go,N,hN,step⟩
 ·refine wpAny_passesOwn hp (cM (T.done X rfl rfl rfl hc i pins s3 σ3 H3 X.xe I3 (stat fr3) st3 stop) fun r s4 ⟨hr,I4⟩=>?_)
  subst hr
  exact wpAny_execs_nil ⟨σ3,H3,I4,qn⟩
 ·refine wpAny_passesOwn hp (cM (T.item X rfl rfl rfl hc i pins s3 σ3 H3 X.xe I3 (stat fr3) st3 go) fun r s4 ⟨u,hr,h4⟩=>?_)
  subst hr
  refine wpAny_passesOwn hp (cM h4 fun _ s5 ⟨x,H5,I5,r5,y5,st5,fr5⟩=>?_)
  have I5':=I5.pinned (stat fr5) (T.obj _ _ st5)
  refine wpAny_passesOwn hp (cM (hg _ s5 σ3 H5 x u _ I5' r5 (step x H5 y5)) fun _ s6 ⟨σ6,H6,I6,q6⟩=>?_)
  refine wpAny_passesOwn hp (cM (hb _ s6 σ6 H6 _ I6 q6) fun f s7 q7=>?_)
  have again:∀{σ7:St} {H7:Hp},Inv X (pins++nS fp s5.heap) σ7 H7 s7->N σ7 H7->∃m,m<n/\∃i σ' H',Inv X pins σ' H' s7/\tn i s7.heap/\(∀b∈fp,H' b=none)/\W i m σ' H':=fun{σ7 H7} I7 n7=>by
   obtain⟨m',hm,w7⟩:=hN σ7 H7 n7
   refine⟨m',hm,i+1,σ7,H7,I7.jZ,T.keep _ _ _ st5 fun b hb o e=>(I7.pin (b,o) (mem_append_right _ (mem_append_right _ (dP hb e)))).1,fun b hb=>?_,w7⟩
   obtain⟨o,e,d⟩:=T.obj _ _ st5 b hb
   exact(I7.pin (b,o) (mem_append_right _ (mem_append_right _ (dP hb e)))).2.1
  cases f with
  |next=>obtain⟨σ7,H7,I7,n7⟩:=q7;exact again I7 n7
  |cont=>obtain⟨σ7,H7,I7,n7⟩:=q7;exact again I7 n7
  |brk=>obtain⟨σ7,H7,I7,q7⟩:=q7;exact⟨σ7,H7,I7.jZ,q7⟩
  |ret v=>obtain⟨x7,σ7,H7,I7,r7,q7⟩:=q7;exact⟨x7,σ7,H7,I7.jZ,r7,q7⟩
end
noncomputable abbrev R2:=V->V->Hp->VK->Prop
noncomputable def iQ (X:Cx) (f:Value->Value->Sem Value) (r:R2):Prop:=
 ∀(pins:List (Addr×Obj)) (s:Shared) (σ:St) (H:Hp) (x y:V) (v u:Value) (Q:VK),Inv X pins σ H s->RelV x v->RelV y u->r x y H Q->
  wpAny (model X.prog X.w) X.A (f v u) (EP X pins σ Q) X.xe s
noncomputable def UnR (X:Cx) (f:Value->Sem Value) (r:V->Hp->VK->Prop):Prop:=
 ∀(pins:List (Addr×Obj)) (s:Shared) (σ:St) (H:Hp) (x:V) (v:Value) (Q:VK),Inv X pins σ H s->RelV x v->r x H Q->
  wpAny (model X.prog X.w) X.A (f v) (EP X pins σ Q) X.xe s
noncomputable def cD (X:Cx) (f:Value) (r:List V->Hp->VK->Prop):Prop:=
 ∀(pins:List (Addr×Obj)) (s:Shared) (σ:St) (H:Hp) (xs:List V) (us:List Value) (Q:VK),Inv X pins σ H s->Vals xs us->r xs H Q->
  wpAny (model X.prog X.w) X.A (call f us) (EP X pins σ Q) X.xe s
noncomputable def acW (X:Cx) (r:V->Hp->(Bool->Hp->Prop)->Prop):Prop:=
 ∀(pins:List (Addr×Obj)) (s:Shared) (σ:St) (H:Hp) (x:V) (v:Value) (Q:Bool->Hp->Prop),Inv X pins σ H s->RelV x v->r x H Q->
  wpAny (model X.prog X.w) X.A (truthy v) (TP X pins σ Q) X.xe s
noncomputable def tOp (r:R2) (ta tb:TE):TE:=fun σ H Q=>ta σ H fun x H1=>tb σ H1 fun y H2=>r x y H2 Q
noncomputable def tUn (r:V->Hp->VK->Prop) (ta:TE):TE:=fun σ H Q=>ta σ H fun x H1=>r x H1 Q
noncomputable def rI (C:Int->Int->Prop) (g:Int->Int->V):R2:=fun x y H Q=>∃i j,x= .int i/\y= .int j/\C i j/\Q (g i j) H
noncomputable def F1 (g:Int->Int->V):R2:=fun x y H Q=>∃i j,x= .int i/\y= .int j/\Q (g i j) H
noncomputable def rU (g:Int->V):V->Hp->VK->Prop:=fun x H Q=>∃i,x= .int i/\Q (g i) H
section
variable {X:Cx} {a b c:Expr} {ta tb tc:TE} {pos:Pos}
theorem XA (ha:PE X a ta) (hb:PE X b tb) {R:V->V->Hp->Prop} (I:Inv X pins σ H s)
  (h:ta σ H fun x H1=>tb σ H1 fun y H2=>R x y H2)
  (hf:∀v u s2 x y H2,Inv X pins σ H2 s2->RelV x v->RelV y u->R x y H2->wpAny (model X.prog X.w) X.A (f v u) Q X.xe s2):
  wpAny (model X.prog X.w) X.A (eval a X.env) (fun v s₁=>wpAny (model X.prog X.w) X.A (eval b X.env) (fun u s₂=>wpAny (model X.prog X.w) X.A (f v u) Q X.xe s₂) X.xe s₁) X.xe s:=by
 refine cM (ha pins s σ H _ I h) fun v s1 ⟨x,H1,I1,r1,q1⟩=>?_
 refine cM (hb pins s1 σ H1 _ I1 q1) fun u s2 ⟨y,H2,I2,r2,q2⟩=>?_
 exact hf v u s2 x y H2 I2 r1 r2 q2
theorem bM {op:Operator} (ho:iQ X (binaryOp op) r) (ha:PE X a ta) (hb:PE X b tb):PE X (.BinOp a op b pos) (tOp r ta tb):=by
 intro pins s σ H Q I h
 exact wpAny_BinOp (XA ha hb I h fun v u s2 x y H2 I2 rx ry q=>ho pins s2 σ H2 x y v u Q I2 rx ry q)
theorem RX {op:UnaryOp} {r:V->Hp->VK->Prop} (ho:UnR X (unaryOp op) r) (ha:PE X a ta):PE X (.UnaryOp op a pos) (tUn r ta):=by
 intro pins s σ H Q I h
 exact UnaryOp_ (cM (ha pins s σ H _ I h) fun v s1 ⟨x,H1,I1,r1,q1⟩=>ho pins s1 σ H1 x v Q I1 r1 q1)
theorem Y9 {C:Int->Int->Prop}
  (rule:∀(i j:Int) (t u:Tok) (s:Shared) (Q:Value->Shared->Prop) (E:Value->Shared->Prop),C i j->Q (.int (g i j) s.toks) {s with toks:=s.toks+1}->wpAny (model X.prog X.w) X.A (f (.int i t) (.int j u)) Q E s):
  iQ X f (rI C fun i j=>.int (g i j)):=by
 intro pins s σ H x y v u Q I rx ry h
 obtain⟨i,j,rfl,rfl,hc,q⟩:=h
 obtain⟨t,rfl⟩:=rx
 obtain⟨t',rfl⟩:=ry
 exact rule i j t t' s _ _ hc ⟨.int (g i j),H,I.tok _,⟨_,rfl⟩,q⟩
theorem ZW
  (rule:∀(i j:Int) (t u:Tok) (s:Shared) (Q:Value->Shared->Prop) (E:Value->Shared->Prop),Q (.int (g i j) s.toks) {s with toks:=s.toks+1}->wpAny (model X.prog X.w) X.A (f (.int i t) (.int j u)) Q E s):
  iQ X f (F1 fun i j=>.int (g i j)):=by
 intro pins s σ H x y v u Q I rx ry h
 obtain⟨i,j,rfl,rfl,q⟩:=h
 obtain⟨t,rfl⟩:=rx
 obtain⟨t',rfl⟩:=ry
 exact rule i j t t' s _ _ ⟨.int (g i j),H,I.tok _,⟨_,rfl⟩,q⟩
theorem VZ {g:Int->Int->Bool}
  (rule:∀(i j:Int) (t u:Tok) (s:Shared) (Q:Value->Shared->Prop) (E:Value->Shared->Prop),Q (.bool (g i j)) s->wpAny (model X.prog X.w) X.A (f (.int i t) (.int j u)) Q E s):
  iQ X f (F1 fun i j=>.bl (g i j)):=by
 intro pins s σ H x y v u Q I rx ry h
 obtain⟨i,j,rfl,rfl,q⟩:=h
 obtain⟨t,rfl⟩:=rx
 obtain⟨t',rfl⟩:=ry
 exact rule i j t t' s _ _ ⟨.bl (g i j),H,I,rfl,q⟩
noncomputable def Q3 (i j:Int):Prop:=(-(2^64)<i/\i<2^64)\/ (-(2^64)<j/\j<2^64)
theorem Q3.ok {i j:Int} (h:Q3 i j):IntMulOk i j:=by
 rcases h with⟨h1,h2⟩|⟨h1,h2⟩
 ·exact .of_left (intBits_le_64 h1 h2)
 ·exact .of_right (intBits_le_64 h1 h2)
theorem WM:iQ X (binaryOp .Add) (F1 fun i j=>.int (i+j)):=ZW fun _ _ _ _ _ _ _ q=>add_int q
theorem xO:iQ X (binaryOp .Sub) (F1 fun i j=>.int (i - j)):=ZW fun _ _ _ _ _ _ _ q=>sub_int q
theorem l0:iQ X (binaryOp .Mult) (rI Q3 fun i j=>.int (i*j)):=Y9 fun _ _ _ _ _ _ _ hc q=>mul_int q hc.ok
theorem jC:iQ X (binaryOp .Mod) (rI (fun _ j=>0<j) fun i j=>.int (i % j)):=Y9 fun i j _ _ _ _ _ hc q=>by
 have h1:(0:Int)<j:=hc
 exact mod_int' (by omega) (by rw[Int.fmod_eq_emod_of_nonneg i (by omega)];exact q)
theorem unI {f:Value->Sem Value} {g:Int->Int}
  (rule:∀(i:Int) (t:Tok) (s:Shared) (Q:Value->Shared->Prop) (E:Value->Shared->Prop),Q (.int (g i) s.toks) {s with toks:=s.toks+1}->wpAny (model X.prog X.w) X.A (f (.int i t)) Q E s):
  UnR X f (rU fun i=>.int (g i)):=by
 intro pins s σ H x v Q I rx h
 obtain⟨i,rfl,q⟩:=h
 obtain⟨t,rfl⟩:=rx
 exact rule i t s _ _ ⟨.int (g i),H,I.tok _,⟨_,rfl⟩,q⟩
theorem K2:UnR X (unaryOp .USub) (rU fun i=>.int (-i)):=unI fun _ _ _ _ _ q=>neg_int q
end
section
variable {X:Cx} {a b c:Expr} {ta tb tc:TE} {pos:Pos}
theorem iK {Q:VK} {k k':Bool} (I:Inv X pins σ H s) (q:Q (.bl k) H) (e:k=k'):EP X pins σ Q (.bool k') s:=by
 subst e
 exact⟨.bl k,H,I,rfl,q⟩
theorem ZI:iQ X (compareOp .Lt) (F1 fun i j=>.bl (decide (i<j))):=VZ fun _ _ _ _ _ _ _ q=>lt_int q
theorem JI:iQ X (compareOp .Gt) (F1 fun i j=>.bl (decide (j<i))):=VZ fun _ _ _ _ _ _ _ q=>gt_int q
theorem aaM:iQ X (compareOp .GtE) (F1 fun i j=>.bl (decide (j<=i))):=VZ fun _ _ _ _ _ _ _ q=>ge_int q
theorem HA:iQ X (compareOp .Lt) (fun x y H Q=>∃i j,x= .str i/\y= .str j/\Q (.bl (decide (i.cps.toList<j.cps.toList))) H):=by
 intro pins s σ H x y v u Q I rx ry h
 obtain⟨i,j,rfl,rfl,q⟩:=h
 obtain⟨t,rfl⟩:=rx
 obtain⟨t',rfl⟩:=ry
 exact lt_str (iK I q rfl)
theorem G3:iQ X (compareOp .In) (fun x y H Q=>∃i j,x= .str i/\y= .str j/\Q (.bl (!(Builtin.Str.occurrences j i 0 j.length 1).isEmpty)) H):=by
 intro pins s σ H x y v u Q I rx ry h
 obtain⟨i,j,rfl,rfl,q⟩:=h
 obtain⟨t,rfl⟩:=rx
 obtain⟨t',rfl⟩:=ry
 exact in_str (iK I q rfl)
theorem JV:iQ X (compareOp .Is) (fun x y H Q=>y= .aY/\Q (.bl (decide (x= .aY))) H):=by
 intro pins s σ H x y v u Q I rx ry h
 obtain⟨rfl,q⟩:=h
 cases ry
 refine is_none_gen (iK I q ?_)
 cases x<;>first
  |(cases rx;rfl)
  |(obtain⟨t,rfl⟩:=rx;rfl)
theorem rV:iQ X (compareOp .IsNot) (fun x y H Q=>y= .aY/\Q (.bl (!decide (x= .aY))) H):=by
 intro pins s σ H x y v u Q I rx ry h
 obtain⟨rfl,q⟩:=h
 cases ry
 refine isnot_none_gen (iK I q ?_)
 cases x<;>first
  |(cases rx;rfl)
  |(obtain⟨t,rfl⟩:=rx;rfl)
theorem xB:iQ X (compareOp .NotIn) (fun x y H Q=>∃i j,x= .str i/\y= .str j/\Q (.bl (!(!(Builtin.Str.occurrences j i 0 j.length 1).isEmpty))) H):=by
 intro pins s σ H x y v u Q I rx ry h
 obtain⟨i,j,rfl,rfl,q⟩:=h
 obtain⟨t,rfl⟩:=rx
 obtain⟨t',rfl⟩:=ry
 exact notIn_str (iK I q rfl)
theorem cI (b:Expr) {op:CmpOp} (h:op≠ .In:=by decide) (h2:op≠ .NotIn:=by decide):behindInMarks op b=false:=by
 have e1:(op==CmpOp.In)=false:=by cases op<;>first|rfl|exact absurd rfl h
 have e2:(op==CmpOp.NotIn)=false:=by cases op<;>first|rfl|exact absurd rfl h2
 cases b<;>simp[behindInMarks,e1,e2]
theorem pA (ho:iQ X (compareOp op) r) (ha:PE X a ta) (hb:PE X b tb) (hm:behindInMarks op b=false):PE X (.Compare a [op] [b] pos) (tOp r ta tb):=by
 intro pins s σ H Q I h
 exact wpAny_Compare1 (XA ha hb I h fun v u s2 x y H2 I2 rx ry q=>ho pins s2 σ H2 x y v u Q I2 rx ry q) hm
noncomputable def R8 (t:TE):TT:=fun σ H Q=>t σ H fun x H'=>∃k,x= .bl k/\Q k H'
theorem bH (ho:iQ X (compareOp op) r) (ha:PE X a ta) (hb:PE X b tb) (hm:behindInMarks op b=false):PT X (.Compare a [op] [b] pos) (R8 (tOp r ta tb)):=by
 intro pins s σ H Q I h
 refine wpAny_isTrue_Compare1 (cM (ha pins s σ H _ I h) fun v s1 ⟨x,H1,I1,r1,q1⟩=>cM (hb pins s1 σ H1 _ I1 q1) fun u s2 ⟨y,H2,I2,r2,q2⟩=>
  cM (ho pins s2 σ H2 x y v u _ I2 r1 r2 q2) fun c s3 ⟨z,H3,I3,r3,k,e,q3⟩=>?_) hm
 subst e
 cases r3
 exact wpAny_truthy_bool ⟨H3,I3,q3⟩
noncomputable def P1 (K:Frag) (x:V) (H:Hp) (k:Bool):Prop:=
 match x with
 | .aY=>k=false
 | .bl b=>k=b
 | .int i=>k=(i !=0)
 | .str y=>y.length<=sizeLine/\k=((y.length:Int) !=0)
 | .YY y=>y.size<=sizeLine/\k=((y.size:Int) !=0)
 | .ref p=>(∃xs,iR K H p xs/\k=!xs.isEmpty)\/ (∃xs,nD K H p xs/\k=!xs.isEmpty)\/ ∃kvs ep,H p=some (.dK kvs ep)/\k=!kvs.isEmpty
 |_=>False
theorem DE {kvs:List (κ×V)} {vs:List (κ×Value)} (r:KV kvs vs):(!vs.isEmpty)=!kvs.isEmpty:=by
 cases r<;>rfl
theorem tM {its:List Value} (r:Vals xs its):(!its.toArray.isEmpty)=!xs.isEmpty:=by
 cases r<;>simp
theorem oJ:(sizeLine:Nat)<2^63:=by rw[sizeLine_eq];decide
theorem XZ:acW X (fun x H Q=>∃k,P1 X.K x H k/\Q k H):=by
 intro pins s σ H x v Q I rx h
 obtain⟨k,e,q⟩:=h
 have hl:=oJ
 have hs:sizeLine=16777216:=sizeLine_eq
 cases x with
 |aY=>
  cases rx
  have e':k=false:=e
  subst e'
  exact truthy_none ⟨H,I,q⟩
 |bl b=>
  cases rx
  have e':k=b:=e
  subst e'
  exact wpAny_truthy_bool ⟨H,I,q⟩
 |int i=>
  obtain⟨t,rfl⟩:=rx
  have e':k=(i !=0):=e
  subst e'
  exact PySem.P.truthy_int ⟨H,I,q⟩
 |str y=>
  obtain⟨t,rfl⟩:=rx
  obtain⟨hy,e'⟩:y.length<=sizeLine/\k=((y.length:Int) !=0):=e
  subst e'
  exact PySem.P.truthy_str (by omega) ⟨H,I.tok _,q⟩
 |YY y=>
  obtain⟨t,rfl⟩:=rx
  obtain⟨hy,e'⟩:y.size<=sizeLine/\k=((y.size:Int) !=0):=e
  subst e'
  exact PySem.W.truthy_bytes (by omega) ⟨H,I.tok _,q⟩
 | ref p=>
  cases rx
  have e':(∃xs,iR X.K H p xs/\k=!xs.isEmpty)\/ (∃xs,nD X.K H p xs/\k=!xs.isEmpty)\/ ∃kvs ep,H p=some (.dK kvs ep)/\k=!kvs.isEmpty:=e
  rcases e' with⟨xs,hx,e'⟩|⟨xs,hx,e'⟩|⟨kvs,ep,hx,e'⟩
  ·subst e'
   obtain⟨its,r,pl,hz⟩:=I.list hx
   have hlen:=r.length
   exact wpAny_truthy_list pl.isList (by simp only[size_toArray];omega) ⟨H,I.tok _,by rw[tM r];exact q⟩
  ·subst e'
   obtain⟨its,r,pl,hz⟩:=I.tuple hx
   have hlen:=r.length
   exact truthy_tuple pl (by simp only[size_toArray];omega) ⟨H,I.tok _,by rw[tM r];exact q⟩
  ·subst e'
   obtain⟨hz,hS,vs,r,m⟩:kvs.length<=sizeLine/\(p==sysModules)=false/\∃vs,KV kvs vs/\s.heap.DictAt (bT X.prog X.w) p vs ep:=I.bN p _ hx
   have hlen:kvs.length=vs.length:=Paired.length r
   exact wpAny_truthy_dict hS m.dictOf (by omega) ⟨H,I.tok _,by rw[DE r];exact q⟩
 |_=>exact(show False from e).elim
theorem K1 (ha:PE X a ta) (he:∀whole,isTrue a X.env whole=(do let v<-whole;standAt a.pos;holding [v] (truthy v))):
  PT X a (fun σ H Q=>ta σ H fun x H'=>∃k,P1 X.K x H' k/\Q k H'):=by
 intro pins s σ H Q I h
 exact isTrue_plain (cM (ha pins s σ H _ I h) fun v s1 ⟨x,H1,I1,r1,q1⟩=>XZ pins s1 σ H1 x v Q I1 r1 q1) (he _)
theorem B6:iQ X (binaryOp .Add) (fun x y H Q=>∃i j,x= .str i/\y= .str j/\i.length+j.length<=sizeLine/\Q (.str (i++j)) H):=by
 intro pins s σ H x y v u Q I rx ry h
 obtain⟨i,j,rfl,rfl,hz,q⟩:=h
 obtain⟨t,rfl⟩:=rx
 obtain⟨t',rfl⟩:=ry
 exact add_str (fun t' tk=>⟨.str (i++j),H,I.tok _,⟨_,rfl⟩,q⟩) hz
theorem vals1 {x:V} (r:Vals [x] us):∃u,us=[u]/\RelV x u:=by
 cases r with
 |cons r1 r2=>cases r2;exact⟨_,rfl,r1⟩
theorem vals2 {x:V} (r:Vals [x,y] us):∃u w',us=[u,w']/\RelV x u/\RelV y w':=by
 cases r with
 |cons r1 r2=>
  cases r2 with
  |cons r3 r4=>cases r4;exact⟨_,_,rfl,r1,r3⟩
theorem HJ (hc:X.calm=true):cD X (.builtin "min") (fun xs H Q=>∃i j,xs=[.int i,.int j]/\Q (.int (if j<i then j else i)) H):=by
 intro pins s σ H xs us Q I r h
 obtain⟨i,j,rfl,q⟩:=h
 obtain⟨u,w',rfl,⟨t,rfl⟩,⟨t',rfl⟩⟩:=vals2 r
 refine min_two_ints (I.ok.hd hc) fun h' tk k=>⟨_,H,I.kept k,?_,q⟩
 by_cases hj:j<i
 ·rw[if_pos hj,if_pos hj];exact⟨_,rfl⟩
 ·rw[if_neg hj,if_neg hj];exact⟨_,rfl⟩
theorem GL:cD X (.type "int") (fun xs H Q=>(∃i,xs=[.int i]/\Q (.int i) H)\/ ∃k,xs=[.bl k]/\Q (.int (if k then 1 else 0)) H):=by
 intro pins s σ H xs us Q I r h
 rcases h with⟨i,rfl,q⟩|⟨k,rfl,q⟩
 ·obtain⟨u,rfl,t,rfl⟩:=vals1 r
  exact call_int_int ⟨.int i,H,I,⟨_,rfl⟩,q⟩
 ·obtain⟨u,rfl,r1⟩:=vals1 r
  cases r1
  exact call_int_bool ⟨.int (if k then 1 else 0),H,I.tok _,⟨_,rfl⟩,q⟩
theorem oY:cD X (.type "str") (fun xs H Q=>∃i,xs=[.int i]/\i.natAbs.log2<1920/\Q (.str (toString i)) H):=by
 intro pins s σ H xs us Q I r h
 obtain⟨i,rfl,hz,q⟩:=h
 obtain⟨u,rfl,t,rfl⟩:=vals1 r
 exact PySem.P.str_of_int hz ⟨.str _,H,I.tok _,⟨_,rfl⟩,q⟩
end
theorem rE.some_of {v:V} {o:Option Value} (r:rE (some v) o):∃u,o=some u/\RelV v u:=by
 cases o with
 |none=>exact(show False from r).elim
 |some u=>exact⟨u,rfl,r⟩
structure dB (k:Nat) (A:Around):Prop where
 hd:A.handled=none
 dp:A.depth+3*k+5<recursionLimit
 un:A.units+16*k+200<cLine
theorem dB.mono (r:dB k A) (h:j<=k):dB j A:=⟨r.hd,by have:=r.dp;omega,by have:=r.un;omega⟩
theorem dB.deeper (r:dB (k+1) A) (env:Env):dB k (A.deeper env):=
 ⟨r.hd,by have:=r.dp;show A.depth+1+3*k+5<_;omega,by have:=r.un;show A.units+3+16*k+200<_;omega⟩
theorem dB.depth (r:dB k A):A.depth<recursionLimit:=by have:=r.dp;omega
theorem dB.units (r:dB k A):A.units+64<cLine:=by have:=r.un;omega
noncomputable def p9:TA:=fun _ H Q=>Q [] H
noncomputable def eN (ta:TE) (tr:TA):TA:=fun σ H Q=>ta σ H fun x H1=>tr σ H1 fun xs H2=>Q (x::xs) H2
section
variable {X:Cx} {e:Expr} {es:List Expr} {te:TE} {t:TA} {pos:Pos}
theorem aD:PA X [] p9:=fun _ _ _ _ H Q I h=>Calls.spliced_nil ⟨[],H,I,.nil,h⟩
theorem aA (ha:PE X e te) (hr:PA X es t) (hs:starEach (e::es) X.env=(false,eval e X.env)::starEach es X.env:=by rfl):PA X (e::es) (eN te t):=by
 intro pos pins s σ H Q I h
 rw[hs]
 show wpAny _ _ (spliced ((false,eval e X.env)::backTo pos (starEach es X.env))) _ _ s
 refine Calls.spliced_cons (cM (ha pins s σ H _ I h) fun u s1 ⟨x,H1,I1,r1,q1⟩=>?_)
 exact cM (hr pos pins s1 σ H1 _ I1 q1) fun us s2 ⟨xs,H2,I2,r2,q2⟩=>⟨x::xs,H2,I2,.cons r1 r2,q2⟩
noncomputable def TH (t:TA):TE:=fun σ H Q=>t σ H fun xs H1=>xs.length<=sizeLine/\∀p,H1 p=none->Q (.ref p) (upd H1 p (.tup xs))
noncomputable def O0 (t:TA):TE:=fun σ H Q=>t σ H fun xs H1=>xs.length<=sizeLine/\∀p,H1 p=none->Q (.ref p) (upd H1 p (.lst xs))
theorem cB {x1} (h:PA X es t):PE X (.Tuple es x1 pos) (TH t):=by
 intro pins s σ H Q I hq
 refine wpAny_Tuple_spliced (cM (h pos pins s σ H _ I hq) fun us s1 ⟨xs,H1,I1,r,z,q⟩=>⟨by rw[<-r.length];exact z,?_⟩)
 have hf:H1 s1.heap.objs.size=none:=I1.bN.fresh (le_refl _)
 refine⟨.ref s1.heap.objs.size,upd H1 s1.heap.objs.size (.tup xs),I1.laid (t':=s1.toks) (fun b u e=>get?_push_of_some _ e) (le_refl _) ?_,rfl,q _ hf⟩
 exact⟨z,us,r,pP.new _ _⟩
theorem eX (h:PA X es t):PE X (.List es pos) (O0 t):=by
 intro pins s σ H Q I hq
 refine wpAny_List_spliced (cM (h pos pins s σ H _ I hq) fun us s1 ⟨xs,H1,I1,r,z,q⟩=>⟨by rw[<-r.length];exact z,?_⟩)
 have hf:H1 s1.heap.objs.size=none:=I1.bN.fresh (le_refl _)
 refine⟨.ref s1.heap.objs.size,upd H1 s1.heap.objs.size (.lst xs),I1.laid (t':=s1.toks) (fun b u e=>get?_push_of_some _ e) (le_refl _) ?_,rfl,q _ hf⟩
 exact⟨z,us,0,r,get?_push_size _ rfl⟩
end
noncomputable abbrev Sp:=List V->Hp->VK->XK->Prop
noncomputable abbrev IE:=List Env->Hp->Shared->XK->Value->Shared->Prop
structure PX (P:Program) (w:World) (K:Frag) (mg:Str->Option Value) (base:Heap) (A:Around) (outer:List Env) (s:Shared) (H:Hp):Prop where
 frames:A.frames=some outer
 mod:Mod K mg base
 bs:∀b o,base.get? b=some o->s.heap.get? b=some o/\H b=none
 Q5:base.objs.size<=s.heap.objs.size
 rN:s.heap.FunFrames base outer
 UQ:∀b∈G2 outer,H b=none
 bN:mX P w H s.heap
 bare:AllBare s.gens
noncomputable def CE (outer:List Env) (P:Program) (w:World) (H:Hp) (s:Shared) (Q:VK) (u:Value) (s':Shared):Prop:=
 ∃v H',s'.os=s.os/\AllBare s'.gens/\Un (G2 outer) [] H H' s.heap s'.heap/\mX P w H' s'.heap/\RelV v u/\Q v H'
noncomputable def CR (CX:IE) (outer:List Env) (P:Program) (w:World) (H:Hp) (s:Shared) (Q:VK) (E:XK) (r:Result) (s':Shared):Prop:=
 match r with
 | .ok (.ret u)=>CE outer P w H s Q u s'
 | .ok _=>False
 | .error e=>CX outer H s E e s'
structure pM (P:Program) (w:World) (K:Frag) (mg:Str->Option Value) (base:Heap) (CX:IE) (k:Nat) (f:Addr) (fd:FuncData) (ps:List Str) (sp:Sp):Prop where
 len:∀vs H Q E,sp vs H Q E->vs.length=ps.length
 run:∀(A:Around) (outer:List Env) (s:Shared) (H:Hp) (args:Args) (us:List Value) (vs:List V) (Q:VK) (E:XK),dB k A->PX P w K mg base A outer s H->BindsTo s fd args (ps.zip us)->Vals vs us->sp vs H Q E->
  codeAny (model P w) A (.call (.ref f) args) (CR CX outer P w H s Q E) s
theorem pM.imp {f:Addr} {sp':Sp} (F:pM P w K mg base CX k f fd ps sp)
  (h:∀vs H Q E,sp' vs H Q E->sp vs H Q E):pM P w K mg base CX k f fd ps sp':=
 ⟨fun vs H Q E q=>F.len vs H Q E (h _ _ _ _ q),fun A outer s H args us vs Q E hr he hb hv hs=>F.run A outer s H args us vs Q E hr he hb hv (h _ _ _ _ hs)⟩
section
variable {X:Cx} {pins:List (Addr×Obj)} {σ:St} {H:Hp} {s s':Shared}
theorem Inv.mZ (I:Inv X pins σ H s):PX X.prog X.w X.K X.mg X.base X.A X.stack s H:=
 ⟨I.ok.frames,I.ok.mod,I.bs,le_trans I.ok.Q5 I.sz,I.stack,I.E3,I.bN,I.bare⟩
theorem Inv.after {Q:VK} (I:Inv X pins σ H s) (h:CE X.stack X.prog X.w H s Q u s'):EP X pins σ Q u s':=by
 obtain⟨v,H',os,bare,un,bN,r,q⟩:=h
 obtain⟨hh,g,d,t,os'⟩:=s'
 obtain rfl:os'=s.os:=os
 exact⟨v,H',I.call (h':=hh) (g':=g) (d':=d) (t':=t) (ch:=[]) un bN bare (fun b z=>absurd z (by simp)),r,q⟩
end
noncomputable def z7 (sp:Sp) (dvs:List V) (E:XK) (t:TA):TE:=fun σ H Q=>t σ H fun vs H1=>sp (vs++dvs) H1 Q E
noncomputable def Binds (K:Frag) (fd:FuncData) (ps:List Str) (ds:List Value):Prop:=
 ∀(s:Shared) (us:List Value),K.In s.heap->(us++ds).length=ps.length->BindsTo s fd ⟨us,[]⟩ (ps.zip (us++ds))
theorem Binds.all (h:∀us:List Value,us.length=ps.length->bindArgs fd ⟨us,[]⟩=pure (ps.zip us)):Binds K fd ps []:=fun s us _ hl=>by
 rw[append_nil]at hl⊢
 exact .of_eq (h us hl)
noncomputable def Passes (CX:IE) (X:Cx) (E:XK):Prop:=∀(pins:List (Addr×Obj)) (σ:St) (H:Hp) (s:Shared) (e:Value) (s':Shared),Inv X pins σ H s->CX X.stack H s E e s'->X.xe e s'
section
variable {X:Cx} {CX:IE} {k:Nat} {f C:Addr} {fd:FuncData} {ps:List Str} {sp:Sp} {dvs:List V} {ds:List Value} {E:XK} {x m:Str} {p pos apos:Pos} {e o:Expr} {es:List Expr} {ta:TE} {t:TA}
theorem V5 {Q:VK} {vs:List V} (F:pM X.prog X.w X.K X.mg X.base CX k f fd ps sp) (hr:dB k X.A) (hb:Binds X.K fd ps ds) (hd:Vals dvs ds) (hx:Passes CX X E)
  (I:Inv X pins σ H s) (r:Vals vs us) (h:sp (vs++dvs) H Q E):wpAny (model X.prog X.w) X.A (call (.ref f) us) (EP X pins σ Q) X.xe s:=by
 have r2:Vals (vs++dvs) (us++ds):=r.append hd
 have hl:(us++ds).length=ps.length:=by rw[<-r2.length];exact F.len _ _ _ _ h
 refine wpAny_call (codeAny_mono (F.run X.A X.stack s H ⟨us,[]⟩ (us++ds) (vs++dvs) Q E hr I.mZ (hb s us I.HU hl) r2 h) fun r s' hq=>?_)
 cases r with
 |error e=>exact hx pins σ H s e s' I hq
 |ok fl=>
  cases fl with
  |ret u=>exact I.after hq
  |next=>exact False.elim hq
  |brk=>exact False.elim hq
  |cont=>exact False.elim hq
theorem PZ (F:pM X.prog X.w X.K X.mg X.base CX k f fd ps sp) (hr:dB k X.A) (hg:Gl X x) (hm:X.mg x=some (.ref f)) (hk:keepIn X.K (.ref f)=true) (hb:Binds X.K fd ps ds) (hd:Vals dvs ds) (hx:Passes CX X E)
  (ha:PA X (e::es) t) (hdb:(x==("__debug__":Str))=false:=by decide) (he:starEach (e::es) X.env=(false,eval e X.env)::starEach es X.env:=by rfl) (hpl:(backTo pos (starEach es X.env)).any (·.1)=false:=by rfl):
  PE X (.Call (.Name x p) (e::es) [] pos) (z7 sp dvs E t):=by
 intro pins s σ H Q I h
 refine wpAny_Call_Name_kw (PL I hg hm ?_ hdb)
 refine PySem.W.callWith_K (h₀:=X.base) I.ok.mod.kin hk (cM (ha pos pins s σ H _ I h) fun us s1 ⟨vs,H1,I1,r,q⟩=>⟨I1.HU,?_⟩) he hpl
 exact V5 F hr hb hd hx I1 r q
end
structure oV (N P:List Str) (sc:Scope):Prop where
 kind:sc.kind= .function
 co:sc.isCoroutine=false
 gen:sc.isGenerator=false
 nd:N.Nodup
 pre:N.take P.length=P
 par:∀x∈P,sc.names.lookup x=some .local\/ sc.names.lookup x=some .cell
 UG:∀y∈sc.names,y.2≠ .free
theorem vQ:∀{binds:List (Str×Value)} {m:Str->Option Value},(∀v,(x,v)∉binds)->bindL kindOf binds m x=m x
 |[],_,_=>rfl
 | (n,v)::r,m,h=>by
  unfold bindL
  rw[vQ fun w hw=>h w (mem_cons_of_mem _ hw)]
  split
  ·have:x≠n:=by rintro rfl;exact h v mem_cons_self
   simp[this]
  ·rfl
theorem vT:∀{binds:List (Str×Value)} {m:Str->Option Value},(∀v,(x,v)∉binds)->bindC kindOf binds m x=m x
 |[],_,_=>rfl
 | (n,v)::r,m,h=>by
  unfold bindC
  rw[vT fun w hw=>h w (mem_cons_of_mem _ hw)]
  split
  ·rfl
  ·have:x≠n:=by rintro rfl;exact h v mem_cons_self
   simp[this]
theorem vL:∀{P:List Str} {vs:List Value} {i:Nat} {m:Str->Option Value},P.Nodup->P[i]? =some x->vs[i]? =some v->kindOf x=some .local->
  bindL kindOf (P.zip vs) m x=some v
 |[],_,_,_,_,h,_,_=>by simp at h
 |_::_,[],_,_,_,_,h,_=>by simp at h
 |p::P,w::vs,0,m,nd,h1,h2,hk=>by
  simp at h1 h2;subst h1;subst h2
  show bindL kindOf ((p,w)::P.zip vs) m p=_
  unfold bindL
  rw[vQ fun v hv=>(nodup_cons.mp nd).1 (of_mem_zip hv).1,if_pos hk]
  simp
 |p::P,w::vs,i+1,m,nd,h1,h2,hk=>by
  show bindL kindOf ((p,w)::P.zip vs) m x=_
  unfold bindL
  exact vL (i:=i) (nodup_cons.mp nd).2 (by simpa using h1) (by simpa using h2) hk
theorem vJ:∀{P:List Str} {vs:List Value} {i:Nat} {m:Str->Option Value},P.Nodup->P[i]? =some x->vs[i]? =some v->kindOf x≠some .local->
  bindC kindOf (P.zip vs) m x=some v
 |[],_,_,_,_,h,_,_=>by simp at h
 |_::_,[],_,_,_,_,h,_=>by simp at h
 |p::P,w::vs,0,m,nd,h1,h2,hk=>by
  simp at h1 h2;subst h1;subst h2
  show bindC kindOf ((p,w)::P.zip vs) m p=_
  unfold bindC
  rw[vT fun v hv=>(nodup_cons.mp nd).1 (of_mem_zip hv).1,if_neg hk]
  simp
 |p::P,w::vs,i+1,m,nd,h1,h2,hk=>by
  show bindC kindOf ((p,w)::P.zip vs) m x=_
  unfold bindC
  exact vJ (i:=i) (nodup_cons.mp nd).2 (by simpa using h1) (by simpa using h2) hk
noncomputable def start (N:List Str) (vs:List V):St:=vs.map some++List.replicate (N.length - vs.length) none
noncomputable def CB (CX:IE) (P:Program) (w:World) (K:Frag) (mg:Str->Option Value) (base:Heap) (N:List Str) (qual:Str) (scope:Scope) (f:Addr) (cd:Value) (A:Around) (outer:List Env) (s:Shared) (H:Hp) (E:XK):Cx where
 prog:=P
 w:=w
 K:=K
 mg:=mg
 base:=base
 A:=A.deeper (envOfC qual scope s.heap.objs.size f cd)
 N:=N
 iN:=s
 JE:=H
 env:=envOfC qual scope s.heap.objs.size f cd
 outer:=outer
 stack:=envOfC qual scope s.heap.objs.size f cd::outer
 ex:=[]
 calm:=true
 fn:=fun _=>true
 pn:=[]
 xe:=fun e s'=>wpAny (model P w) (A.deeper (envOfC qual scope s.heap.objs.size f cd)) (leaving (envOfC qual scope s.heap.objs.size f cd) e) (fun _ s''=>CX outer H s E e s'') (fun e' s''=>CX outer H s E e' s'') s'
theorem BO {sc:Scope} (h:sc.names.lookup x=some .cell):∃c,(cellsFrom n sc.names []).lookup x=some c:=by
 have q:=PySem.W.cellsFrom_some sc.names n [] (.inl h)
 exact isSome_iff_exists.mp q
theorem G9 {f:Addr} {cd:Value} {outer:List Env} {s s1:Shared} {E:XK} {vs:List V}
  (S:oV N ps scope) (hd:A.handled=none) (e0:PX P w K mg base A outer s H) (hl:vs.length=ps.length) (r:Vals vs us)
  (x:InCallC s s.heap.objs.size (bindL (envOfC qual scope s.heap.objs.size f cd).kindOf (ps.zip us) fun _=>none) (cellsFrom (s.heap.objs.size+1) scope.names []) (bindC (envOfC qual scope s.heap.objs.size f cd).kindOf (ps.zip us) fun _=>none) s1):
  Inv (CB CX P w K mg base N qual scope f cd A outer s H E) [] (start N vs) H s1:=by
 have hpl:ps.length<=N.length:=by have:=congrArg List.length S.pre;rw[length_take]at this;omega
 obtain⟨h1,tk,rfl,hk⟩:=x.done
 have cR:∀b:Addr,b∉(CB CX P w K mg base N qual scope f cd A outer s H E).ex:=fun b z=>absurd (show b∈([]:List Addr)from z) (by simp)
 refine⟨⟨e0.mod,S.kind,rfl,rfl,le_refl _,fun y z c h1 h2=>?_,fun y hy=>?_,fun y c _ h=>?_,fun _=>hd,Around.frames_deeper e0.frames,.inr ⟨rfl,rfl⟩,fun b z=>absurd z (cR b),e0.bs,e0.Q5,fun b _ _=>cR b,fun b z=>absurd z (cR b),e0.rN,e0.UQ⟩,
  rfl,e0.bare,Un.kept hk,⟨_,x.toInCall.ns,fun i y v h1 h2 h3=>?_⟩,fun y c h=>⟨_,x.cell y c h⟩,e0.bN.fresh (le_refl _),fun y c h=>?_,fun p hp=>absurd (show p∈([]:List (Addr×Obj))from hp) (by simp),e0.bN.kept hk,?_⟩
 ·exact name_of_addr x.apart (PySem.mem_of_lookup h1) (PySem.mem_of_lookup h2)
 ·have hy:scope.names.lookup y=some .cell\/ scope.names.lookup y=some .free:=hy
  rcases hy with hy|hy
  ·exact BO hy
  ·exact absurd rfl (S.UG _ (PySem.mem_of_lookup hy))
 ·exact le_of_lt (x.above y c (PySem.mem_of_lookup h))
 ·have hi:i<vs.length:=by
   unfold start at h2
   by_cases hi:i<vs.length
   ·exact hi
   ·rw[getElem?_append_right (by simpa using hi)]at h2
    rw[List.getElem?_replicate]at h2
    split at h2<;>cases h2
  have ha:vs[i]? =some v:=by
   unfold start at h2
   rw[getElem?_append_left (by simpa using hi),getElem?_map]at h2
   cases e:vs[i]? with
   |none=>rw[e]at h2;cases h2
   |some a=>rw[e]at h2;cases h2;rfl
  obtain⟨u,hu,rv⟩:=r.get ha
  have hp:ps[i]? =some y:=by
   rw[<-S.pre,List.getElem?_take_of_lt (by omega)];exact h1
  have ndP:ps.Nodup:=by rw[<-S.pre];exact S.nd.sublist (List.take_sublist _ _)
  refine⟨u,rv,?_⟩
  rcases S.par y (mem_of_getElem? hp)with k|k
  ·exact .inl ⟨k,vL ndP hp hu k⟩
  ·obtain⟨c,e⟩:=BO (n:=s.heap.objs.size+1) k
   refine .inr ⟨.inl k,c,e,?_⟩
   have q:=x.cell y c e
   rw[vJ ndP hp hu (by show scope.names.lookup y≠_;rw[k];decide)]at q
   exact q
 ·exact e0.bN.fresh (le_of_lt (x.above y c (PySem.mem_of_lookup h)))
 ·unfold start
  show _=N.length
  rw[length_append,length_map,length_replicate]
  omega
theorem Z2 {f:Addr} {name:Str} {params:Arguments} {dV kV doc pm cdv ct oc:Value} {an od:Option Addr}
  {osl:Array (Option Value)} (lk:K.lookup f=some ⟨oc,od,.func (fnOf name qual params body scope dV kV doc pm an cdv ct),osl⟩) (hcd:codeIn K cdv qual=true) (S:oV N ps scope)
  (len:∀vs H Q E,sp vs H Q E->vs.length=ps.length)
  (hbody:∀(A:Around) (outer:List Env) (s:Shared) (H:Hp) (vs:List V) (Q:VK) (E:XK),dB k (A.deeper (envOfC qual scope s.heap.objs.size f cdv))->sp vs H Q E->
   ∃t,EL (CB CX P w K mg base N qual scope f cdv A outer s H E) body t/\t {nx:=fun _ H'=>Q .aY H',rt:=Q} (start N vs) H):
  pM P w K mg base CX (k+1) f (fnOf name qual params body scope dV kV doc pm an cdv ct) ps sp:=by
 refine⟨len,fun A outer s H args us vs Q E hr e0 hb r hsp=>?_⟩
 have hl:=len _ _ _ _ hsp
 have KX:K.In s.heap:=e0.mod.kin.keeps fun b o e=>(e0.bs b o e).1
 have lim:s.heap.NoLimit:=e0.mod.nolimit.keeps fun b o e=>(e0.bs b o e).1
 have hkind:∀y∈ps.zip us,scope.names.lookup y.1=some .local\/ (scope.names.lookup y.1=some .cell/\((cellsFrom (s.heap.objs.size+1) scope.names []).lookup y.1).isSome=true):=fun⟨n,v⟩ hy=>by
  rcases S.par n (of_mem_zip hy).1 with q|q
  ·exact .inl q
  ·exact .inr ⟨q,PySem.W.cellsFrom_some _ _ _ (.inl q)⟩
 refine codeAny_call_function hr.depth (KX _ _ lk) rfl S.co S.gen rfl (PySem.W.codeRec_of KX hcd) (hb _ _ _ _ ?_)
 refine wpAny_newFunctionEnv_cells S.kind hkind fun env he s1 x=>?_
 subst he
 refine⟨lim.keeps x.toInCall.keep,codeAny_func ?_⟩
 obtain⟨t,ht,hq⟩:=hbody A outer s H vs Q E (hr.deeper _) hsp
 have I:Inv (CB CX P w K mg base N qual scope f cdv A outer s H E) [] (start N vs) H s1:=G9 S hr.hd e0 hl r x
 refine wpAny_mono (ht [] s1 (start N vs) H _ I hq) (fun fl s' hs=>?_) fun e s' hs=>hs
 have fin:∀{σ':St} {H':Hp} {v:V} {u:Value},Inv (CB CX P w K mg base N qual scope f cdv A outer s H E) [] σ' H' s'->RelV v u->Q v H'->CE outer P w H s Q u s':=
  fun{σ' H' v u} J rv q=>⟨v,H',J.os,J.bare,J.base,J.bN,rv,q⟩
 cases fl with
 |ret u=>
  obtain⟨v,σ',H',J,rv,q⟩:=hs
  exact fin J rv q
 |next=>
  obtain⟨σ',H',J,q⟩:=hs
  exact fin (v:=V.aY) (u:=Value.none) J rfl q
 |brk=>
  obtain⟨_,_,_,q⟩:=hs
  exact False.elim q
 |cont=>
  obtain⟨_,_,_,q⟩:=hs
  exact False.elim q
section
variable {X:Cx} {x:Str} {p pos:Pos} {e:Expr} {es:List Expr} {t:TA} {id T:String} {r:List V->Hp->VK->Prop}
noncomputable def YU (r:List V->Hp->VK->Prop) (t:TA):TE:=fun σ H Q=>t σ H fun vs H1=>r vs H1 Q
theorem bL (hc:cD X (.builtin id) r) (hg:Gl X x) (hm:X.mg x=none) (hv:bootBuiltins x=some (.builtin id)) (ha:PA X (e::es) t) (hn:x≠"__name__":=by decide) (hdb:(x==("__debug__":Str))=false:=by decide)
  (he:starEach (e::es) X.env=(false,eval e X.env)::starEach es X.env:=by rfl) (hpl:(backTo pos (starEach es X.env)).any (·.1)=false:=by rfl):PE X (.Call (.Name x p) (e::es) [] pos) (YU r t):=by
 intro pins s σ H Q I h
 refine wpAny_Call_Name_kw (qE I hg hm hv ?_ hn hdb)
 exact PyProof.Rows.callWith_builtin1 (cM (ha pos pins s σ H _ I h) fun us s1 ⟨vs,H1,I1,r1,q1⟩=>hc pins s1 σ H1 vs us Q I1 r1 q1) he hpl
theorem cK (hc:cD X (.type T) r) (hg:Gl X x) (hm:X.mg x=none) (hv:bootBuiltins x=some (.type T)) (ha:PA X (e::es) t) (hn:x≠"__name__":=by decide) (hdb:(x==("__debug__":Str))=false:=by decide)
  (he:starEach (e::es) X.env=(false,eval e X.env)::starEach es X.env:=by rfl) (hpl:(backTo pos (starEach es X.env)).any (·.1)=false:=by rfl):PE X (.Call (.Name x p) (e::es) [] pos) (YU r t):=by
 intro pins s σ H Q I h
 refine wpAny_Call_Name_kw (qE I hg hm hv ?_ hn hdb)
 exact PyProof.Rows.callWith_type1 (cM (ha pos pins s σ H _ I h) fun us s1 ⟨vs,H1,I1,r1,q1⟩=>hc pins s1 σ H1 vs us Q I1 r1 q1) he hpl
end
end L2
namespace HT
open PySem PyProof.Rows
variable {sl t:Addr} {vl vu:Value} {Q:Value->Shared->Prop}
section
variable {prog:Program} {w:World} {A:Around} {E:Value->Shared->Prop} {s:Shared}
theorem PY {b:Addr} {vs ws:List Value} (ht:IsTup s.heap t vs.toArray) (hb:IsTup s.heap b ws.toArray) (hv:vs≠[])
  (h1:ws=[]->Q (.ref t) s) (h2:ws≠[]->Q (.ref s.heap.objs.size) {s with heap:=s.heap.push {cls:=.type "tuple",data:=.seq (vs++ws).toArray}})
  (hsz:vs.length+ws.length<=sizeLine):wpAny (model prog w) A (binaryOp .Add (.ref t) (.ref b)) Q E s:=by
 obtain⟨⟨cls,dd,data,sl⟩,ho,hc,n,hd⟩:=id ht
 obtain⟨⟨cls2,dd2,data2,sl2⟩,ho2,hc2,n2,hd2⟩:=id hb
 simp only at hc hd hc2 hd2
 subst hc hd hc2 hd2
 have e:vs.toArray++ws.toArray=(vs++ws).toArray:=by simp
 by_cases hw:ws=[]
 ·exact concat_meets ⟨_,ho,rfl⟩ ⟨_,ho2,rfl⟩ noFill_tuple_add seq_tuple_add slot_tuple_add entry_tuple_add (args_tuple_add_2 _ _)
   (tuple_addW1 t b vs.toArray ws.toArray n n2 dd dd2 sl sl2 (by simpa using hv) (by simp[hw])) ⟨ho,ho2,h1 hw⟩
 ·refine concat_meets ⟨_,ho,rfl⟩ ⟨_,ho2,rfl⟩ noFill_tuple_add seq_tuple_add slot_tuple_add entry_tuple_add (args_tuple_add_2 _ _)
   (tuple_addW2 t b vs.toArray ws.toArray n n2 dd dd2 sl sl2 (by simpa using hv) (by simpa using hw) (by rw[size_toArray,size_toArray];exact hsz)) ⟨ho,ho2,?_⟩
  rw[e]
  exact h2 hw
noncomputable def eI (n d:Nat):Option Int->Nat
 |none=>d
 |some v=>if v<0 then(v+(n:Int)).toNat else min v.toNat n
theorem zO (n d:Nat):eI n d none=d:=rfl
theorem EA (n d k:Nat):eI n d (some (k:Int))=min k n:=by
 show(if(k:Int)<0 then((k:Int)+(n:Int)).toNat else min (k:Int).toNat n)=min k n
 rw[if_neg (by omega),toNat_natCast]
theorem XW (n d:Nat) (hd:d<=n) (o:Option Int):eI n d o<=n:=by
 cases o with
 |none=>exact hd
 |some v=>
  show(if v<0 then(v+(n:Int)).toNat else min v.toNat n)<=n
  by_cases hv:v<0
  ·rw[if_pos hv];omega
  ·rw[if_neg hv];exact Nat.min_le_right _ _
theorem DX (v:Int) (n d:Nat):(if v<0 then max (v+(n:Int)) 0 else min v (n:Int))=((eI n d (some v):Nat):Int):=by
 show(if v<0 then max (v+(n:Int)) 0 else min v (n:Int))=(((if v<0 then(v+(n:Int)).toNat else min v.toNat n):Nat):Int)
 by_cases hv:v<0
 ·simp only[if_pos hv];omega
 ·simp only[if_neg hv];omega
theorem CD (lo hi:Option Int) (n:Nat):Builtin.Slice.sliceAdjust lo hi 1 (n:Int)=(((eI n 0 lo:Nat):Int),((eI n n hi:Nat):Int)):=by
 have h1:¬((1:Int)<0):=by omega
 unfold Builtin.Slice.sliceAdjust
 simp only[h1,if_false]
 refine Prod.ext ?_ ?_
 ·cases lo with
  |none=>rfl
  |some v=>exact DX v n 0
 ·cases hi with
  |none=>rfl
  |some v=>exact DX v n n
theorem CU (i j:Nat):Builtin.Slice.slicePlaces (i:Int) (j:Int) 1=j - i:=by
 unfold Builtin.Slice.slicePlaces
 have h1:(1:Int)>0:=by omega
 simp only[h1,if_true,Int.ediv_one]
 split<;>omega
theorem tR {v:Value} {o:Option Int} {Q:Option Int->Shared->Prop} (p:IsPart v o) (h:Q o s):wpAny (model prog w) A (Builtin.Slice.slicePartIndex v) Q E s:=by
 cases p with
 |none=>exact slicePart_none h
 |int i t=>exact slicePart_int h
theorem jQ {lo hi:Option Int} {n:Nat} {Q:Int×Int×Nat->Shared->Prop} (hs:s.heap.IsSliceOf sl vl vu .none) (pl:IsPart vl lo) (pu:IsPart vu hi)
  (h:Q (((eI n 0 lo:Nat):Int),1,eI n n hi - eI n 0 lo) s):wpAny (model prog w) A (Builtin.Slice.sliceApplied (.ref sl) (pure (n:Int))) Q E s:=by
 obtain⟨os,hos,hcs,hds⟩:=id hs
 unfold Builtin.Slice.sliceApplied Builtin.Slice.sliceFields
 refine wpAny_bind (wpAny_bind (wpAny_field hos hds (x:=vl) rfl (wpAny_bind (wpAny_field hos hds (x:=vu) rfl (wpAny_bind (wpAny_field hos hds (x:=.none) rfl (wpAny_pure ?_)))))))
 refine wpAny_bind (slicePart_none ?_)
 show wpAny _ _ (if((1:Int)==0)=true then _ else _) _ _ s
 rw[if_neg (by decide)]
 refine wpAny_bind (tR pl (wpAny_bind (tR pu (wpAny_bind (wpAny_pure ?_)))))
 show wpAny _ _ (match Builtin.Slice.sliceAdjust lo hi 1 (n:Int)with|(lo,hi)=>pure (lo,(1:Int),Builtin.Slice.slicePlaces lo hi 1)) _ _ s
 rw[CD lo hi n]
 show wpAny _ _ (pure (((eI n 0 lo:Nat):Int),(1:Int),Builtin.Slice.slicePlaces ((eI n 0 lo:Nat):Int) ((eI n n hi:Nat):Int) 1)) _ _ s
 rw[CU]
 exact wpAny_pure h
theorem IW (xs:Array Value) (i k:Nat):((List.range k).filterMap fun(m:Nat)=>xs[((i:Int)+(m:Int)*1).toNat]?).toArray=((xs.toList.drop i).take k).toArray:=by
 have e:(fun(m:Nat)=>xs[((i:Int)+(m:Int)*1).toNat]?)=fun m=>xs[i+m]?:=by
  funext m
  have:((i:Int)+(m:Int)*1).toNat=i+m:=by omega
  rw[this]
 rw[e]
 have:=pick_run xs i k
 rw[List.filterMap_map]at this
 have e2:((fun x=>xs[x]?)∘fun x=>i+x)=fun m=>xs[i+m]?:=rfl
 rw[e2]at this
 rw[this]
theorem pD {items:Array Value} {lo hi:Option Int} (ht:IsTup s.heap t items) (hs:s.heap.IsSliceOf sl vl vu .none) (pl:IsPart vl lo) (pu:IsPart vu hi)
  (hw:¬(eI items.size 0 lo=0/\eI items.size items.size hi=items.size))
  (h:Q (.ref s.heap.objs.size) {s with heap:=s.heap.push {cls:=.type "tuple",data:=.seq ((items.toList.drop (eI items.size 0 lo)).take (eI items.size items.size hi - eI items.size 0 lo)).toArray}})
  (hsz:items.size<=sizeLine):wpAny (model prog w) A (getItem (.ref t) (.ref sl)) Q E s:=by
 have htake:sizeOk (.seq ((items.toList.drop (eI items.size 0 lo)).take (eI items.size items.size hi - eI items.size 0 lo)).toArray):=by
  show((items.toList.drop (eI items.size 0 lo)).take (eI items.size items.size hi - eI items.size 0 lo)).toArray.size<=sizeLine
  rw[size_toArray,length_take,length_drop,length_toList]
  omega
 have hj:eI items.size items.size hi<=items.size:=XW _ _ (le_refl _) hi
 obtain⟨os,hos,hcs,hds⟩:=id hs
 have hTs:s.TypeIs (.ref sl) "slice":=⟨os,hos,hcs⟩
 unfold getItem
 try with_reducible refine wpAny_holding ?_
 first|refine wpAny_bind (wpAny_pure ?_)|skip
 refine wpAny_bind (wpAny_sequenceKey ht.typeIs (by decide) ?_)
 refine wpAny_bind (wpAny_callSpecial?_slot (name:=Str.ofString "__getitem__") ht.typeIs PyProof.Rows.slot_tuple_getitem
  (wpAny_call_entry PyProof.Rows.slot_tuple_getitem ht.typeIs entry_tuple_getitem ?_ (args_tuple_getitem _ _)))
 show wpAny _ _ (Builtin.Tuple.tupleItemsOf (.ref t)>>=_) _ _ s
 refine wpAny_bind (tupleItemsOf_ ht ?_)
 refine wpAny_bind (wpAny_typeOf hTs ?_)
 rw[if_pos (by decide)]
 refine wpAny_bind (jQ hs pl pu ?_)
 have hno:¬((((eI items.size 0 lo:Nat):Int)==0 && (1:Int)==1 && (eI items.size items.size hi - eI items.size 0 lo)==items.size)=true):=by
  intro q
  rw[and_eq_true,and_eq_true]at q
  have q1:((eI items.size 0 lo:Nat):Int)=0:=eq_of_beq q.1.1
  have q2:eI items.size items.size hi - eI items.size 0 lo=items.size:=eq_of_beq q.2
  exact hw ⟨by omega,by omega⟩
 show wpAny _ _ (if(((eI items.size 0 lo:Nat):Int)==0 && (1:Int)==1 && (eI items.size items.size hi - eI items.size 0 lo)==items.size)=true then _ else _) _ _ s
 rw[if_neg hno,IW]
 first
  |exact wpAny_bind (m:=Builtin.Tuple.tupleExact _) (wpAny_newObj_type (wpAny_pure ⟨_,rfl,wpAny_pure h⟩) htake)
  |exact wpAny_bind (m:=Builtin.Tuple.tupleExact _) (wpAny_newObj_type (wpAny_bind (wpAny_pure (wpAny_pure ⟨_,rfl,wpAny_pure h⟩))) htake)
  |exact wpAny_bind (wpAny_bind (m:=Builtin.Tuple.tupleExact _) (wpAny_newObj_type (wpAny_pure (wpAny_pure ⟨_,rfl,wpAny_pure h⟩)) htake))
  |exact wpAny_bind (wpAny_bind (m:=Builtin.Tuple.tupleExact _) (wpAny_newObj_type (wpAny_pure ⟨_,rfl,wpAny_pure h⟩) htake))
end
end HT
namespace L2
open PySem PySem.Spec PyProof.Rows
variable {H:Hp} {pins:List (Addr×Obj)} {xs:List V} {its its':List Value} {j n:Nat} {s:Shared} {σ:St} {α:Type} {r:V->Option Int->Option Int->Hp->VK->Prop}
noncomputable abbrev TO:=St->Hp->(Option Int->Hp->Prop)->Prop
noncomputable def PO (X:Cx) (e:Option Expr) (t:TO):Prop:=
 ∀(pins:List (Addr×Obj)) (s:Shared) (σ:St) (H:Hp) (Q:Option Int->Hp->Prop),Inv X pins σ H s->t σ H Q->
  wpAny (model X.prog X.w) X.A (evalPart e X.env) (fun u s'=>∃o H',Inv X pins σ H' s'/\IsPart u o/\Q o H') X.xe s
noncomputable def D1:TO:=fun _ H Q=>Q none H
noncomputable def R6 (t:TE):TO:=fun σ H Q=>t σ H fun x H1=>∃i,x= .int i/\Q (some i) H1
section
variable {X:Cx} {e:Expr} {te:TE} {lo hi:Option Expr} {tl th:TO} {pos p2:Pos}
theorem kG:PO X none D1:=by
 intro pins s σ H Q I h
 rw[evalPart_none]
 exact wpAny_pure ⟨none,H,I,.none,h⟩
theorem kJ (h:PE X e te):PO X (some e) (R6 te):=by
 intro pins s σ H Q I hw
 rw[evalPart_some]
 refine cM (h pins s σ H _ I hw) fun u s1 ⟨x,H1,I1,r1,q1⟩=>?_
 obtain⟨i,rfl,q⟩:=q1
 obtain⟨t,rfl⟩:=r1
 exact⟨some i,H1,I1,.int i t,q⟩
noncomputable def F0 (X:Cx) (r:V->Option Int->Option Int->Hp->VK->Prop):Prop:=
 ∀(pins:List (Addr×Obj)) (s:Shared) (σ:St) (H:Hp) (x:V) (v vl vu:Value) (lo hi:Option Int) (sl:Addr) (Q:VK),Inv X pins σ H s->RelV x v->s.heap.IsSliceOf sl vl vu .none->IsPart vl lo->IsPart vu hi->r x lo hi H Q->
  ∃T id,typeLookup (.type T) "__getitem__"=pure (some (.builtin id))/\s.TypeIs v T/\wpAny (model X.prog X.w) X.A (getItem v (.ref sl)) (EP X pins σ Q) X.xe s
theorem F0.or {r':V->Option Int->Option Int->Hp->VK->Prop} (h:F0 X r) (h':F0 X r'):F0 X (fun x lo hi H Q=>r x lo hi H Q\/ r' x lo hi H Q):=by
 intro pins s σ H x v vl vu lo hi sl Q I rx hs pl pu q
 rcases q with q|q
 ·exact h pins s σ H x v vl vu lo hi sl Q I rx hs pl pu q
 ·exact h' pins s σ H x v vl vu lo hi sl Q I rx hs pl pu q
noncomputable def tSl (r:V->Option Int->Option Int->Hp->VK->Prop) (te:TE) (tl th:TO):TE:=fun σ H Q=>te σ H fun x H1=>tl σ H1 fun l H2=>th σ H2 fun u H3=>r x l u H3 Q
theorem iC (hr:F0 X r) (he:PE X e te) (hl:PO X lo tl) (hu:PO X hi th):PE X (.Subscript e (.Slice lo hi none p2) pos) (tSl r te tl th):=by
 intro pins s σ H Q I h
 refine Subscript_ (cM (he pins s σ H _ I h) fun v s1 ⟨x,H1,I1,r1,q1⟩=>?_)
 refine wpAny_Slice (cM (hl pins s1 σ H1 _ I1 q1) fun vl s2 ⟨l,H2,I2,pl,q2⟩=>cM (hu pins s2 σ H2 _ I2 q2) fun vu s3 ⟨u,H3,I3,pu,q3⟩=>?_)
 rw[evalPart_none]
 refine wpAny_pure ?_
 have I4:Inv X pins σ H3 {s3 with heap:=s3.heap.push {cls:=.type "slice",data:=.fields #[vl,vu,.none]}}:=I3.kept (t':=s3.toks) fun b ob q=>get?_push_of_some _ q
 obtain⟨T,id,hT,ht,hg⟩:=hr pins {s3 with heap:=s3.heap.push {cls:=.type "slice",data:=.fields #[vl,vu,.none]}} σ H3 x v vl vu l u s3.heap.objs.size Q I4 r1 (Heap.IsSliceOf.new ..) pl pu q3
 show wpAny (model X.prog X.w) X.A (subscriptTail e (.Slice lo hi none p2) v (.ref s3.heap.objs.size)) (EP X pins σ Q) X.xe {s3 with heap:=s3.heap.push {cls:=.type "slice",data:=.fields #[vl,vu,.none]}}
 exact tail_any (ops:=[.ref s3.heap.objs.size,v]) ht hT hg (by with_unfolding_all rfl)
noncomputable def tD (xs:List V) (lo hi:Option Int):List V:=(xs.drop (HT.eI xs.length 0 lo)).take (HT.eI xs.length xs.length hi - HT.eI xs.length 0 lo)
theorem qO (xs:List V) (lo hi:Option Int):(tD xs lo hi).length<=xs.length:=by
 unfold tD
 rw[length_take,length_drop]
 omega
noncomputable def acV (K:Frag):V->Option Int->Option Int->Hp->VK->Prop:=fun x lo hi H Q=>∃a xs,x= .ref a/\nD K H a xs/\
 ¬(HT.eI xs.length 0 lo=0/\HT.eI xs.length xs.length hi=xs.length)/\∀p,H p=none->Q (.ref p) (upd H p (.tup (tD xs lo hi)))
theorem V1:F0 X (acV X.K):=by
 intro pins s σ H x v vl vu lo hi sl Q I rx hs pl pu h
 obtain⟨a,xs,rfl,hx,hw,q⟩:=h
 cases rx
 obtain⟨its,r,ht,hz⟩:=I.tuple hx
 have hlen:its.toArray.size=xs.length:=by rw[size_toArray];exact r.length.symm
 refine⟨"tuple",_,PyProof.Rows.slot_tuple_getitem.lookup,ht.typeIs,?_⟩
 refine HT.pD ht hs pl pu (by rw[hlen];exact hw) ?_ (by rw[hlen];exact hz)
 rw[hlen]
 refine⟨.ref s.heap.objs.size,_,I.laid (t':=s.toks) (o:=.tup (tD xs lo hi)) (fun b ob q=>get?_push_of_some _ q) (le_refl _) ?_,rfl,q _ (I.bN.fresh (le_refl _))⟩
 exact⟨le_trans (qO xs lo hi) hz,_,(r.drop (HT.eI xs.length 0 lo)).take (HT.eI xs.length xs.length hi - HT.eI xs.length 0 lo),pP.new _ _⟩
theorem Vals.DW {us:List Value} (r:Vals xs us):us=[]↔xs=[]:=by
 cases r with
 |nil=>simp
 |cons _ _=>simp
end
noncomputable def rY (n:Nat) (i:Int):Option Nat:=if 0<=i then(if i<n then some i.toNat else none)else if -(n:Int)<=i then some (i+n).toNat else none
noncomputable def nF (xs:List α) (i:Int):Option α:=(rY xs.length i).bind fun j=>xs[j]?
theorem DY {i:Int} (h:rY n i=some j):seqIndex? i n=some j/\j<n/\ -(n:Int)<=i/\i<n:=by
 unfold rY at h
 by_cases h0:0<=i
 ·rw[if_pos h0]at h
  by_cases h1:i<n
  ·rw[if_pos h1]at h
   have e:i.toNat=j:=Option.some.inj h
   exact⟨by rw[seqIndex_of h0 h1,e],by omega,by omega,h1⟩
  ·rw[if_neg h1]at h;cases h
 ·rw[if_neg h0]at h
  by_cases h1: -(n:Int)<=i
  ·rw[if_pos h1]at h
   have e:(i+n).toNat=j:=Option.some.inj h
   exact⟨by rw[seqIndex_neg (by omega) h1,e],by omega,h1,by omega⟩
  ·rw[if_neg h1]at h;cases h
theorem wU {xs:List α} {i:Int} {v:α} (h:nF xs i=some v):∃j,seqIndex? i xs.length=some j/\xs[j]? =some v/\j<xs.length/\ -(xs.length:Int)<=i/\i<xs.length:=by
 unfold nF at h
 cases e:rY xs.length i with
 |none=>rw[e]at h;cases h
 |some j=>
  rw[e]at h
  obtain⟨h1,h2,h3,h4⟩:=DY e
  exact⟨j,h1,h,h2,h3,h4⟩
theorem gA {xs:List α} {v:α} (h:xs[j]? =some v):nF xs (j:Int)=some v:=by
 have hj:j<xs.length:=(List.getElem?_eq_some_iff.mp h).1
 have e:rY xs.length (j:Int)=some j:=by
  unfold rY
  rw[if_pos (by omega),if_pos (by omega)];simp
 unfold nF;rw[e];exact h
noncomputable def RD (b:Expr):Prop:=∀o i,subscripted b false o i=operate [o,i] (getItem o i)
noncomputable def DC (X:Cx) (r:R2):Prop:=
 ∀(value slice:Expr) (pins:List (Addr×Obj)) (s:Shared) (σ:St) (H:Hp) (x y:V) (v u:Value) (Q:VK),Inv X pins σ H s->RelV x v->RelV y u->r x y H Q->
  subscripted slice false v u=operate [v,u] (getItem v u)->wpAny (model X.prog X.w) X.A (subscriptTail value slice v u) (EP X pins σ Q) X.xe s
noncomputable def YV (X:Cx) (id:String) (r:V->List V->Hp->VK->Prop):Prop:=
 ∀(pins:List (Addr×Obj)) (s:Shared) (σ:St) (H:Hp) (x:V) (xs:List V) (v:Value) (us:List Value) (Q:VK),Inv X pins σ H s->RelV x v->Vals xs us->r x xs H Q->
  wpAny (model X.prog X.w) X.A (call (.builtin id) (v::us)) (EP X pins σ Q) X.xe s
section
variable {X:Cx} {a b:Expr} {ta tb:TE} {pos:Pos}
theorem DC.or {r r':R2} (h:DC X r) (h':DC X r'):DC X (fun x y H Q=>r x y H Q\/ r' x y H Q):=by
 intro value slice pins s σ H x y v u Q I rx ry q hs
 rcases q with q|q
 ·exact h value slice pins s σ H x y v u Q I rx ry q hs
 ·exact h' value slice pins s σ H x y v u Q I rx ry q hs
theorem bA {r:R2} (hr:DC X r) (ha:PE X a ta) (hb:PE X b tb) (hs:RD b):PE X (.Subscript a b pos) (tOp r ta tb):=by
 intro pins s σ H Q I h
 exact Subscript_ (XA ha hb I h fun v u s2 x y H2 I2 rx ry q=>hr a b pins s2 σ H2 x y v u Q I2 rx ry q (hs _ _))
noncomputable def UU (K:Frag):R2:=fun x y H Q=>∃p xs i v,x= .ref p/\y= .int i/\iR K H p xs/\nF xs i=some v/\Q v H
noncomputable def X3 (K:Frag):R2:=fun x y H Q=>∃p xs i v,x= .ref p/\y= .int i/\nD K H p xs/\nF xs i=some v/\Q v H
noncomputable def Y2:R2:=fun x y H Q=>∃z i c,x= .str z/\y= .int i/\z.length<=sizeLine/\nF z.cps.toList i=some c/\Q (.str ⟨#[c]⟩) H
theorem RJ:DC X (UU X.K):=by
 intro value slice pins s σ H x y v u Q I rx ry h hs
 obtain⟨p,xs,i,z,rfl,rfl,hq,he,q⟩:=h
 cases rx
 obtain⟨t,rfl⟩:=ry
 obtain⟨its,r,pl,hz⟩:=I.list hq
 obtain⟨j,h1,h2,h3,h4,h5⟩:=wU he
 obtain⟨w,ew,rw'⟩:=r.get h2
 have hl:=r.length
 have hn:=oJ
 have fin:EP X pins σ Q w s:=⟨z,H,I,rw',q⟩
 by_cases h0:0<=i
 ·have hj:i.toNat=j:=by
   rw[seqIndex_of h0 h5]at h1
   exact Option.some.inj h1
  exact item_listR pl.isList h0 (by omega) (by rw[hj];simpa using ew) fin hs
 ·have hj:(i+(its.toArray.size:Int)).toNat=j:=by
   rw[seqIndex_neg (by omega) h4]at h1
   rw[size_toArray,<-hl]
   exact Option.some.inj h1
  exact subscriptTail_builtinR (x:=w) pl.isList.typeIs slot_list_getitem.lookup
   (wpAny_getItem_list_neg (Q:=fun r s'=>r=w/\EP X pins σ Q r s') pl.isList (by omega) (by rw[size_toArray]<;>omega) (by omega) (by rw[hj];simpa using ew) ⟨rfl,fin⟩) hs
theorem V4:DC X (X3 X.K):=by
 intro value slice pins s σ H x y v u Q I rx ry h hs
 obtain⟨p,xs,i,z,rfl,rfl,hq,he,q⟩:=h
 cases rx
 obtain⟨t,rfl⟩:=ry
 obtain⟨its,r,pl,hz⟩:=I.tuple hq
 obtain⟨j,h1,h2,h3,h4,h5⟩:=wU he
 obtain⟨w,ew,rw'⟩:=r.get h2
 have hl:=r.length
 have hn:=oJ
 have fin:EP X pins σ Q w s:=⟨z,H,I,rw',q⟩
 exact subscriptTail_builtinR (x:=w) pl.typeIs slot_tuple_getitem.lookup
  (getItem_tuple (j:=j) (Q:=fun r s'=>r=w/\EP X pins σ Q r s') pl (by omega) (by omega) (by rw[size_toArray,<-hl];exact h1) (by simpa using ew) ⟨rfl,fin⟩) hs
theorem XY:DC X Y2:=by
 intro value slice pins s σ H x y v u Q I rx ry h hs
 obtain⟨z,i,c,rfl,rfl,hz,he,q⟩:=h
 obtain⟨t,rfl⟩:=rx
 obtain⟨t',rfl⟩:=ry
 obtain⟨j,h1,h2,h3,h4,h5⟩:=wU he
 have hl:z.cps.toList.length=z.length:=by simp[Str.length]
 rw[hl]at h1 h4 h5
 have hn:=oJ
 exact tail_any (typeIs_str s z t) slot_str_getitem.lookup (getItem_str (c:=c) (by
  have e1:decide (i< -(2^63:Int))=false:=decide_eq_false (by omega)
  have e2:decide (i≥2^63)=false:=decide_eq_false (by omega)
  rw[e1,e2,Bool.or_false]) (by rw[h1];simpa using h2) ⟨.str ⟨#[c]⟩,H,I.tok _,⟨_,rfl⟩,q⟩) hs
theorem DT (its:List Value) (n j:Nat) (u:Value):Obj.mapSeq (·.setIfInBounds j u) {cls:=.type "list",data:=.seq its.toArray n}={cls:=.type "list",data:=.seq (its.set j u).toArray n}:=by
 simp[Obj.mapSeq]
theorem Inv.lst {p:Addr} (I:Inv X pins σ H s) (h:H p=some (.lst xs)):
  ∃(its:List Value) (n:Nat),Vals xs its/\s.heap.get? p=some {cls:=.type "list",data:=.seq its.toArray n}/\xs.length<=sizeLine:=by
 obtain⟨z,its,n,r,e⟩:=I.bN p _ h
 exact⟨its,n,r,e,z⟩
theorem Inv.V3 {p:Addr} {ys:List V} {n':Nat} {f:Obj->Obj} (I:Inv X pins σ H s) (h:H p=some (.lst xs))
  (ho:s.heap.get? p=some {cls:=.type "list",data:=.seq its.toArray n}) (hf:f {cls:=.type "list",data:=.seq its.toArray n}={cls:=.type "list",data:=.seq its'.toArray n'}) (r:Vals ys its') (hz:ys.length<=sizeLine) (t:Nat):
  Inv X pins σ (upd H p (.lst ys)) {s with heap:=s.heap.update p f,toks:=t}:=by
 have e:(s.heap.update p f).get? p=some {cls:=.type "list",data:=.seq its'.toArray n'}:=by
  rw[get?_update_self f ho (by rw[hf]<;>rfl),hf]
 refine I.write (x:=p) (e:=p) (by rw[h];trivial) (.inl rfl) (fun b u hb q=>(get?_update_other _ _ (Ne.symm hb)).trans q) ⟨_,e⟩ ?_
 exact⟨hz,its',n',r,e⟩
noncomputable def SQ:V->V->V->Hp->(Hp->Prop)->Prop:=fun o i v H Q=>∃p xs k j,o= .ref p/\i= .int k/\H p=some (.lst xs)/\rY xs.length k=some j/\Q (upd H p (.lst (xs.set j v)))
theorem set_list:Y5 X SQ:=by
 intro pins s σ H o i v ov iv u Q I ro ri rv h
 obtain⟨p,xs,k,j,rfl,rfl,hp,hj,q⟩:=h
 cases ro
 obtain⟨t,rfl⟩:=ri
 obtain⟨its,n,r,ho,hz⟩:=I.lst hp
 obtain⟨h1,h2,h3,h4⟩:=DY hj
 have hl:=r.length
 have hn:=oJ
 have I':Inv X pins σ (upd H p (.lst (xs.set j v))) {s with heap:=s.heap.update p (Obj.mapSeq (·.setIfInBounds j u))}:=
  I.V3 hp ho (DT its n j u) (r.set rv j) (by rw[length_set];exact hz) s.toks
 by_cases h0:0<=k
 ·have hk:k.toNat=j:=by
   rw[seqIndex_of h0 h4]at h1
   exact Option.some.inj h1
  exact PySem.W.ki_setAt ho h0 (by omega) (by rw[size_toArray,<-hl];exact h4) (by rw[hk];exact⟨_,I',q⟩)
 ·have hk:(k+(its.toArray.size:Int)).toNat=j:=by
   rw[seqIndex_neg (by omega) h3]at h1
   rw[size_toArray,<-hl]
   exact Option.some.inj h1
  exact PySem.W.ki_setBack ho (by omega) (by rw[size_toArray,<-hl];exact h3) (by omega) (by rw[hk];exact⟨_,I',q⟩)
theorem xJ (lo hi:Option Int) (n:Nat):(sliceBounds lo hi none n).1=((HT.eI n 0 lo:Nat):Int)/\(sliceBounds lo hi none n).2.1=((HT.eI n n hi:Nat):Int)/\(sliceBounds lo hi none n).2.2=1:=by
 refine⟨?_,?_,rfl⟩
 ·cases lo with
  |none=>simp[sliceBounds,HT.eI]
  |some i=>
   simp only[sliceBounds,HT.eI,getD_none,show(1:Int)>0 by decide,if_true]
   by_cases h:i<0
   ·simp only[h,if_true]<;>omega
   ·simp only[h,if_false]<;>omega
 ·cases hi with
  |none=>simp[sliceBounds,HT.eI]
  |some i=>
   simp only[sliceBounds,HT.eI,getD_none,show(1:Int)>0 by decide,if_true]
   by_cases h:i<0
   ·simp only[h,if_true]<;>omega
   ·simp only[h,if_false]<;>omega
theorem uL (its:List Value) (lo hi:Option Int):slicePick its.toArray lo hi none=((its.drop (HT.eI its.length 0 lo)).take (HT.eI its.length its.length hi - HT.eI its.length 0 lo)).toArray:=by
 obtain⟨h1,h2,h3⟩:=xJ lo hi its.toArray.size
 unfold slicePick
 rw[h1,h2,h3]
 simp only[sliceRange_one,pick_run,size_toArray]<;>rfl
noncomputable def XG (K:Frag):V->Option Int->Option Int->Hp->VK->Prop:=fun x lo hi H Q=>∃a xs,x= .ref a/\iR K H a xs/\∀p,H p=none->Q (.ref p) (upd H p (.lst (tD xs lo hi)))
theorem OL:F0 X (XG X.K):=by
 intro pins s σ H x v vl vu lo hi sl Q I rx hs pl pu h
 obtain⟨a,xs,rfl,hx,q⟩:=h
 cases rx
 obtain⟨its,r,ht,hz⟩:=I.list hx
 have hlen:=r.length
 refine⟨"list",_,slot_list_getitem.lookup,ht.isList.typeIs,?_⟩
 refine wpAny_getItem_list_slice ht.isList hs pl pu .none (by simp) ?_ (by rw[size_toArray]<;>omega)
 rw[uL,<-hlen]
 refine⟨.ref s.heap.objs.size,_,I.laid (t':=s.toks) (o:=.lst (tD xs lo hi)) (fun b ob q=>get?_push_of_some _ q) (le_refl _) ?_,rfl,q _ (I.bN.fresh (le_refl _))⟩
 exact⟨le_trans (qO xs lo hi) hz,_,0,(r.drop (HT.eI xs.length 0 lo)).take (HT.eI xs.length xs.length hi - HT.eI xs.length 0 lo),get?_push_size _ rfl⟩
theorem yU:cD X (.builtin "len") (fun xs H Q=>∃p ys,xs=[.ref p]/\(iR X.K H p ys\/ nD X.K H p ys)/\Q (.int ys.length) H):=by
 intro pins s σ H xs us Q I r h
 obtain⟨p,ys,rfl,hq,q⟩:=h
 obtain⟨u,rfl,rx⟩:=vals1 r
 cases rx
 have hn:=oJ
 rcases hq with hq|hq
 ·obtain⟨its,r',pl,hz⟩:=I.list hq
  have hlen:=r'.length
  exact Calls.call_len_list pl.isList (by simp only[size_toArray]<;>omega) ⟨.int ys.length,H,I.tok _,⟨s.toks+1,by rw[size_toArray,hlen]⟩,q⟩
 ·obtain⟨its,r',pl,hz⟩:=I.tuple hq
  have hlen:=r'.length
  exact len_tuple pl (by simp only[size_toArray]<;>omega) ⟨.int ys.length,H,I.tok _,⟨s.toks+1,by rw[size_toArray,hlen]⟩,q⟩
theorem yR:cD X (.builtin "len") (fun xs H Q=>∃z,xs=[.str z]/\z.length<=sizeLine/\Q (.int z.length) H):=by
 intro pins s σ H xs us Q I r h
 obtain⟨z,rfl,hz,q⟩:=h
 obtain⟨u,rfl,t,rfl⟩:=vals1 r
 have hn:=oJ
 exact len_str (by omega) ⟨.int z.length,H,I.tok _,⟨_,rfl⟩,q⟩
theorem cD.or {f:Value} {r r':List V->Hp->VK->Prop} (h:cD X f r) (h':cD X f r'):cD X f (fun xs H Q=>r xs H Q\/ r' xs H Q):=by
 intro pins s σ H xs us Q I rs q
 rcases q with q|q
 ·exact h pins s σ H xs us Q I rs q
 ·exact h' pins s σ H xs us Q I rs q
theorem xQ:cD X (.type "list") (fun xs H Q=>∃p ys,xs=[.ref p]/\(iR X.K H p ys\/ nD X.K H p ys)/\∀l,H l=none->Q (.ref l) (upd H l (.lst ys))):=by
 intro pins s σ H xs us Q I r h
 obtain⟨p,ys,rfl,hq,q⟩:=h
 obtain⟨u,rfl,rx⟩:=vals1 r
 cases rx
 have fin:∀(its:List Value),Vals ys its->ys.length<=sizeLine->∀(h':Heap) (c':Nat),(∀b o',s.heap.get? b=some o'->h'.get? b=some o')->
   h'.get? s.heap.objs.size=some {cls:=.type "list",dict:=none,data:=.seq its.toArray c',slots:= #[]}->EP X pins σ Q (.ref s.heap.objs.size) {s with heap:=h'}:=fun its r' hz h' c' kp e=>
  ⟨.ref s.heap.objs.size,_,I.laid (t':=s.toks) kp (le_refl _) (show c9 X.prog X.w _ h' _ (.lst ys)from⟨hz,its,c',r',e⟩),rfl,q _ (I.bN.fresh (le_refl _))⟩
 rcases hq with hq|hq
 ·obtain⟨its,r',pl,hz⟩:=I.list hq
  have hlen:=r'.length
  obtain⟨o,ho,hc,n,hd⟩:=pl.isList
  exact call_list_seq p (.inl rfl) ho hc hd (fun h' c' kp e=>fin its r' hz h' c' kp e) (by simp only[size_toArray]<;>omega)
 ·obtain⟨its,r',pl,hz⟩:=I.tuple hq
  have hlen:=r'.length
  obtain⟨o,ho,hc,n,hd⟩:=pl
  exact call_list_seq p (.inr rfl) ho hc hd (fun h' c' kp e=>fin its r' hz h' c' kp e) (by simp only[size_toArray]<;>omega)
theorem uG:cD X (.type "tuple") (fun xs H Q=>∃p ys,xs=[.ref p]/\((iR X.K H p ys/\∀l,H l=none->Q (.ref l) (upd H l (.tup ys)))\/ (nD X.K H p ys/\Q (.ref p) H))):=by
 intro pins s σ H xs us Q I r h
 obtain⟨p,ys,rfl,h⟩:=h
 obtain⟨u,rfl,rx⟩:=vals1 r
 cases rx
 rcases h with⟨hq,q⟩|⟨hq,q⟩
 ·obtain⟨its,r',pl,hz⟩:=I.list hq
  have hlen:=r'.length
  refine call_tuple_list pl.isList (fun h' kp=>?_) (by simp only[size_toArray]<;>omega)
  have I1:Inv X pins σ H {s with heap:=h'}:=I.kept (t':=s.toks) kp
  have I2:Inv X pins σ (upd H h'.objs.size (.tup ys)) {s with heap:=h'.push {cls:=.type "tuple",data:=.seq its.toArray}}:=
   I1.laid (t':=s.toks) (fun b o e=>get?_push_of_some _ e) (le_refl _) (show c9 X.prog X.w _ _ _ (.tup ys)from⟨hz,its,r',pP.new _ _⟩)
  exact⟨.ref h'.objs.size,_,I2,rfl,q _ (I1.bN.fresh (le_refl _))⟩
 ·obtain⟨its,r',pl,hz⟩:=I.tuple hq
  exact call_tuple_same pl ⟨.ref p,H,I,rfl,q⟩
noncomputable def tyV (K:Frag) (T:String) (x:V) (H:Hp):Prop:=match x with
 | .str _=>T="str"
 | .int _=>T="int"
 | .ref p=>(T="list"/\∃xs,iR K H p xs)\/ (T="tuple"/\∃o,K.lookup p=some o/\o.cls= .type "tuple"/\o.dict=none)\/
   (T="dict"/\((∃kvs ep,H p=some (.dK kvs ep))\/ ∃kvs,H p=some (.dT kvs)))\/ (T="set"/\∃S n,H p=some (.set S n))
 |_=>False
theorem XT {T:String} {x:V} {v:Value} (I:Inv X pins σ H s) (r:RelV x v) (ty:tyV X.K T x H):
  s.TypeIs v T/\∀a,v= .ref a->∃ob,s.heap.get? a=some ob/\ob.dict=none:=by
 cases x with
 |str z=>
  obtain⟨t,rfl⟩:=r
  cases(show T="str"from ty)
  exact⟨typeIs_str s z t,fun _ e=>nomatch e⟩
 |int i=>
  obtain⟨t,rfl⟩:=r
  cases(show T="int"from ty)
  exact⟨typeIs_int s i t,fun _ e=>nomatch e⟩
 | ref p=>
  cases r
  rcases ty with⟨rfl,xs,hq⟩|⟨rfl,o,hk,hc,hd⟩|⟨rfl,hk⟩|⟨rfl,S,n,hk⟩
  ·obtain⟨its,_,pl,_⟩:=I.list hq
   refine⟨pl.isList.typeIs,fun a e=>?_⟩
   cases e
   obtain⟨o,n,e,c,hd,_⟩:=pl
   exact⟨o,e,hd⟩
  ·refine⟨⟨o,I.HU p o hk,hc⟩,fun a e=>?_⟩
   cases e
   exact⟨o,I.HU _ o hk,hd⟩
  ·have z:∃o,s.heap.get? p=some o/\o.ExactDict:=by
    rcases hk with⟨kvs,ep,hk⟩|⟨kvs,hk⟩
    ·obtain⟨_,_,_,_,o,_,e,ex,_⟩:=I.bN p _ hk
     exact⟨o,e,ex⟩
    ·obtain⟨_,_,_,_,o,_,_,e,ex,_⟩:=I.bN p _ hk
     exact⟨o,e,ex⟩
   obtain⟨o,e,ex⟩:=z
   refine⟨⟨o,e,ex.1⟩,fun a e2=>?_⟩
   cases e2
   exact⟨o,e,ex.2.1⟩
  ·obtain⟨o,_,_,_,e,ex,_⟩:=I.bN p _ hk
   refine⟨⟨o,e,ex.1⟩,fun a e2=>?_⟩
   cases e2
   exact⟨o,e,ex.2.1⟩
 |_=>exact False.elim ty
noncomputable def YN (K:Frag) (T:String) (r:V->List V->Hp->VK->Prop) (to:TE) (t:TA):TE:=fun σ H Q=>to σ H fun x H1=>tyV K T x H1/\t σ H1 fun xs H2=>r x xs H2 Q
variable {o e:Expr} {es:List Expr} {to:TE} {t:TA} {name:Str} {apos cpos:Pos} {T id:String} {r:V->List V->Hp->VK->Prop}
theorem aa6 (pa:PlainAttrs T) (slot:Slot T name id) (hty:typeOf (.builtin id)=pure (.type "method_descriptor")) (hm:YV X id r) (ho:PE X o to) (ha:PA X (e::es) t)
  (hbase:attributeBase o name X.env (eval o X.env)=eval o X.env:=by rfl)
  (hfew:((backTo cpos (starEach (e::es) X.env)).all (fun x=>!x.1) && (backToKw cpos (keywordEach [] X.env)).all (fun x=>x.1.isSome)
   && decide ((e::es).length+([]:List Keyword).length+(if([]:List Keyword).isEmpty then 0 else 1)<30))=true:=by rfl)
  (hline:(apos.endLine==cpos.line)=true:=by rfl) (hs:starEach (e::es) X.env=(false,eval e X.env)::starEach es X.env:=by rfl) (hplain:(backTo cpos (starEach es X.env)).any (·.1)=false:=by rfl):
  PE X (.Call (.Attribute o name apos) (e::es) [] cpos) (YN X.K T r to t):=by
 intro pins s σ H Q I h
 refine wpAny_Call_method_late hbase hfew hline rfl (cM (ho pins s σ H _ I h) fun v s1 ⟨x,H1,I1,r1,ty,q1⟩=>?_)
 obtain⟨h1,h2⟩:=XT I1 r1 ty
 refine⟨T,id,pa,slot,hty,h1,h2,?_⟩
 have hA:=ha cpos pins s1 σ H1 _ I1 q1
 rw[hs]at hA⊢
 refine Calls.callWith_builtin (by show(false||(backTo cpos (starEach es X.env)).any (·.1))=false;rw[hplain]<;>rfl) (Calls.evalArgs_plain ?_)
 exact cM hA fun us s2 ⟨vs,H2,I2,r2,q2⟩=>hm pins s2 σ H2 x vs v us Q I2 r1 r2 q2
end
noncomputable def MtM (X:Cx) (id:String) (r:V->List V->Hp->VK->Prop):Prop:=
 ∀(pins:List (Addr×Obj)) (s:Shared) (σ:St) (H:Hp) (x:V) (xs:List V) (v:Value) (us:List Value) (Q:VK),Inv X pins σ H s->RelV x v->Vals xs us->r x xs H Q->
  wpAny (model X.prog X.w) X.A (call (.builtin id) (v::us)) (EP X pins σ Q) X.xe s
theorem Vals.one:∀{x:V} {us:List Value},Vals [x] us->∃u,us=[u]/\RelV x u
 |_,_,.cons r .nil=>⟨_,rfl,r⟩
section
variable {X:Cx} {pins:List (Addr×Obj)} {σ:St} {H:Hp} {s:Shared} {l b:Addr} {xs ys zs:List V}
theorem Inv.ac0 {f:Array Value->Array Value} {t':Nat} (I:Inv X pins σ H s) (hH:H l=some (.lst xs))
  (e:s.heap.get? l=some {cls:=.type "list",data:=.seq its.toArray n}) (hf:f its.toArray=its'.toArray) (hv:Vals ys its') (hz:ys.length<=sizeLine):
  Inv X pins σ (upd H l (.lst ys)) {s with heap:=s.heap.update l (Obj.mapSeq f),toks:=t'}:=by
 have q:=PySem.IsL.update e f
 rw[hf]at q
 refine I.write (x:=l) (e:=l) (by rw[hH];exact trivial) (.inl rfl) (fun b' u hb hu=>(get?_update_other s.heap (Obj.mapSeq f) (Ne.symm hb)).trans hu) ⟨_,q⟩ ?_
 exact⟨hz,its',_,hv,q⟩
theorem Inv.abR (I:Inv X pins σ H s) (hH:H l=some (.lst xs)):xs.length<=sizeLine/\∃(its:List Value) (n:Nat),Vals xs its/\xs.length=its.length/\s.heap.get? l=some {cls:=.type "list",data:=.seq its.toArray n}:=by
 obtain⟨z,its,n,r,e⟩:=I.bN l _ hH
 exact⟨z,its,n,r,r.length,e⟩
end
section
variable {X:Cx}
noncomputable def rR:V->List V->Hp->VK->Prop:=fun x vs H Q=>∃l xs y,x= .ref l/\vs=[y]/\H l=some (.lst xs)/\xs.length<sizeLine/\Q .aY (upd H l (.lst (xs++[y])))
theorem e9:MtM X "list.append" rR:=by
 intro pins s σ H x vs v us Q I rx rv h
 obtain⟨l,xs,y,rfl,rfl,hH,hz,q⟩:=h
 cases rx
 obtain⟨u,rfl,ru⟩:=rv.one
 obtain⟨z,its,n,r,hl,e⟩:=I.abR hH
 refine call_meets F.slot_list_append ⟨_,e,rfl⟩ F.entry_list_append (F.args_list_append_2 _ _) (PySem.list_append l its.toArray n u (by rw[size_toArray];omega)) ⟨e,?_⟩
 refine⟨.aY,_,I.ac0 (its':=its++[u]) hH e (by simp) (r.append (.cons ru .nil)) ?_,rfl,q⟩
 rw[length_append,List.length_singleton]
 omega
end
end L2
namespace Att
open PySem PySem.W PySem.Calls PyProof.Rows
variable {h:Heap} {n:Nat} {l:OpenLaw} {P:Params}
theorem rG:∀(ns:List Int) (vs:List Value),WellAll P h vs (ns.map WData.int)->IntsAre vs ns:=by
 intro ns
 induction ns with
 |nil=>
  intro vs w
  rw[map_nil]at w
  cases w
  exact .nil
 | cons n ns ih=>
  intro vs w
  rw[map_cons]at w
  cases w with
  |cons a b=>
   cases a
   exact .cons _ _ (ih _ b)
theorem G1 (hn:l.most=some n) {args:List WData} {vals:List Value}
  (hpre:l.row.toRowW.claim.pre args=true) (hwl:WellAll P h vals args):
  ∃a vs ns,vals=[Value.ref a]/\args=[WData.list (ns.map WData.int)]/\h.get? a=some {cls:=.type "list",data:=.seq vs.toArray}/\IntsAre vs ns/\ns.length<=n:=by
 have hsh:WShape.hasAll [] args [.list .int]=true:=(pre_splitW hpre).1
 have hc:l.pre.holds [] {args:=args}=true:=(pre_splitW hpre).2
 obtain⟨d,r,rfl,h1,h2⟩:=hasAllW_cons hsh
 obtain rfl:=hasAllW_nil h2
 obtain⟨xs,rfl,h3⟩:=hasW_list h1
 obtain⟨ns,rfl⟩:=items_int h3
 have hlen:ns.length<=n:=by
  unfold OpenLaw.pre at hc
  have h4:(WTm.not (.lt (.lit (.int (n:Int))) (.len (.arg 0)))).holds [] {args:=[.list (ns.map .int)]}=true:=by
   have h4:=(holds_andW hc).1
   rw[hn]at h4
   exact h4
  have h5:=condW_of h4 (w_not (w_lt w_lit (w_len_list (w_arg rfl))))
  rw[length_map]at h5
  refine Nat.le_of_not_lt fun q=>?_
  have q':(n:Int)<((ns.length:Nat):Int):=by omega
  first
   |(rw[decide_eq_true q']at h5;exact absurd h5 (by decide))
   |(simp at h5;omega)
 cases hwl with
 |cons w1 w2=>
  cases w2
  cases w1 with
  |list ho hall=>exact⟨_,_,ns,rfl,rfl,ho,rG ns _ hall,hlen⟩
theorem GI (l:OpenLaw) (args:List WData):l.row.toRowW.claim.post args (.bool true) args=true:=
 postW_of (r:=l.row.toRowW) (X:=(true==true))
  (show WShape.has [] (.bool true) .bool=true by first|rfl|decide|simp[WShape.has,WShape.arms,WShape.armsAll])
  (show(WTm.eq .res (.lit (.bool true))).value [] {args:=args,res:=some (.bool true),after:=args}=some (.bool (true==true))from w_eq_bool (w_res rfl) w_lit) rfl
theorem y8 {q:Program} {loose:List Str} {XP:(Str->Option Value)->Heap->Prop} {YP:World->Heap->Prop} {d:DefRec}
  (hn:l.most=some n) (hdf:d.params.defaults=[])
  (call:∀(w:World) (iN s₁:Shared) (mg mb:Str->Option Value) (fa:Addr) (o:Obj) (pm cd doc:Value) (a:Addr) (vs:List Value) (ns:List Int),
   Ground q loose [] XP w iN mg mb s₁.heap->YP w s₁.heap->
   s₁.heap.get? fa=some o->o.data= .func (docDef d.name d.params d.body d.scope pm cd doc)->s₁.heap.CodeRec cd d.name->mg d.name=some (.ref fa)->
   s₁.heap.get? a=some {cls:=.type "list",data:=.seq vs.toArray}->IntsAre vs ns->ns.length<=n->s₁.gens= #[]->
   codeAny (model l.prog w) callerA (.call (.ref fa) ⟨[.ref a],[]⟩) (fun r s'=>r= .ok (.ret (.bool true))/\OldK s₁.heap s'.heap/\s'.os=s₁.os/\AllBare s'.gens) s₁):
  WalkO q loose XP YP l.row.toRowW d [] (fun f vs=>PySem.call f vs):=by
 intro w iN s₁ mg mb G Y fa o pm cd doc dV kV ho hd hcd hD hmg hg args vals as hpre hlay hrd hwl hlo
 obtain rfl:dV= .none:=Dflts.none hD hdf
 obtain rfl:kV= .none:=Dflts.noKw hD
 obtain⟨a,vs,ns,rfl,rfl,hobj,hints,hlen⟩:=G1 hn hpre hwl
 refine enter_call (codeAny_mono (call w iN s₁ mg mb fa o pm cd doc a vs ns G Y ho (fd_plain hd) hcd hmg hobj hints hlen hg) fun r s' hq=>?_)
 obtain⟨rfl,h2,h3,h4⟩:=hq
 exact⟨.inl ⟨.bool true,.bool true,[],rfl,fun _=>rfl,.bool true,GI l _,fun _=>⟨List.Pairwise.nil,fun _ hm=>(nomatch hm)⟩⟩,h2,h3,h4⟩
end Att
namespace L2
open PySem PySem.Spec PyProof.Rows
variable {f:Addr} {fd:FuncData} {ps:List Str} {k:Nat} {sp:Sp} {qual x:Str}
theorem vV:∀{vs:List Value} {ns:List Int},IntsAre vs ns->Vals (ns.map V.int) vs
 |_,_,.nil=>.nil
 |_,_,.cons n t h=>.cons ⟨t,rfl⟩ (vV h)
noncomputable def U9 (H:Hp):Prop:=∀b,H b=none\/ ∃o xs,H b=some (.NU o (.lst xs))
theorem MX {P:Program} {w:World} {K:Frag} {mg mb:Str->Option Value} {CX:IE} {fa a:Addr} {s₁:Shared} {vs:List Value} {ns:List Int}
  (KX:K.In s₁.heap) (hns:s₁.heap.Ns mainGlobals mg) (hb:s₁.heap.Ns builtinsNs mb) (hbb:∀x:Str,x≠"__name__"->mb x=bootBuiltins x) (hlim:s₁.heap.NoLimit) (hg:s₁.gens= #[])
  (ha:s₁.heap.get? a=some {cls:=.type "list",data:=.seq vs.toArray}) (hi:IntsAre vs ns) (hl:ns.length<=sizeLine) (hr:dB k callerA)
  (F:∀base:Heap,K.In base->base.Ns mainGlobals mg->pM P w K mg base CX k fa fd [x] sp) (hbind:∀(s:Shared) (u:Value),BindsTo s fd ⟨[u],[]⟩ [(x,u)])
  (hsp:∀H:Hp,U9 H->iR K H a (ns.map V.int)->sp [.ref a] H (fun v _=>v= .bl true) fun _ _ _=>False)
  (hCX:∀H e s',CX [] H s₁ (fun _ _ _=>False) e s'->False):
  codeAny (model P w) callerA (.call (.ref fa) ⟨[.ref a],[]⟩) (fun r s'=>r= .ok (.ret (.bool true))/\OldK s₁.heap s'.heap/\s'.os=s₁.os/\AllBare s'.gens) s₁:=by
 have rv:=vV hi
 have lenV:=hi.length
 have core:∀H:Hp,U9 H->iR K H a (ns.map V.int)->mX P w H s₁.heap->(∀b,H b≠none->b=a)->(H a≠none->K.lookup a=none)->
   codeAny (model P w) callerA (.call (.ref fa) ⟨[.ref a],[]⟩) (fun r s'=>r= .ok (.ret (.bool true))/\OldK s₁.heap s'.heap/\s'.os=s₁.os/\AllBare s'.gens) s₁:=by
  intro H hO hS bN hA hK
  have base_of:∀{b:Addr} {o:Obj},s₁.heap.get? b=some o->H b=none->(yP s₁.heap H).get? b=some o:=fun e n=>IK e n
  have cR:∀{b:Addr} {o:Obj} {es:Array DictEntry} {ep:Nat},s₁.heap.get? b=some o->o.data= .dict es ep->H b=none:=fun{b o es ep} e d=>by
   cases q:H b with
   |none=>rfl
   |some u=>
    have e':b=a:=hA b (by rw[q];simp)
    subst e'
    rw[ha]at e;cases e
    have d':Data.seq vs.toArray _=Data.dict es ep:=d
    cases d'
  have nsK:∀{b:Addr} {m:Str->Option Value},s₁.heap.Ns b m->(yP s₁.heap H).Ns b m:=fun{b m} ⟨o,es,ep,e,d,r⟩=>⟨o,es,ep,base_of e (cR e d),d,r⟩
  have hKb:K.In (yP s₁.heap H):=fun b o e=>base_of (KX b o e) (by
   cases q:H b with
   |none=>rfl
   |some u=>
    have e':b=a:=hA b (by rw[q];simp)
    subst e'
    rw[hK (by rw[q];simp)]at e;cases e)
  have hM:Mod K mg (yP s₁.heap H):=⟨hKb,nsK hns,⟨mb,nsK hb,hbb⟩,let⟨mc,h1,h2⟩:=hlim;⟨mc,nsK h1,h2⟩⟩
  have e0:PX P w K mg (yP s₁.heap H) callerA [] s₁ H:=⟨rfl,hM,fun b o e=>N9 e,Nat.le_of_eq (GK _ _),trivial,fun b hb=>absurd (show b∈([]:List Addr)from hb) (by simp),bN,.of_eq hg⟩
  refine codeAny_mono ((F _ hKb (nsK hns)).run callerA [] s₁ H ⟨[.ref a],[]⟩ [.ref a] [.ref a] _ _ hr e0 (hbind s₁ (.ref a)) (.cons rfl .nil) (hsp H hO hS)) fun r s' h=>?_
  cases r with
  |error e=>exact(hCX H e s' h).elim
  | ok fl=>
   cases fl with
   |next=>exact False.elim h
   |brk=>exact False.elim h
   |cont=>exact False.elim h
   | ret u=>
    obtain⟨v,H',os,bare,un,hok',r',q⟩:=h
    have q':v= .bl true:=q
    subst q'
    obtain rfl:u=Value.bool true:=r'
    refine⟨rfl,OldK.of_keep fun b o e=>?_,os,bare⟩
    cases q:H b with
    |none=>exact un.keep b o e q (by intro z;exact absurd (show b∈([]:List Addr)from z) (by simp)) (by simp)
    | some u=>
     rcases hO b with z|⟨ob,xs,z⟩
     ·rw[q]at z;cases z
     ·have z2:=un.sJ b ob _ z
      obtain⟨e1,_⟩:=bN b _ z
      obtain⟨e2,_⟩:=hok' b _ z2
      rw[e]at e1;cases e1
      exact e2
 cases hk:K.lookup a with
 |some o=>
  have e:=KX a o hk
  rw[ha]at e
  cases e
  refine core (fun _=>none) (fun _=>.inl rfl) (.inr ⟨_,vs.toArray,_,hk,rfl,rfl,rfl,by rw[size_toArray,lenV];exact hl,by simpa using rv⟩) (fun b u z=>by have z':(none:Option HO)=some u:=z;cases z') (fun b z=>absurd rfl z) fun z=>absurd rfl z
 | none=>
  refine core (fun b=>if b=a then some (.NU {cls:=.type "list",data:=.seq vs.toArray} (.lst (ns.map V.int)))else none) (fun b=>?_) (.inl (.inr ⟨{cls:=.type "list",data:=.seq vs.toArray},if_pos rfl⟩)) (fun b u z=>?_) (fun b z=>?_) fun _=>hk
  ·by_cases hb:b=a
   ·exact .inr ⟨_,_,if_pos hb⟩
   ·exact .inl (if_neg hb)
  ·by_cases hb:b=a
   ·have z':=(if_pos hb).symm.trans z
    cases z'
    subst hb
    exact⟨ha,by rw[length_map];exact hl,vs,_,rv,ha⟩
   ·have z':=(if_neg hb).symm.trans z
    cases z'
  ·by_cases hb:b=a
   ·exact hb
   ·exact absurd (if_neg hb) z
theorem PK {l:PySem.W.OpenLaw} {n:Nat} {q:Program} {loose:List Str} {XP:(Str->Option Value)->Heap->Prop} {YP:World->Heap->Prop} {d:DefRec} {K:Params->Frag} {CX:World->IE} {sp:World->Sp}
  (hn:l.most=some n) (hn2:n<=sizeLine) (hdf:d.params.defaults=[]) (hr:dB k callerA)
  (hY:∀(w:World) (h:Heap),YP w h->(K w.params).In h)
  (F:∀(w:World) (mg:Str->Option Value) (fa:Addr) (h:Heap),(K w.params).In h->h.Ns mainGlobals mg->mg d.name=some (.ref fa)->
   ∃fd:FuncData,(∀(s:Shared) (u:Value),BindsTo s fd ⟨[u],[]⟩ [(x,u)])/\
    ∀base:Heap,(K w.params).In base->base.Ns mainGlobals mg->pM l.prog w (K w.params) mg base (CX w) k fa fd [x] (sp w))
  (hsp:∀(w:World) (H:Hp) (a:Addr) (ns:List Int),ns.length<=n->U9 H->iR (K w.params) H a (ns.map V.int)->sp w [.ref a] H (fun v _=>v= .bl true) fun _ _ _=>False)
  (hCX:∀(w:World) (H:Hp) (s:Shared) (e:Value) (s':Shared),CX w [] H s (fun _ _ _=>False) e s'->False):
  PySem.W.WalkO q loose XP YP l.row.toRowW d [] (fun f vs=>PySem.call f vs):=by
 refine Att.y8 hn hdf fun w iN s₁ mg mb fa o pm cd doc a vs ns G Y ho hd hcd hmg hobj hints hlen hg=>?_
 have KX:=hY w _ Y
 obtain⟨fd,hb,hF⟩:=F w mg fa _ KX G.T.g hmg
 exact MX KX G.T.g G.T.b G.T.builtins G.T.nolimit hg hobj hints (le_trans hlen hn2) hr hF hb (fun H hO hS=>hsp w H a ns hlen hO hS) fun H e s'=>hCX w H s₁ e s'
noncomputable def fY (s:Stmt):Arguments:=match s with
 | .FunctionDef _ a _ _ _ _ _ _ _ _=>a
 |_=>{posonlyargs:=[],args:=[],vararg:=none,kwonlyargs:=[],kw_defaults:=[],kwarg:=none,defaults:=[]}
noncomputable def eU (s:Stmt):List Stmt:=match s with
 | .FunctionDef _ _ b _ _ _ _ _ _ _=>b
 |_=>[]
noncomputable def aX (s:Stmt):Scope:=match s with
 | .FunctionDef _ _ _ _ _ _ sc _ _ _=>sc
 |_=>{kind:=.function,names:=[],isGenerator:=false,isCoroutine:=false}
noncomputable abbrev NT:IE:=fun _ _ _ _ _ _=>False
noncomputable abbrev E0:XK:=fun _ _ _=>False
theorem Y6 {X:Cx}:Passes NT X E0:=fun _ _ _ _ _ _ _ h=>h.elim
structure YB (K:Frag) (x qual:Str) (st:Stmt) (f:Addr) (fd:FuncData):Prop where
 ex:∃(oc:Value) (od:Option Addr) (kV doc pm:Value) (an:Option Addr) (cdv ct:Value) (osl:Array (Option Value)),
  fd=fnOf x qual (fY st) (eU st) (aX st) .none kV doc pm an cdv ct/\K.lookup f=some ⟨oc,od,.func fd,osl⟩/\codeIn K cdv qual=true
 kp:keepIn K (.ref f)=true
section
variable {P:Program} {w:World} {K:Frag} {mg:Str->Option Value} {base:Heap}
theorem YB.ok {st:Stmt} {N:List Str} (F:YB K x qual st f fd) (S:oV N ps (aX st)) (len:∀vs H Q E,sp vs H Q E->vs.length=ps.length)
  (hbody:∀(cdv:Value) (A:Around) (outer:List Env) (s:Shared) (H:Hp) (vs:List V) (Q:VK) (E:XK),dB k (A.deeper (envOfC qual (aX st) s.heap.objs.size f cdv))->sp vs H Q E->
   ∃t,EL (CB NT P w K mg base N qual (aX st) f cdv A outer s H E).ZC (eU st) t/\t {nx:=fun _ H'=>Q .aY H',rt:=Q} (start N vs) H):pM P w K mg base NT (k+1) f fd ps sp:=by
 obtain⟨oc,od,kV,doc,pm,an,cdv,ct,osl,rfl,lk,hcd⟩:=F.ex
 refine Z2 lk hcd S len fun A outer s H vs Q E hr hsp=>?_
 obtain⟨t,h,q⟩:=hbody cdv A outer s H vs Q E hr hsp
 exact⟨t,h.ZC,q⟩
theorem YB.binds {st:Stmt} (F:YB K x qual st f fd)
  (h:∀(kV doc pm:Value) (an:Option Addr) (cdv ct:Value) (us:List Value),us.length=ps.length->bindArgs (fnOf x qual (fY st) (eU st) (aX st) .none kV doc pm an cdv ct) ⟨us,[]⟩=pure (ps.zip us)):Binds K fd ps []:=by
 obtain⟨oc,od,kV,doc,pm,an,cdv,ct,osl,rfl,lk,hcd⟩:=F.ex
 exact .all (h kV doc pm an cdv ct)
theorem VL {st:Stmt} {oc:Value} {od an:Option Addr} {osl:Array (Option Value)} {kV doc pm cdv ct:Value} (l:K.lookup f=some ⟨oc,od,.func (fnOf x qual (fY st) (eU st) (aX st) .none kV doc pm an cdv ct),osl⟩)
  (c:codeIn K cdv qual=true) (k:keepIn K (.ref f)=true):YB K x qual st f (fnOf x qual (fY st) (eU st) (aX st) .none kV doc pm an cdv ct):=⟨⟨oc,od,kV,doc,pm,an,cdv,ct,osl,rfl,l,c⟩,k⟩
end
theorem gN {A:Around} (hr:dB k A):A.units+1<cLine:=Nat.lt_of_le_of_lt (Nat.add_le_add_left (by decide:1<=64) _) hr.units
section
variable {X:Cx}
theorem pv (i:Nat) {pos:Pos} (hN:X.N[i]? =some x:=by rfl) (hv:Vis X.env.scope x:=by first|exact Or.inl rfl|exact Or.inr (Or.inl rfl)|exact Or.inr (Or.inr rfl)) (hd:(x==("__debug__":Str))=false:=by decide)
  (hcd:(x==("__classdict__":Str))=false:=by decide):PE X (.Name x pos) (xK i):=YE hN hv hd hcd
end
noncomputable def aZ (H H':Hp):Prop:=∀b o,H b=some o->H' b=some o
theorem aZ.refl (H:Hp):aZ H H:=fun _ _ h=>h
end L2
set_option maxHeartbeats 4000000
namespace L2
open PySem PySem.Spec PyProof.Rows
variable {C:Addr} {X:Cx} {env:Env} {tg:Expr} {H H2:Hp} {pins:List (Addr×Obj)} {cl:List (Str×Addr)} {fp:List Addr} {P:Program} {K:Frag} {scope:Scope} {s2:Shared} {σ:St} {w:World}
theorem oG:∀(names:List (Str×NameKind)) (acc:List (Str×Addr)),(∀p∈names,p.2= .free->∃c,env.cells.lookup p.1=some c)->
  (∀y c,acc.lookup y=some c->env.cells.lookup y=some c)->
  ∃cl,(forIn names acc (fun(p:Str×NameKind) (cs:List (Str×Addr))=>if(p.2==NameKind.free)=true then(do let a<-cellOf env p.1;pure (ForInStep.yield ((p.1,a)::cs)))else(pure (ForInStep.yield cs):Sem _)):Sem _)=pure cl/\
   (∀y c,cl.lookup y=some c->env.cells.lookup y=some c)/\(∀y,(acc.lookup y).isSome=true->(cl.lookup y).isSome=true)/\∀y,(y,NameKind.free)∈names->(cl.lookup y).isSome=true
 |[],acc,_,h=>⟨acc,rfl,h,fun _ z=>z,fun _ z=>nomatch z⟩
 | (n,k)::r,acc,hf,h=>by
  by_cases hk:k= .free
  ·subst hk
   obtain⟨c,hc⟩:=hf (n,.free) mem_cons_self rfl
   obtain⟨cl,e,h1,h2,h3⟩:=oG r ((n,c)::acc) (fun p hp=>hf p (mem_cons_of_mem _ hp)) (fun y d hd=>by
    rw[lookup_cons]at hd
    cases q:y==n with
    |true=>rw[q]at hd;cases hd;rw[eq_of_beq q];exact hc
    |false=>rw[q]at hd;exact h y d hd)
   refine⟨cl,?_,h1,fun y hy=>h2 y ?_,fun y hy=>?_⟩
   ·rw[List.forIn_cons]
    have e0:cellOf env n=pure c:=by unfold cellOf;rw[hc]
    simp only[beq_self_eq_true,if_true,e0,pure_bind]
    exact e
   ·rw[lookup_cons]
    cases q:y==n with
    |true=>rfl
    |false=>exact hy
   ·rcases mem_cons.mp hy with q|q
    ·cases q
     refine h2 n ?_
     rw[lookup_cons,beq_self_eq_true]
     rfl
    ·exact h3 y q
  ·obtain⟨cl,e,h1,h2,h3⟩:=oG r acc (fun p hp=>hf p (mem_cons_of_mem _ hp)) h
   refine⟨cl,?_,h1,h2,fun y hy=>?_⟩
   ·rw[List.forIn_cons]
    have e0:(k==NameKind.free)=false:=by simpa using hk
    simp only[e0,false_eq_true,if_false,pure_bind]
    exact e
   ·rcases mem_cons.mp hy with q|q
    ·cases q;exact absurd rfl hk
    ·exact h3 y q
theorem jD {env:Env} {scope:Scope} (hf:∀p∈scope.names,p.2= .free->∃c,env.cells.lookup p.1=some c):
  ∃cl,closureFor scope env=pure cl/\(∀y c,cl.lookup y=some c->env.cells.lookup y=some c)/\∀y,(y,NameKind.free)∈scope.names->(cl.lookup y).isSome=true:=by
 obtain⟨cl,e,h1,_,h3⟩:=oG (env:=env) scope.names [] hf (fun y c h=>by simp at h)
 refine⟨cl,?_,h1,h3⟩
 unfold closureFor
 have e':=congrArg (fun m:Sem (List (Str×Addr))=>m>>=fun cs=>pure cs) e
 simp only[pure_bind]at e'
 rw[<-e']
structure YD where
 cl:List (Str×Addr)
 C:Addr
 s:Shared
 H:Hp
 ex:List Addr
noncomputable def bI (X:Cx) (scope:Scope) (N:List Str) (c:YD):Cx:=
 {X with N:=N,iN:=c.s,JE:=c.H,env:=compEnvC scope c.cl c.C X.env,outer:=X.stack,stack:=X.stack,ex:=c.ex,fn:=fun _=>false,pn:=[],xe:=fun _ _=>False}
noncomputable def eM (k:Nat) (cH:List Nat) (σ:St):St:=List.replicate k none++cH.map fun i=>(σ[i]?).getD none
noncomputable def R7:TT:=fun _ H Q=>Q true H
section
variable {prog:Program} {w:World} {A:Around} {R:Result->Shared->Prop} {s:Shared}
theorem vA {elt target iter:Expr} {ifs:List Expr} {pos:Pos} {it acc:Value} (I:Nat->Shared->Prop)
  (turn:∀n s,I n s->wpAny (model prog w) A (pyNext it) (fun r s₁=>match r with
   |none=>R (.ok .next) s₁
   | some v=>wpAny (model prog w) A (letOwnedTupleGo target it v) (fun _ s₁'=>wpAny (model prog w) A (assign target env v) (fun _ s₂=>
     wpAny (model prog w) A (forIn ifs true fun c r=>if r=true then do let ok<-isTrue c env (eval c env);pure (ForInStep.yield ok)else pure (ForInStep.yield r)) (fun ok s₃=>
      if ok=true then wpAny (model prog w) A (eval elt env) (fun x s₄=>
       wpAny (model prog w) A (call (.builtin "list.append") [acc,x]) (fun _ s₅=>∃m,m<n/\I m s₅) (fun _ _=>False) s₄) (fun _ _=>False) s₃
      else∃m,m<n/\I m s₃) (fun _ _=>False) s₂) (fun _ _=>False) s₁') (fun _ _=>False) s₁) (fun _ _=>False) s)
  (n:Nat) (h:I n s):
  codeAny (model prog w) A (.compLoop (.ListComp elt [⟨target,iter,ifs,0⟩] scope pos) 0 it acc env) R s:=by
 refine codeAny_loop rfl I (fun n s hI=>?_) n h
 show wpAny _ A ((compTurn (.ListComp elt [⟨target,iter,ifs,0⟩] scope pos) 0 it acc env).onRaise (fun x=>do noteFrame x env;theTreesLotGoes x)) _ _ s
 refine wpAny_noted ?_
 refine wpAny_mono (E:=fun _ _=>False) ?_ (fun _ _ q=>q) (fun _ _ z=>z.elim)
 rw[compTurn_list]
 refine wpAny_bind (wpAny_standAt (wpAny_bind (wpAny_mono (turn n s hI) (fun r s₁ h₁=>?_) fun _ _ h'=>h')))
 cases r with
 |none=>exact wpAny_pure h₁
 | some v=>
  refine wpAny_bind (wpAny_mono h₁ (fun _ s₁' h₁'=>?_) fun _ _ h'=>h')
  refine wpAny_bind (wpAny_mono h₁' (fun _ s₂ h₂=>wpAny_bind (wpAny_mono h₂ (fun ok s₃ h₃=>?_) fun _ _ h'=>h')) fun _ _ h'=>h')
  cases ok with
  |false=>exact wpAny_pure ⟨rfl,h₃⟩
  |true=>
   exact wpAny_bind (wpAny_bind (wpAny_mono h₃ (fun x s₄ h₄=>wpAny_bind (wpAny_mono h₄ (fun _ s₅ h₅=>wpAny_pure (wpAny_pure ⟨rfl,h₅⟩)) fun _ _ h'=>h')) fun _ _ h'=>h'))
end
noncomputable def SA (X:Cx) (ifs:List Expr) (t:TT):Prop:=
 ∀(pins:List (Addr×Obj)) (s:Shared) (σ:St) (H:Hp) (Q:Bool->Hp->Prop),Inv X pins σ H s->t σ H Q->
  wpAny (model X.prog X.w) X.A (forIn ifs true fun c r=>if r=true then do let ok<-isTrue c X.env (eval c X.env);pure (ForInStep.yield ok)else pure (ForInStep.yield r)) (TP X pins σ Q) X.xe s
theorem eC:SA X [] R7:=fun pins s σ H Q I h=>wpAny_tests_nil ⟨H,I,h⟩
theorem mO {c:Expr} {t:TT} (h:PT X c t):SA X [c] t:=fun pins s σ H Q I hq=>wpAny_tests_one (h pins s σ H Q I hq)
theorem eF {env:Env}:∀{names:List (Str×NameKind)} {x:Str},names.lookup x=some .free->
  (names.map fun(n,k)=>if(k==NameKind.free && env.scope.kind== .function && env.kindOf n==some .cell)then(n,NameKind.cell)else(n,k)).lookup x=some .cell\/
  (names.map fun(n,k)=>if(k==NameKind.free && env.scope.kind== .function && env.kindOf n==some .cell)then(n,NameKind.cell)else(n,k)).lookup x=some .free
 |[],_,h=>by simp at h
 | (n,k)::r,x,h=>by
  have ih:= @eF env r x
  show List.lookup x ((if(k==NameKind.free && env.scope.kind== .function && env.kindOf n==some .cell)=true then(n,NameKind.cell)else(n,k))::_)=_\/ List.lookup x ((if(k==NameKind.free && env.scope.kind== .function && env.kindOf n==some .cell)=true then(n,NameKind.cell)else(n,k))::_)=_
  cases hx:x==n with
  |true=>
   simp only[lookup_cons,hx]at h
   cases h
   by_cases hc:(NameKind.free==NameKind.free && env.scope.kind== .function && env.kindOf n==some .cell)=true
   ·rw[if_pos hc];left;simp only[lookup_cons,hx]
   ·rw[if_neg hc];right;simp only[lookup_cons,hx]
  |false=>
   simp only[lookup_cons,hx]at h
   by_cases hc:(k==NameKind.free && env.scope.kind== .function && env.kindOf n==some .cell)=true
   ·rw[if_pos hc];simp only[lookup_cons,hx];exact ih h
   ·rw[if_neg hc];simp only[lookup_cons,hx];exact ih h
theorem i5 {env:Env}:∀{names:List (Str×NameKind)} {x:Str},(∀y∈names,y.2≠ .cell)->
  ((names.map fun(n,k)=>if(k==NameKind.free && env.scope.kind== .function && env.kindOf n==some .cell)then(n,NameKind.cell)else(n,k)).lookup x=some .cell\/
  (names.map fun(n,k)=>if(k==NameKind.free && env.scope.kind== .function && env.kindOf n==some .cell)then(n,NameKind.cell)else(n,k)).lookup x=some .free)->(x,NameKind.free)∈names
 |[],_,_,h=>by simp at h
 | (n,k)::r,x,hn,h=>by
  have ih:= @i5 env r x (fun y hy=>hn y (mem_cons_of_mem _ hy))
  have h':List.lookup x ((if(k==NameKind.free && env.scope.kind== .function && env.kindOf n==some .cell)=true then(n,NameKind.cell)else(n,k))::(r.map fun(n,k)=>if(k==NameKind.free && env.scope.kind== .function && env.kindOf n==some .cell)then(n,NameKind.cell)else(n,k)))=some .cell\/ List.lookup x ((if(k==NameKind.free && env.scope.kind== .function && env.kindOf n==some .cell)=true then(n,NameKind.cell)else(n,k))::(r.map fun(n,k)=>if(k==NameKind.free && env.scope.kind== .function && env.kindOf n==some .cell)then(n,NameKind.cell)else(n,k)))=some .free:=h
  cases hx:x==n with
  | true=>
   have e:=eq_of_beq hx
   subst e
   by_cases hc:(k==NameKind.free && env.scope.kind== .function && env.kindOf x==some .cell)=true
   ·have hk:k= .free:=by
     have:=(and_eq_true _ _|>.mp ((and_eq_true _ _|>.mp hc).1)).1
     exact eq_of_beq this
    subst hk
    exact mem_cons_self
   ·rw[if_neg hc]at h'
    simp only[lookup_cons,hx]at h'
    have hk:=hn (x,k) mem_cons_self
    rcases h' with z|z
    ·exact absurd (Option.some.inj z) hk
    ·rw[Option.some.inj z];exact mem_cons_self
  |false=>
   refine mem_cons_of_mem _ (ih ?_)
   by_cases hc:(k==NameKind.free && env.scope.kind== .function && env.kindOf n==some .cell)=true
   ·rw[if_pos hc]at h';simp only[lookup_cons,hx]at h';exact h'
   ·rw[if_neg hc]at h';simp only[lookup_cons,hx]at h';exact h'
noncomputable def aa4 (J:It) (g:TG) (tt:TT) (te:TE) (l:Addr) (σ0:St) (H0:Hp) (Q:VK):Prop:=
 ∃W:Nat->Nat->St->Hp->Prop,(∃m,W 0 m σ0 H0)/\
   ∀i m σ' H2,W i m σ' H2->(J.stop i H2/\Q (.ref l) H2)\/ (J.go i H2/\∃N:St->Hp->Prop,(∀σ3 H3,N σ3 H3->∃m',m'<m/\W (i+1) m' σ3 H3)/\
    ∀x H3,J.YL i H2 x H3->g x σ' H3 fun σ4 H4=>tt σ4 H4 fun b H5=>if b=true then te σ4 H5 fun y H6=>∃xs,H6 l=some (.lst xs)/\xs.length<sizeLine/\N σ4 (upd H6 l (.lst (xs++[y])))else N σ4 H5)
noncomputable def wG (wi:TI) (k:Nat) (cH:List Nat) (g:TG) (tt:TT) (te:TE):TE:=fun σ H Q=>wi σ H fun J H1=>∀l,H1 l=none->aa4 J g tt te l (eM k cH σ) (upd H1 l (.lst [])) Q
structure fV (X:Cx) (scope:Scope) (N:List Str) (k:Nat) (cH:List Nat):Prop where
 kind:scope.kind= .function
 names:∀y∈scope.names,y.2= .local->scope.names.lookup y.1=some .local
 cell:∀y∈scope.names,y.2≠ .cell
 free:∀y∈scope.names,y.2= .free->X.env.kindOf y.1=some .cell\/ X.env.kindOf y.1=some .free
 len:N.length=k+cH.length
 cH:∀j i,cH[j]? =some i->∃y,N[k+j]? =some y/\X.N[i]? =some y/\scope.names.lookup y=some .free
theorem vY {k:Nat} {cH:List Nat} {σ:St} {j:Nat} {v:V} (h:(eM k cH σ)[j]? =some (some v)):∃q i,j=k+q/\cH[q]? =some i/\σ[i]? =some (some v):=by
 unfold eM at h
 by_cases hj:j<k
 ·rw[getElem?_append_left (by simpa using hj),List.getElem?_replicate]at h
  split at h<;>cases h
 ·rw[getElem?_append_right (by simpa using hj),length_replicate,getElem?_map]at h
  cases q:cH[j - k]? with
  |none=>rw[q]at h;cases h
  |some i=>
   rw[q]at h
   have h':(σ[i]?).getD none=some v:=Option.some.inj h
   refine⟨j - k,i,by omega,q,?_⟩
   cases r:σ[i]? with
   |none=>rw[r]at h';cases h'
   |some o=>rw[r]at h';have:o=some v:=h';rw[this]
theorem mX.but {h h':Heap} (x:mX P w H h) (hC:H C=none) (k:∀b o,b≠C->h.get? b=some o->h'.get? b=some o):mX P w H h':=fun b u e=>by
 have nit:∀b u,H b=some u->b≠C:=fun b u e z=>by rw[z,hC]at e;cases e
 refine(x b u e).aH (fun c v hc q=>k c v ?_ q) (fun _ q=>q) fun _ _ q=>q
 rcases hc with z|z
 ·rw[z];exact nit b u e
 ·exact nit c _ z
section
variable {X:Cx} {elt tg iter:Expr} {ifs:List Expr} {scope:Scope} {pos:Pos} {wi:TI} {g:TG} {tt:TT} {te:TE} {N:List Str} {k:Nat} {cH:List Nat}
theorem sQ (S:fV X scope N k cH) (I2:Inv X pins σ H2 s2)
  (hcl1:∀y c,cl.lookup y=some c->X.env.cells.lookup y=some c) (hcl2:∀y,(y,NameKind.free)∈scope.names->(cl.lookup y).isSome=true) (hC:s2.heap.objs.size<=C)
  (hf:∀b∈fp,pB X pins H2 b) (ho:∀b∈fp,b<s2.heap.objs.size):(bI X scope N ⟨cl,C,s2,H2,fp⟩).Ok where
 mod:=I2.ok.mod
 kind:=S.kind
 glob:=I2.ok.glob
 blt:=I2.ok.blt
 above:=hC
 inj:=fun x y c h1 h2=>I2.ok.inj x y c (hcl1 x c h1) (hcl1 y c h2)
 has:=fun x h=>by
  have h':(x,NameKind.free)∈scope.names:=i5 (env:=X.env) S.cell h
  exact isSome_iff_exists.mp (hcl2 x h')
 YO:=fun _ _ z=>by cases z
 hd:=I2.ok.hd
 frames:=I2.ok.frames
 ZS:=.inl rfl
 exf:=fun b hb=>⟨ne_of_lt (lt_of_lt_of_le (ho b hb) hC),fun x c e=>(hf b hb).2.2.2.2.1 x c (hcl1 x c e)⟩
 bs:=I2.bs
 Q5:=le_trans I2.ok.Q5 I2.sz
 HV:=fun b o e hb=>by
  rcases(hf b hb).2.2.2.1 with z|z
  ·exact I2.ok.HV b o e z
  ·exact absurd (lt_of_lt_of_le (lt_size e) (le_trans I2.ok.Q5 z)) (lt_irrefl _)
 zR:=fun b hb hb'=>by
  rcases mem_cons.mp (I2.CA b hb')with z|z
  ·exact(hf b hb).2.1 z
  ·exact(hf b hb).2.2.1 z
 rN:=I2.stack
 UQ:=I2.E3
theorem EB {h1:Heap} {tk:Nat} {m0:Str->Option Value} (S:fV X scope N k cH) (I2:Inv X pins σ H2 s2)
  (hcl1:∀y c,cl.lookup y=some c->X.env.cells.lookup y=some c) (hcl2:∀y,(y,NameKind.free)∈scope.names->(cl.lookup y).isSome=true) (hC:C=s2.heap.objs.size+1)
  (hf:∀b∈fp,pB X pins H2 b) (ho:∀b∈fp,b<s2.heap.objs.size) (hk:∀b o,s2.heap.get? b=some o->h1.get? b=some o) (hD:h1.get? s2.heap.objs.size=some {cls:=.type "list",data:=.seq #[] 0}) (hns:h1.Ns C m0):
  Inv (bI X scope N ⟨cl,C,s2,H2,fp⟩) [] (eM k cH σ) (upd H2 s2.heap.objs.size (.lst [])) {s2 with heap:=h1,toks:=tk}:=by
 have fr:H2 s2.heap.objs.size=none:=I2.bN.fresh (le_refl _)
 have hCf:H2 C=none:=I2.bN.fresh (hC▸le_succ _)
 refine⟨sQ S I2 hcl1 hcl2 (hC▸le_succ _) hf ho,rfl,I2.bare,Un.laid hk (le_refl _) fr,⟨m0,hns,fun i y v e1 e2 e3=>?_⟩,fun x c e=>?_,?_,fun x c e=>?_,fun p hp=>absurd (show p∈([]:List (Addr×Obj))from hp) (by simp),I2.bN.laid hk (le_refl _) ?_,?_⟩
 ·obtain⟨q,j,rfl,hj,hv⟩:=vY e2
  obtain⟨z,hz1,hz2,hz3⟩:=S.cH q j hj
  have e1':N[k+q]? =some y:=e1
  rw[hz1]at e1'
  cases e1'
  obtain⟨m,hn,hl⟩:=I2.loc
  have hfr:=S.free (y,.free) (PySem.mem_of_lookup hz3) rfl
  obtain⟨u,r,l⟩:=hl j y v hz2 hv (by rcases hfr with z|z;exact .inr (.inl z);exact .inr (.inr z))
  refine⟨u,r,.inr ⟨eF (env:=X.env) hz3,?_⟩⟩
  obtain⟨c,hc⟩:=isSome_iff_exists.mp (hcl2 y (PySem.mem_of_lookup hz3))
  rcases l with⟨hk',_⟩|⟨_,c',hc',hcell⟩
  ·rcases hfr with z|z<;>(rw[hk']at z;cases z)
  ·have e:=hcl1 y c hc
   rw[hc']at e
   cases e
   obtain⟨o,ho',hd⟩:=hcell
   exact⟨_,hc,o,hk _ _ ho',hd⟩
 ·obtain⟨v,o,ho',hd⟩:=I2.cell x c (hcl1 x c e)
  exact⟨v,o,hk _ _ ho',hd⟩
 ·show upd H2 s2.heap.objs.size (.lst []) C=none
  rw[aS (ne_of_gt (hC▸lt_succ_self _))]
  exact hCf
 ·have e':=hcl1 x c e
  obtain⟨v,q⟩:=I2.cell x c e'
  rw[aS (ne_of_lt q.lt)]
  exact I2.mD x c e'
 ·exact⟨zero_le _,[],0,.nil,hD⟩
 ·show(eM k cH σ).length=N.length
  unfold eM
  rw[length_append,length_replicate,length_map,S.len]
theorem QA (hc:X.calm=true) (S:fV X scope N k cH) (hi:PI X tg iter wi) (hg:∀c,PG (bI X scope N c) tg g) (ht:∀c,SA (bI X scope N c) ifs tt) (he:∀c,PE (bI X scope N c) elt te)
  (hs:∀x,foldedSetIterable iter X.env x=pure x:=by intro _;rfl):PE X (.ListComp elt [⟨tg,iter,ifs,0⟩] scope pos) (wG wi k cH g tt te):=by
 intro pins s σ H Q I h
 rw[eval_ListComp]
 obtain⟨cl,hclos,hcl1,hcl2⟩:=jD (scope:=scope) (env:=X.env) (fun p hp hf=>I.ok.has p.1 (S.free p hp hf))
 refine wpAny_comprehension_free (use:=none) rfl hs hclos S.kind S.names (cM (hi pins s σ H _ I h) fun v s1 h1=>cM h1 fun itv s2 h2=>?_)
 obtain⟨it,fp,tn,J,H2,e,I2,T,st2,f2,q2⟩:=h2
 subst e
 obtain⟨W,⟨m0,w0⟩,turn⟩:=q2 s2.heap.objs.size (I2.bN.fresh (le_refl _))
 have hob:∀b∈fp,b<s2.heap.objs.size:=fun b hb=>let⟨o,e,_⟩:=T.obj _ _ st2 b hb;lt_size e
 refine wpAny_newObj_type (wpAny_newFunctionEnv S.cell (by intro y hy;simp at hy) (fun h₁ hns₁ hsb₁=>?_) S.kind)
 dsimp only at hns₁ hsb₁⊢
 generalize hHH:s2.heap.push {cls:=.type "list",dict:=none,data:=.seq ([]:List Value).toArray}=HH at hns₁ hsb₁⊢
 have hCC:HH.objs.size=s2.heap.objs.size+1:=by rw[<-hHH,size_push]
 have old:∀b o,s2.heap.get? b=some o->h₁.get? b=some o:=fun b o e=>hsb₁.extBut b o (ne_of_lt (hCC▸lt_succ_of_lt (lt_size e))) (get?_push_of_some _ (hHH▸get?_push_of_some _ e))
 have hD:h₁.get? s2.heap.objs.size=some {cls:=.type "list",data:=.seq #[] 0}:=hsb₁.extBut _ _ (ne_of_lt (hCC▸lt_succ_self _)) (get?_push_of_some _ (hHH▸get?_push_size _ rfl))
 have I4:=fun tk=>EB (tk:=tk) S I2 hcl1 hcl2 hCC f2 hob old hD hns₁
 have X':=bI X scope N ⟨cl,HH.objs.size,s2,H2,fp⟩
 have stat:∀{H':Hp},(∀b∈fp,H' b=none)->∀b∈fp,pB (bI X scope N ⟨cl,HH.objs.size,s2,H2,fp⟩) [] H' b:=fun hn b hb=>
  ⟨hn b hb,ne_of_lt (hCC▸lt_succ_of_lt (hob b hb)),(sQ S I2 hcl1 hcl2 (hCC▸le_succ _) f2 hob).zR b hb,.inl hb,fun x c e=>(f2 b hb).2.2.2.2.1 x c (hcl1 x c e),fun p hp=>absurd (show p∈([]:List (Addr×Obj))from hp) (by simp)⟩
 have loop:∀s₃:Shared,s₃={s2 with heap:=h₁,toks:=s2.toks+([]:List (Str×Value)).length}->
   codeAny (model X.prog X.w) X.A (.compLoop (.ListComp elt [⟨tg,iter,ifs,0⟩] scope pos) 0 (.ref it) (.ref s2.heap.objs.size) (compEnvC scope cl HH.objs.size X.env))
    (compPost (model X.prog X.w) X.A X.xe none (EP X pins σ Q) (.ref s2.heap.objs.size) HH.objs.size) s₃:=by
  rintro s₃ rfl
  refine vA (fun n s'=>∃i σ' H',Inv (bI X scope N ⟨cl,HH.objs.size,s2,H2,fp⟩) [] σ' H' s'/\tn i s'.heap/\(∀b∈fp,H' b=none)/\W i n σ' H') ?_ m0
   ⟨0,eM k cH σ,_,I4 _,T.keep _ _ _ st2 fun b _ o e=>old b o e,fun b hb=>by rw[aS (ne_of_lt (hob b hb))];exact(f2 b hb).1,w0⟩
  rintro n s3 ⟨i,σ3,H3,I3,st3,fr3,w3⟩
  rcases turn i n σ3 H3 w3 with⟨stop,qn⟩|⟨go,NN,hN,step⟩
  ·refine cM (T.done (bI X scope N ⟨cl,HH.objs.size,s2,H2,fp⟩) rfl rfl rfl hc i [] s3 σ3 H3 _ I3 (stat fr3) st3 stop) fun r s4 ⟨hr,J4⟩=>?_
   subst hr
   obtain⟨m,hn,_⟩:=J4.loc
   refine⟨m,hn,fun h' hs'=>?_⟩
   have keepC:∀b o,b≠HH.objs.size->s4.heap.get? b=some o->h'.get? b=some o:=fun b o hb e=>hs'.extBut b o hb e
   have fP:∀b o,s2.heap.get? b=some o->b≠HH.objs.size:=fun b o e=>ne_of_lt (hCC▸lt_succ_of_lt (lt_size e))
   have u:=J4.base
   have u':Un (G2 X.stack) fp H2 H3 s2.heap h':=⟨fun b o q n hb hx=>keepC b o (fP b o q) (u.keep b o q n hb hx),fun b o q n hb hx=>by
     obtain⟨sl,e⟩:=u.slot b o q n hb hx
     exact⟨sl,keepC b _ (fP b o q) e⟩,u.free,fun b o q hx=>by
     obtain⟨o',e⟩:=u.there b o q hx
     exact⟨o',keepC b _ (fP b o q) e⟩,u.uU,u.sJ,u.uI⟩
   refine⟨.ref s2.heap.objs.size,H3,I2.LH (ch:=fp) J4.os u' (J4.bN.but J4.free keepC) J4.bare fun b hb=>?_,rfl,qn⟩
   obtain⟨_,f1,_,f3,f4,f5⟩:=f2 b hb
   exact⟨f3,f1,f4,f5⟩
  ·refine cM (T.item (bI X scope N ⟨cl,HH.objs.size,s2,H2,fp⟩) rfl rfl rfl hc i [] s3 σ3 H3 _ I3 (stat fr3) st3 go) fun r s4 ⟨u,hr,h4⟩=>?_
   subst hr
   refine cM h4 fun _ s5 ⟨x,H5,I5,r5,y5,st5,fr5⟩=>?_
   have I5':=I5.pinned (stat fr5) (T.obj _ _ st5)
   have again:∀{s7:Shared} {σ7:St} {H7:Hp},Inv (bI X scope N ⟨cl,HH.objs.size,s2,H2,fp⟩) ([]++nS fp s5.heap) σ7 H7 s7->NN σ7 H7->
     ∃m,m<n/\∃i σ' H',Inv (bI X scope N ⟨cl,HH.objs.size,s2,H2,fp⟩) [] σ' H' s7/\tn i s7.heap/\(∀b∈fp,H' b=none)/\W i m σ' H':=fun{s7 σ7 H7} I7 n7=>by
    obtain⟨m',hm,w7⟩:=hN σ7 H7 n7
    refine⟨m',hm,i+1,σ7,H7,I7.jZ,T.keep _ _ _ st5 fun b hb o e=>(I7.pin (b,o) (mem_append_right _ (mem_append_right _ (dP hb e)))).1,fun b hb=>?_,w7⟩
    obtain⟨o,e,d⟩:=T.obj _ _ st5 b hb
    exact(I7.pin (b,o) (mem_append_right _ (mem_append_right _ (dP hb e)))).2.1
   refine cM (hg _ _ s5 σ3 H5 x u _ I5' r5 (step x H5 y5)) fun _ s6 ⟨σ6,H6,I6,q6⟩=>?_
   refine cM (ht _ _ s6 σ6 H6 _ I6 q6) fun b s7 ⟨H7,I7,q7⟩=>?_
   cases b with
   |false=>exact again I7 q7
   |true=>
    refine cM (he _ _ s7 σ6 H7 _ I7 q7) fun y s8 ⟨yv,H8,I8,r8,xs,hl,hz,n8⟩=>?_
    refine cM (e9 _ s8 σ6 H8 (.ref s2.heap.objs.size) [yv] (.ref s2.heap.objs.size) [y] (fun _ H9=>NN σ6 H9) I8 rfl (.cons r8 .nil) ⟨_,xs,yv,rfl,rfl,hl,hz,n8⟩) fun _ s9 ⟨_,H9,I9,_,q9⟩=>?_
    exact again I9 q9
 exact codeAny_compStart_list (loop _ rfl) (T.self X.A 0 _ _ _ (T.keep _ _ _ st2 fun b _ o e=>old b o e) (loop _ rfl))
end
noncomputable def YS (z:Str):It:=⟨fun i _=>i<z.cps.size,fun i H x H'=>H'=H/\∃c,z.cps[i]? =some c/\x= .str ⟨#[c]⟩,fun i _=>z.cps.size<=i⟩
theorem HF (z:Str) (t:Tok) (it:Addr):Turn P w K tg (YS z) [it] it (fun i h=>h.IsStrIter it "str_ascii_iterator" z t i)where
 mem:=by simp
 obj:=fun i h st b hb=>by
  have e:b=it:=by simpa using hb
  subst e
  obtain⟨o,e,c,d⟩:=st
  exact⟨o,e,fun v z=>by rw[d]at z;cases z⟩
 keep:=fun i h h' st k=>let⟨o,e,r⟩:=st;⟨o,k it (by simp) o e,r⟩
 item:=by
  intro X hP hw hK hc i pins s σ H E I hf st hg
  subst hP hw hK
  obtain⟨f0,f1,f2,f3,f4,f5⟩:=hf it (by simp)
  have hg':i<z.cps.size:=hg
  refine wpAny_pyNext_ascii_item st (c:=z.cps[i]) (by simp[hg']) fun h' st' sb=>?_
  have I1:Inv X pins σ H {s with heap:=h',toks:=s.toks+1}:=I.turned (fun b o hb e=>(sb.2 b hb).trans e) f0 f1 f3 f4 f5
  obtain⟨o,e,c,d⟩:=id st'
  exact⟨_,rfl,vG (s:={s with heap:=h',toks:=s.toks+1}) e c d (by decide) ⟨.str ⟨#[z.cps[i]]⟩,H,I1,⟨_,rfl⟩,⟨rfl,_,by simp[hg'],rfl⟩,st',fun b hb=>(hf b hb).1⟩⟩
 done:=by
  intro X hP hw hK hc i pins s σ H E I hf st hg
  subst hP hw hK
  obtain⟨f0,f1,f2,f3,f4,f5⟩:=hf it (by simp)
  exact wpAny_pyNext_ascii_end (I.ok.hd hc) st (Array.getElem?_eq_none hg) fun h' eb=>⟨rfl,I.turned (t':=s.toks) (fun b o hb e=>eb b o hb e) f0 f1 f3 f4 f5⟩
 self:=fun A i s Q E st h=>by
  refine wpAny_pyIter_slot st.typeIs F.slot_str_ascii_iterator_iter (wpAny_call_entry F.slot_str_ascii_iterator_iter st.typeIs F.entry_str_ascii_iterator_iter ?_ (F.args_str_ascii_iterator_iter_1 _))
  show wpAny _ _ (ret (.ref it)) _ _ s
  exact wpAny_pure ⟨_,rfl,"str_ascii_iterator",_,st.typeIs,F.slot_str_ascii_iterator_next.lookup,h⟩
theorem HX (z:Str) (t:Tok) (it:Addr):Turn P w K tg (YS z) [it] it (fun i h=>h.IsStrIter it "str_iterator" z t i)where
 mem:=by simp
 obj:=fun i h st b hb=>by
  have e:b=it:=by simpa using hb
  subst e
  obtain⟨o,e,c,d⟩:=st
  exact⟨o,e,fun v z=>by rw[d]at z;cases z⟩
 keep:=fun i h h' st k=>let⟨o,e,r⟩:=st;⟨o,k it (by simp) o e,r⟩
 item:=by
  intro X hP hw hK hc i pins s σ H E I hf st hg
  subst hP hw hK
  obtain⟨f0,f1,f2,f3,f4,f5⟩:=hf it (by simp)
  have hg':i<z.cps.size:=hg
  refine wpAny_pyNext_wide_item st (c:=z.cps[i]) (by simp[hg']) fun h' st' sb=>?_
  have I1:Inv X pins σ H {s with heap:=h',toks:=s.toks+1}:=I.turned (fun b o hb e=>(sb.2 b hb).trans e) f0 f1 f3 f4 f5
  obtain⟨o,e,c,d⟩:=id st'
  exact⟨_,rfl,vG (s:={s with heap:=h',toks:=s.toks+1}) e c d (by decide) ⟨.str ⟨#[z.cps[i]]⟩,H,I1,⟨_,rfl⟩,⟨rfl,_,by simp[hg'],rfl⟩,st',fun b hb=>(hf b hb).1⟩⟩
 done:=by
  intro X hP hw hK hc i pins s σ H E I hf st hg
  subst hP hw hK
  obtain⟨f0,f1,f2,f3,f4,f5⟩:=hf it (by simp)
  exact wpAny_pyNext_wide_end (I.ok.hd hc) st (Array.getElem?_eq_none hg) fun h' eb=>⟨rfl,I.turned (t':=s.toks) (fun b o hb e=>eb b o hb e) f0 f1 f3 f4 f5⟩
 self:=fun A i s Q E st h=>by
  refine wpAny_pyIter_slot st.typeIs F.slot_str_iterator_iter (wpAny_call_entry F.slot_str_iterator_iter st.typeIs F.entry_str_iterator_iter ?_ (F.args_str_iterator_iter_1 _))
  show wpAny _ _ (ret (.ref it)) _ _ s
  exact wpAny_pure ⟨_,rfl,"str_iterator",_,st.typeIs,F.slot_str_iterator_next.lookup,h⟩
noncomputable def J2 (bs:List Bool):List V:=bs.map V.bl
theorem aaI {bs:List Bool} {its:List Value} (r:Vals (J2 bs) its):∀i:Nat,its[i]? =(bs[i]?).map Value.bool:=by
 induction bs generalizing its with
 |nil=>cases r;intro i;simp
 | cons b bs ih=>
  cases r with
  |cons r rr=>
   cases r
   intro i
   cases i with
   |zero=>rfl
   |succ i=>exact ih rr i
theorem range_all {n:Nat} {f:Nat->Bool} {l:List Bool} (hn:l.length=n) (h:∀i b,l[i]? =some b->f i=b):(List.range n).all f=l.all id:=by
 induction l generalizing n f with
 |nil=>subst hn;rfl
 |cons b l ih=>
  subst hn
  rw[length_cons,List.range_succ_eq_map,all_cons,all_map,all_cons,h 0 b rfl,ih (n:=l.length) (f:=f∘Nat.succ) rfl fun i b e=>h (i+1) b e]
  rfl
section
variable {X:Cx}
theorem LP (hc:X.calm=true):cD X (.builtin "all") (fun xs H Q=>∃p bs,xs=[.ref p]/\iR X.K H p (J2 bs)/\Q (.bl (bs.all id)) H):=by
 intro pins s σ H xs us Q I r h
 obtain⟨p,bs,rfl,hq,q⟩:=h
 obtain⟨u,rfl,rx⟩:=vals1 r
 cases rx
 obtain⟨its,rv,pl,hz⟩:=I.list hq
 have hg:=aaI rv
 have hlen:bs.length=its.length:=by have:=rv.length;simpa [J2]using this
 refine call_all_walk (wpAny_pyIter_list pl.isList ?_)
 have hlt:p<s.heap.objs.size:=let⟨o,_,e,_⟩:=pl;lt_size e
 refine⟨s.heap.objs.size,_,_,_,_,_,fun i=>(bs[i]?).getD false,rfl,Walks.list (by exact I.ok.hd hc) s.heap.objs.size p (ne_of_lt hlt) its.toArray,⟨⟨_,get?_push_size _ rfl,rfl,rfl⟩,pl.isList.at fun o e=>get?_push_of_some _ e⟩,?_,?_⟩
 ·intro i v s' Q' E' hv hq'
  have hv':its[i]? =some v:=by simpa using hv
  rw[hg i]at hv'
  cases e:bs[i]? with
  |none=>rw[e]at hv';cases hv'
  |some b=>
   dsimp only at hq'
   rw[e]at hv' hq'
   cases hv'
   exact wpAny_truthy_bool hq'
 ·intro h' tk hk
  have e1:(List.range its.toArray.size).all (fun i=>(bs[i]?).getD false)=bs.all id:=range_all (by simpa using hlen) (fun i b e=>by rw[e];rfl)
  rw[e1]
  have I1:Inv X pins σ H {s with heap:=s.heap.push {cls:=.type "list_iterator",data:=.fields #[.ref p,.int 0 0]},toks:=s.toks}:=I.kept fun b o e=>get?_push_of_some _ e
  have f1:=I.rF (H':=H) (le_refl _) (I.bN.fresh (le_refl _))
  obtain⟨f0,f1,f2,f3,f4,f5⟩:=f1
  exact⟨.bl _,H,I1.turned (it:=s.heap.objs.size) (fun b o hb e=>hk b o (by simpa using hb) e) f0 f1 f3 f4 f5,rfl,q⟩
theorem UX:F0 X (fun x lo hi H Q=>∃z,x= .str z/\z.length<=sizeLine/\Q (.str (Txt.slice z lo hi)) H):=by
 intro pins s σ H x v vl vu lo hi sl Q I rx hs pl pu h
 obtain⟨z,rfl,hz,q⟩:=h
 obtain⟨t,rfl⟩:=rx
 refine⟨"str",_,F.slot_str_getitem.lookup,typeIs_str _ _ _,?_⟩
 obtain⟨o,ho,hc,hd⟩:=hs
 have fin:∀(t':Tok) (k:Nat),EP X pins σ Q (.str (Txt.slice z lo hi) t') {s with toks:=k}:=fun t' k=>⟨.str (Txt.slice z lo hi),H,I.tok k,⟨t',rfl⟩,q⟩
 have hle:=le_trans (Txt.slice_le z lo hi) hz
 cases pl with
 |none=>cases pu with
  |none=>exact wpAny_getItem_str_slice (l:=none) (u:=none) (st:=none) ⟨o,ho,hc,hd⟩ rfl (post_val_or_str ⟨hle,fun t' k=>fin t' k⟩)
  |int j uj=>exact wpAny_getItem_str_slice (l:=none) (u:=some (j,uj)) (st:=none) ⟨o,ho,hc,hd⟩ rfl (post_val_or_str ⟨hle,fun t' k=>fin t' k⟩)
 |int i ui=>cases pu with
  |none=>exact wpAny_getItem_str_slice (l:=some (i,ui)) (u:=none) (st:=none) ⟨o,ho,hc,hd⟩ rfl (post_val_or_str ⟨hle,fun t' k=>fin t' k⟩)
  |int j uj=>exact wpAny_getItem_str_slice (l:=some (i,ui)) (u:=some (j,uj)) (st:=none) ⟨o,ho,hc,hd⟩ rfl (post_val_or_str ⟨hle,fun t' k=>fin t' k⟩)
theorem rT:∀{ys:List Str} {its:List Value},Vals (ys.map V.str) its->StrsAre its ys
 |[],_,r=>by cases r;exact .nil
 | y::ys,_,r=>by
  cases r with
  |cons r rr=>
   obtain⟨t,rfl⟩:=r
   exact .cons y t (rT rr)
noncomputable def rJoin (K:Frag):V->List V->Hp->VK->Prop:=fun x vs H Q=>∃z p ys,x= .str z/\vs=[.ref p]/\iR K H p (ys.map V.str)/\(ys.map (·.length)).sum+ys.length*z.length<=16777216/\Q (.str (Txt.join z ys)) H
theorem PR:YV X "str.join" (rJoin X.K):=by
 intro pins s σ H x vs v us Q I rx rv h
 obtain⟨z,p,ys,rfl,rfl,hq,hz,q⟩:=h
 obtain⟨t,rfl⟩:=rx
 obtain⟨u,rfl,rp⟩:=vals1 rv
 cases rp
 obtain⟨its,r,pl,_⟩:=I.list hq
 exact join_list pl.isList (by simpa using rT r) hz fun t' k=>⟨.str (Txt.join z ys),H,I.tok k,⟨t',rfl⟩,q⟩
theorem o6:iQ X (binaryOp .Pow) (rI (fun i j=>0<=j/\(Builtin.Int.intBits i:Int)*j<=2^27) fun i j=>.int (i^j.toNat)):=Y9 fun _ _ _ _ _ _ _ hc q=>pow_int hc.1 hc.2 q
end
noncomputable def o8 (XN:List Str) (xs scope:Scope) (N:List Str) (k:Nat) (cH:List Nat):Bool:=
 scope.kind== .function && (scope.names.all fun y=>y.2 != .local||scope.names.lookup y.1==some .local) && (scope.names.all fun y=>y.2 != .cell) &&
 (scope.names.all fun y=>y.2 != .free||xs.names.lookup y.1==some .cell||xs.names.lookup y.1==some .free) && N.length==k+cH.length &&
 (List.range cH.length).all fun j=>match cH[j]?,N[k+j]? with
  |some i,some y=>XN[i]? ==some y && scope.names.lookup y==some .free
  |_,_=>false
theorem kF {XN:List Str} {xs:Scope} {N:List Str} {k:Nat} {cH:List Nat} (hN:X.N=XN) (hs:X.env.scope=xs) (h:o8 XN xs scope N k cH=true):fV X scope N k cH:=by
 subst hN hs
 unfold o8 at h
 simp only[and_eq_true,all_eq_true,or_eq_true,bne_iff_ne,ne_eq,beq_iff_eq]at h
 obtain⟨⟨⟨⟨⟨h1,h2⟩,h3⟩,h4⟩,h5⟩,h6⟩:=h
 refine⟨h1,fun y hy e=>(h2 y hy).resolve_left (fun z=>z e),h3,fun y hy e=>?_,h5,fun j i e=>?_⟩
 ·rcases h4 y hy with(z|z)|z
  ·exact absurd e z
  ·exact .inl z
  ·exact .inr z
 ·have hj:j<cH.length:=(List.getElem?_eq_some_iff.mp e).1
  have q:=h6 j (mem_range.mpr hj)
  rw[e]at q
  cases r:N[k+j]? with
  |none=>rw[r]at q;cases q
  |some y=>
   rw[r]at q
   simp only[and_eq_true,beq_iff_eq]at q
   exact⟨y,rfl,q.1,q.2⟩
section
variable {X:Cx} {elt tg iter:Expr} {ifs:List Expr} {scope:Scope} {pos:Pos} {wi:TI} {g:TG} {tt:TT} {te:TE} {N:List Str} {k:Nat} {cH:List Nat} {XN:List Str} {xs:Scope}
theorem oZ (N:List Str) (k:Nat) (cH:List Nat) (XN:List Str) (xs:Scope) (hc:X.calm=true) (hN:X.N=XN) (hx:X.env.scope=xs) (hi:PI X tg iter wi) (chk:o8 XN xs scope N k cH=true)
  (hg:∀c,PG (bI X scope N c) tg g) (ht:∀c,SA (bI X scope N c) ifs tt) (he:∀c,PE (bI X scope N c) elt te)
  (hs:∀x,foldedSetIterable iter X.env x=pure x:=by intro _;rfl):PE X (.ListComp elt [⟨tg,iter,ifs,0⟩] scope pos) (wG wi k cH g tt te):=QA hc (kF hN hx chk) hi hg ht he hs
end
structure Def (K:Frag) (mg:Str->Option Value) (x:Str) (st:Stmt) (ps:List Str) (f:Addr) (fd:FuncData):Prop where
 F:YB K x x st f fd
 m:mg x=some (.ref f)
 b:Binds K fd ps []
section
variable {X:Cx} {x:Str} {st:Stmt} {ps:List Str} {f:Addr} {fd:FuncData} {j k:Nat} {sp:Sp} {e:Expr} {es:List Expr} {t:TA} {p pos:Pos}
theorem Z8 (D:Def X.K X.mg x st ps f fd) (G:pM X.prog X.w X.K X.mg X.base NT j f fd ps sp) (hr:dB k X.A) (hjk:j<=k) (hg:Gl X x) (ha:PA X (e::es) t) (hdb:(x==("__debug__":Str))=false:=by decide)
  (he:starEach (e::es) X.env=(false,eval e X.env)::starEach es X.env:=by rfl) (hpl:(backTo pos (starEach es X.env)).any (·.1)=false:=by rfl):
  PE X (.Call (.Name x p) (e::es) [] pos) (z7 sp [] E0 t):=PZ G (hr.mono hjk) hg D.m D.F.kp D.b .nil Y6 ha hdb he hpl
end
theorem Vals.get':∀{xs:List V} {us:List Value} {i:Nat} {u:Value},Vals xs us->us[i]? =some u->∃x,xs[i]? =some x/\RelV x u
 |_,_,_,_,.nil,h=>by simp at h
 |_,_,0,_,.cons r _,h=>by simp at h;subst h;exact⟨_,rfl,r⟩
 |_,_,i+1,_,.cons _ t,h=>Vals.get' (i:=i) t (by simpa using h)
theorem T2:bootBuiltins "all"=some (.builtin "all"):=by decide+kernel
theorem nJ:bootBuiltins "isinstance"=some (.builtin "isinstance"):=by decide+kernel
theorem jE:bootBuiltins "len"=some (.builtin "len"):=by decide+kernel
theorem sR:bootBuiltins "min"=some (.builtin "min"):=by decide+kernel
theorem fT:bootBuiltins "sorted"=some (.builtin "sorted"):=by decide+kernel
theorem UM:bootBuiltins "int"=some (.type "int"):=by decide+kernel
theorem NF:bootBuiltins "str"=some (.type "str"):=by decide+kernel
theorem wN:bootBuiltins "list"=some (.type "list"):=by decide+kernel
theorem eL:bootBuiltins "tuple"=some (.type "tuple"):=by decide+kernel
theorem wR:bootBuiltins "enumerate"=some (.type "enumerate"):=by decide+kernel
theorem aZ.upd {l:Addr} {o:HO} (h:H l=none):aZ H (upd H l o):=fun b u e=>by rw[aS (b8 e h)];exact e
theorem szt {n:Nat} (h:n<16777216):n<sizeLine:=by rw[PySem.sizeLine_eq];exact h
theorem QZ (z:Str):z.cps.toList.length=z.length:=by simp[Str.length]
theorem ND {z:Str} {d:Int} (h0:0<=d) (h:d<(z.length:Int)):∃c,c∈z.cps.toList/\nF z.cps.toList d=some c:=by
 obtain⟨j,rfl⟩:∃j:Nat,d=(j:Int):=⟨d.toNat,by omega⟩
 have hj:j<z.cps.toList.length:=by have e:=QZ z;omega
 exact⟨z.cps.toList[j],getElem_mem hj,gA (by simp[hj])⟩
theorem QJ {α:Type} {xs:List α} {d:Int} (h0:0<=d) (h:d<(xs.length:Int)):∃c,c∈xs/\nF xs d=some c:=by
 obtain⟨j,rfl⟩:∃j:Nat,d=(j:Int):=⟨d.toNat,by omega⟩
 have hj:j<xs.length:=by omega
 exact⟨xs[j],getElem_mem hj,gA (by simp[hj])⟩
theorem joined {ys:List Str}:(Txt.join (Str.ofString "") ys).length<=(ys.map (·.length)).sum:=by
 show(Builtin.Str.glued _ ys).length<=_
 rw[StrLaws.glued_eq_join]
 have h:=StrLaws.join_length_le (Str.ofString "") ys
 have e:(Str.ofString "").length=0:=by decide+kernel
 rw[e]at h
 omega
noncomputable def z4 (K:Frag):Sp:=fun vs H Q _=>∃(a:Addr) (ns:List Int),vs=[.ref a]/\iR K H a (ns.map V.int)/\ns.length<=63/\∀H',Q (.bl true) H'
end L2
namespace PySem
open Sem (wp)
open AutoSeq1 (wpAny_loadPart')
variable {it l:Addr} {i:Nat} {Q:Value->Shared->Prop}
section
variable {prog:Program} {w:World} {A:Around} {E:Value->Shared->Prop} {s:Shared}
theorem kI {t:Addr} {items} {x:Value} (hit:s.heap.IsTupleIter it t i)
  (ht:s.heap.IsTuple t items) (hx:items[i]? =some x)
  (hQ:∀h',h'.IsTupleIter it t (i+1)->Heap.SameBut it s.heap h'->Q x {s with heap:=h'}):
  wpAny (model prog w) A (Builtin.SmallTypes.nextOf (.ref it)) Q E s:=by
 obtain⟨o,ho,hc,hd⟩:=id hit
 obtain⟨ol,hol,_,nl,hdl⟩:=ht
 unfold Builtin.SmallTypes.nextOf
 refine wpAny_bind (wpAny_callSpecial?_slot (name:=Str.ofString "__next__") hit.typeIs F.slot_tuple_iterator_next
  (wpAny_call_entry F.slot_tuple_iterator_next hit.typeIs F.entry_tuple_iterator_next ?_ (F.args_tuple_iterator_next_1 _)))
 show wpAny _ _ (field (.ref it) 0>>=_) _ _ s
 refine wpAny_bind (wpAny_field ho hd (x:=.ref t) rfl ?_)
 show wpAny _ _ (if(Value.ref t==Value.none)=true then _ else _) _ _ s
 rw[if_neg (show¬((Value.ref t==Value.none)=true)from Bool.false_ne_true)]
 show wpAny _ _ (field (.ref it) 1>>=_) _ _ s
 refine wpAny_bind (wpAny_field ho hd (x:=.int i 0) rfl ?_)
 show wpAny _ _ (seqItems? (.ref t)>>=_) _ _ s
 refine wpAny_bind (wpAny_seqItems hol hdl ?_)
 simp only[toNat_natCast,hx]
 refine wpAny_bind (wpAny_setField ho hd (by simp) (wpAny_pure ⟨x,rfl,wpAny_pure (hQ _ ?_ (Heap.SameBut.update ..))⟩))
 exact⟨_,get?_update_self _ ho (Obj.isFreed_of_fields (Obj.data_mapFields hd _)),(Obj.cls_mapFields ..).trans hc,by
  rw[Obj.data_mapFields hd];simp[rawInt]⟩
theorem lF {items} (hh:A.handled=none)
  (hit:s.heap.IsTupleIter it l i) (hl:s.heap.IsTuple l items) (hx:items[i]? =none)
  (hE:∀h' e,Heap.ExtBut it s.heap h'->(∃o,h'.get? e=some o/\o.cls= .type "StopIteration")->E (.ref e) {s with heap:=h'}):
  wpAny (model prog w) A (Builtin.SmallTypes.nextOf (.ref it)) Q E s:=by
 obtain⟨o,ho,hc,hd⟩:=id hit
 obtain⟨ol,hol,_,nl,hdl⟩:=hl
 unfold Builtin.SmallTypes.nextOf
 refine wpAny_bind (wpAny_callSpecial?_slot (name:=Str.ofString "__next__") hit.typeIs F.slot_tuple_iterator_next
  (wpAny_call_entry F.slot_tuple_iterator_next hit.typeIs F.entry_tuple_iterator_next ?_ (F.args_tuple_iterator_next_1 _)))
 show wpAny _ _ (field (.ref it) 0>>=_) _ _ s
 refine wpAny_bind (wpAny_field ho hd (x:=.ref l) rfl ?_)
 show wpAny _ _ (if(Value.ref l==Value.none)=true then _ else _) _ _ s
 rw[if_neg (show¬((Value.ref l==Value.none)=true)from Bool.false_ne_true)]
 show wpAny _ _ (field (.ref it) 1>>=_) _ _ s
 refine wpAny_bind (wpAny_field ho hd (x:=.int i 0) rfl ?_)
 show wpAny _ _ (seqItems? (.ref l)>>=_) _ _ s
 refine wpAny_bind (wpAny_seqItems hol hdl ?_)
 simp only[toNat_natCast,hx]
 refine wpAny_bind (wpAny_rule (wpAny_bind (wpAny_setField ho hd (by simp) ?_)))
 show wpAny _ _ (newExc (.type "StopIteration") []>>=_) _ _ _
 refine wpAny_bind ?_
 simp only[newExc,newTuple]
 refine wpAny_bind (wpAny_newObj_type ?_ (by size_fits))
 refine wpAny_bind (m:=firstArgMember _ _) (wpAny_of_eq (a:=Value.none) (by first|rfl|(simp only[firstArgMember];rfl)) ?_)
 refine wpAny_newObj_type ?_ (by size_fits)
 simp only[raiseNew]
 refine wpAny_bind (wpAny_handled ?_)
 first|rw[show A.in1.handled=none from hh]|rw[hh]
 refine wpAny_bind (wpAny_pure (wpAny_throw ?_))
 exact hE _ _ (((Heap.SameBut.update ..).extBut.push _).push _) ⟨_,get?_push_size _ rfl,rfl⟩
end
theorem jY {prog:Program} {w:World} {A:Around} (hh:A.handled=none) (it l:Addr) (hne:l≠it) (items:Array Value):
  Draws prog w A it [it,l] items.size (fun i v=>items[i]? =some v) (fun i h=>h.IsTupleIter it l i/\h.IsTuple l items)where
 live:=fun _ _ st=>let⟨o,ho,_⟩:=st.1;⟨o,ho⟩
 frame:=fun _ _ _ st hk=>⟨st.1.at fun o e=>hk it (by simp) o e,let⟨o,e,r⟩:=st.2;⟨o,hk l (by simp) o e,r⟩⟩
 item:=fun i s Q E hi st hQ=>by
  refine kI st.1 st.2 (x:=items[i]) (by simp[hi]) fun h' hit' hs'=>?_
  exact hQ _ h' s.toks (by simp[hi]) ⟨hit',st.2.extBut hs'.extBut hne⟩ hs'
 done:=fun s Q E st hE=>lF hh st.1 st.2 (by simp) hE
theorem iW (l:Addr) (items:Array Value) (n:Nat) (a9:Option Addr) (sl:Array (Option Value)):
  Meets (Builtin.«enumerate.__new__» ⟨[.type "enumerate",.ref l],[]⟩) (fun _ R s=>s.heap.get? l=some {cls:=.type "tuple",dict:=a9,data:=.seq items n,slots:=sl}/\
   R (.ok (.ret (.ref (s.heap.push {cls:=.type "tuple_iterator",data:=.fields #[.ref l,.int 0 0]}).objs.size)))
    {s with heap:=(s.heap.push {cls:=.type "tuple_iterator",data:=.fields #[.ref l,.int 0 0]}).push {cls:=.type "enumerate",data:=.fields #[.none,.bool false,.ref s.heap.objs.size,rawInt 0,.none,.none]}}):=
 .of_wp fun prog w A R s h=>by
  obtain⟨hp,g,d,tk,os⟩:=s;obtain⟨hl,h⟩:=h
  have hsub:=sub_enumerate
  have hL:Heap.IsTuple (Shared.heap ⟨hp,g,d,tk,os⟩) l items:=⟨_,hl,rfl,n,rfl⟩
  wp_walk using wpAny_loadPart' hl
  refine wpAny_stack_any fun st=>wpAny_pure ?_
  split
  ·rename_i c _ _ _ _ _
   cases(c==Value.type "enumerate")
   ·wp_walk using wpAny_loadPart' hl,wpAny_pyIter_tuple hL
    exact⟨_,rfl,h⟩
   ·wp_walk using wpAny_loadPart' hl,wpAny_pyIter_tuple hL
    exact⟨_,rfl,h⟩
  ·wp_walk using wpAny_loadPart' hl,wpAny_pyIter_tuple hL
   exact⟨_,rfl,h⟩
section
variable {prog:Program} {w:World} {A:Around} {E:Value->Shared->Prop} {s:Shared}
theorem iS {items:Array Value} (hL:s.heap.IsTuple l items)
  (h:∀h',IsEnum h' (s.heap.objs.size+1) s.heap.objs.size 0 .none->h'.IsTupleIter s.heap.objs.size l 0->h'.objs.size=s.heap.objs.size+2->
   (∀b o,s.heap.get? b=some o->h'.get? b=some o)->Q (.ref (s.heap.objs.size+1)) {s with heap:=h'}):
  wpAny (model prog w) A (call (.type "enumerate") [.ref l]) Q E s:=by
 obtain⟨⟨c,a9,dt,sl⟩,hl,hc,n,hd⟩:=hL
 replace hc:c= .type "tuple":=hc
 replace hd:dt= .seq items n:=hd
 subst hc hd
 refine callType_new F.called_enumerate (by decide) (F.typeCall_enumerate_1 _) (F.newCall_enumerate_1 _) (fun obj=>F.args_object_init_2 obj _) F.entry_enumerate_new
  (iW l items n a9 sl) ⟨hl,?_⟩
 have hz:(s.heap.push {cls:=.type "tuple_iterator",data:=.fields #[.ref l,.int 0 0]}).objs.size=s.heap.objs.size+1:=size_push ..
 show _/\_
 rw[hz]
 have he:IsEnum ((s.heap.push {cls:=.type "tuple_iterator",data:=.fields #[.ref l,.int 0 0]}).push
   {cls:=.type "enumerate",data:=.fields #[.none,.bool false,.ref s.heap.objs.size,rawInt 0,.none,.none]}) (s.heap.objs.size+1) s.heap.objs.size 0 .none:=by
  have:=get?_push_size (s.heap.push {cls:=.type "tuple_iterator",data:=.fields #[.ref l,.int 0 0]})
   (o:={cls:=.type "enumerate",data:=.fields #[.none,.bool false,.ref s.heap.objs.size,rawInt 0,.none,.none]}) rfl
  rw[hz]at this;exact this
 refine⟨⟨_,he,rfl⟩,h _ he ⟨_,get?_push_of_some _ (get?_push_size _ rfl),rfl,rfl⟩ (by rw[size_push,hz]) fun b o x=>get?_push_of_some _ (get?_push_of_some _ x)⟩
end
end PySem
namespace L2
open PySem PySem.Spec PyProof.Rows
variable {X:Cx} {h':Heap} {H:Hp} {pins:List (Addr×Obj)} {fp:List Addr} {es:List Expr} {t':Nat} {pos:Pos} {K:Frag} {s:Shared} {σ:St}
theorem Inv.EM (I:Inv X pins σ H s) (k:∀b o,b∉fp->s.heap.get? b=some o->h'.get? b=some o) (hf:∀b∈fp,pB X pins H b):
  Inv X pins σ H {s with heap:=h',toks:=t'}:=by
 have nit:∀b u,H b=some u->b∉fp:=fun b u e z=>by rw[(hf b z).1]at e;cases e
 refine I.step (g':=s.gens) (d':=s.drawn) (ch:=fp) (fun b hb=>?_) (fun b o _ _ hc e _=>k b o hc e) (fun b o _ _ hc e _=>⟨o.slots,k b o hc e⟩) (fun _ _ _ _ n=>n)
  (fun b o hc e=>⟨o,k b o hc e⟩) (fun _ _ e=>e) (fun _ _ _ e=>e) (fun b ps e=>⟨#[],by rw[e];simp⟩) (fun m hm=>?_) (fun b u e=>?_) I.bare
 ·obtain⟨_,f1,_,f3,f4,f5⟩:=hf b hb
  exact⟨f3,f1,f4,f5⟩
 ·obtain⟨o,es,ep,ho,r⟩:=hm
  exact⟨o,es,ep,k _ o (fun z=>(hf _ z).2.1 rfl) ho,r⟩
 ·refine(I.bN b u e).aH (fun c v hc q=>k c v ?_ q) (fun _ q=>q) fun _ _ q=>q
  rcases hc with z|z
  ·rw[z];exact nit b u e
  ·exact nit c _ z
theorem Inv.un2 {xs:List V} (I:Inv X pins σ H s) (k:∀b o,b∉fp->s.heap.get? b=some o->h'.get? b=some o) (hf:∀b∈fp,pB X pins H b)
  (hfr:H s.heap.objs.size=none) (hno:s.heap.objs.size∉fp) (new:c9 X.prog X.w (upd H s.heap.objs.size (.tup xs)) h' s.heap.objs.size (.tup xs)) (ht:∀b∈fp,∀o,s.heap.get? b=some o->∃o',h'.get? b=some o'):
  Inv X pins σ (upd H s.heap.objs.size (.tup xs)) {s with heap:=h',toks:=t'}:=by
 have nit:∀b u,H b=some u->b∉fp:=fun b u e z=>by rw[(hf b z).1]at e;cases e
 have nT:∀b o,s.heap.get? b=some o->b≠s.heap.objs.size:=fun b o e=>ne_of_lt (lt_size e)
 refine I.step (g':=s.gens) (d':=s.drawn) (ch:=fp) (fun b hb=>?_) (fun b o _ _ hc e _=>k b o hc e) (fun b o _ _ hc e _=>⟨o.slots,k b o hc e⟩) (fun b o _ e n=>by rw[aS (nT b o e)];exact n)
  (fun b o hc e=>⟨o,k b o hc e⟩) (fun b ys e=>by rw[aS (b8 e hfr)];exact e) (fun b o u e=>by rw[aS (b8 e hfr)];exact e) (fun b ps e=>⟨#[],by rw[aS (b8 e hfr),e];simp⟩) (fun m hm=>?_) (fun b u e=>?_) I.bare
 ·obtain⟨_,f1,_,f3,f4,f5⟩:=hf b hb
  exact⟨f3,f1,f4,f5⟩
 ·obtain⟨o,es,ep,ho,r⟩:=hm
  exact⟨o,es,ep,k _ o (fun z=>(hf _ z).2.1 rfl) ho,r⟩
 ·by_cases hb:b=s.heap.objs.size
  ·subst hb;rw[aW]at e;cases e;exact new
  ·rw[aS hb]at e
   refine(I.bN b u e).aH (fun c v hc q=>k c v ?_ q) (fun c q=>by rw[aS (b8 q hfr)];exact q) fun c ys q=>by rw[aS (b8 q hfr)];exact q
   rcases hc with z|z
   ·rw[z];exact nit b u e
   ·exact nit c _ z
noncomputable def Ite (K:Frag) (a:Addr):It:=
 ⟨fun i H=>∃xs x,nD K H a xs/\xs[i]? =some x,fun i H v H'=>∃t,H t=none/\v= .ref t/\∀xs,nD K H a xs->∃x,xs[i]? =some x/\H'=upd H t (.tup [.int i,x]),fun i H=>∃xs,nD K H a xs/\xs.length=i⟩
theorem C0 {P:Program} {w:World} {elts:List Expr} {x1} (a it e:Addr) (hei:e≠it):Turn P w K (.Tuple elts x1 pos) (Ite K a) [e,it] e (fun i h=>(∃old,IsEnum h e it i old)/\h.IsTupleIter it a i)where
 mem:=by simp
 obj:=fun i h st b hb=>by
  obtain⟨⟨old,he⟩,o,ho,c,d⟩:=st
  rcases mem_cons.mp hb with z|z
  ·subst z;exact⟨_,he,fun v z=>by cases z⟩
  ·have z:b=it:=by simpa using z
   subst z;exact⟨o,ho,fun v z=>by rw[d]at z;cases z⟩
 keep:=fun i h h' st k=>⟨let⟨old,he⟩:=st.1;⟨old,k e (by simp) _ he⟩,st.2.at fun o q=>k it (by simp) o q⟩
 item:=by
  intro X hP hw hK hc i pins s σ H E I hf st hg
  subst hP hw hK
  obtain⟨xs,x,hq,hx⟩:=hg
  obtain⟨its,rv,p,hz⟩:=I.tuple hq
  obtain⟨u,hu,ru⟩:=rv.get hx
  obtain⟨⟨old,he⟩,ht⟩:=st
  have hne:a≠it:=fun z=>by
   obtain⟨o,ho,c,_⟩:=ht
   obtain⟨o',ho',c',_⟩:=p
   subst z
   rw[ho]at ho';cases ho'
   rw[c]at c'
   exact absurd (Value.type.inj c') (by decide)
  have hae:a≠e:=fun z=>by
   obtain⟨o',ho',c',_⟩:=p
   subst z
   rw[he]at ho';cases ho'
   exact absurd (Value.type.inj c') (by decide)
  have hlt:i<its.toArray.size:=by have:=(List.getElem?_eq_some_iff.mp hu).1;simpa using this
  refine wpAny_pyNext_enum_itemD (jY (A:=X.A.in1) (by exact I.ok.hd hc) it a hne its.toArray) he ⟨ht,p⟩ hlt hei (by simp[hei,Ne.symm hae]) fun v h' tk hPv ho' st' htup hsz hk=>?_
  have ev:v=u:=by
   have h1:its[i]? =some v:=by simpa using hPv
   rw[hu]at h1;exact(Option.some.inj h1).symm
  subst ev
  refine⟨_,rfl,wpAny_letOwnedTupleGo_enum (s:={s with heap:=h',toks:=tk+1}) ho' fun h2 he2 sb=>?_⟩
  have hTe:s.heap.objs.size≠e:=fun z=>by
   have:=lt_size he;rw[<-z]at this;exact lt_irrefl _ this
  have hTi:s.heap.objs.size≠it:=fun z=>by
   obtain⟨o,ho,_⟩:=ht
   have:=lt_size ho;rw[<-z]at this;exact lt_irrefl _ this
  have hk2:∀b o,b∉[e,it]->s.heap.get? b=some o->h2.get? b=some o:=fun b o hb q=>
   sb.extBut b o (fun z=>hb (by simp[z])) (hk b o (fun z=>hb (by simp[z])) (fun z=>hb (by simp[z])) q)
  have I1:Inv X pins σ H {s with heap:=h2,toks:=tk+1}:=I.EM hk2 hf
  have hfr:H s.heap.objs.size=none:=I.bN.fresh (le_refl _)
  have htup2:h2.get? s.heap.objs.size=some {cls:=.type "tuple",data:=.seq #[.int i tk,v]}:=sb.extBut _ _ hTe htup
  have I2:Inv X pins σ (upd H s.heap.objs.size (.tup [.int i,x])) {s with heap:=h2,toks:=tk+1}:=by
   refine I.un2 hk2 hf hfr (by simp[hTe,hTi]) ⟨by show 2<=sizeLine;decide,[.int i tk,v],.cons ⟨_,rfl⟩ (.cons ru .nil),pP.of htup2⟩ (fun b hb o q=>?_)
   rcases mem_cons.mp hb with r|r
   ·subst r;exact⟨_,he2⟩
   ·have r:b=it:=by simpa using r
    subst r
    obtain⟨o',ho',_⟩:=st'.1.extBut sb.extBut (Ne.symm hei)
    exact⟨o',ho'⟩
  refine⟨.ref s.heap.objs.size,_,I2,rfl,⟨s.heap.objs.size,hfr,rfl,fun ys hy=>⟨x,by rw[I.vR hy hq];exact hx,rfl⟩⟩,⟨⟨_,he2⟩,st'.1.extBut sb.extBut (Ne.symm hei)⟩,fun b hb=>?_⟩
  have hbT:b≠s.heap.objs.size:=fun z=>by
   rcases mem_cons.mp hb with r|r
   ·exact hTe (z▸r)
   ·have r:b=it:=by simpa using r
    exact hTi (z▸r)
  rw[aS hbT]
  exact(hf b hb).1
 done:=by
  intro X hP hw hK hc i pins s σ H E I hf st hg
  subst hP hw hK
  obtain⟨xs,hq,hx⟩:=hg
  obtain⟨its,rv,p,hz⟩:=I.tuple hq
  obtain⟨⟨old,he⟩,ht⟩:=st
  have hl:=rv.length
  have hne:a≠it:=fun z=>by
   obtain⟨o,ho,c,_⟩:=ht
   obtain⟨o',ho',c',_⟩:=p
   subst z
   rw[ho]at ho';cases ho'
   rw[c]at c'
   exact absurd (Value.type.inj c') (by decide)
  have ei:(i:Nat)=its.toArray.size:=by simp;omega
  subst ei
  obtain⟨f0,f1,f2,f3,f4,f5⟩:=hf it (by simp)
  exact wpAny_pyNext_enum_endD (jY (A:=X.A.in1) (by exact I.ok.hd hc) it a hne its.toArray) he ⟨ht,p⟩ fun h' eb=>⟨rfl,I.turned (t':=s.toks) (fun b o hb e=>eb b o hb e) f0 f1 f3 f4 f5⟩
 self:=fun _ _ _ _ _ st h=>let⟨_,he⟩:=st.1;wpAny_pyIter_enum he h
section
variable {X:Cx} {k:Nat}
theorem ixL (K:Frag) (h:X.K=K:=by rfl):DC X (UU K):=h▸RJ
theorem ixT (K:Frag) (h:X.K=K:=by rfl):DC X (X3 K):=h▸V4
theorem slL (K:Frag) (h:X.K=K:=by rfl):F0 X (XG K):=h▸OL
noncomputable def aaR (K:Frag):List V->Hp->VK->Prop:=fun xs H Q=>∃p bs,xs=[.ref p]/\iR K H p (J2 bs)/\Q (.bl (bs.all id)) H
theorem acF (K:Frag) (hc:X.calm=true) (h:X.K=K:=by rfl):cD X (.builtin "all") (aaR K):=h▸LP hc
noncomputable def KL (K:Frag):List V->Hp->VK->Prop:=fun xs H Q=>∃p ys,xs=[.ref p]/\(iR K H p ys\/ nD K H p ys)/\∀l,H l=none->Q (.ref l) (upd H l (.lst ys))
theorem SO (K:Frag) (h:X.K=K:=by rfl):cD X (.type "list") (KL K):=h▸xQ
theorem aaA (K:Frag) (h:X.K=K:=by rfl):YV X "str.join" (rJoin K):=h▸PR
theorem gC (K:Frag) {j:Nat} {t:EY} {n:Nat} (hc:X.calm=true) (h:ZQ X es t) (hK:X.K=K:=by rfl)
  (hn:(assignEach es X.env).length=n:=by rfl) (hst:(assignEach es X.env).findIdx? (·.1)=none:=by rfl):PG X (.Tuple es j pos) (RC K n t):=hK▸U6 hc h hn hst
theorem kB (K:Frag) {o e:Expr} {to:TE} {t:TA} {name:Str} {apos cpos:Pos} {T id:String} {r:V->List V->Hp->VK->Prop} (pa:PlainAttrs T) (slot:Slot T name id) (hty:typeOf (.builtin id)=pure (.type "method_descriptor")) (hm:YV X id r) (ho:PE X o to) (ha:PA X (e::es) t) (hK:X.K=K:=by rfl)
  (hbase:attributeBase o name X.env (eval o X.env)=eval o X.env:=by rfl)
  (hfew:((backTo cpos (starEach (e::es) X.env)).all (fun x=>!x.1) && (backToKw cpos (keywordEach [] X.env)).all (fun x=>x.1.isSome)
   && decide ((e::es).length+([]:List Keyword).length+(if([]:List Keyword).isEmpty then 0 else 1)<30))=true:=by rfl)
  (hline:(apos.endLine==cpos.line)=true:=by rfl) (hs:starEach (e::es) X.env=(false,eval e X.env)::starEach es X.env:=by rfl) (hplain:(backTo cpos (starEach es X.env)).any (·.1)=false:=by rfl):
  PE X (.Call (.Attribute o name apos) (e::es) [] cpos) (YN K T r to t):=hK▸aa6 pa slot hty hm ho ha hbase hfew hline hs hplain
end
inductive Kd where
 |aY|bl|int|str|lst|tup|a9
 deriving DecidableEq
noncomputable def Kd.nm:Kd->String
 | .aY=>"NoneType"| .bl=>"bool"| .int=>"int"| .str=>"str"| .lst=>"list"| .tup=>"tuple"| .a9=>"dict"
theorem UE (k:Kd):kitOne K (.type k.nm) (.type "str")=some (decide (k= .str)):=by cases k<;>kernel_rfl
theorem WC (k:Kd):kitOne K (.type k.nm) (.type "tuple")=some (decide (k= .tup)):=by cases k<;>kernel_rfl
theorem XU (k:Kd):kitOne K (.type k.nm) (.type "int")=some (decide (k= .int)||decide (k= .bl)):=by cases k<;>kernel_rfl
theorem Q6 (k:Kd):kitOne K (.type k.nm) (.type "bool")=some (decide (k= .bl)):=by cases k<;>kernel_rfl
end L2
namespace HT
open PySem PySem.Spec PyProof.Rows
variable {t:Addr} {Q:Value->Shared->Prop}
section
variable {prog:Program} {w:World} {A:Around} {E:Value->Shared->Prop} {s:Shared}
theorem pK {sl:Addr} {items:Array Value} {vl vu:Value} {lo hi:Option Int} (ht:IsTup s.heap t items) (hs:s.heap.IsSliceOf sl vl vu .none) (pl:IsPart vl lo) (pu:IsPart vu hi)
  (hw:eI items.size 0 lo=0/\eI items.size items.size hi=items.size) (h:Q (.ref t) s):wpAny (model prog w) A (getItem (.ref t) (.ref sl)) Q E s:=by
 obtain⟨os,hos,hcs,hds⟩:=id hs
 have hTs:s.TypeIs (.ref sl) "slice":=⟨os,hos,hcs⟩
 unfold getItem
 try with_reducible refine wpAny_holding ?_
 first|refine wpAny_bind (wpAny_pure ?_)|skip
 refine wpAny_bind (wpAny_sequenceKey ht.typeIs (by decide) ?_)
 refine wpAny_bind (wpAny_callSpecial?_slot (name:=Str.ofString "__getitem__") ht.typeIs PyProof.Rows.slot_tuple_getitem
  (wpAny_call_entry PyProof.Rows.slot_tuple_getitem ht.typeIs entry_tuple_getitem ?_ (args_tuple_getitem _ _)))
 show wpAny _ _ (Builtin.Tuple.tupleItemsOf (.ref t)>>=_) _ _ s
 refine wpAny_bind (tupleItemsOf_ ht ?_)
 refine wpAny_bind (wpAny_typeOf hTs ?_)
 rw[if_pos (by decide)]
 refine wpAny_bind (jQ hs pl pu ?_)
 have hyes:(((eI items.size 0 lo:Nat):Int)==0 && (1:Int)==1 && (eI items.size items.size hi - eI items.size 0 lo)==items.size)=true:=by
  rw[hw.1,hw.2];simp
 show wpAny _ _ (if(((eI items.size 0 lo:Nat):Int)==0 && (1:Int)==1 && (eI items.size items.size hi - eI items.size 0 lo)==items.size)=true then _ else _) _ _ s
 rw[if_pos hyes]
 refine wpAny_bind (wpAny_bind (wpAny_typeOf ht.typeIs (wpAny_pure ?_)))
 rw[if_pos (by decide)]
 refine wpAny_bind (wpAny_rule ?_)
 first
  |exact wpAny_pure ⟨_,rfl,wpAny_pure h⟩
  |exact wpAny_bind (wpAny_pure ⟨_,rfl,wpAny_pure h⟩)
theorem N6 {b:Addr} {vs ws:List Value} (ht:IsTup s.heap t vs.toArray) (hb:IsTup s.heap b ws.toArray)
  (h0:vs=[]->Q (.ref b) s) (h1:ws=[]->Q (.ref t) s) (h2:vs≠[]->ws≠[]->Q (.ref s.heap.objs.size) {s with heap:=s.heap.push {cls:=.type "tuple",data:=.seq (vs++ws).toArray}})
  (hsz:vs.length+ws.length<=sizeLine):wpAny (model prog w) A (binaryOp .Add (.ref t) (.ref b)) Q E s:=by
 by_cases hv:vs=[]
 ·obtain⟨⟨cls,dd,data,sl⟩,ho,hc,n,hd⟩:=id ht
  obtain⟨⟨cls2,dd2,data2,sl2⟩,ho2,hc2,n2,hd2⟩:=id hb
  simp only at hc hd hc2 hd2
  subst hc hd hc2 hd2
  exact concat_meets ⟨_,ho,rfl⟩ ⟨_,ho2,rfl⟩ noFill_tuple_add seq_tuple_add slot_tuple_add entry_tuple_add (args_tuple_add_2 _ _)
   (tuple_addW0 t b vs.toArray ws.toArray n n2 dd dd2 sl sl2 (by simp[hv])) ⟨ho,ho2,h0 hv⟩
 ·exact PY ht hb hv h1 (h2 hv) hsz
end
end HT
namespace L2
open PySem PySem.Spec PyProof.Rows
variable {a b l:Addr} {p:Array Nat} {R:Array Nat->Prop} {r r' r'':Bool} {X:Cx} {h':Heap} {H H':Hp} {A:KeyOrd} {pins:List (Addr×Obj)} {xs:List (List Key×Addr×Value)} {kvs:List (List Key×V)} {vs:List Value} {ep i j k m n x:Nat} {ans:Nat->Nat->Bool} {pos py spos:Pos} {P:Program} {s:Shared} {σ:St} {y:Str} {α β:Type} {u:Value} {Q:Value->Shared->Prop} {w:World}
section
variable {X:Cx}
noncomputable def SM (i j:Int):Prop:=0<j/\j<2^200
theorem tX:iQ X (binaryOp .FloorDiv) (rI SM fun i j=>.int (i / j)):=Y9 fun i j _ _ _ _ _ hc q=>by
 have h1:(0:Int)<j:=hc.1
 have h2:j<2^200:=hc.2
 refine floordiv_int (by omega) (by rw[Int.fdiv_eq_ediv_of_nonneg i (by omega)];exact q) (.inl (PyProof.noPylong_of_log2 ?_))
 have h3:j.natAbs<2^200:=by omega
 have h4:j.natAbs.log2<200:=(Nat.log2_lt (by omega)).mpr h3
 omega
end
section
variable {κ:Type} [DecidableEq κ]
noncomputable def dX (kvs:List (κ×V)) (k:κ):Option V:=(kvs.find? fun kv=>decide (kv.1=k)).map (·.2)
noncomputable def putK (kvs:List (κ×V)) (k:κ) (v:V):List (κ×V):=
 if(kvs.any fun kv=>decide (kv.1=k))=true then kvs.map (fun kv=>if kv.1=k then(kv.1,v)else kv)else kvs++[(k,v)]
theorem t9 {p:κ×V} {r:List (κ×V)} {k:κ} (e:p.1=k):dX (p::r) k=some p.2:=by simp[dX,find?_cons,e]
theorem uC {p:κ×V} {r:List (κ×V)} {k:κ} (e:¬p.1=k):dX (p::r) k=dX r k:=by simp[dX,find?_cons,e]
theorem y7 (k:κ):∀kvs:List (κ×V),(kvs.any fun kv=>decide (kv.1=k))=(dX kvs k).isSome
 |[]=>rfl
 |p::r=>by
  rw[any_cons]
  by_cases e:p.1=k
  ·simp only[t9 e,decide_eq_true e,Bool.true_or,Option.isSome_some]
  ·rw[uC e,decide_eq_false e,Bool.false_or];exact y7 k r
theorem i4 (kvs:List (κ×V)) (k:κ) (v:V):(putK kvs k v).length<=kvs.length+1:=by
 unfold putK
 split
 ·rw[length_map];omega
 ·rw[length_append,length_cons,length_nil];omega
theorem rE.jO {o:Option V} {u:Option Value} (r:rE o u):o.isSome=u.isSome:=by
 cases o with
 |none=>cases u with
  |none=>rfl
  |some _=>exact(show False from r).elim
 |some _=>cases u with
  |none=>exact(show False from r).elim
  |some _=>rfl
theorem rE.getD {o:Option V} {u:Option Value} {d:V} {d':Value} (r:rE o u) (rd:RelV d d'):RelV (o.getD d) (u.getD d'):=by
 cases o with
 |none=>cases u with
  |none=>exact rd
  |some _=>exact(show False from r).elim
 |some _=>cases u with
  |none=>exact(show False from r).elim
  |some _=>exact r
theorem KV.val {kvs:List (κ×V)} {vs:List (κ×Value)} (r:KV kvs vs) (k:κ):rE (dX kvs k) (valueAt vs k):=by
 unfold KV at r
 induction r with
 |nil=>exact True.intro
 | @cons p q ps qs h t ih=>
  obtain⟨h1,h2⟩:=h
  by_cases e:p.1=k
  ·have e':q.1=k:=h1.symm.trans e
   have b:valueAt (q::qs) k=some q.2:=by simp[valueAt,find?_cons,e']
   rw[t9 e,b];exact h2
  ·have e':¬q.1=k:=fun z=>e (h1.trans z)
   have b:valueAt (q::qs) k=valueAt qs k:=by simp[valueAt,find?_cons,e']
   rw[uC e,b];exact ih
theorem KV.any {kvs:List (κ×V)} {vs:List (κ×Value)} (r:KV kvs vs) (k:κ):(kvs.any fun kv=>decide (kv.1=k))=vs.any fun kv=>decide (kv.1=k):=by
 unfold KV at r
 induction r with
 |nil=>rfl
 |cons h t ih=>rw[any_cons,any_cons,ih,h.1]
theorem KV.CS {kvs:List (κ×V)} {vs:List (κ×Value)} (r:KV kvs vs) (k:κ) {y:V} (ry:RelV y u):
  KV (kvs.map fun kv=>if kv.1=k then(kv.1,y)else kv) (vs.map fun kv=>if kv.1=k then(kv.1,u)else kv):=by
 unfold KV at r⊢
 induction r with
 |nil=>exact .nil
 | @cons p q ps qs h t ih=>
  rw[map_cons,map_cons]
  refine .cons ?_ ih
  obtain⟨h1,h2⟩:=h
  by_cases e:p.1=k
  ·rw[if_pos e,if_pos (h1.symm.trans e)];exact⟨h1,ry⟩
  ·rw[if_neg e,if_neg (fun z=>e (h1.trans z))];exact⟨h1,h2⟩
theorem KV.put {kvs:List (κ×V)} {vs:List (κ×Value)} (r:KV kvs vs) (k:κ) {y:V} (ry:RelV y u):KV (putK kvs k y) (stored vs k u):=by
 unfold putK stored
 rw[r.any k]
 by_cases e:(vs.any fun kv=>decide (kv.1=k))=true
 ·rw[if_pos e,if_pos e];exact r.CS k ry
 ·rw[if_neg e,if_neg e];exact Paired.snoc r ⟨rfl,ry⟩
theorem KV.keys {kvs:List (κ×V)} {vs:List (κ×Value)} (r:KV kvs vs):kvs.map (·.1)=vs.map (·.1):=by
 unfold KV at r
 induction r with
 |nil=>rfl
 |cons h t ih=>rw[map_cons,map_cons,ih,h.1]
theorem KV.length {kvs:List (κ×V)} {vs:List (κ×Value)} (r:KV kvs vs):kvs.length=vs.length:=Paired.length r
end
theorem pE {k:Key} {u:Value} (r:RelV (kV k) u):(bT P w).is k u=true:=by
 cases k with
 |inl i=>obtain⟨t,e⟩:=(show∃t,u=Value.int i t from r);subst e;exact AA P w i t
 |inr x=>obtain⟨t,e⟩:=(show∃t,u=Value.str x t from r);subst e;exact BD P w x t
theorem u6:∀{ks:List Key} {us:List Value},Vals (ks.map kV) us->ItemsAre (bT P w) ks us
 |[],_,r=>by rw[map_nil]at r;cases r;exact .nil
 |k::ks,_,r=>by
  rw[map_cons]at r
  cases r with
  |cons h t=>exact .cons (pE h) (u6 t)
noncomputable abbrev KT (H:Hp):List (List Key×V)->List (List Key×Addr×Value)->Prop:=Paired fun p q=>p.1=q.1/\H q.2.1=some (.tup (p.1.map kV))/\RelV p.2 q.2.2
theorem KT.val (r:KT H kvs xs) (k:List Key):rE (dX kvs k) ((atKey xs k).map (·.2)):=by
 induction r with
 |nil=>exact True.intro
 | @cons p q ps qs h t ih=>
  obtain⟨h1,_,h2⟩:=h
  by_cases e:p.1=k
  ·have e':q.1=k:=h1.symm.trans e
   have b:atKey (q::qs) k=some q.2:=by simp[atKey,find?_cons,e']
   rw[t9 e,b];exact h2
  ·have e':¬q.1=k:=fun z=>e (h1.trans z)
   have b:atKey (q::qs) k=atKey qs k:=by simp[atKey,find?_cons,e']
   rw[uC e,b];exact ih
theorem KT.CS (r:KT H kvs xs) (k:List Key) {y:V} (ry:RelV y u):
  KT H (kvs.map fun kv=>if kv.1=k then(kv.1,y)else kv) (xs.map (putAt k u)):=by
 induction r with
 |nil=>exact .nil
 | @cons p q ps qs h t ih=>
  rw[map_cons,map_cons]
  refine .cons ?_ ih
  obtain⟨h1,h2,h3⟩:=h
  unfold putAt
  by_cases e:p.1=k
  ·rw[if_pos e,if_pos (h1.symm.trans e)];exact⟨h1,h2,ry⟩
  ·rw[if_neg e,if_neg (fun z=>e (h1.trans z))];exact⟨h1,h2,h3⟩
theorem KT.put (r:KT H kvs xs) (k:List Key) {y:V} (hb:H b=some (.tup (k.map kV))) (ry:RelV y u):
  KT H (putK kvs k y) (storedH xs k b u):=by
 have e:(kvs.any fun kv=>decide (kv.1=k))=(atKey xs k).isSome:=by
  rw[y7,(r.val k).jO,isSome_map]
 unfold putK storedH
 rw[e]
 by_cases q:(atKey xs k).isSome=true
 ·rw[if_pos q,if_pos q];exact r.CS k ry
 ·rw[if_neg q,if_neg q];exact Paired.snoc r ⟨rfl,hb,ry⟩
theorem KT.keeps (r:KT H kvs xs) (ht:∀b ys,H b=some (.tup ys)->H' b=some (.tup ys)):KT H' kvs xs:=
 Paired.XS r fun _ _ z=>⟨z.1,ht _ _ z.2.1,z.2.2⟩
noncomputable def yI (H:Hp) (a:Addr) (kvs:List (Key×V)):Prop:=∃ep,Rd H a (.dK kvs ep)
noncomputable def sI (H:Hp) (a:Addr) (kvs:List (Key×V)):Prop:=∃ep,H a=some (.dK kvs ep)
theorem sI.rd {kvs:List (Key×V)} (h:sI H a kvs):yI H a kvs:=let⟨ep,e⟩:=h;⟨ep,.inl e⟩
theorem sI.mut {kvs:List (Key×V)} (h:sI H a kvs):YM (H a):=by obtain⟨_,e⟩:=h;rw[e];exact True.intro
section
variable {P:Program} {w:World} {H:Hp} {h:Heap} {a:Addr}
theorem SX {u:HO} (ok:mX P w H h) (e:Rd H a u):c9 P w H h a u:=e.ok ok
theorem sO {kvs:List (Key×V)} (ok:mX P w H h) (e:Rd H a (.dK kvs ep)):kvs.length<=sizeLine/\(a==sysModules)=false/\∃vs,KV kvs vs/\h.DictAt (bT P w) a vs ep:=
 show c9 P w H h a (.dK kvs ep)from SX ok e
theorem gU {kvs:List (Key×V)} (ok:mX P w H h) (e:yI H a kvs):kvs.length<=sizeLine/\(a==sysModules)=false/\∃vs,KV kvs vs/\h.DictOf (bT P w) a vs:=
 let⟨_,e⟩:=e;let⟨z,y,vs,r,d⟩:=sO ok e;⟨z,y,vs,r,d.dictOf⟩
theorem JP {kvs:List (Key×V)} (ok:mX P w H h) (e:sI H a kvs):kvs.length<=sizeLine/\(a==sysModules)=false/\∃vs,KV kvs vs/\h.DictOf (bT P w) a vs:=gU ok e.rd
theorem nN {ks:List Key} (ok:mX P w H h) (e:H a=some (.tup (ks.map kV))):(tupleKind (bT P w)).is h ks a:=by
 obtain⟨_,its,r,⟨o,h1,h2,n,h3⟩,_⟩:=(show c9 P w H h a (.tup (ks.map kV))from ok a _ e)
 exact⟨o,its.toArray,n,h1,h2,h3,by simpa using u6 r⟩
theorem qM {kvs:List (List Key×V)} (ok:mX P w H h) (e:Rd H a (.dT kvs)):kvs.length<=sizeLine/\(a==sysModules)=false/\
  ∃xs,KT H kvs xs/\h.DictOfH (tupleKind (bT P w)) a xs:=by
 obtain⟨z,y,xs,r,o,es,ep,h1,h2,h3,h4,h5⟩:=(show c9 P w H h a (.dT kvs)from SX ok e)
 refine⟨z,y,xs,r,o,es,ep,h1,h2,h3,h4,fun x hx=>?_,h5⟩
 have all:∀{l:List (List Key×V)} {m:List (List Key×Addr×Value)},KT H l m->∀x∈m,(tupleKind (bT P w)).is h x.1 x.2.1:=by
  intro l m q
  induction q with
  |nil=>intro x hx;exact nomatch hx
  | @cons p q ps qs hq t ih=>
   intro x hx
   rcases mem_cons.mp hx with e|hx
   ·subst e
    exact nN ok (by rw[<-hq.1];exact hq.2.1)
   ·exact ih x hx
 exact all r x hx
theorem Y1 (ok:mX P w H h) (e:H a=some (.dT kvs)):kvs.length<=sizeLine/\(a==sysModules)=false/\
  ∃xs,KT H kvs xs/\h.DictOfH (tupleKind (bT P w)) a xs:=qM ok (.inl e)
end
noncomputable def xU (H:Hp) (a:Addr) (y:V) (r:Option V):Prop:=
 (∃kvs k,yI H a kvs/\y=kV k/\r=dX kvs k)\/ ∃kvs k b,Rd H a (.dT kvs)/\y= .ref b/\H b=some (.tup (k.map kV))/\r=dX kvs k
noncomputable def Y7 (H:Hp) (a:Addr) (y v:V) (Q:Hp->Prop):Prop:=
 (∃kvs k,sI H a kvs/\y=kV k/\kvs.length<sizeLine/\∀ep,Q (upd H a (.dK (putK kvs k v) ep)))\/
 ∃kvs k b,H a=some (.dT kvs)/\y= .ref b/\H b=some (.tup (k.map kV))/\kvs.length<sizeLine/\Q (upd H a (.dT (putK kvs k v)))
section
variable {X:Cx} {pins:List (Addr×Obj)} {σ:St} {H:Hp} {s:Shared} {a:Addr} {y v:V} {u r:Value} {o:Option V} {A:Around} {E:Value->Shared->Prop}
theorem Inv.big (I:Inv X pins σ H s):sysModules<s.heap.objs.size:=by
 have h:mainGlobals<s.heap.objs.size:=(I.mod.glob.keeps I.bk).lt
 exact lt_trans (by decide) h
theorem F3 (hu:A.units+1<cLine) (I:Inv X pins σ H s) (g:xU H a y (some v)) (ry:RelV y u) (h:∀w' s',Inv X pins σ H s'->RelV v w'->Q w' s'):
  wpAny (model X.prog X.w) A (getItem (.ref a) u) Q E s:=by
 rcases g with⟨kvs,k,e,ey,l⟩|⟨kvs,k,b,e,ey,eb,l⟩
 ·subst ey
  obtain⟨z,hd,vs,rel,dd⟩:=gU I.bN e
  obtain⟨w',hw,rw'⟩:=rE.some_of (v:=v) (o:=valueAt vs k) (by rw[l];exact rel.val k)
  exact wpAny_getItem_of (pE ry) dd.mapOf hw (h w' _ (I.tok _) rw')
 ·subst ey
  cases(show u=Value.ref b from ry)
  obtain⟨z,hd,xs,rel,dd⟩:=qM I.bN e
  obtain⟨w',hw,rw'⟩:=rE.some_of (v:=v) (o:=(atKey xs k).map (·.2)) (by rw[l];exact rel.val k)
  obtain⟨p,hp,hp2⟩:=map_eq_some_iff.mp hw
  refine wpAny_getItem_heap (tupleKind_room_in1 hu) (nN I.bN eb) dd hp ?_
  rw[hp2]
  exact h w' _ (I.tok _) rw'
theorem acG (hu:A.units+1<cLine) (I:Inv X pins σ H s) (g:xU H a y o) (ry:RelV y u) (h:∀s',Inv X pins σ H s'->Q (.bool o.isSome) s'):
  wpAny (model X.prog X.w) A (compareOp .In u (.ref a)) Q E s:=by
 rcases g with⟨kvs,k,e,ey,l⟩|⟨kvs,k,b,e,ey,eb,l⟩
 ·subst ey
  obtain⟨z,hd,vs,rel,dd⟩:=gU I.bN e
  refine wpAny_in_of (pE ry) hd dd.mapOf ?_
  rw[<-(rel.val k).jO,<-l]
  exact h _ (I.tok _)
 ·subst ey
  cases(show u=Value.ref b from ry)
  obtain⟨z,hd,xs,rel,dd⟩:=qM I.bN e
  refine wpAny_in_heap (tupleKind_room_in1 hu) (nN I.bN eb) hd dd ?_
  have q:=(rel.val k).jO
  rw[isSome_map]at q
  rw[<-q,<-l]
  exact h _ (I.tok _)
theorem Q1 (hu:A.units+1<cLine) (I:Inv X pins σ H s) (g:xU H a y o) (ry:RelV y u) (h:∀s',Inv X pins σ H s'->Q (.bool (!o.isSome)) s'):
  wpAny (model X.prog X.w) A (compareOp .NotIn u (.ref a)) Q E s:=by
 rcases g with⟨kvs,k,e,ey,l⟩|⟨kvs,k,b,e,ey,eb,l⟩
 ·subst ey
  obtain⟨z,hd,vs,rel,dd⟩:=gU I.bN e
  refine wpAny_notIn_of (pE ry) hd dd.mapOf ?_
  rw[<-(rel.val k).jO,<-l]
  exact h _ (I.tok _)
 ·subst ey
  cases(show u=Value.ref b from ry)
  obtain⟨z,hd,xs,rel,dd⟩:=qM I.bN e
  refine wpAny_notIn_heap (tupleKind_room_in1 hu) (nN I.bN eb) hd dd ?_
  have q:=(rel.val k).jO
  rw[isSome_map]at q
  rw[<-q,<-l]
  exact h _ (I.tok _)
theorem rX {t':Nat} {ob:HO} (I:Inv X pins σ H s) (mu:YM (H a)) (hs:Heap.SameBut a s.heap h') (he:∃q,h'.get? a=some q) (new:c9 X.prog X.w (upd H a ob) h' a ob):
  Inv X pins σ (upd H a ob) {s with heap:=h',toks:=t'}:=
 I.write (x:=a) (e:=a) mu (.inl rfl) (fun b q hb z=>(hs.2 b hb).trans z) he new
theorem B0 {kvs:List (Key×V)} {vs:List (Key×Value)} (z:kvs.length<=sizeLine) (hd:(a==sysModules)=false) (rel:KV kvs vs) (dd:h'.DictAt (bT P w) a vs ep):
  c9 P w H' h' a (.dK kvs ep):=⟨z,hd,vs,rel,dd⟩
theorem F4 {Z:Hp->Prop} {Q:Unit->Shared->Prop} (hu:A.units+1<cLine) (I:Inv X pins σ H s) (g:Y7 H a y v Z) (ry:RelV y u) (rv:RelV v r) (h:∀H' s',Inv X pins σ H' s'->Z H'->Q () s'):
  wpAny (model X.prog X.w) A (setItem (.ref a) u r) Q E s:=by
 rcases g with⟨kvs,k,e,ey,l,eH⟩|⟨kvs,k,b,e,ey,eb,l,eH⟩
 ·subst ey
  obtain⟨z,hd,vs,rel,dd⟩:=JP I.bN e
  have hz:vs.length<=sizeLine:=by rw[<-rel.length];exact z
  have hl:(putK kvs k v).length<=sizeLine:=by have:=i4 kvs k v;omega
  refine wpAny_setItem_pairs (hsz:=hz) (pE ry) dd fun h' dd' hs=>?_
  obtain⟨ep,da⟩:=dd'.dictAt
  refine h _ _ ?_ (eH ep)
  have he:∃q,h'.get? a=some q:=let⟨q,_,_,hq,_⟩:=dd';⟨q,hq⟩
  exact rX I e.mut hs he (B0 hl hd (rel.put k rv) da)
 ·subst ey
  cases(show u=Value.ref b from ry)
  obtain⟨z,hd,xs,rel,dd⟩:=Y1 I.bN e
  have hz:xs.length<=sizeLine:=by rw[<-Paired.length rel];exact z
  have hl:(putK kvs k v).length<=sizeLine:=by have:=i4 kvs k v;omega
  refine wpAny_setItem_heap (hsz:=hz) (tupleKind_room_in1 hu) (nN I.bN eb) dd fun h' dd' hs=>h _ _ ?_ eH
  obtain⟨q,es,ep,hq,h2,h3,h4,_,h5⟩:=dd'
  refine rX I (by rw[e];exact True.intro) hs ⟨q,hq⟩ ⟨hl,hd,_,(rel.put k eb rv).keeps fun c ys ec=>?_,q,es,ep,hq,h2,h3,h4,h5⟩
  rw[aS (K5 ec e (fun z=>nomatch z))]
  exact ec
end
theorem zQ {y:V} {o:Option V} (I:Inv X pins σ H s) (g:xU H a y o):s.TypeIs (.ref a) "dict":=by
 rcases g with⟨kvs,k,e,_,_⟩|⟨kvs,k,b,e,_,_,_⟩
 ·obtain⟨_,_,vs,_,dd⟩:=gU I.bN e
  exact dd.typeIs
 ·obtain⟨_,_,xs,_,dd⟩:=qM I.bN e
  exact dd.typeIs
noncomputable def eZ (td ty tv:TE):TS:=fun D σ H=>tv σ H fun v H1=>td σ H1 fun x H2=>ty σ H2 fun y H3=>∃a,x= .ref a/\Y7 H3 a y v (D.nx σ)
section
variable {X:Cx} {o i e value:Expr} {pos pos' tpos:Pos} {td ty tv:TE}
theorem dI (hu:X.A.units+1<cLine) (ho:PE X o td) (hi:PE X i ty) (hv:PE X value tv) (hs:swapsWith value (some (.Subscript o i pos')) pos.line X.env=pure false):
  PS X (.Assign [.Subscript o i pos'] value pos) (eZ td ty tv):=by
 intro pins s σ H D I h
 refine wpAny_Assign_Subscript (cM (hv pins s σ H _ I h) fun r s1 ⟨v,H1,I1,rv,q1⟩=>cM (ho pins s1 σ H1 _ I1 q1) fun u s2 ⟨x,H2,I2,rx,q2⟩=>cM (hi pins s2 σ H2 _ I2 q2) fun iv s3 ⟨y,H3,I3,ry,a,ex,g⟩=>?_) hs
 subst ex
 obtain rfl:u=Value.ref a:=rx
 exact F4 hu I3 g ry rv fun H4 s4 I4 q3=>⟨σ,H4,I4,q3⟩
end
theorem IF (h:Heap) (hb:sysModules<h.objs.size):c9 P w H (h.push {cls:=.type "dict",data:=.dict #[]}) h.objs.size (.dK [] 0):=
 ⟨zero_le _,beq_eq_false_iff_ne.mpr (Ne.symm (ne_of_lt hb)),[],.nil,_, #[],get?_push_size _ rfl,⟨rfl,rfl,rfl⟩,rfl,(fun _ he=>by simp at he),PySem.Pairs.nil,nodup_nil⟩
noncomputable def yH:TE:=fun _ H Q=>∀p,H p=none->Q (.ref p) (upd H p (.dK [] 0))
section
variable {X:Cx} {pos:Pos}
theorem gG:PE X (.Dict [] [] pos) yH:=fun pins s σ H Q I h=>
 wpAny_Dict_empty ⟨.ref s.heap.objs.size,_,I.laid (a:=s.heap.objs.size) (o:=.dK [] 0) (t':=s.toks) (fun _ _ q=>get?_push_of_some _ q) (le_refl _) (IF s.heap I.big),rfl,h _ (I.bN.fresh (le_refl _))⟩
end
structure M1 (X:Cx) (o:Expr) (m:Str) (apos:Pos) (e:Expr) (cpos:Pos):Prop where
 base:attributeBase o m X.env (eval o X.env)=eval o X.env
 few:((backTo cpos (starEach [e] X.env)).all (fun x=>!x.1) && (backToKw cpos (keywordEach [] X.env)).all (fun x=>x.1.isSome)
  && decide (([e]:List Expr).length+([]:List Keyword).length+(if([]:List Keyword).isEmpty then 0 else 1)<30))=true
 line:(apos.endLine==cpos.line)=true
 trees:backTo cpos (starEach [e] X.env)=[(false,eval e X.env)]
structure M2 (X:Cx) (o:Expr) (m:Str) (apos:Pos) (e f:Expr) (cpos:Pos):Prop where
 base:attributeBase o m X.env (eval o X.env)=eval o X.env
 few:((backTo cpos (starEach [e,f] X.env)).all (fun x=>!x.1) && (backToKw cpos (keywordEach [] X.env)).all (fun x=>x.1.isSome)
  && decide (([e,f]:List Expr).length+([]:List Keyword).length+(if([]:List Keyword).isEmpty then 0 else 1)<30))=true
 line:(apos.endLine==cpos.line)=true
 trees:backTo cpos (starEach [e,f] X.env)=[(false,eval e X.env),(false,eval f X.env)]
noncomputable def IsD (H:Hp) (a:Addr):Prop:=(∃kvs,yI H a kvs)\/ ∃kvs,Rd H a (.dT kvs)
theorem BV (I:Inv X pins σ H s) (d:IsD H a):
  s.TypeIs (.ref a) "dict"/\(∀b,Value.ref a= .ref b->∃ob,s.heap.get? b=some ob/\ob.dict=none)/\(a==sysModules)=false:=by
 rcases d with⟨kvs,e⟩|⟨kvs,e⟩
 ·obtain⟨_,hd,vs,_,dd⟩:=gU I.bN e
  refine⟨dd.typeIs,fun b q=>?_,hd⟩
  cases q
  obtain⟨ob,_,_,h1,h2,_⟩:=dd
  exact⟨ob,h1,h2.2.1⟩
 ·obtain⟨_,hd,xs,_,dd⟩:=qM I.bN e
  refine⟨dd.typeIs,fun b q=>?_,hd⟩
  cases q
  obtain⟨ob,_,_,h1,h2,_⟩:=dd
  exact⟨ob,h1,h2.2.1⟩
section
variable {X:Cx} {pins:List (Addr×Obj)} {σ:St} {H:Hp} {s:Shared} {a:Addr} {y d:V} {u r:Value} {o:Option V} {A:Around} {E:Value->Shared->Prop}
theorem YI (hu:A.units+1<cLine) (I:Inv X pins σ H s) (g:xU H a y o) (ry:RelV y u) (h:∀w' s',Inv X pins σ H s'->RelV (o.getD .aY) w'->Q w' s'):
  wpAny (model X.prog X.w) A (call (.builtin "dict.get") [.ref a,u]) Q E s:=by
 rcases g with⟨kvs,k,e,ey,l⟩|⟨kvs,k,b,e,ey,eb,l⟩
 ·subst ey
  obtain⟨z,hd,vs,rel,dd⟩:=gU I.bN e
  refine call_meetsIn slot_dict_get dd.typeIs entry_dict_get (PySem.F.args_dict_get_2 _ _) (meets_dict_get (bT X.prog X.w) a (pE ry) hd) ⟨_,dd.mapOf,h _ _ (I.tok _) ?_⟩
  rw[l]
  exact(rel.val k).getD rfl
 ·subst ey
  cases(show u=Value.ref b from ry)
  obtain⟨z,hd,xs,rel,dd⟩:=qM I.bN e
  refine call_meetsIn slot_dict_get dd.typeIs entry_dict_get (PySem.F.args_dict_get_2 _ _) (meetsH_dict_get (tupleKind (bT X.prog X.w)) a b hd) ⟨tupleKind_room_in1 hu,k,xs,nN I.bN eb,dd,h _ _ (I.tok _) ?_⟩
  rw[l]
  exact(rel.val k).getD rfl
theorem S8 (hu:A.units+1<cLine) (I:Inv X pins σ H s) (g:xU H a y o) (ry:RelV y u) (rd:RelV d r) (h:∀w' s',Inv X pins σ H s'->RelV (o.getD d) w'->Q w' s'):
  wpAny (model X.prog X.w) A (call (.builtin "dict.get") [.ref a,u,r]) Q E s:=by
 rcases g with⟨kvs,k,e,ey,l⟩|⟨kvs,k,b,e,ey,eb,l⟩
 ·subst ey
  obtain⟨z,hd,vs,rel,dd⟩:=gU I.bN e
  refine call_meetsIn slot_dict_get dd.typeIs entry_dict_get (PySem.F.args_dict_get_3 _ _ _) (meets_dict_get_default (bT X.prog X.w) a (pE ry) hd r) ⟨_,dd.mapOf,h _ _ (I.tok _) ?_⟩
  rw[l]
  exact(rel.val k).getD rd
 ·subst ey
  cases(show u=Value.ref b from ry)
  obtain⟨z,hd,xs,rel,dd⟩:=qM I.bN e
  refine call_meetsIn slot_dict_get dd.typeIs entry_dict_get (PySem.F.args_dict_get_3 _ _ _) (meetsH_dict_get_default (tupleKind (bT X.prog X.w)) a b hd r) ⟨tupleKind_room_in1 hu,k,xs,nN I.bN eb,dd,h _ _ (I.tok _) ?_⟩
  rw[l]
  exact(rel.val k).getD rd
end
noncomputable def KW (td ty:TE):TE:=fun σ H Q=>td σ H fun x H1=>∃a,x= .ref a/\IsD H1 a/\ty σ H1 fun y H2=>∃o,xU H2 a y o/\Q (o.getD .aY) H2
noncomputable def J7 (td ty tx:TE):TE:=fun σ H Q=>td σ H fun x H1=>∃a,x= .ref a/\IsD H1 a/\ty σ H1 fun y H2=>tx σ H2 fun z H3=>∃o,xU H3 a y o/\Q (o.getD z) H3
section
variable {X:Cx} {o e f:Expr} {apos cpos:Pos} {td ty tx:TE}
theorem A5 (hu:X.A.units+1<cLine) (ho:PE X o td) (he:PE X e ty) (m:M1 X o "get" apos e cpos):PE X (.Call (.Attribute o "get" apos) [e] [] cpos) (KW td ty):=by
 intro pins s σ H Q I h
 refine wpAny_Call_method m.base m.few m.line plainAttrs_dict slot_dict_get type_dict_get (cM (ho pins s σ H _ I h) fun u s1 ⟨x,H1,I1,rx,a,ex,d,q1⟩=>?_)
 subst ex
 obtain rfl:u=Value.ref a:=rx
 obtain⟨t1,t2,_⟩:=BV I1 d
 refine⟨t1,t2,?_⟩
 rw[m.trees]
 refine Calls.callWith_builtin rfl (Calls.evalArgs_plain (Calls.spliced_cons (cM (he pins s1 σ H1 _ I1 q1) fun iv s2 ⟨y,H2,I2,ry,ov,g,q2⟩=>Calls.spliced_nil ?_)))
 exact YI hu I2 g ry fun w' s3 I3 rw'=>⟨_,H2,I3,rw',q2⟩
theorem JY (hu:X.A.units+1<cLine) (ho:PE X o td) (he:PE X e ty) (hf:PE X f tx) (m:M2 X o "get" apos e f cpos):PE X (.Call (.Attribute o "get" apos) [e,f] [] cpos) (J7 td ty tx):=by
 intro pins s σ H Q I h
 refine wpAny_Call_method m.base m.few m.line plainAttrs_dict slot_dict_get type_dict_get (cM (ho pins s σ H _ I h) fun u s1 ⟨x,H1,I1,rx,a,ex,d,q1⟩=>?_)
 subst ex
 obtain rfl:u=Value.ref a:=rx
 obtain⟨t1,t2,_⟩:=BV I1 d
 refine⟨t1,t2,?_⟩
 rw[m.trees]
 refine Calls.callWith_builtin rfl (Calls.evalArgs_plain (Calls.spliced_cons (cM (he pins s1 σ H1 _ I1 q1) fun iv s2 ⟨y,H2,I2,ry,q2⟩=>
  Calls.spliced_cons (cM (hf pins s2 σ H2 _ I2 q2) fun fv s3 ⟨z,H3,I3,rz,ov,g,q3⟩=>Calls.spliced_nil ?_))))
 exact S8 hu I3 g ry rz fun w' s4 I4 rw'=>⟨_,H3,I4,rw',q3⟩
end
section
variable {X:Cx} {es:List Expr} {te:TE} {t:TA}
theorem acE {a b c} (ha:PE X (.Constant a b c) te) (hr:PA X es t):PA X (.Constant a b c::es) (eN te t):=aA ha hr rfl
theorem acC {a b} (ha:PE X (.Name a b) te) (hr:PA X es t):PA X (.Name a b::es) (eN te t):=aA ha hr rfl
theorem ab4 {a b c d} (ha:PE X (.BinOp a b c d) te) (hr:PA X es t):PA X (.BinOp a b c d::es) (eN te t):=aA ha hr rfl
theorem ab3 {a b c} (ha:PE X (.Subscript a b c) te) (hr:PA X es t):PA X (.Subscript a b c::es) (eN te t):=aA ha hr rfl
end
section
variable {X:Cx} {elt tg iter:Expr} {ifs:List Expr} {scope:Scope} {pos:Pos} {wi:TI} {g:TG} {tt:TT} {te:TE} {N:List Str} {k:Nat} {cH:List Nat}
theorem P7 {iy:Nat} (hc:X.calm=true) (hNd:X.N.Nodup) (hiy:X.N[iy]? =some y) (hy:X.env.scope.names.lookup y=some .local)
  (S:fV X scope N k cH) (hi:PI X tg iter wi) (hg:∀c,PG (bI X scope N c) tg g) (ht:∀c,SA (bI X scope N c) ifs tt) (he:∀c,PE (bI X scope N c) elt te)
  (hsw:swapsWith (.ListComp elt [⟨tg,iter,ifs,0⟩] scope pos) (some (.Name y py)) spos.line X.env=pure true)
  (hs:∀x,foldedSetIterable iter X.env x=pure x:=by intro _;rfl):PS X (.Assign [.Name y py] (.ListComp elt [⟨tg,iter,ifs,0⟩] scope pos) spos) (tH (wG wi k cH g tt te) (lY iy)):=by
 intro pins s σ H D I h
 rw[exec_Assign_Name_used _ _ _ _ hsw]
 refine wpAny_bind (wpAny_standAt (wpAny_bind ?_))
 obtain⟨cl,hclos,hcl1,hcl2⟩:=jD (scope:=scope) (env:=X.env) (fun p hp hf=>I.ok.has p.1 (S.free p hp hf))
 show wpAny _ X.A (do let _<-comprehension (.ListComp elt [⟨tg,iter,ifs,0⟩] scope pos) scope X.env _ (newList []) false (eval iter X.env) (some (assign (.Name y py) X.env))) _ _ s
 refine wpAny_bind (wpAny_mono (wpAny_comprehension_free (use:=some (assign (.Name y py) X.env)) (Q:=fun _ s'=>SP X pins D .next s') rfl hs hclos S.kind S.names (cM (hi pins s σ H _ I h) fun v s1 h1=>cM h1 fun itv s2 h2=>?_)) (fun _ s' hq=>wpAny_pure (wpAny_pure hq)) fun _ _ e=>e)
 obtain⟨it,fp,tn,J,H2,e,I2,T,st2,f2,q2⟩:=h2
 subst e
 obtain⟨W,⟨m0,w0⟩,turn⟩:=q2 s2.heap.objs.size (I2.bN.fresh (le_refl _))
 have hob:∀b∈fp,b<s2.heap.objs.size:=fun b hb=>let⟨o,e,_⟩:=T.obj _ _ st2 b hb;lt_size e
 refine wpAny_newObj_type (wpAny_newFunctionEnv S.cell (by intro y hy;simp at hy) (fun h₁ hns₁ hsb₁=>?_) S.kind)
 dsimp only at hns₁ hsb₁⊢
 generalize hHH:s2.heap.push {cls:=.type "list",dict:=none,data:=.seq ([]:List Value).toArray}=HH at hns₁ hsb₁⊢
 have hCC:HH.objs.size=s2.heap.objs.size+1:=by rw[<-hHH,size_push]
 have old:∀b o,s2.heap.get? b=some o->h₁.get? b=some o:=fun b o e=>hsb₁.extBut b o (ne_of_lt (hCC▸lt_succ_of_lt (lt_size e))) (get?_push_of_some _ (hHH▸get?_push_of_some _ e))
 have hD:h₁.get? s2.heap.objs.size=some {cls:=.type "list",data:=.seq #[] 0}:=hsb₁.extBut _ _ (ne_of_lt (hCC▸lt_succ_self _)) (get?_push_of_some _ (hHH▸get?_push_size _ rfl))
 have I4:=fun tk=>EB (tk:=tk) S I2 hcl1 hcl2 hCC f2 hob old hD hns₁
 have X':=bI X scope N ⟨cl,HH.objs.size,s2,H2,fp⟩
 have stat:∀{H':Hp},(∀b∈fp,H' b=none)->∀b∈fp,pB (bI X scope N ⟨cl,HH.objs.size,s2,H2,fp⟩) [] H' b:=fun hn b hb=>
  ⟨hn b hb,ne_of_lt (hCC▸lt_succ_of_lt (hob b hb)),(sQ S I2 hcl1 hcl2 (hCC▸le_succ _) f2 hob).zR b hb,.inl hb,fun x c e=>(f2 b hb).2.2.2.2.1 x c (hcl1 x c e),fun p hp=>absurd (show p∈([]:List (Addr×Obj))from hp) (by simp)⟩
 have loop:∀s₃:Shared,s₃={s2 with heap:=h₁,toks:=s2.toks+([]:List (Str×Value)).length}->
   codeAny (model X.prog X.w) X.A (.compLoop (.ListComp elt [⟨tg,iter,ifs,0⟩] scope pos) 0 (.ref it) (.ref s2.heap.objs.size) (compEnvC scope cl HH.objs.size X.env))
    (compPost (model X.prog X.w) X.A X.xe (some (assign (.Name y py) X.env)) (fun _ s'=>SP X pins D .next s') (.ref s2.heap.objs.size) HH.objs.size) s₃:=by
  rintro s₃ rfl
  refine vA (fun n s'=>∃i σ' H',Inv (bI X scope N ⟨cl,HH.objs.size,s2,H2,fp⟩) [] σ' H' s'/\tn i s'.heap/\(∀b∈fp,H' b=none)/\W i n σ' H') ?_ m0
   ⟨0,eM k cH σ,_,I4 _,T.keep _ _ _ st2 fun b _ o e=>old b o e,fun b hb=>by rw[aS (ne_of_lt (hob b hb))];exact(f2 b hb).1,w0⟩
  rintro n s3 ⟨i,σ3,H3,I3,st3,fr3,w3⟩
  rcases turn i n σ3 H3 w3 with⟨stop,qn⟩|⟨go,NN,hN,step⟩
  ·refine cM (T.done (bI X scope N ⟨cl,HH.objs.size,s2,H2,fp⟩) rfl rfl rfl hc i [] s3 σ3 H3 _ I3 (stat fr3) st3 stop) fun r s4 ⟨hr,J4⟩=>?_
   subst hr
   obtain⟨m,hn,_⟩:=J4.loc
   obtain⟨oC,es,ep,hoC,hdC,rC⟩:=hn
   have fP:∀b o,s2.heap.get? b=some o->b≠HH.objs.size:=fun b o e=>ne_of_lt (hCC▸lt_succ_of_lt (lt_size e))
   have szC:s2.heap.objs.size<=HH.objs.size:=hCC▸le_succ _
   have u:=J4.base
   have I4x:Inv X pins σ H3 s4:=I2.LH (ch:=fp) J4.os u J4.bN J4.bare fun b hb=>by
    obtain⟨_,f1,_,f3,f4,f5⟩:=f2 b hb
    exact⟨f3,f1,f4,f5⟩
   have lC:HH.objs.size≠X.env.locals:=ne_of_gt (lt_of_lt_of_le I2.lt szC)
   have I4p:Inv X ((HH.objs.size,oC)::pins) σ H3 s4:=I4x.sC fun p hp=>by
    rcases mem_cons.mp hp with r|r
    ·rw[r]
     exact⟨hoC,J4.free,lC,I2.ZA szC,fun v z=>by rw[hdC]at z;cases z⟩
    ·exact I4x.pin p (mem_append_right _ r)
   show wpAny _ X.A (assign (.Name y py) X.env (.ref s2.heap.objs.size)) _ _ _
   refine wpAny_assign_Name (lN I4p hNd hiy (.inl hy) (v:=.ref s2.heap.objs.size) rfl (fun s5 I5=>?_) (.inr hy))
   have hC5:=I5.pin (HH.objs.size,oC) (mem_append_right _ mem_cons_self)
   refine⟨m,⟨oC,es,ep,hC5.1,hdC,rC⟩,fun h' hs'=>⟨_,H3,?_,qn⟩⟩
   have I6:Inv X pins (σ.set iy (some (.ref s2.heap.objs.size))) H3 s5:=I5.sC fun p hp=>I5.pin p (mem_append_right _ (mem_cons_of_mem _ hp))
   refine I6.turned (it:=HH.objs.size) (t':=s5.toks) (fun b o hb e=>hs'.extBut b o hb e) J4.free lC (.inr (le_trans I2.sz szC)) (fun x c e=>?_) (fun p hp=>?_)
   ·obtain⟨v,q⟩:=I2.cell x c e
    exact ne_of_lt (lt_of_lt_of_le q.lt szC)
   ·exact fP p.1 p.2 (I2.pin p hp).1
  ·refine cM (T.item (bI X scope N ⟨cl,HH.objs.size,s2,H2,fp⟩) rfl rfl rfl hc i [] s3 σ3 H3 _ I3 (stat fr3) st3 go) fun r s4 ⟨u,hr,h4⟩=>?_
   subst hr
   refine cM h4 fun _ s5 ⟨x,H5,I5,r5,y5,st5,fr5⟩=>?_
   have I5':=I5.pinned (stat fr5) (T.obj _ _ st5)
   have again:∀{s7:Shared} {σ7:St} {H7:Hp},Inv (bI X scope N ⟨cl,HH.objs.size,s2,H2,fp⟩) ([]++nS fp s5.heap) σ7 H7 s7->NN σ7 H7->
     ∃m,m<n/\∃i σ' H',Inv (bI X scope N ⟨cl,HH.objs.size,s2,H2,fp⟩) [] σ' H' s7/\tn i s7.heap/\(∀b∈fp,H' b=none)/\W i m σ' H':=fun{s7 σ7 H7} I7 n7=>by
    obtain⟨m',hm,w7⟩:=hN σ7 H7 n7
    refine⟨m',hm,i+1,σ7,H7,I7.jZ,T.keep _ _ _ st5 fun b hb o e=>(I7.pin (b,o) (mem_append_right _ (mem_append_right _ (dP hb e)))).1,fun b hb=>?_,w7⟩
    obtain⟨o,e,d⟩:=T.obj _ _ st5 b hb
    exact(I7.pin (b,o) (mem_append_right _ (mem_append_right _ (dP hb e)))).2.1
   refine cM (hg _ _ s5 σ3 H5 x u _ I5' r5 (step x H5 y5)) fun _ s6 ⟨σ6,H6,I6,q6⟩=>?_
   refine cM (ht _ _ s6 σ6 H6 _ I6 q6) fun b s7 ⟨H7,I7,q7⟩=>?_
   cases b with
   |false=>exact again I7 q7
   |true=>
    refine cM (he _ _ s7 σ6 H7 _ I7 q7) fun y s8 ⟨yv,H8,I8,r8,xs,hl,hz,n8⟩=>?_
    refine cM (e9 _ s8 σ6 H8 (.ref s2.heap.objs.size) [yv] (.ref s2.heap.objs.size) [y] (fun _ H9=>NN σ6 H9) I8 rfl (.cons r8 .nil) ⟨_,xs,yv,rfl,rfl,hl,hz,n8⟩) fun _ s9 ⟨_,H9,I9,_,q9⟩=>?_
    exact again I9 q9
 exact codeAny_compStart_list (loop _ rfl) (T.self X.A 0 _ _ _ (T.keep _ _ _ st2 fun b _ o e=>old b o e) (loop _ rfl))
theorem pI (N:List Str) (k:Nat) (cH:List Nat) (XN:List Str) (xs:Scope) (hc:X.calm=true) (hN:X.N=XN) (hx:X.env.scope=xs) (hNd:X.N.Nodup) (hiy:X.N[i]? =some y) (hy:X.env.scope.names.lookup y=some .local)
  (hi:PI X tg iter wi) (chk:o8 XN xs scope N k cH=true) (hg:∀c,PG (bI X scope N c) tg g) (ht:∀c,SA (bI X scope N c) ifs tt) (he:∀c,PE (bI X scope N c) elt te)
  (hsw:swapsWith (.ListComp elt [⟨tg,iter,ifs,0⟩] scope pos) (some (.Name y py)) spos.line X.env=pure true:=by rfl)
  (hs:∀x,foldedSetIterable iter X.env x=pure x:=by intro _;rfl):PS X (.Assign [.Name y py] (.ListComp elt [⟨tg,iter,ifs,0⟩] scope pos) spos) (tH (wG wi k cH g tt te) (lY i)):=
 P7 hc hNd hiy hy (kF hN hx chk) hi hg ht he hsw hs
end
section
variable {X:Cx} {es:List Expr} {e:Expr} {te tk tv:TE} {t:TA}
structure RA (X:Cx) (e:Expr) (t:TE):Prop where
 h:PE X e t
structure MK (X:Cx) (es:List Expr) (t:TA):Prop where
 h:PA X es t
theorem ew (h:PE X e te):RA X e te:=⟨h⟩
theorem M5:MK X [] p9:=⟨aD⟩
theorem XO {a b} (ha:RA X (.Name a b) te) (hr:MK X es t):MK X (.Name a b::es) (eN te t):=⟨acC ha.h hr.h⟩
theorem acM {a b c} (ha:RA X (.Constant a b c) te) (hr:MK X es t):MK X (.Constant a b c::es) (eN te t):=⟨acE ha.h hr.h⟩
theorem ab9 {a b c d} (ha:RA X (.BinOp a b c d) te) (hr:MK X es t):MK X (.BinOp a b c d::es) (eN te t):=⟨ab4 ha.h hr.h⟩
theorem Z4 {a b c} (ha:RA X (.Subscript a b c) te) (hr:MK X es t):MK X (.Subscript a b c::es) (eN te t):=⟨ab3 ha.h hr.h⟩
theorem ac4 {k} (h:MK X es t):RA X (.Tuple es k pos) (TH t):=⟨cB h.h⟩
theorem acZ (h:MK X es t):RA X (.List es pos) (O0 t):=⟨eX h.h⟩
end
noncomputable def GV (A:Around) (s:Shared) (x y:Value) (c:Bool):Prop:=
 ∀(prog:Program) (w:World) (E:Value->Shared->Prop) (Q:Value->Shared->Prop),Q (.bool c) s->wpAny (model prog w) A (richCompare .Lt x y) Q E s
inductive BC (A:Around) (s:Shared) (fin:Bool):List (Value×Value)->Bool->Prop
 |done:BC A s fin [] fin
 |same {p q:Value} {r:List (Value×Value)} {c:Bool}:SeqAt.EqAt A s p q true->BC A s fin r c->BC A s fin ((p,q)::r) c
 |less {p q:Value} {r:List (Value×Value)} {c:Bool}:SeqAt.EqAt A s p q false->GV A s p q c->BC A s fin ((p,q)::r) c
section
open PySem.SeqAt
open PySem.AutoSeq1 (wpAny_loadPart')
open PySem.MeetsSeq PySem.MeetsSeq2 PySem.MeetsSeq3
theorem X6 (l b:Addr) (us vs:Array Value) (n m:Nat) (d1 d2:Option Addr) (k1 k2:Array (Option Value)) (c:Bool):
  Meets (Builtin.«tuple.__lt__» ⟨[.ref l,.ref b],[]⟩) (fun A R s=>s.heap.get? l=some ⟨.type "tuple",d1,.seq us n,k1⟩/\s.heap.get? b=some ⟨.type "tuple",d2,.seq vs m,k2⟩/\
   BC A.in1 s (decide (us.size<vs.size)) (us.toList.zip vs.toList) c/\R (.ok (.ret (.bool c))) s):=
 .of_wp fun prog w A R s h=>by
  obtain⟨hp,gg,dd,tk,os⟩:=s
  obtain⟨hl,hb,hx,hr⟩:=h
  have f2:=AutoSeq1.sub_tuple_tuple
  wp_walk using wpAny_loadPart' hl,wpAny_loadPart' hb,wpAny_forIn_list _ (fun rest acc s'=>acc.1=none/\s'=⟨hp,gg,dd,tk,os⟩/\BC A.in1 ⟨hp,gg,dd,tk,os⟩ (decide (us.size<vs.size)) rest c) _
  case turn=>
   rintro⟨y,x⟩ rest acc s' ⟨ha,rfl,hx'⟩
   cases hx' with
   |same he hrest=>
    refine wpAny_bind (he prog w _ _ ?_)
    wp_walk
    exact⟨rfl,rfl,hrest⟩
   |less he hlt=>
    refine wpAny_bind (he prog w _ _ ?_)
    have hq:=hlt prog w
    wp_walk using hq
    exact⟨_,rfl,by simpa using hr⟩
  case fin=>
   rintro⟨b1,b2⟩ s' ⟨ha,rfl,hx'⟩
   simp only at ha
   subst ha
   cases hx'
   wp_walk
   exact⟨_,rfl,by simpa [Builtin.Tuple.tupleCompareSizes]using hr⟩
  case h=>exact⟨rfl,rfl,hx⟩
end
theorem WA {A:Around} {us vs:Array Value} {c:Bool} (hl:IsTup s.heap l us) (hb:IsTup s.heap b vs) (hu:A.units<cLine) (hx:BC A.in1 s (decide (us.size<vs.size)) (us.toList.zip vs.toList) c):
  GV A s (.ref l) (.ref b) c:=by
 intro prog w E Q q
 obtain⟨⟨c1,d1,t1,k1⟩,g1,e1,n,r1⟩:=id hl
 obtain⟨⟨c2,d2,t2,k2⟩,g2,e2,m,r2⟩:=id hb
 simp only at e1 r1 e2 r2
 subst e1 r1 e2 r2
 exact richCompare_meets_room (op:=.Lt) ⟨_,g1,rfl⟩ ⟨_,g2,rfl⟩ PySem.F.slot_tuple_lt PySem.F.entry_tuple_lt (PySem.F.args_tuple_lt_2 _ _) (X6 l b us vs n m d1 d2 k1 k2 c) ⟨g1,g2,hx,(fun x=>nomatch x),q⟩ hu
section
open PySem.W
noncomputable def Al (n:Nat) (P:α->Prop):KasT α->Prop
 | .ret a=>P a
 | .ask i j k=>i<n/\j<n/\∀b,Al n P (k b)
theorem Al.bind {P:α->Prop} {R:β->Prop} {f:α->KasT β}:∀{t:KasT α},Al n P t->(∀a,P a->Al n R (f a))->Al n R (t.bind f)
 | .ret a,h,hf=>hf a h
 | .ask _ _ _,h,hf=>⟨h.1,h.2.1,fun b=>Al.bind (h.2.2 b) hf⟩
noncomputable def m7 (n:Nat) (p:Array Nat):Prop:=p.Perm (List.toArray (List.range n))
theorem m7.lt (h0:0<n) (h:m7 n p) (i:Nat):p.getD i 0<n:=by
 by_cases hi:i<p.size
 ·have e:p.getD i 0=p[i]:=by simp[Array.getD,hi]
  rw[e]
  have hm:p[i]∈p:=Array.getElem_mem hi
  have:=(h.mem_iff).mp hm
  simpa using this
 ·have e:p.getD i 0=0:=by simp[Array.getD,hi]
  omega
theorem m7.rev (h:m7 n p) (i j:Nat):m7 n (kas_rev p i j):=(mirror_perm p i j ((j - i) / 2)).trans h
theorem m7.bub (h:m7 n p) (i j:Nat):m7 n (bubble p i j):=(bubble_perm p i j).trans h
theorem DM (h0:0<n) (h:m7 n p):∀f m,Al n (fun _=>True) (kas_asc p f m)
 |0,m=>trivial
 |f+1,m=>⟨h.lt h0 _,h.lt h0 _,fun b=>by
  cases b with
  |true=>exact trivial
  |false=>exact DM h0 h f (m+1)⟩
theorem rQ (h0:0<n):∀f (p:Array Nat) m q,m7 n p->Al n (fun r:Array Nat×Nat×Nat=>m7 n r.1) (kas_desc f p m q)
 |0,p,m,q,h=>h
 | f+1,p,m,q,h=>⟨h.lt h0 _,h.lt h0 _,fun b=>by
  cases b with
  |true=>
   show Al n _ (if q>0 then _ else _)
   split
   ·exact rQ h0 f _ _ _ (h.rev _ _)
   ·exact rQ h0 f _ _ _ h
  |false=>
   refine⟨h.lt h0 _,h.lt h0 _,fun d=>?_⟩
   cases d with
   |true=>exact h
   |false=>exact rQ h0 f _ _ _ h⟩
theorem zH (h0:0<n) (h:m7 n p) (m k:Nat):Al n (fun r:Nat×Array Nat=>m7 n r.2) (kas_tail3 m k p):=
 (DM h0 (h.rev 0 m) _ _).bind fun _ _=>h.rev 0 m
theorem qP (h0:0<n) (h:m7 n p) (m k:Nat):Al n (fun r:Nat×Array Nat=>m7 n r.2) (kas_descPart m k p):=by
 refine(rQ h0 _ _ _ _ h).bind fun r hr=>?_
 split
 ·exact zH h0 (hr.rev _ _) _ _
 ·exact zH h0 hr _ _
theorem MC (h0:0<n) (h:m7 n p) (k:Nat):Al n (fun r:Nat×Array Nat=>m7 n r.2) (kas_count k p):=by
 refine(DM h0 h _ _).bind fun m _=>?_
 split
 ·exact h
 ·split
  ·refine⟨h.lt h0 _,h.lt h0 _,fun b=>?_⟩
   cases b with
   |true=>exact h
   |false=>exact qP h0 (h.rev _ _) _ _
  ·exact qP h0 h _ _
theorem tF (h0:0<n) (h:m7 n p) (k:Nat):∀f l r,Al n (fun _=>True) (kas_place p k f l r)
 |0,_,_=>trivial
 | f+1,l,r=>by
  unfold kas_place
  split
  ·exact trivial
  ·refine⟨h.lt h0 _,h.lt h0 _,fun b=>?_⟩
   cases b with
   |true=>exact tF h0 h k f _ _
   |false=>exact tF h0 h k f _ _
theorem IQ (h0:0<n):∀f (p:Array Nat) k,m7 n p->Al n (m7 n) (kas_bin f p k)
 |0,_,_,h=>h
 |f+1,p,k,h=>(tF h0 h k _ _ _).bind fun l _=>IQ h0 f _ _ (h.bub _ _)
theorem yC (h0:0<n):Al n (m7 n) (kas_sort n):=by
 refine(MC h0 (show m7 n _ from Array.Perm.refl _) n).bind fun r hr=>?_
 split
 ·exact IQ h0 _ _ _ hr
 ·exact hr
theorem m7.perm (h:m7 vs.length p):(p.toList.map fun i=>vs.getD i Value.none).Perm vs:=by
 have h1:p.toList.Perm (List.range vs.length):=by simpa using perm_iff_toList_perm.mp h
 have h2:=h1.map fun i=>vs.getD i Value.none
 have e:(List.range vs.length).map (fun i=>vs.getD i Value.none)=vs:=by
  apply ext_getElem
  ·simp
  ·intro i a1 a2
   simp[getElem?_eq_getElem a2]
 rw[e]at h2
 exact h2
end
section
variable {X:Cx}
theorem k9:∀{us:List Value} {ss:List Str},StrsAre us ss->Vals (ss.map V.str) us
 |[],_,.nil=>.nil
 |_::_,_,.cons x t r=>.cons ⟨t,rfl⟩ (k9 r)
noncomputable def C9 (K:Frag):List V->Hp->VK->Prop:=fun xs H Q=>∃p ss,xs=[.ref p]/\iR K H p (ss.map V.str)/\ss.length<64/\∀l out,out.Perm ss->sortedS out=true->H l=none->Q (.ref l) (upd H l (.lst (out.map V.str)))
theorem GO (K:Frag) (hK:X.K=K:=by rfl):cD X (.builtin "sorted") (C9 K):=by
 subst hK
 intro pins s σ H xs us Q I r ⟨p,ss,e,hq,h64,q⟩
 subst e
 obtain⟨u,rfl,rx⟩:=vals1 r
 cases rx
 obtain⟨vs,rv,pl,hz⟩:=I.list hq
 have hlen:=rv.length
 rw[length_map]at hlen hz
 refine sorted_strs pl.isList (rT rv) (by omega) fun out ss' h1 h2 h3=>?_
 obtain⟨c,hat⟩:=sortedAll_at s.heap vs out
 exact⟨.ref (s.heap.objs.size+1),_,I.laid (t':=s.toks) (o:=.lst (ss'.map V.str)) (fun b o e=>sortedAll_old e) (le_succ _) ⟨by rw[length_map,h2.length_eq];exact hz,out.toList,c,k9 h1,hat⟩,rfl,q _ ss' h2 h3 (I.bN.fresh (le_succ _))⟩
end
section
open PySem.W
noncomputable def oW (ans:Nat->Nat->Bool) (P:α->Prop):KasT α->Prop
 | .ret a=>P a
 | .ask i j k=>oW ans P (k (ans i j))
theorem oW.bind {P:α->Prop} {R:β->Prop} {f:α->KasT β}:∀{t:KasT α},oW ans P t->(∀a,P a->oW ans R (f a))->oW ans R (t.bind f)
 | .ret a,h,hf=>hf a h
 | .ask i j k,h,hf=>oW.bind (t:=k (ans i j)) h hf
theorem oW.mono {P R:α->Prop} (hf:∀a,P a->R a):∀{t:KasT α},oW ans P t->oW ans R t
 | .ret a,h=>hf a h
 | .ask i j k,h=>oW.mono hf (t:=k (ans i j)) h
theorem oW.run {P R:α->Prop} {cmp:Nat->Nat->(Bool->Shared->Prop)->Shared->Prop} {G:α->Shared->Prop}
  (hc:∀i j (C:Bool->Shared->Prop),i<n->j<n->C (ans i j) s->cmp i j C s) (hg:∀a,P a->R a->G a s):∀{t:KasT α},Al n P t->oW ans R t->t.kasWp cmp G s
 | .ret a,h,h'=>hg a h h'
 | .ask i j _,h,h'=>hc i j _ h.1 h.2.1 (oW.run hc hg (h.2.2 _) h')
variable (O:KeyOrd) (key:Nat->O.α)
noncomputable def Ky (p:Array Nat) (i:Nat):O.α:=key (p.getD i 0)
noncomputable def lE (p:Array Nat) (k:Nat):Prop:=∀i j,i<=j->j<k->O.kle (Ky O key p i) (Ky O key p j)
noncomputable def jH (p:Array Nat) (k:Nat):Prop:=∀i j,i<=j->j<k->O.kle (Ky O key p j) (Ky O key p i)
noncomputable abbrev BS (i j:Nat):Bool:=O.blt (key i) (key j)
variable {O} {key}
theorem AF {q:Array Nat} (h:p[i]? =q[j]?):Ky O key p i=Ky O key q j:=by
 unfold Ky
 rw[getD_eq_getD_getElem?,getD_eq_getD_getElem?,h]
theorem B7 (hj:j<=p.size) (k:Nat):Ky O key (kas_rev p i j) k=if i<=k/\k<j then Ky O key p (i+j - 1 - k)else Ky O key p k:=by
 have e:=getElem?_mirror_all (xs:=p) (i:=i) hj k
 split
 ·rename_i h;rw[if_pos h]at e;exact AF e
 ·rename_i h;rw[if_neg h]at e;exact AF e
theorem iG (p:Array Nat) (i j:Nat):(kas_rev p i j).size=p.size:=mirror_size ..
theorem xX (hj:j<=p.size) (he:∀k,i<=k->k<j->Ky O key p k=Ky O key p (j - 1)) (k:Nat):Ky O key (kas_rev p i j) k=Ky O key p k:=by
 rw[B7 hj]
 split
 ·rename_i h;rw[he _ (by omega) (by omega),he k h.1 h.2]
 ·rfl
theorem lE.more (h:lE O key p x) (hx:1<=x) (hl:O.kle (Ky O key p (x - 1)) (Ky O key p x)):lE O key p (x+1):=by
 intro i j hij hj
 by_cases h1:j<x
 ·exact h i j hij h1
 ·have e:j=x:=by omega
  subst e
  by_cases h2:i=j
  ·subst h2;exact KeyOrd.kle_refl _
  ·exact KeyOrd.kle_trans (h i (j - 1) (by omega) (by omega)) hl
theorem jH.more (h:jH O key p x) (hx:1<=x) (hl:O.kle (Ky O key p x) (Ky O key p (x - 1))):jH O key p (x+1):=by
 intro i j hij hj
 by_cases h1:j<x
 ·exact h i j hij h1
 ·have e:j=x:=by omega
  subst e
  by_cases h2:i=j
  ·subst h2;exact KeyOrd.kle_refl _
  ·exact KeyOrd.kle_trans hl (h i (j - 1) (by omega) (by omega))
theorem LC {p:Array Nat}:∀(f m:Nat),1<=m->lE O key p m->oW (BS O key) (fun r=>m<=r/\r<=m+f/\lE O key p r/\(r=m+f\/ O.klt (Ky O key p r) (Ky O key p (r - 1)))) (kas_asc p f m)
 |0,m,_,h=>⟨le_refl _,le_refl _,h,.inl rfl⟩
 | f+1,m,h1,h=>by
  show oW (BS O key) _ (if O.blt (Ky O key p m) (Ky O key p (m - 1))=true then _ else _)
  cases e:O.blt (Ky O key p m) (Ky O key p (m - 1))with
  |true=>
   rw[if_pos rfl]
   exact⟨le_refl _,by omega,h,.inr e⟩
  |false=>
   rw[if_neg Bool.false_ne_true]
   refine(LC f (m+1) (by omega) (h.more h1 e)).mono fun r ⟨a,b,c,d⟩=>⟨by omega,by omega,c,?_⟩
   rcases d with d|d
   ·exact .inl (by omega)
   ·exact .inr d
noncomputable def S2 (O:KeyOrd) (key:Nat->O.α) (p:Array Nat) (m q:Nat):Prop:=q+1<=m/\∀i,m - (q+1)<=i->i<m->Ky O key p i=Ky O key p (m - 1)
theorem S2.none (h:1<=m):S2 O key p m 0:=⟨by omega,fun i h1 h2=>by rw[show i=m - 1 by omega]⟩
theorem yV:∀(f:Nat) (p:Array Nat) (m q:Nat),1<=m->m+f<=p.size->jH O key p m->S2 O key p m q->oW (BS O key) (fun r:Array Nat×Nat×Nat=>r.1.size=p.size/\m<=r.2.1/\r.2.1<=m+f/\jH O key r.1 r.2.1/\S2 O key r.1 r.2.1 r.2.2) (kas_desc f p m q)
 |0,p,m,q,_,_,h,he=>⟨rfl,le_refl _,le_refl _,h,he⟩
 | f+1,p,m,q,h1,hz,h,he=>by
  show oW (BS O key) _ (if O.blt (Ky O key p m) (Ky O key p (m - 1))=true then(if q>0 then kas_desc f (kas_rev p (m - (q+1)) m) (m+1) 0 else kas_desc f p (m+1) 0)else _)
  cases e:O.blt (Ky O key p m) (Ky O key p (m - 1))with
  | true=>
   rw[if_pos rfl]
   have hd:=h.more h1 (KeyOrd.kle_of_klt e)
   split
   ·have ev:∀k,Ky O key (kas_rev p (m - (q+1)) m) k=Ky O key p k:=xX (by omega) he.2
    have hd':jH O key (kas_rev p (m - (q+1)) m) (m+1):=fun i j a b=>by rw[ev,ev];exact hd i j a b
    refine(yV f _ (m+1) 0 (by omega) (by rw[iG];omega) hd' (S2.none (by omega))).mono fun r ⟨a,b,c,d,z⟩=>⟨by rw[a,iG],by omega,by omega,d,z⟩
   ·exact(yV f p (m+1) 0 (by omega) (by omega) hd (S2.none (by omega))).mono fun r ⟨a,b,c,d,z⟩=>⟨a,by omega,by omega,d,z⟩
  | false=>
   rw[if_neg Bool.false_ne_true]
   show oW (BS O key) _ (if O.blt (Ky O key p (m - 1)) (Ky O key p m)=true then _ else _)
   cases e2:O.blt (Ky O key p (m - 1)) (Ky O key p m)with
   |true=>
    rw[if_pos rfl]
    exact⟨rfl,le_refl _,Nat.le_add_right m (f+1),h,he⟩
   |false=>
    rw[if_neg Bool.false_ne_true]
    have eq:Ky O key p m=Ky O key p (m - 1):=KeyOrd.kle_antisymm e2 e
    refine(yV f p (m+1) (q+1) (by omega) (by omega) (h.more h1 (by rw[eq];exact KeyOrd.kle_refl _)) ⟨by have:=he.1;omega,fun i a b=>?_⟩).mono fun r ⟨a,b,c,d,z⟩=>⟨a,by omega,by omega,d,z⟩
    rw[show m+1 - 1=m by omega]
    by_cases hi:i=m
    ·rw[hi]
    ·rw[eq];exact he.2 i (by omega) (by omega)
theorem D3 (h1:1<=m) (hk:m<=k) (hz:k<=p.size) (h:jH O key p m):oW (BS O key) (fun r:Nat×Array Nat=>1<=r.1/\r.1<=k/\r.2.size=p.size/\lE O key r.2 r.1) (kas_tail3 m k p):=by
 have hu:lE O key (kas_rev p 0 m) m:=fun i j a b=>by
  rw[B7 (by omega),B7 (by omega),if_pos (by omega),if_pos (by omega)]
  exact h _ _ (by omega) (by omega)
 exact(LC (k - m) m h1 hu).bind fun r ⟨a,b,c,_⟩=>⟨by omega,by omega,iG ..,c⟩
theorem sF (hk:m+1<=k) (hz:k<=p.size) (h:jH O key p (m+1)):oW (BS O key) (fun r:Nat×Array Nat=>1<=r.1/\r.1<=k/\r.2.size=p.size/\lE O key r.2 r.1) (kas_descPart m k p):=by
 refine(yV (k - (m+1)) p (m+1) 0 (by omega) (by omega) h (S2.none (by omega))).bind fun r ⟨a,b,c,d,z⟩=>?_
 split
 ·have ev:∀i,Ky O key (kas_rev r.1 (r.2.1 - (r.2.2+1)) r.2.1) i=Ky O key r.1 i:=xX (by omega) z.2
  refine(D3 (p:=kas_rev r.1 (r.2.1 - (r.2.2+1)) r.2.1) (by omega) (by omega) (by rw[iG];omega) fun i j x y=>?_).mono fun r' ⟨x,y,w,v⟩=>⟨x,y,by rw[w,iG,a],v⟩
  rw[ev,ev];exact d i j x y
 ·exact(D3 (by omega) (by omega) (by omega) d).mono fun r' ⟨x,y,w,v⟩=>⟨x,y,by rw[w,a],v⟩
theorem RF {p:Array Nat} (h1:1<=k) (hz:k<=p.size):oW (BS O key) (fun r:Nat×Array Nat=>1<=r.1/\r.1<=k/\r.2.size=p.size/\lE O key r.2 r.1) (kas_count k p):=by
 have u1:lE O key p 1:=fun i j a b=>by rw[show i=j by omega];exact KeyOrd.kle_refl _
 refine(LC (k - 1) 1 (le_refl _) u1).bind fun m ⟨a,b,c,d⟩=>?_
 by_cases hm:m=k
 ·rw[if_pos (by simpa using hm)]
  exact⟨a,by omega,rfl,c⟩
 ·rw[if_neg (by simpa using hm)]
  have lt:O.klt (Ky O key p m) (Ky O key p (m - 1)):=d.resolve_left (by omega)
  by_cases h2:m>1
  ·rw[if_pos h2]
   show oW (BS O key) _ (if O.blt (Ky O key p 0) (Ky O key p (m - 1))=true then _ else _)
   cases e:O.blt (Ky O key p 0) (Ky O key p (m - 1))with
   |true=>
    rw[if_pos rfl]
    exact⟨a,by omega,rfl,c⟩
   | false=>
    rw[if_neg Bool.false_ne_true]
    have al:∀i,0<=i->i<m->Ky O key p i=Ky O key p (m - 1):=fun i _ hi=>
     KeyOrd.kle_antisymm (c i (m - 1) (by omega) (by omega)) (KeyOrd.kle_trans e (c 0 i (by omega) hi))
    have ev:∀i,Ky O key (kas_rev p 0 m) i=Ky O key p i:=xX (by omega) al
    have dm:jH O key p m:=fun i j x y=>by rw[al i (by omega) (by omega),al j (by omega) y];exact KeyOrd.kle_refl _
    have dn:=dm.more a (KeyOrd.kle_of_klt lt)
    refine(sF (p:=kas_rev p 0 m) (by omega) (by rw[iG];omega) fun i j x y=>?_).mono fun r' ⟨x,y,w,v⟩=>⟨x,y,by rw[w,iG],v⟩
    rw[ev,ev];exact dn i j x y
  ·rw[if_neg h2]
   have e1:m=1:=by omega
   subst e1
   have d1:jH O key p 1:=fun i j x y=>by rw[show i=j by omega];exact KeyOrd.kle_refl _
   exact sF (by omega) hz (d1.more (le_refl _) (KeyOrd.kle_of_klt lt))
theorem xY {p:Array Nat} {k:Nat} (h:lE O key p k):∀(f l r:Nat),l<=r->r<=k->r - l<=f->(∀i,i<l->O.kle (Ky O key p i) (Ky O key p k))->(∀i,r<=i->i<k->O.klt (Ky O key p k) (Ky O key p i))->
  oW (BS O key) (fun l=>l<=k/\(∀i,i<l->O.kle (Ky O key p i) (Ky O key p k))/\∀i,l<=i->i<k->O.klt (Ky O key p k) (Ky O key p i)) (kas_place p k f l r)
 |0,l,r,h1,h2,h3,ha,hb=>by
  have e:l=r:=by omega
  subst e
  exact⟨h2,ha,hb⟩
 | f+1,l,r,h1,h2,h3,ha,hb=>by
  unfold kas_place
  split
  ·have e:l=r:=by omega
   subst e
   exact⟨h2,ha,hb⟩
  ·show oW (BS O key) _ (if O.blt (Ky O key p k) (Ky O key p ((l+r) / 2))=true then _ else _)
   cases e:O.blt (Ky O key p k) (Ky O key p ((l+r) / 2))with
   |true=>
    rw[if_pos rfl]
    exact xY h f l ((l+r) / 2) (by omega) (by omega) (by omega) ha fun i a b=>KeyOrd.klt_of_klt_of_kle e (h _ _ a b)
   |false=>
    rw[if_neg Bool.false_ne_true]
    exact xY h f ((l+r) / 2+1) r (by omega) h2 (by omega) (fun i a=>KeyOrd.kle_trans (h i ((l+r) / 2) (by omega) (by omega)) e) hb
theorem NG {d:Nat} (hk:k<p.size) (hd:d<=k) (i:Nat):Ky O key (bubble p k d) i=if i=k - d then Ky O key p k else if k - d<i/\i<=k then Ky O key p (i - 1)else Ky O key p i:=by
 have e:=getElem?_bubble hk d hd i
 by_cases h1:i=k - d
 ·rw[if_pos h1]at e⊢;exact AF e
 ·rw[if_neg h1]at e⊢
  by_cases h2:k - d<i/\i<=k
  ·rw[if_pos h2]at e⊢;exact AF e
  ·rw[if_neg h2]at e⊢;exact AF e
theorem R3:∀(f:Nat) (p:Array Nat) (k:Nat),k+f<=p.size->lE O key p k->oW (BS O key) (fun q=>lE O key q (k+f)) (kas_bin f p k)
 |0,p,k,_,h=>h
 | f+1,p,k,hz,h=>by
  refine(xY h k 0 k (by omega) (le_refl _) (by omega) (fun i hi=>by omega) (fun i a b=>by omega)).bind fun l ⟨hl,ha,hb⟩=>?_
  have hu:lE O key (bubble p k (k - l)) (k+1):=fun i j x y=>by
   rw[NG (by omega) (by omega),NG (by omega) (by omega),show k - (k - l)=l by omega]
   by_cases j1:j=l
   ·rw[if_pos j1]
    by_cases i1:i=l
    ·rw[if_pos i1];exact KeyOrd.kle_refl _
    ·rw[if_neg i1,if_neg (show¬(l<i/\i<=k) by omega)];exact ha i (by omega)
   ·rw[if_neg j1]
    by_cases j2:l<j
    ·rw[if_pos (show l<j/\j<=k from⟨j2,by omega⟩)]
     by_cases i1:i=l
     ·rw[if_pos i1];exact KeyOrd.kle_of_klt (hb (j - 1) (by omega) (by omega))
     ·rw[if_neg i1]
      by_cases i2:l<i
      ·rw[if_pos (show l<i/\i<=k from⟨i2,by omega⟩)];exact h _ _ (by omega) (by omega)
      ·rw[if_neg (show¬(l<i/\i<=k) by omega)];exact h _ _ (by omega) (by omega)
    ·rw[if_neg (show¬(l<j/\j<=k) by omega),if_neg (show¬i=l by omega),if_neg (show¬(l<i/\i<=k) by omega)];exact h _ _ x (by omega)
  have:=R3 f (bubble p k (k - l)) (k+1) (by rw[bubble_size];omega) hu
  rw[show k+1+f=k+(f+1) by omega]at this
  exact this
theorem DI (h1:1<=n):oW (BS O key) (fun q=>lE O key q n) (kas_sort n):=by
 have hs:(List.toArray (List.range n)).size=n:=by simp
 refine(RF h1 (p:=List.toArray (List.range n)) (by rw[hs];exact le_refl _)).bind fun r ⟨a,b,c,d⟩=>?_
 rw[hs]at c
 split
 ·have:=R3 (n - max r.1 1) r.2 (max r.1 1) (by omega) (by rw[show max r.1 1=r.1 by omega];exact d)
  rw[show max r.1 1+(n - max r.1 1)=n by omega]at this
  exact this
 ·have e:r.1=n:=by omega
  rw[e]at d
  exact d
end
section
open PySem.W
variable {prog:Program} {w:World} {A:Around} {E:Value->Shared->Prop} {s:Shared}
theorem HE (vs:List Value):(List.range vs.length).map (fun i=>vs.getD i Value.none)=vs:=by
 apply ext_getElem
 ·simp
 ·intro i a1 a2
  simp[getElem?_eq_getElem a2]
noncomputable def xC (prog:Program) (w:World) (A:Around) (vs:List Value) (R:Array Nat->Prop) (s:Shared):Prop:=
 ∃κ:SortKind,(∀(Q:SortKind->Shared->Prop) (E:Value->Shared->Prop),Q κ s->wpAny (model prog w) A (keyKind' vs.toArray) Q E s)/\
  ∀G:Array Nat->Shared->Prop,(∀p,m7 vs.length p->R p->G p s)->(kas_sort vs.length).kasWp (kas_ask prog w A κ vs) G s
theorem pW {a:Addr} {P:PySem.Fin->Shared->Prop} (ho:s.heap.get? a=some (seqObj "list" vs.toArray n)) (h64:vs.length<64)
  (hk:2<=vs.length->∀h':Heap,(∀b o,b≠a->s.heap.get? b=some o->h'.get? b=some o)->xC prog w A vs R {s with heap:=h'}) (hR:vs.length<2->R (List.range vs.length).toArray)
  (h:∀(out:Array Value) (p:Array Nat),m7 vs.length p->R p->out.toList=p.toList.map (fun i=>vs.getD i Value.none)->P (.done (.ret .none)) {s with heap:=sortedHeap s.heap a vs out}):wpAny (model prog w) A (Builtin.«list.sort» ⟨[.ref a],[]⟩) P E s:=by
 have la:a<s.heap.objs.size:=lt_size ho
 have small:vs.length<=sizeLine:=by rw[sizeLine_eq];omega
 obtain⟨e1,k1⟩:∃e1,(s.heap.update a (Obj.mapSeq fun _=>(#[]:Array Value))).get? a=some (seqObj "list" #[] e1):=⟨_,get?_update_seq ho fun _=> #[]⟩
 generalize hU:s.heap.update a (Obj.mapSeq fun _=>(#[]:Array Value))=U at k1
 have zU:U.objs.size=s.heap.objs.size:=by rw[<-hU];exact Heap.size_update ..
 have kp:∀b o,b≠a->s.heap.get? b=some o->((U.push (seqObj "tuple" vs.toArray 0)).push (seqObj "list" #[] 0)).get? b=some o:=fun b o nb gb=>by
  refine get?_push_of_some _ (get?_push_of_some _ ?_)
  rw[<-hU,Heap.get?_update_ne _ _ _ _ nb];exact gb
 have k2:((U.push (seqObj "tuple" vs.toArray 0)).push (seqObj "list" #[] 0)).get? a=some (seqObj "list" #[] e1):=get?_push_of_some _ (get?_push_of_some _ k1)
 rw[list_sort_plain]
 refine wpAny_bind (listItems_at ho rfl (wpAny_bind (listUpdate_at ho rfl ?_ (by simpa using small) (zero_le _))))
 have k1':=k1
 rw[<-hU]at k1'
 refine wpAny_bind (seqEpoch_at k1' rfl (wpAny_bind (wpAny_newTuple (wpAny_bind (wpAny_newList (wpAny_holding ?_) (zero_le _))) (by simpa using small))))
 rw[hU]
 show wpAny (model prog w) A _ P E {s with heap:=(U.push (seqObj "tuple" vs.toArray 0)).push (seqObj "list" #[] 0)}
 have fin:∀(out:Array Value) (p:Array Nat),m7 vs.length p->R p->out.toList=p.toList.map (fun i=>vs.getD i Value.none)->P (.done (.ret .none)) {s with heap:=((U.push (seqObj "tuple" vs.toArray 0)).push (seqObj "list" #[] 0)).update a (Obj.mapSeq fun _=>out)}:=fun out p h1 h2 h3=>by
  have:=h out p h1 h2 h3
  unfold sortedHeap at this
  rw[hU]at this
  exact this
 dsimp only
 by_cases h2:vs.toArray.size<2
 ·rw[if_pos h2,if_pos h2]
  refine wpAny_bind (wpAny_pure ?_)
  rw[StateT.run_pure]
  refine wpAny_bind (wpAny_pure ?_)
  dsimp only
  have ev:((vs.toArray.zip vs.toArray).map fun x=>x.2).toList=vs:=by simp[List.map_snd_zip]
  refine wpAny_bind (seqEpoch_at k2 rfl (wpAny_bind (listUpdate_at k2 rfl ?_ (zero_le _) ?_)))
  ·simp only[bne_self_eq_false,false_eq_true,if_false]
   exact wpAny_pure (fin _ (List.range vs.length).toArray (Array.Perm.refl _) (hR (by rw[size_toArray]at h2;exact h2)) (by rw[show(arrOf (SortSt.mk' general' (vs.toArray.zip vs.toArray) #[] 7 none))=vs.toArray.zip vs.toArray from rfl,ev,toList_toArray,HE]))
  ·rw[<-length_toList,show(arrOf (SortSt.mk' general' (vs.toArray.zip vs.toArray) #[] 7 none))=vs.toArray.zip vs.toArray from rfl,ev];exact le_succ_of_le small
 ·rw[if_neg h2,if_neg h2]
  have l2:2<=vs.length:=by rw[size_toArray]at h2;omega
  obtain⟨κ,kd,ak⟩:=hk l2 _ kp
  refine wpAny_bind (kd _ _ ?_)
  refine wpAny_bind (wpAny_mono (kat_run (ks:=vs) (vs:=vs) (Q:=fun st' s'=>s'={s with heap:=(U.push (seqObj "tuple" vs.toArray 0)).push (seqObj "list" #[] 0)}/\∃p:Array Nat,(m7 vs.length p/\R p)/\arrOf st'=p.map (kas_item (vs.toArray.zip vs.toArray))/\failedOf st'=none)
   (G:=fun p s'=>s'={s with heap:=(U.push (seqObj "tuple" vs.toArray 0)).push (seqObj "list" #[] 0)}/\m7 vs.length p/\R p) rfl l2 h64 (fun p st' s' _ ar fl g=>⟨g.1,p,g.2,ar,fl⟩) (ak _ fun p h1 h2=>⟨rfl,h1,h2⟩)) ?_ fun _ _ e=>e)
  rintro⟨⟨⟩,st'⟩ s' ⟨rfl,p,⟨hp,hr⟩,ar,fl⟩
  dsimp only
  have out:=kat_snds rfl ar
  have pm:=hp.perm
  rw[out]
  refine wpAny_bind (seqEpoch_at k2 rfl (wpAny_bind (listUpdate_at k2 rfl ?_ (zero_le _) ?_)))
  ·rw[fl]
   simp only[bne_self_eq_false,false_eq_true,if_false]
   exact wpAny_pure (fin _ p hp hr (by simp))
  ·rw[size_toArray,pm.length_eq];exact le_succ_of_le small
theorem zX (hl:s.heap.IsList l vs.toArray) (h64:vs.length<64)
  (hk:2<=vs.length->∀h':Heap,(∀b o,s.heap.get? b=some o->h'.get? b=some o)->xC prog w A.in1.in1 vs R {s with heap:=h'}) (hR:vs.length<2->R (List.range vs.length).toArray)
  (h:∀(out:Array Value) (p:Array Nat),m7 vs.length p->R p->out.toList=p.toList.map (fun i=>vs.getD i Value.none)->Q (.ref (s.heap.objs.size+1)) {s with heap:=sortedAll s.heap vs out}):wpAny (model prog w) A (call (.builtin "sorted") [.ref l]) Q E s:=by
 have small:vs.length<=sizeLine:=by rw[sizeLine_eq];omega
 refine Calls.call_function_entry kind_sorted plain_sorted entry_sorted (args_sorted1 _) ?_
 unfold Builtin.«sorted»
 refine wpAny_bind (m:=checkCount "sorted" 1 1 _) (wpAny_pure (wpAny_bind (collect_list hl (wpAny_bind (wpAny_newList ?_ (by simpa using small))) (by simpa using small))))
 generalize hU:(s.heap.push (seqObj "list" #[] 0)).update s.heap.objs.size (Obj.mapSeq (·++vs.toArray))=U
 have zU:U.objs.size=s.heap.objs.size+1:=by rw[<-hU,Heap.size_update];exact size_push' ..
 have kU:∀b o,s.heap.get? b=some o->U.get? b=some o:=fun b o gb=>by
  rw[<-hU,Heap.get?_update_ne _ _ _ _ (ne_of_lt (lt_size gb))]
  exact get?_push_of_some _ gb
 have at':(U.push (seqObj "list" vs.toArray 0)).get? (s.heap.objs.size+1)=some (seqObj "list" vs.toArray 0):=by rw[<-zU];exact get?_push_size _ rfl
 show wpAny _ _ _ _ _ {s with heap:=U.push (seqObj "list" vs.toArray 0)}
 rw[zU]
 refine wpAny_bind (wpAny_holding (wpAny_call_entry slot_list_sort ⟨_,at',rfl⟩ entry_list_sort ?bd (args_list_sort _)))
 case bd=>
  refine pW at' h64 (fun l2 h' kp=>hk l2 h' fun b o gb=>kp b o (ne_of_lt (lt_succ_of_lt (lt_size gb))) (get?_push_of_some _ (kU b o gb))) hR fun out p p1 p2 p3=>⟨_,rfl,wpAny_pure ⟨_,rfl,?_⟩⟩
  have:=h out p p1 p2 p3
  unfold sortedAll at this
  rw[hU]at this
  exact this
end
section
open PySem.W
variable {X:Cx} {pins:List (Addr×Obj)} {σ:St} {H:Hp} {s:Shared} {k:Nat}
theorem nZ {ys:List V} {vs:List Value} (r:Vals ys vs):∀ps:List Nat,(∀i∈ps,i<vs.length)->Vals (ps.map fun i=>ys.getD i .aY) (ps.map fun i=>vs.getD i Value.none)
 |[],_=>.nil
 |i::ps,h=>by
  have hlen:=r.length
  have hi:=h i mem_cons_self
  obtain⟨x,hx,rx⟩:=r.get' (show vs[i]? =some vs[i] by simp)
  refine .cons ?_ (nZ r ps fun j hj=>h j (mem_cons_of_mem _ hj))
  dsimp only
  rw[getD_eq_getElem?_getD,hx,getD_eq_getElem?_getD,getElem?_eq_getElem hi]
  exact rx
end
noncomputable def DP:KeyOrd where
 α:=Int
 blt a b:=decide (a<b)
 irrefl a:=decide_eq_false (by omega)
 trans a b c h1 h2:=decide_eq_true (by have:=of_decide_eq_true h1;have:=of_decide_eq_true h2;omega)
 negTrans a b c h:=by
  have h:=of_decide_eq_true h
  by_cases g:a<b
  ·exact .inl (decide_eq_true g)
  ·exact .inr (decide_eq_true (by omega))
 total a b h1 h2:=by have:=of_decide_eq_false h1;have:=of_decide_eq_false h2;omega
theorem yT {a b:A.α} (h:A.blt a b=true):A.blt b a=false:=KeyOrd.klt_asymm (O:=A) h
theorem fI {A:KeyOrd} (a b:A.α):(A.blt a b=true/\A.blt b a=false)\/ (A.blt b a=true/\A.blt a b=false)\/ (a=b):=by
 cases h1:A.blt a b with
 |true=>exact .inl ⟨rfl,yT h1⟩
 |false=>
  cases h2:A.blt b a with
  |true=>exact .inr (.inl ⟨rfl,rfl⟩)
  |false=>exact .inr (.inr (A.total a b h1 h2))
noncomputable def gL (A:KeyOrd) (a b:A.α) (r:Bool):Bool:=A.blt a b||(!A.blt b a && r)
theorem eJ {a b:A.α} (h:A.blt a b=true):gL A a b r=true:=by unfold gL;rw[h];rfl
theorem jS {a b:A.α} (h:A.blt b a=true):gL A a b r=false:=by unfold gL;rw[h,yT h];rfl
theorem gK {a:A.α}:gL A a a r=r:=by unfold gL;rw[A.irrefl];rfl
theorem AH {A:KeyOrd} {a b c:A.α} (hr:r=true->r'=true->r''=true) (h1:gL A a b r=true) (h2:gL A b c r'=true):gL A a c r''=true:=by
 rcases fI (A:=A) a b with⟨x,_⟩|⟨x,_⟩|x
 ·rcases fI (A:=A) b c with⟨y,_⟩|⟨y,_⟩|y
  ·exact eJ (A.trans _ _ _ x y)
  ·rw[jS y]at h2;cases h2
  ·rw[<-y];exact eJ x
 ·rw[jS x]at h1;cases h1
 ·subst x
  rw[gK]at h1
  rcases fI (A:=A) a c with⟨y,_⟩|⟨y,_⟩|y
  ·exact eJ y
  ·rw[jS y]at h2;cases h2
  ·subst y
   rw[gK]at h2⊢
   exact hr h1 h2
theorem GH {A:KeyOrd} {a b c:A.α} (hr:r''=true->r=true\/ r'=true) (h:gL A a c r''=true):gL A a b r=true\/ gL A b c r'=true:=by
 rcases fI (A:=A) a b with⟨x,_⟩|⟨x,_⟩|x
 ·exact .inl (eJ x)
 ·right
  rcases fI (A:=A) a c with⟨y,_⟩|⟨y,_⟩|y
  ·exact eJ (A.trans _ _ _ x y)
  ·rw[jS y]at h;cases h
  ·rw[<-y];exact eJ x
 ·subst x
  rcases fI (A:=A) a c with⟨y,_⟩|⟨y,_⟩|y
  ·exact .inr (eJ y)
  ·rw[jS y]at h;cases h
  ·subst y
   rw[gK]at h⊢
   rw[gK]
   exact hr h
theorem BB {A:KeyOrd} {a b:A.α} (h1:gL A a b r=false) (h2:gL A b a r'=false):a=b/\r=false/\r'=false:=by
 rcases fI (A:=A) a b with⟨x,_⟩|⟨x,_⟩|x
 ·rw[eJ x]at h1;cases h1
 ·rw[eJ x]at h2;cases h2
 ·subst x
  rw[gK]at h1 h2
  exact⟨rfl,h1,h2⟩
noncomputable def j0 (A:KeyOrd):List A.α->List A.α->Bool
 |[],[]=>false
 |[],_::_=>true
 |_::_,[]=>false
 |x::xs,y::ys=>gL A x y (j0 A xs ys)
theorem vP:∀xs:List A.α,j0 A xs xs=false
 |[]=>rfl
 |x::xs=>by unfold j0;rw[gK];exact vP xs
theorem qW:∀xs ys zs:List A.α,j0 A xs ys=true->j0 A ys zs=true->j0 A xs zs=true
 |[],[],_,h,_=>by cases h
 |[],_::_,[],_,h=>by cases h
 |[],_::_,_::_,_,_=>rfl
 |_::_,[],_,h,_=>by cases h
 |_::_,_::_,[],_,h=>by cases h
 |x::xs,y::ys,z::zs,h1,h2=>AH (qW xs ys zs) h1 h2
theorem uZ:∀xs ys zs:List A.α,j0 A xs zs=true->j0 A xs ys=true\/ j0 A ys zs=true
 |[],[],zs,h=>.inr h
 |[],_::_,_,_=>.inl rfl
 |_::_,_,[],h=>by cases h
 |_::_,[],_::_,_=>.inr rfl
 |x::xs,y::ys,z::zs,h=>GH (uZ xs ys zs) h
theorem qQ:∀xs ys:List A.α,j0 A xs ys=false->j0 A ys xs=false->xs=ys
 |[],[],_,_=>rfl
 |[],_::_,h,_=>by cases h
 |_::_,[],_,h=>by cases h
 |x::xs,y::ys,h1,h2=>by
  obtain⟨a,b,c⟩:=BB h1 h2
  rw[a,qQ xs ys b c]
noncomputable def ZN (A:KeyOrd):KeyOrd:=⟨List A.α,j0 A,vP,qW,uZ,qQ⟩
theorem EV {a b:Str} (h:a.cps.toList=b.cps.toList):a=b:=by
 cases a with
 |mk x=>
  cases b with
  |mk y=>congr 1;exact Array.toList_inj.mp h
end L2
namespace Mr
open PySem L2
variable {a l:Addr} {e ei:En} {f fa fb fv:FE} {fg:FG} {fi:FI} {g:FS} {fc:FT} {o ob:HO} {H H' H1 H2:Hp} {k:Key} {kvs:List (Key×PV)} {ys:List (Key×V)} {ms:List (Nat×Nat)} {ks:List Kd} {cH:List Nat} {ps:List PV} {xs:List V} {i n:Nat} {p:PV} {s:Sl} {σ:St} {t ta tb tv:TE} {wi:TI} {c u:TT} {α β:Type} {v:V} {W:WS} {E:XK} {L L1 M O Z Z':aI}
inductive PV where
 |aY|bl (b:Bool)|int (i:Int)|str (x:Str)|ty (n:String)
 |tup (xs:List PV)|lst (xs:List PV)|a9 (kvs:List (Key×PV))
noncomputable abbrev aI:=Addr->Prop
noncomputable def aT (A B:aI):aI:=fun a=>A a\/ B a
noncomputable def one (l:Addr):aI:=fun a=>a=l
noncomputable def cR:aI:=fun _=>False
structure WS where
 w:Nat->aI
 old:aI
instance:CoeFun WS (fun _=>Nat->aI):=⟨WS.w⟩
noncomputable def aw (W:WS):aI:=fun a=>∃i,W i a
noncomputable def TupAt (K:Frag) (H:Hp) (a:Addr) (xs:List V):Prop:=H a=some (.tup xs)\/
  ∃(o:Obj) (its:Array Value) (n:Nat),K.lookup a=some o/\o.cls= .type "tuple"/\o.dict=none/\o.data= .seq its n/\its.size<=sizeLine/\Vals xs its.toList
noncomputable def X1 (K:Frag) (a:Addr) (xs:List V):Prop:=
  ∃(o:Obj) (its:Array Value) (n:Nat),K.lookup a=some o/\o.cls= .type "list"/\o.dict=none/\o.data= .seq its n/\its.size<=sizeLine/\Vals xs its.toList
theorem TupAt.sq {K:Frag} (h:TupAt K H a xs):nD K H a xs:=h.elim nD.of fun⟨o,its,n,a,b,_,c⟩=>.inr ⟨o,its,n,a,b,c⟩
mutual
inductive Rep (K:Frag) (Z:aI) (H:Hp):PV->V->Prop
 |aY:Rep K Z H .aY .aY
 |bl (b:Bool):Rep K Z H (.bl b) (.bl b)
 |int (i:Int):Rep K Z H (.int i) (.int i)
 |str (x:Str):Rep K Z H (.str x) (.str x)
 |ty (n:String):Rep K Z H (.ty n) (.ty n)
 |tup {a:Addr} {xs:List V} {ps:List PV}:TupAt K H a xs->bG K Z H ps xs->Rep K Z H (.tup ps) (.ref a)
 |lst {a:Addr} {xs:List V} {ps:List PV}:Rd H a (.lst xs)->¬Z a->bG K Z H ps xs->Rep K Z H (.lst ps) (.ref a)
 |a9 {a:Addr} {ep:Nat} {ys:List (Key×V)} {kvs:List (Key×PV)}:Rd H a (.dK ys ep)->¬Z a->ys.map (·.1)=kvs.map (·.1)->bG K Z H (kvs.map (·.2)) (ys.map (·.2))->Rep K Z H (.a9 kvs) (.ref a)
inductive bG (K:Frag) (Z:aI) (H:Hp):List PV->List V->Prop
 |nil:bG K Z H [] []
 |cons {p:PV} {v:V} {ps:List PV} {vs:List V}:Rep K Z H p v->bG K Z H ps vs->bG K Z H (p::ps) (v::vs)
end
structure cT (Z Z':aI) (H H':Hp):Prop where
 tup:∀a xs,H a=some (.tup xs)->H' a=some (.tup xs)
 obj:∀a o,H a=some o->¬Z a->H' a=some o/\¬Z' a
theorem cT.rd (k:cT Z Z' H H') (h:Rd H a o) (n:¬Z a):Rd H' a o/\¬Z' a:=by
 rcases h with h|⟨u,h⟩
 ·exact⟨.inl (k.obj _ _ h n).1,(k.obj _ _ h n).2⟩
 ·exact⟨.inr ⟨u,(k.obj _ _ h n).1⟩,(k.obj _ _ h n).2⟩
mutual
theorem Rep.aH {K:Frag} {Z Z':aI} {H H':Hp} (k:cT Z Z' H H'):∀{p:PV} {v:V},Rep K Z H p v->Rep K Z' H' p v
 |_,_,.aY=>.aY
 |_,_,.bl b=>.bl b
 |_,_,.int b=>.int b
 |_,_,.str b=>.str b
 |_,_,.ty b=>.ty b
 |_,_,.tup h r=>.tup (h.elim (fun h=>.inl (k.tup _ _ h)) .inr) (bG.aH k r)
 |_,_,.lst h n r=>.lst (k.rd h n).1 (k.rd h n).2 (bG.aH k r)
 |_,_,.a9 h n e r=>.a9 (k.rd h n).1 (k.rd h n).2 e (bG.aH k r)
theorem bG.aH {K:Frag} {Z Z':aI} {H H':Hp} (k:cT Z Z' H H'):∀{p:List PV} {v:List V},bG K Z H p v->bG K Z' H' p v
 |_,_,.nil=>.nil
 |_,_,.cons h r=>.cons (Rep.aH k h) (bG.aH k r)
end
theorem cT.same (s:aZ H H'):cT Z Z H H':=⟨fun _ _ h=>s _ _ h,fun _ _ h n=>⟨s _ _ h,n⟩⟩
theorem cT.less (h:∀a,Z' a->Z a):cT Z Z' H H:=⟨fun _ _ h=>h,fun _ _ e n=>⟨e,fun z=>n (h _ z)⟩⟩
theorem cT.new (s:aZ H H') (hl:H l=none):cT Z (aT Z (one l)) H H':=
 ⟨fun _ _ h=>s _ _ h,fun a o h n=>⟨s _ _ h,fun z=>z.elim n fun e=>by rw[show a=l from e,hl]at h;cases h⟩⟩
theorem bG.length {K:Frag}:∀{ps:List PV} {vs:List V},bG K Z H ps vs->ps.length=vs.length
 |_,_,.nil=>rfl
 |_,_,.cons _ r=>by rw[length_cons,length_cons,bG.length r]
theorem bG.get {K:Frag}:∀{ps:List PV} {vs:List V} {i:Nat} {p:PV},bG K Z H ps vs->ps[i]? =some p->∃v,vs[i]? =some v/\Rep K Z H p v
 |_,_,_,_,.nil,h=>by simp at h
 |_,_,0,_,.cons h _,e=>by simp at e;subst e;exact⟨_,rfl,h⟩
 |_,_,i+1,_,.cons _ r,e=>by
  obtain⟨v,h1,h2⟩:=bG.get (i:=i) r (by simpa using e)
  exact⟨v,by simpa using h1,h2⟩
theorem bG.app {K:Frag}:∀{ps qs:List PV} {vs ws:List V},bG K Z H ps vs->bG K Z H qs ws->bG K Z H (ps++qs) (vs++ws)
 |_,_,_,_,.nil,s=>s
 |_,_,_,_,.cons h r,s=>.cons h (bG.app r s)
theorem bG.drop {K:Frag}:∀{ps:List PV} {vs:List V} (n:Nat),bG K Z H ps vs->bG K Z H (ps.drop n) (vs.drop n)
 |_,_,0,h=>h
 |_,_,_+1,.nil=>.nil
 |_,_,n+1,.cons _ r=>bG.drop n r
theorem bG.take {K:Frag}:∀{ps:List PV} {vs:List V} (n:Nat),bG K Z H ps vs->bG K Z H (ps.take n) (vs.take n)
 |_,_,0,_=>.nil
 |_,_,_+1,.nil=>.nil
 |_,_,n+1,.cons h r=>.cons h (bG.take n r)
theorem bG.set {K:Frag} (h:Rep K Z H p v):∀{ps:List PV} {vs:List V} (n:Nat),bG K Z H ps vs->bG K Z H (ps.set n p) (vs.set n v)
 |_,_,_,.nil=>.nil
 |_,_,0,.cons _ r=>.cons h r
 |_,_,n+1,.cons q r=>.cons q (bG.set h n r)
noncomputable def LstAt (K:Frag) (H:Hp) (a:Addr) (xs:List V):Prop:=Rd H a (.lst xs)\/ X1 K a xs
theorem LstAt.sq {K:Frag} (h:LstAt K H a xs):iR K H a xs:=h
inductive Red (K:Frag) (Z:aI) (H:Hp):PV->V->Prop
 |rep {p:PV} {v:V}:Rep K Z H p v->Red K Z H p v
 |lst {a:Addr} {xs:List V} {ps:List PV}:LstAt K H a xs->bG K Z H ps xs->Red K Z H (.lst ps) (.ref a)
 |a9 {a:Addr} {ep:Nat} {ys:List (Key×V)} {kvs:List (Key×PV)}:Rd H a (.dK ys ep)->ys.map (·.1)=kvs.map (·.1)->bG K Z H (kvs.map (·.2)) (ys.map (·.2))->Red K Z H (.a9 kvs) (.ref a)
section
variable {K:Frag} {Z:aI} {H:Hp} {v:V}
theorem Red.int {i:Int} (h:Red K Z H (.int i) v):v= .int i:=by cases h with|rep h=>cases h;rfl
theorem Red.str {i:Str} (h:Red K Z H (.str i) v):v= .str i:=by cases h with|rep h=>cases h;rfl
theorem Red.bl {i:Bool} (h:Red K Z H (.bl i) v):v= .bl i:=by cases h with|rep h=>cases h;rfl
theorem Red.aY (h:Red K Z H .aY v):v= .aY:=by cases h with|rep h=>cases h;rfl
theorem Red.ty {n:String} (h:Red K Z H (.ty n) v):v= .ty n:=by cases h with|rep h=>cases h;rfl
theorem Red.tup (h:Red K Z H (.tup ps) v):∃a xs,v= .ref a/\TupAt K H a xs/\bG K Z H ps xs:=by
 cases h with|rep h=>cases h with|tup h r=>exact⟨_,_,rfl,h,r⟩
theorem Red.m6 (h:Red K Z H (.lst ps) v):∃a xs,v= .ref a/\LstAt K H a xs/\bG K Z H ps xs:=by
 cases h with
 |rep h=>cases h with|lst h _ r=>exact⟨_,_,rfl,.inl h,r⟩
 |lst h r=>exact⟨_,_,rfl,h,r⟩
theorem Red.rB (h:Red K Z H (.a9 kvs) v):∃a ys,v= .ref a/\yI H a ys/\ys.map (·.1)=kvs.map (·.1)/\bG K Z H (kvs.map (·.2)) (ys.map (·.2)):=by
 cases h with
 |rep h=>cases h with|a9 h _ e r=>exact⟨_,_,rfl,⟨_,h⟩,e,r⟩
 |a9 h e r=>exact⟨_,_,rfl,⟨_,h⟩,e,r⟩
end
inductive Sl where
 |val (p:PV)|own (p:PV)|loc (p:PV)|bor (p:PV)
noncomputable def Sl.pv:Sl->PV
 | .val p=>p| .own p=>p| .loc p=>p| .bor p=>p
noncomputable def Sl.cU:Sl->Bool
 | .own _=>true| .loc _=>true|_=>false
noncomputable abbrev En:=List (Option Sl)
inductive hV (K:Frag) (Z:aI) (H:Hp) (a:Addr):PV->Prop
 |lst {xs:List V} {ps:List PV}:H a=some (.lst xs)->bG K Z H ps xs->hV K Z H a (.lst ps)
 |a9 {ep:Nat} {ys:List (Key×V)} {kvs:List (Key×PV)}:H a=some (.dK ys ep)->ys.map (·.1)=kvs.map (·.1)->bG K Z H (kvs.map (·.2)) (ys.map (·.2))->hV K Z H a (.a9 kvs)
theorem hV.red {K:Frag} (h:hV K Z H a p):Red K Z H p (.ref a):=by
 cases h with
 |lst e r=>exact .lst (.inl (.inl e)) r
 |a9 e k r=>exact .a9 (.inl e) k r
theorem hV.rep {K:Frag} (h:hV K Z H a p) (n:¬Z a):Rep K Z H p (.ref a):=by
 cases h with
 |lst e r=>exact .lst (.inl e) n r
 |a9 e k r=>exact .a9 (.inl e) n k r
theorem hV.there {K:Frag} (h:hV K Z H a p):∃o,H a=some o/\∀xs,o≠ .tup xs:=by
 cases h with
 |lst e r=>exact⟨_,e,fun _ z=>nomatch z⟩
 |a9 e k r=>exact⟨_,e,fun _ z=>nomatch z⟩
theorem hV.aH {K:Frag} (k:cT Z Z' H H') (e:∀o,H a=some o->H' a=some o) (h:hV K Z H a p):hV K Z' H' a p:=by
 cases h with
 |lst h r=>exact .lst (e _ h) (r.aH k)
 |a9 h q r=>exact .a9 (e _ h) q (r.aH k)
inductive rL (K:Frag) (Z:aI) (W:WS) (L:aI) (H:Hp) (a:Addr):PV->Prop
 |lst {xs:List V} {ps:List PV}:Rd H a (.lst xs)->W.old a->¬aw W a->¬L a->bG K Z H ps xs->rL K Z W L H a (.lst ps)
 |dF {xs:List V} {ps:List PV}:X1 K a xs->bG K Z H ps xs->rL K Z W L H a (.lst ps)
 |a9 {ep:Nat} {ys:List (Key×V)} {kvs:List (Key×PV)}:Rd H a (.dK ys ep)->W.old a->¬aw W a->¬L a->ys.map (·.1)=kvs.map (·.1)->bG K Z H (kvs.map (·.2)) (ys.map (·.2))->rL K Z W L H a (.a9 kvs)
theorem rL.red {K:Frag} (h:rL K Z W L H a p):Red K Z H p (.ref a):=by
 cases h with
 |lst e _ _ _ r=>exact .lst (.inl e) r
 |dF e r=>exact .lst (.inr e) r
 |a9 e _ _ _ k r=>exact .a9 e k r
noncomputable def i9 (K:Frag) (Z:aI) (W:WS) (L:aI) (H:Hp) (i:Nat) (v:V):Sl->Prop
 | .val p=>Rep K Z H p v
 | .own p=>∃a,v= .ref a/\W i a/\hV K Z H a p
 | .loc p=>∃a,v= .ref a/\L a/\hV K Z H a p
 | .bor p=>∃a,v= .ref a/\rL K Z W L H a p
theorem i9.red {K:Frag} {s:Sl} (h:i9 K Z W L H i v s):Red K Z H s.pv v:=by
 cases s with
 |val p=>exact .rep h
 |own p=>obtain⟨a,rfl,_,c⟩:=h;exact c.red
 |loc p=>obtain⟨a,rfl,_,c⟩:=h;exact c.red
 |bor p=>obtain⟨a,rfl,c⟩:=h;exact c.red
structure aO (K:Frag) (Z:aI) (W:WS) (L:aI) (H:Hp) (σ:St) (e:En):Prop where
 len:e.length=σ.length
 at':∀(i:Nat) s,e[i]? =some (some s)->∃v,σ[i]? =some (some v)/\i9 K Z W L H i v s
 mY:∀(i j:Nat) s t,i≠j->e[i]? =some (some s)->e[j]? =some (some t)->s.cU=true->t.cU=true->σ[i]?≠σ[j]?
structure jK (O M:aI) (W:WS) (L:aI) (H:Hp):Prop where
 old:∀a,O a->H a≠none
 mo:∀a,M a->O a
 wm:∀i a,W i a->M a
 loc:∀a,L a->H a≠none/\¬O a
structure bW (W:WS) (L:aI) (H H':Hp):Prop where
 obj:∀a o,H a=some o->¬aw W a->¬L a->H' a=some o
 tup:∀a xs,H a=some (.tup xs)->H' a=some (.tup xs)
 b9:∀a,H a≠none->H' a≠none
theorem bW.refl:bW W L H H:=⟨fun _ _ h _ _=>h,fun _ _ h=>h,fun _ h=>h⟩
theorem bW.trans (a:bW W L H H1) (b:bW W L H1 H2):bW W L H H2:=⟨fun c o h n m=>b.obj c o (a.obj c o h n m) n m,fun c o h=>b.tup c o (a.tup c o h),fun c h=>b.b9 c (a.b9 c h)⟩
theorem bW.same {H:Hp} (s:aZ H H'):bW W L H H':=⟨fun _ _ h _ _=>s _ _ h,fun _ _ h=>s _ _ h,fun a h=>by
 cases e:H a with
 |none=>exact absurd e h
 |some o=>rw[s _ _ e];exact fun z=>nomatch z⟩
theorem jK.keep (o:jK O M W L H) (d:∀a,H a≠none->H' a≠none):jK O M W L H':=⟨fun a h=>d a (o.old a h),o.mo,o.wm,fun a h=>⟨d a (o.loc a h).1,(o.loc a h).2⟩⟩
theorem bW.aH (o:jK O M W L H) (k:bW W L H H'):cT (aT M L) (aT M L) H H':=
 ⟨k.tup,fun a u h n=>⟨k.obj a u h (fun⟨i,z⟩=>n (.inl (o.wm i a z))) fun z=>n (.inr z),n⟩⟩
theorem aO.aH {K:Frag} {e:En} (h:aO K Z W L H σ e) (k:cT Z Z' H H') (ow:∀a o,aw W a\/ L a->H a=some o->H' a=some o) (bo:∀a o,H a=some o->¬aw W a->¬L a->H' a=some o):aO K Z' W L H' σ e:=
 ⟨h.len,fun i s q=>by
  obtain⟨v,h1,h2⟩:=h.at' i s q
  refine⟨v,h1,?_⟩
  cases s with
  |val p=>exact Rep.aH k h2
  |own p=>obtain⟨a,e,w,c⟩:=h2;exact⟨a,e,w,c.aH k fun o q=>ow a o (.inl ⟨_,w⟩) q⟩
  |loc p=>obtain⟨a,e,w,c⟩:=h2;exact⟨a,e,w,c.aH k fun o q=>ow a o (.inr w) q⟩
  |bor p=>
   obtain⟨a,e,c⟩:=h2
   refine⟨a,e,?_⟩
   cases c with
   |lst e od n m r=>exact .lst (e.elim (fun e=>.inl (bo _ _ e n m)) fun⟨u,e⟩=>.inr ⟨u,bo _ _ e n m⟩) od n m (r.aH k)
   |dF e r=>exact .dF e (r.aH k)
   |a9 e od n m kk r=>exact .a9 (e.elim (fun e=>.inl (bo _ _ e n m)) fun⟨u,e⟩=>.inr ⟨u,bo _ _ e n m⟩) od n m kk (r.aH k),h.mY⟩
theorem aO.same {K:Frag} (h:aO K Z W L H σ e) (s:aZ H H'):aO K Z W L H' σ e:=h.aH (.same s) (fun a o _ q=>s a o q) fun a o q _ _=>s a o q
noncomputable def MJ (σ:St) (e:En) (a:Addr):Prop:=∀(i:Nat) s,e[i]? =some (some s)->s.cU=true->σ[i]?≠some (some (.ref a))
theorem Rd.ne (h:Rd H a o) (hl:H l=none):a≠l:=by
 rintro rfl
 rcases h with h|⟨_,h⟩<;>(rw[hl]at h;cases h)
theorem aO.new {K:Frag} {e:En} (h:aO K (aT M L) W L H σ e) (s:aZ H H') (hl:H l=none):aO K (aT M (aT L (one l))) W (aT L (one l)) H' σ e/\MJ σ e l:=by
 have k:cT (aT M L) (aT M (aT L (one l))) H H':=⟨fun _ _ h=>s _ _ h,fun a o h n=>⟨s _ _ h,fun z=>by
  rcases z with z|z|z
  ·exact n (.inl z)
  ·exact n (.inr z)
  ·rw[show a=l from z,hl]at h;cases h⟩⟩
 refine⟨⟨h.len,fun i sl q=>?_,h.mY⟩,fun i sl q hm e=>?_⟩
 ·obtain⟨v,h1,h2⟩:=h.at' i sl q
  refine⟨v,h1,?_⟩
  cases sl with
  |val p=>exact Rep.aH k h2
  |own p=>obtain⟨a,e,w,c⟩:=h2;exact⟨a,e,w,c.aH k fun o q=>s _ _ q⟩
  |loc p=>obtain⟨a,e,w,c⟩:=h2;exact⟨a,e,.inl w,c.aH k fun o q=>s _ _ q⟩
  |bor p=>
   obtain⟨a,e,c⟩:=h2
   refine⟨a,e,?_⟩
   cases c with
   |lst e od n m r=>exact .lst (e.elim (fun e=>.inl (s _ _ e)) fun⟨u,e⟩=>.inr ⟨u,s _ _ e⟩) od n (fun z=>z.elim m (Rd.ne e hl)) (r.aH k)
   |dF e r=>exact .dF e (r.aH k)
   |a9 e od n m kk r=>exact .a9 (e.elim (fun e=>.inl (s _ _ e)) fun⟨u,e⟩=>.inr ⟨u,s _ _ e⟩) od n (fun z=>z.elim m (Rd.ne e hl)) kk (r.aH k)
 ·obtain⟨v,h1,h2⟩:=h.at' i sl q
  rw[h1]at e
  cases e
  cases sl with
  |val p=>cases hm
  |bor p=>cases hm
  |own p=>obtain⟨a,e,w,c⟩:=h2;cases e;obtain⟨o,e,_⟩:=c.there;rw[hl]at e;cases e
  |loc p=>obtain⟨a,e,w,c⟩:=h2;cases e;obtain⟨o,e,_⟩:=c.there;rw[hl]at e;cases e
theorem aO.SF {K:Frag} {e:En} (h:aO K (aT M (aT L (one l))) W (aT L (one l)) H σ e) (f:MJ σ e l):aO K (aT M L) W L H σ e:=by
 have k:cT (aT M (aT L (one l))) (aT M L) H H:=.less fun a z=>z.elim .inl fun z=>.inr (.inl z)
 refine⟨h.len,fun i sl q=>?_,h.mY⟩
 obtain⟨v,h1,h2⟩:=h.at' i sl q
 refine⟨v,h1,?_⟩
 cases sl with
 |val p=>exact Rep.aH k h2
 |own p=>obtain⟨a,e,w,c⟩:=h2;exact⟨a,e,w,c.aH k fun o q=>q⟩
 |loc p=>
  obtain⟨a,e,w,c⟩:=h2
  refine⟨a,e,w.elim id fun z=>?_,c.aH k fun o q=>q⟩
  exfalso
  have z:a=l:=z
  subst z e
  exact f i _ q rfl h1
 |bor p=>
  obtain⟨a,e,c⟩:=h2
  refine⟨a,e,?_⟩
  cases c with
  |lst e od n m r=>exact .lst e od n (fun z=>m (.inl z)) (r.aH k)
  |dF e r=>exact .dF e (r.aH k)
  |a9 e od n m kk r=>exact .a9 e od n (fun z=>m (.inl z)) kk (r.aH k)
inductive Bv where
 |val (p:PV)|slot (i:Nat)|new (p:PV)
noncomputable def rd (e:En) (i:Nat):Option PV:=match e[i]? with
 |some (some s)=>some s.pv
 |_=>none
noncomputable def Bv.get (e:En):Bv->Option PV
 | .val p=>some p
 | .new p=>some p
 | .slot i=>rd e i
noncomputable def Bv.weak:Bv->Bv
 | .new p=>.val p
 |b=>b
noncomputable def Bv.put:Bv->Option PV
 | .val p=>some p
 | .new p=>some p
 | .slot _=>none
noncomputable def RB (K:Frag) (O M:aI) (W:WS) (L:aI) (H:Hp) (σ:St) (e:En) (v:V):Bv->Prop
 | .val p=>aO K (aT M L) W L H σ e/\Rep K (aT M L) H p v
 | .slot i=>aO K (aT M L) W L H σ e/\σ[i]? =some (some v)
 | .new p=>∃a,v= .ref a/\¬O a/\¬L a/\aO K (aT M (aT L (one a))) W (aT L (one a)) H σ e/\MJ σ e a/\hV K (aT M (aT L (one a))) H a p
theorem RB.weak {K:Frag} {b:Bv} (o:jK O M W L H) (h:RB K O M W L H σ e v b):RB K O M W L H σ e v b.weak:=by
 cases b with
 |val p=>exact h
 |slot i=>exact h
 |new p=>
  obtain⟨a,rfl,n1,n2,h1,hf,h2⟩:=h
  exact⟨h1.SF hf,(h2.aH (.less fun _ z=>z.elim .inl fun z=>.inr (.inl z)) fun _ q=>q).rep fun z=>z.elim (fun z=>n1 (o.mo _ z)) n2⟩
theorem RB.en {K:Frag} {b:Bv} (o:jK O M W L H) (h:RB K O M W L H σ e v b):aO K (aT M L) W L H σ e:=by
 cases b with
 |val p=>exact h.1
 |slot i=>exact h.1
 |new p=>exact(RB.weak (b:=.new p) o h).1
noncomputable def RV (K:Frag) (Z:aI) (H:Hp) (σ:St) (v:V):Bv->Prop
 | .val p=>Rep K Z H p v
 | .slot i=>σ[i]? =some (some v)
 | .new _=>False
theorem RB.rv {K:Frag} {b:Bv} (o:jK O M W L H) (h:RB K O M W L H σ e v b):RV K (aT M L) H σ v b.weak:=by
 have h:=h.weak o
 cases b with
 |val p=>exact h.2
 |slot i=>exact h.2
 |new p=>exact h.2
theorem RV.keep {K:Frag} {b:Bv} (o:jK O M W L H) (k:bW W L H H') (h:RV K (aT M L) H σ v b):RV K (aT M L) H' σ v b:=by
 cases b with
 |val p=>exact Rep.aH (k.aH o) h
 |slot i=>exact h
 |new p=>exact h
theorem aO.rd {K:Frag} {e:En} {i:Nat} (h:aO K Z W L H σ e) (g:rd e i=some p) (hv:σ[i]? =some (some v)):Red K Z H p v:=by
 unfold Mr.rd at g
 cases q:e[i]? with
 |none=>rw[q]at g;cases g
 | some s=>
  cases s with
  |none=>rw[q]at g;cases g
  |some s=>
   rw[q]at g
   cases g
   obtain⟨w,h1,h2⟩:=h.at' i s q
   rw[hv]at h1
   cases h1
   exact h2.red
theorem RV.red {K:Frag} {b:Bv} (h:RV K Z H σ v b) (he:aO K Z W L H σ e) (g:b.get e=some p):Red K Z H p v:=by
 cases b with
 |val q=>cases g;exact .rep h
 |slot i=>exact he.rd g h
 |new q=>exact h.elim
noncomputable abbrev FE:=En->Option (Bv×En)
noncomputable abbrev FT:=En->Option (Bool×En)
noncomputable abbrev FA:=En->Option (List Bv×En)
noncomputable def Fr (H:Hp) (v:V):Bv->Prop
 | .new _=>∀a,v= .ref a->H a=none
 |_=>True
theorem Fr.back {H:Hp} {b:Bv} (d:∀a,H a≠none->H1 a≠none) (h:Fr H1 v b):Fr H v b:=by
 cases b with
 |val p=>trivial
 |slot i=>trivial
 |new p=>
  intro a e
  cases z:H a with
  |none=>rfl
  |some o=>exact absurd (h a e) (d a (by rw[z];exact fun z=>nomatch z))
noncomputable def Ref (K:Frag) (t:TE) (f:FE):Prop:=∀(O M:aI) (W:WS) (L:aI) (σ:St) (H:Hp) (e e':En) (b:Bv) (Q:VK),jK O M W L H->aO K (aT M L) W L H σ e->f e=some (b,e')->
 (∀v H',bW W L H H'->RB K O M W L H' σ e' v b->Fr H v b->Q v H')->t σ H Q
noncomputable def jX (K:Frag) (t:TT) (f:FT):Prop:=∀(O M:aI) (W:WS) (L:aI) (σ:St) (H:Hp) (e e':En) (b:Bool) (Q:Bool->Hp->Prop),jK O M W L H->aO K (aT M L) W L H σ e->f e=some (b,e')->
 (∀H',bW W L H H'->aO K (aT M L) W L H' σ e'->Q b H')->t σ H Q
inductive AK (K:Frag) (Z:aI) (H:Hp) (σ:St):List Bv->List V->Prop
 |nil:AK K Z H σ [] []
 |cons {b:Bv} {v:V} {bs:List Bv} {vs:List V}:RV K Z H σ v b->AK K Z H σ bs vs->AK K Z H σ (b::bs) (v::vs)
noncomputable def rK (K:Frag) (t:TA) (f:FA):Prop:=∀(O M:aI) (W:WS) (L:aI) (σ:St) (H:Hp) (e e':En) (bs:List Bv) (Q:List V->Hp->Prop),jK O M W L H->aO K (aT M L) W L H σ e->f e=some (bs,e')->
 (∀vs H',bW W L H H'->aO K (aT M L) W L H' σ e'->AK K (aT M L) H' σ bs vs->Q vs H')->t σ H Q
noncomputable def bE (r:Option (α×En)) (k:α->En->Option β):Option β:=match r with
 |some (a,e)=>k a e
 |none=>none
noncomputable def bO (r:Option α) (k:α->Option β):Option β:=match r with
 |some a=>k a
 |none=>none
theorem aL {r:Option (α×En)} {k:α->En->Option β} {b:β} (h:bE r k=some b):∃a e,r=some (a,e)/\k a e=some b:=by
 cases r with
 |none=>cases h
 |some x=>exact⟨x.1,x.2,rfl,h⟩
theorem aF {r:Option α} {k:α->Option β} {b:β} (h:bO r k=some b):∃a,r=some a/\k a=some b:=by
 cases r with
 |none=>cases h
 |some x=>exact⟨x,rfl,h⟩
theorem BP {a:α} {k:α->En->Option β}:bE (some (a,e)) k=k a e:=rfl
theorem rA {a:α} {k:α->Option β}:bO (some a) k=k a:=rfl
noncomputable def bB (c:Bool) (x y:β):β:=match c with|true=>x|false=>y
noncomputable def aN (c:Bool) (k:Option β):Option β:=match c with|true=>k|false=>none
theorem aK {c:Bool} {k:Option β} {b:β} (h:aN c k=some b):c=true/\k=some b:=by
 cases c with
 |false=>cases h
 |true=>exact⟨rfl,h⟩
noncomputable def RN (K:Frag) (Z:aI) (H H':Hp) (v:V):Bv->Prop
 | .val p=>Rep K Z H' p v
 | .new p=>∃a,v= .ref a/\H a=none/\hV K (aT Z (one a)) H' a p
 | .slot _=>False
theorem RN.rb {K:Frag} {b:Bv} (o:jK O M W L H) (he:aO K (aT M L) W L H σ e) (s:aZ H H') (h:RN K (aT M L) H H' v b):RB K O M W L H' σ e v b:=by
 cases b with
 |val p=>exact⟨he.same s,h⟩
 |slot i=>exact h.elim
 |new p=>
  obtain⟨a,rfl,n,c⟩:=h
  have w:=he.new s n
  exact⟨a,rfl,fun z=>o.old a z n,fun z=>(o.loc a z).1 n,w.1,w.2,c.aH (.less fun _ z=>by rcases z with z|z|z;exact .inl (.inl z);exact .inl (.inr z);exact .inr z) fun _ q=>q⟩
theorem RN.fr {K:Frag} {H0:Hp} {b:Bv} (d:∀a,H0 a≠none->H a≠none) (h:RN K Z H H' v b):Fr H0 v b:=by
 refine Fr.back d ?_
 cases b with
 |val p=>trivial
 |slot i=>trivial
 |new p=>
  obtain⟨a,rfl,n,c⟩:=h
  intro a' e
  cases e
  exact n
noncomputable def dN (K:Frag) (r:R2) (g:PV->PV->Option Bv):Prop:=∀(Z:aI) (H:Hp) (x y:V) (p q:PV) (b:Bv) (Q:VK),Red K Z H p x->Red K Z H q y->g p q=some b->(∀v H',aZ H H'->RN K Z H H' v b->Q v H')->r x y H Q
noncomputable def YX (K:Frag) (r:V->Hp->VK->Prop) (g:PV->Option Bv):Prop:=∀(Z:aI) (H:Hp) (x:V) (p:PV) (b:Bv) (Q:VK),Red K Z H p x->g p=some b->(∀v H',aZ H H'->RN K Z H H' v b->Q v H')->r x H Q
inductive uQ (K:Frag) (Z:aI) (H:Hp):List PV->List V->Prop
 |nil:uQ K Z H [] []
 |cons {p:PV} {v:V} {ps:List PV} {vs:List V}:Red K Z H p v->uQ K Z H ps vs->uQ K Z H (p::ps) (v::vs)
noncomputable def fX (K:Frag) (r:List V->Hp->VK->Prop) (g:List PV->Option Bv):Prop:=∀(Z:aI) (H:Hp) (vs:List V) (ps:List PV) (b:Bv) (Q:VK),uQ K Z H ps vs->g ps=some b->(∀v H',aZ H H'->RN K Z H H' v b->Q v H')->r vs H Q
noncomputable def YJ (K:Frag) (r:V->List V->Hp->VK->Prop) (g:PV->List PV->Option Bv):Prop:=∀(Z:aI) (H:Hp) (x:V) (vs:List V) (p:PV) (ps:List PV) (b:Bv) (Q:VK),Red K Z H p x->uQ K Z H ps vs->g p ps=some b->(∀v H',aZ H H'->RN K Z H H' v b->Q v H')->r x vs H Q
noncomputable def getL (e:En):List Bv->Option (List PV)
 |[]=>some []
 |b::bs=>bO (b.get e) fun p=>bO (getL e bs) fun ps=>some (p::ps)
theorem AK.red {K:Frag} (he:aO K Z W L H σ e):∀{bs:List Bv} {vs:List V} {ps:List PV},AK K Z H σ bs vs->getL e bs=some ps->uQ K Z H ps vs
 |_,_,_,.nil,g=>by cases g;exact .nil
 |_,_,_,.cons h r,g=>by
  obtain⟨p,g1,g⟩:=aF g
  obtain⟨ps,g2,g⟩:=aF g
  cases g
  exact .cons (h.red he g1) (AK.red he r g2)
section
variable {K:Frag}
noncomputable def aC (i:Nat):FE:=fun e=>match e[i]? with
 |some (some (.val p))=>some (.val p,e)
 |some (some _)=>some (.slot i,e)
 |_=>none
theorem RL (i:Nat):Ref K (xK i) (aC i):=by
 intro O M W L σ H e e' b Q o he hf q
 unfold aC at hf
 cases g:e[i]? with
 |none=>rw[g]at hf;cases hf
 | some s=>
  cases s with
  |none=>rw[g]at hf;cases hf
  |some s=>
   rw[g]at hf
   obtain⟨v,h1,h2⟩:=he.at' i s g
   cases s with
   |val p=>cases hf;exact⟨v,h1,q v H .refl ⟨he,h2⟩ trivial⟩
   |own p=>cases hf;exact⟨v,h1,q v H .refl ⟨he,h1⟩ trivial⟩
   |loc p=>cases hf;exact⟨v,h1,q v H .refl ⟨he,h1⟩ trivial⟩
   |bor p=>cases hf;exact⟨v,h1,q v H .refl ⟨he,h1⟩ trivial⟩
noncomputable def fC (p:PV):FE:=fun e=>some (.val p,e)
theorem z5 (h:∀Z H,Rep K Z H p v):Ref K (tC v) (fC p):=by
 intro O M W L σ H e e' b Q o he hf q
 cases hf
 exact q v H .refl ⟨he,h _ _⟩ trivial
theorem QX (i:Int):Ref K (tC (.int i)) (fC (.int i)):=z5 fun _ _=>.int i
theorem RG (i:Str):Ref K (tC (.str i)) (fC (.str i)):=z5 fun _ _=>.str i
theorem TJ (i:Bool):Ref K (tC (.bl i)) (fC (.bl i)):=z5 fun _ _=>.bl i
theorem O7:Ref K (tC .aY) (fC .aY):=z5 fun _ _=>.aY
theorem UL (n:String):Ref K (tC (.ty n)) (fC (.ty n)):=z5 fun _ _=>.ty n
noncomputable def bC (g:PV->PV->Option Bv) (fa fb:FE):FE:=fun e=>bE (fa e) fun x e1=>bE (fb e1) fun y e2=>bO (x.weak.get e2) fun p=>bO (y.weak.get e2) fun q=>bO (g p q) fun b=>some (b,e2)
theorem VR {r:R2} {g:PV->PV->Option Bv} (hg:dN K r g) (ha:Ref K ta fa) (hb:Ref K tb fb):Ref K (tOp r ta tb) (bC g fa fb):=by
 intro O M W L σ H e e' b Q o he hf q
 obtain⟨x,e1,f1,hf⟩:=aL hf
 obtain⟨y,e2,f2,hf⟩:=aL hf
 obtain⟨p,g1,hf⟩:=aF hf
 obtain⟨p',g2,hf⟩:=aF hf
 obtain⟨c,g3,hf⟩:=aF hf
 cases hf
 refine ha O M W L σ H e e1 x _ o he f1 fun v1 H1 k1 r1 fr=>?_
 have o1:=o.keep k1.b9
 refine hb O M W L σ H1 e1 _ y _ o1 (r1.en o1) f2 fun v2 H2 k2 r2 fr=>?_
 have o2:=o1.keep k2.b9
 have en:=r2.en o2
 refine hg _ H2 v1 v2 p p' _ Q (((r1.rv o1).keep o1 k2).red en g1) ((r2.rv o2).red en g2) g3 fun v H' s rn=>?_
 exact q v H' ((k1.trans k2).trans (.same s)) (rn.rb o2 en s) (rn.fr (k1.trans k2).b9)
noncomputable def fUn (g:PV->Option Bv) (fa:FE):FE:=fun e=>bE (fa e) fun x e1=>bO (x.weak.get e1) fun p=>bO (g p) fun b=>some (b,e1)
theorem T5 {r:V->Hp->VK->Prop} {g:PV->Option Bv} (hg:YX K r g) (ha:Ref K ta fa):Ref K (tUn r ta) (fUn g fa):=by
 intro O M W L σ H e e' b Q o he hf q
 obtain⟨x,e1,f1,hf⟩:=aL hf
 obtain⟨p,g1,hf⟩:=aF hf
 obtain⟨c,g3,hf⟩:=aF hf
 cases hf
 refine ha O M W L σ H e _ x _ o he f1 fun v1 H1 k1 r1 fr=>?_
 have o1:=o.keep k1.b9
 have en:=r1.en o1
 refine hg _ H1 v1 p _ Q ((r1.rv o1).red en g1) g3 fun v H' s rn=>?_
 exact q v H' (k1.trans (.same s)) (rn.rb o1 en s) (rn.fr k1.b9)
noncomputable def aM:FA:=fun e=>some ([],e)
noncomputable def aB (fa:FE) (fr:FA):FA:=fun e=>bE (fa e) fun x e1=>bE (fr e1) fun xs e2=>some (x.weak::xs,e2)
theorem QS:rK K p9 aM:=by
 intro O M W L σ H e e' b Q o he hf q
 cases hf
 exact q [] H .refl he .nil
theorem MQ {tr:TA} {fr:FA} (ha:Ref K ta fa) (hr:rK K tr fr):rK K (eN ta tr) (aB fa fr):=by
 intro O M W L σ H e e' b Q o he hf q
 obtain⟨x,e1,f1,hf⟩:=aL hf
 obtain⟨xs,e2,f2,hf⟩:=aL hf
 cases hf
 refine ha O M W L σ H e e1 x _ o he f1 fun v1 H1 k1 r1 fr=>?_
 have o1:=o.keep k1.b9
 refine hr O M W L σ H1 e1 _ xs _ o1 (r1.en o1) f2 fun vs H2 k2 en2 r2=>?_
 exact q (v1::vs) H2 (k1.trans k2) en2 (.cons ((r1.rv o1).keep o1 k2) r2)
noncomputable def kA (g:List PV->Option Bv) (fa:FA):FE:=fun e=>bE (fa e) fun xs e1=>bO (getL e1 xs) fun ps=>bO (g ps) fun b=>some (b,e1)
theorem XM {r:List V->Hp->VK->Prop} {g:List PV->Option Bv} {ta:TA} {fa:FA} (hg:fX K r g) (ha:rK K ta fa):Ref K (YU r ta) (kA g fa):=by
 intro O M W L σ H e e' b Q o he hf q
 obtain⟨x,e1,f1,hf⟩:=aL hf
 obtain⟨p,g1,hf⟩:=aF hf
 obtain⟨c,g3,hf⟩:=aF hf
 cases hf
 refine ha O M W L σ H e _ x _ o he f1 fun v1 H1 k1 en r1=>?_
 have o1:=o.keep k1.b9
 refine hg _ H1 v1 p _ Q (r1.red en g1) g3 fun v H' s rn=>?_
 exact q v H' (k1.trans (.same s)) (rn.rb o1 en s) (rn.fr k1.b9)
noncomputable def fBM (g:PV->List PV->Option Bv) (fo:FE) (fa:FA):FE:=fun e=>bE (fo e) fun x e0=>match x with
 | .val (.str z)=>bE (fa e0) fun xs e1=>bO (getL e1 xs) fun ps=>bO (g (.str z) ps) fun b=>some (b,e1)
 |_=>none
theorem VB {r:V->List V->Hp->VK->Prop} {g:PV->List PV->Option Bv} {to:TE} {ta:TA} {fo:FE} {fa:FA} (hg:YJ K r g) (ho:Ref K to fo) (ha:rK K ta fa):Ref K (YN K "str" r to ta) (fBM g fo fa):=by
 intro O M W L σ H e e' b Q o he hf q
 obtain⟨x,e0,f0,hf⟩:=aL hf
 cases x with
 |slot i=>cases hf
 |new p=>cases hf
 | val p=>
  cases p with
  |str z=>
   obtain⟨xs,e1,f1,hf⟩:=aL hf
   obtain⟨p,g1,hf⟩:=aF hf
   obtain⟨c,g3,hf⟩:=aF hf
   cases hf
   refine ho O M W L σ H e e0 _ _ o he f0 fun v0 H0 k0 r0 fr=>?_
   have o0:=o.keep k0.b9
   obtain⟨en0,r0⟩:=r0
   cases r0
   refine⟨rfl,ha O M W L σ H0 e0 _ xs _ o0 en0 f1 fun v1 H1 k1 en r1=>?_⟩
   have o1:=o0.keep k1.b9
   refine hg _ H1 (.str z) v1 (.str z) p _ Q (.rep (.str z)) (r1.red en g1) g3 fun v H' s rn=>?_
   exact q v H' ((k0.trans k1).trans (.same s)) (rn.rb o1 en s) (rn.fr (k0.trans k1).b9)
  |_=>cases hf
noncomputable def acU (g:PV->List PV->Option Bv) (fo:FE):FE:=fun e=>bE (fo e) fun x e0=>match x with
 | .val (.str z)=>bO (g (.str z) []) fun b=>some (b,e0)
 |_=>none
noncomputable def putL:List Bv->Option (List PV)
 |[]=>some []
 |b::bs=>bO b.put fun p=>bO (putL bs) fun ps=>some (p::ps)
theorem AK.put:∀{bs:List Bv} {vs:List V} {ps:List PV},AK K Z H σ bs vs->putL bs=some ps->bG K Z H ps vs
 |_,_,_,.nil,g=>by cases g;exact .nil
 |b::_,_,_,.cons h r,g=>by
  obtain⟨p,g1,g⟩:=aF g
  obtain⟨ps,g2,g⟩:=aF g
  cases g
  cases b with
  |val p=>cases g1;exact .cons h (AK.put r g2)
  |slot i=>cases g1
  |new p=>exact h.elim
theorem iE (h:decide (n<1000000)=true):n<sizeLine:=szt (by have:=of_decide_eq_true h;omega)
noncomputable def eV (fa:FA):FE:=fun e=>bE (fa e) fun xs e1=>bO (putL xs) fun ps=>aN (decide (ps.length<1000000)) (some (.val (.tup ps),e1))
theorem OD {ta:TA} {fa:FA} (ha:rK K ta fa):Ref K (TH ta) (eV fa):=by
 intro O M W L σ H e e' b Q o he hf q
 obtain⟨x,e1,f1,hf⟩:=aL hf
 obtain⟨ps,g1,hf⟩:=aF hf
 obtain⟨g2,hf⟩:=aK hf
 cases hf
 refine ha O M W L σ H e _ x _ o he f1 fun vs H1 k1 en r1=>?_
 have rl:=r1.put g1
 refine⟨by rw[<-rl.length];exact le_of_lt (iE g2),fun p hp=>?_⟩
 have s:aZ H1 (upd H1 p (.tup vs)):=aZ.upd hp
 exact q _ _ (k1.trans (.same s)) ⟨en.same s,.tup (.inl aW) (rl.aH (.same s))⟩ trivial
noncomputable def gY (fa:FA):FE:=fun e=>bE (fa e) fun xs e1=>bO (putL xs) fun ps=>aN (decide (ps.length<1000000)) (some (.new (.lst ps),e1))
theorem RM {ta:TA} {fa:FA} (ha:rK K ta fa):Ref K (O0 ta) (gY fa):=by
 intro O M W L σ H e e' b Q o he hf q
 obtain⟨x,e1,f1,hf⟩:=aL hf
 obtain⟨ps,g1,hf⟩:=aF hf
 obtain⟨g2,hf⟩:=aK hf
 cases hf
 refine ha O M W L σ H e _ x _ o he f1 fun vs H1 k1 en r1=>?_
 have o1:=o.keep k1.b9
 have rl:=r1.put g1
 refine⟨by rw[<-rl.length];exact le_of_lt (iE g2),fun p hp=>?_⟩
 have s:aZ H1 (upd H1 p (.lst vs)):=aZ.upd hp
 exact q _ _ (k1.trans (.same s)) ⟨p,rfl,fun z=>o1.old p z hp,fun z=>(o1.loc p z).1 hp,(en.new s hp).1,(en.new s hp).2,.lst aW (rl.aH ⟨fun _ _ h=>s _ _ h,fun a o h n=>⟨s _ _ h,fun z=>by
  rcases z with z|z|z
  ·exact n (.inl z)
  ·exact n (.inr z)
  ·rw[show a=p from z,hp]at h;cases h⟩⟩)⟩ (Fr.back (b:=.new (.lst ps)) k1.b9 fun a e=>by cases e;exact hp)
noncomputable def nE:FE:=fun e=>some (.new (.a9 []),e)
theorem NC:Ref K yH nE:=by
 intro O M W L σ H e e' b Q o he hf q
 cases hf
 intro p hp
 have s:aZ H (upd H p (.dK [] 0)):=aZ.upd hp
 exact q _ _ (.same s) ⟨p,rfl,fun z=>o.old p z hp,fun z=>(o.loc p z).1 hp,(he.new s hp).1,(he.new s hp).2,.a9 aW rfl .nil⟩ fun a e=>by cases e;exact hp
noncomputable def bK (f:FE):FT:=fun e=>bE (f e) fun b e1=>match b with
 | .val (.bl c)=>some (c,e1)
 |_=>none
theorem zP (h:Ref K t f):jX K (R8 t) (bK f):=by
 intro O M W L σ H e e' b Q o he hf q
 obtain⟨x,e1,f1,hf⟩:=aL hf
 cases x with
 |slot i=>cases hf
 |new p=>cases hf
 | val p=>
  cases p with
  |bl c=>
   cases hf
   refine h O M W L σ H e _ _ _ o he f1 fun v1 H1 k1 r1 fr=>?_
   obtain⟨en,r⟩:=r1
   cases r
   exact⟨b,rfl,q H1 k1 en⟩
  |_=>cases hf
theorem WJ (h:Ref K t f):jX K (tB t) (bK f):=zP h
noncomputable def uS (f g:FT):FT:=fun e=>bE (f e) fun b e1=>bB b (g e1) (some (false,e1))
noncomputable def VD (f g:FT):FT:=fun e=>bE (f e) fun b e1=>bB b (some (true,e1)) (g e1)
noncomputable def GY (f:FT):FT:=fun e=>bE (f e) fun b e1=>some (!b,e1)
theorem OM {t:TT} {f g:FT} (h:jX K t f) (h2:jX K u g):jX K (aaK t u) (uS f g):=by
 intro O M W L σ H e e' b Q o he hf q
 obtain⟨x,e1,f1,hf⟩:=aL hf
 refine h O M W L σ H e _ _ _ o he f1 fun H1 k1 en=>?_
 cases x with
 |true=>rw[if_pos rfl];exact h2 O M W L σ H1 e1 _ _ _ (o.keep k1.b9) en hf fun H2 k2 en2=>q H2 (k1.trans k2) en2
 |false=>cases hf;rw[if_neg Bool.false_ne_true];exact q H1 k1 en
theorem VP {t:TT} {f g:FT} (h:jX K t f) (h2:jX K u g):jX K (tOr t u) (VD f g):=by
 intro O M W L σ H e e' b Q o he hf q
 obtain⟨x,e1,f1,hf⟩:=aL hf
 refine h O M W L σ H e _ _ _ o he f1 fun H1 k1 en=>?_
 cases x with
 |true=>cases hf;rw[if_pos rfl];exact q H1 k1 en
 |false=>rw[if_neg Bool.false_ne_true];exact h2 O M W L σ H1 e1 _ _ _ (o.keep k1.b9) en hf fun H2 k2 en2=>q H2 (k1.trans k2) en2
theorem QW {t:TT} {f:FT} (h:jX K t f):jX K (aaB t) (GY f):=by
 intro O M W L σ H e e' b Q o he hf q
 obtain⟨x,e1,f1,hf⟩:=aL hf
 cases hf
 exact h O M W L σ H e _ _ _ o he f1 fun H1 k1 en=>q H1 k1 en
noncomputable def eR:FT:=fun e=>some (true,e)
theorem JL:jX K R7 eR:=by
 intro O M W L σ H e e' b Q o he hf q
 cases hf
 exact q H .refl he
noncomputable def wQ:Bv->Option Bool
 | .val (.bl c)=>some c
 |_=>none
theorem HG {x:Bv} {c:Bool} (h:wQ x=some c):x= .val (.bl c):=by
 unfold wQ at h
 split at h
 ·cases h;rfl
 ·cases h
noncomputable def AL (fa fb:FE):FE:=fun e=>bE (fa e) fun b e1=>bO (wQ b) fun c=>bB c (fb e1) (some (.val (.bl false),e1))
noncomputable def acS (fa fb:FE):FE:=fun e=>bE (fa e) fun b e1=>bO (wQ b) fun c=>bB c (some (.val (.bl true),e1)) (fb e1)
noncomputable def Z1 (fa:FE):FE:=fun e=>bE (fa e) fun b e1=>bO (wQ b) fun c=>some (.val (.bl (!c)),e1)
theorem JG (ha:Ref K ta fa) (hb:Ref K tb fb):Ref K (SI ta tb) (AL fa fb):=by
 intro O M W L σ H e e' b Q o he hf q
 obtain⟨x,e1,f1,hf⟩:=aL hf
 obtain⟨c,gc,hf⟩:=aF hf
 have ec:=HG gc
 subst ec
 refine ha O M W L σ H e _ _ _ o he f1 fun v1 H1 k1 r1 fr=>?_
 obtain⟨en,r⟩:=r1
 cases r
 refine⟨c,rfl,?_⟩
 cases c with
 |true=>rw[if_pos rfl];exact hb O M W L σ H1 e1 _ _ _ (o.keep k1.b9) en hf fun v2 H2 k2 r2 fr=>q v2 H2 (k1.trans k2) r2 (fr.back k1.b9)
 |false=>cases hf;rw[if_neg Bool.false_ne_true];exact q _ H1 k1 ⟨en,.bl _⟩ trivial
noncomputable def SD (fc:FT) (fa fb:FE):FE:=fun e=>bE (fc e) fun b e1=>bB b (fa e1) (fb e1)
theorem VS {tc:TT} (hc:jX K tc fc) (ha:Ref K ta fa) (hb:Ref K tb fb):Ref K (tIf tc ta tb) (SD fc fa fb):=by
 intro O M W L σ H e e' b Q o he hf q
 obtain⟨x,e1,f1,hf⟩:=aL hf
 refine hc O M W L σ H e _ _ _ o he f1 fun H1 k1 en=>?_
 cases x with
 |true=>rw[if_pos rfl];exact ha O M W L σ H1 e1 _ _ _ (o.keep k1.b9) en hf fun v2 H2 k2 r2 fr=>q v2 H2 (k1.trans k2) r2 (fr.back k1.b9)
 |false=>rw[if_neg Bool.false_ne_true];exact hb O M W L σ H1 e1 _ _ _ (o.keep k1.b9) en hf fun v2 H2 k2 r2 fr=>q v2 H2 (k1.trans k2) r2 (fr.back k1.b9)
noncomputable abbrev FO:=En->Option (Option Int×En)
noncomputable def OP (K:Frag) (t:TO) (f:FO):Prop:=∀(O M:aI) (W:WS) (L:aI) (σ:St) (H:Hp) (e e':En) (b:Option Int) (Q:Option Int->Hp->Prop),jK O M W L H->aO K (aT M L) W L H σ e->f e=some (b,e')->
 (∀H',bW W L H H'->aO K (aT M L) W L H' σ e'->Q b H')->t σ H Q
noncomputable def fH:FO:=fun e=>some (none,e)
noncomputable def l4 (f:FE):FO:=fun e=>bE (f e) fun b e1=>match b with
 | .val (.int i)=>some (some i,e1)
 |_=>none
theorem CL:OP K D1 fH:=by
 intro O M W L σ H e e' b Q o he hf q
 cases hf
 exact q H .refl he
theorem MU (h:Ref K t f):OP K (R6 t) (l4 f):=by
 intro O M W L σ H e e' b Q o he hf q
 obtain⟨x,e1,f1,hf⟩:=aL hf
 cases x with
 |slot i=>cases hf
 |new p=>cases hf
 | val p=>
  cases p with
  |int c=>
   cases hf
   refine h O M W L σ H e _ _ _ o he f1 fun v1 H1 k1 r1 fr=>?_
   obtain⟨en,r⟩:=r1
   cases r
   exact⟨c,rfl,q H1 k1 en⟩
  |_=>cases hf
noncomputable def aaX (K:Frag) (r:V->Option Int->Option Int->Hp->VK->Prop) (g:PV->Option Int->Option Int->Option Bv):Prop:=∀(Z:aI) (H:Hp) (x:V) (p:PV) (lo hi:Option Int) (b:Bv) (Q:VK),Red K Z H p x->g p lo hi=some b->(∀v H',aZ H H'->RN K Z H H' v b->Q v H')->r x lo hi H Q
noncomputable def IM (g:PV->Option Int->Option Int->Option Bv) (fa:FE) (fl fh:FO):FE:=fun e=>bE (fa e) fun x e1=>bE (fl e1) fun lo e2=>bE (fh e2) fun hi e3=>bO (x.weak.get e3) fun p=>bO (g p lo hi) fun b=>some (b,e3)
theorem U2 {r:V->Option Int->Option Int->Hp->VK->Prop} {g:PV->Option Int->Option Int->Option Bv} {tl th:TO} {fl fh:FO} (hg:aaX K r g) (ha:Ref K ta fa) (hl:OP K tl fl) (hh:OP K th fh):Ref K (tSl r ta tl th) (IM g fa fl fh):=by
 intro O M W L σ H e e' b Q o he hf q
 obtain⟨x,e1,f1,hf⟩:=aL hf
 obtain⟨lo,e2,f2,hf⟩:=aL hf
 obtain⟨hi,e3,f3,hf⟩:=aL hf
 obtain⟨p,g1,hf⟩:=aF hf
 obtain⟨c,g3,hf⟩:=aF hf
 cases hf
 refine ha O M W L σ H e e1 x _ o he f1 fun v1 H1 k1 r1 fr=>?_
 have o1:=o.keep k1.b9
 refine hl O M W L σ H1 e1 e2 lo _ o1 (r1.en o1) f2 fun H2 k2 en2=>?_
 have o2:=o1.keep k2.b9
 refine hh O M W L σ H2 e2 _ hi _ o2 en2 f3 fun H3 k3 en3=>?_
 have o3:=o2.keep k3.b9
 refine hg _ H3 v1 p lo hi _ Q ((((r1.rv o1).keep o1 k2).keep o2 k3).red en3 g1) g3 fun v H' s rn=>?_
 exact q v H' (((k1.trans k2).trans k3).trans (.same s)) (rn.rb o3 en3 s) (rn.fr ((k1.trans k2).trans k3).b9)
end
inductive Out where
 |nx (e:En)|rt (b:Bv) (e:En)|bk (e:En)|ct (e:En)
noncomputable abbrev FS:=En->Option Out
structure lD (W:WS) (L L':aI) (H H':Hp):Prop where
 obj:∀a o,H a=some o->¬aw W a->¬L a->H' a=some o
 tup:∀a xs,H a=some (.tup xs)->H' a=some (.tup xs)
 b9:∀a,H a≠none->H' a≠none
 new:∀a,L' a->L a\/ H a=none
theorem lD.refl:lD W L L H H:=⟨fun _ _ h _ _=>h,fun _ _ h=>h,fun _ h=>h,fun _ h=>.inl h⟩
theorem lD.keep (k:bW W L H H'):lD W L L H H':=⟨k.obj,k.tup,k.b9,fun _ h=>.inl h⟩
theorem lD.trans {L2:aI} {H:Hp} (a:lD W L L1 H H1) (b:lD W L1 L2 H1 H2):lD W L L2 H H2:=
 ⟨fun c o h n m=>b.obj c o (a.obj c o h n m) n fun z=>(a.new c z).elim m fun z=>(by rw[h]at z;cases z),fun c xs h=>b.tup c xs (a.tup c xs h),fun c h=>b.b9 c (a.b9 c h),fun c h=>by
  rcases b.new c h with z|z
  ·exact a.new c z
  ·refine .inr ?_
   cases e:H c with
   |none=>rfl
   |some o=>exact absurd z (a.b9 c (by rw[e];exact fun z=>nomatch z))⟩
noncomputable def OZ (K:Frag) (O M:aI) (W:WS) (L:aI) (H:Hp) (D:Ends):Out->Prop
 | .nx e'=>∀L' σ' H',lD W L L' H H'->jK O M W L' H'->aO K (aT M L') W L' H' σ' e'->D.nx σ' H'
 | .bk e'=>∀L' σ' H',lD W L L' H H'->jK O M W L' H'->aO K (aT M L') W L' H' σ' e'->D.bk σ' H'
 | .ct e'=>∀L' σ' H',lD W L L' H H'->jK O M W L' H'->aO K (aT M L') W L' H' σ' e'->D.ct σ' H'
 | .rt b e'=>∀L' σ' H' v,lD W L L' H H'->jK O M W L' H'->RB K O M W L' H' σ' e' v b->D.rt v H'
theorem OZ.later {K:Frag} {D:Ends} {r:Out} (g:lD W L L1 H H1) (h:OZ K O M W L H D r):OZ K O M W L1 H1 D r:=by
 cases r with
 |nx e=>exact fun L' σ' H' g'=>h L' σ' H' (g.trans g')
 |bk e=>exact fun L' σ' H' g'=>h L' σ' H' (g.trans g')
 |ct e=>exact fun L' σ' H' g'=>h L' σ' H' (g.trans g')
 |rt b e=>exact fun L' σ' H' v g'=>h L' σ' H' v (g.trans g')
noncomputable def gH (K:Frag) (t:TS) (f:FS):Prop:=∀(O M:aI) (W:WS) (L:aI) (σ:St) (H:Hp) (e:En) (r:Out) (D:Ends),jK O M W L H->aO K (aT M L) W L H σ e->f e=some r->OZ K O M W L H D r->t D σ H
section
variable {K:Frag}
noncomputable def dA:FS:=fun e=>some (.nx e)
theorem MF:gH K KP dA:=by
 intro O M W L σ H e r D o he hf q
 cases hf
 exact q L σ H .refl o he
noncomputable def S9:FS:=fun e=>some (.bk e)
noncomputable def aa2:FS:=fun e=>some (.ct e)
noncomputable def aV (f g:FS):FS:=fun e=>match f e with
 |some (.nx e1)=>g e1
 |r=>r
theorem ER {t u:TS} {f:FS} (h1:gH K t f) (h2:gH K u g):gH K (PB t u) (aV f g):=by
 intro O M W L σ H e r D o he hf q
 unfold aV at hf
 cases c:f e with
 |none=>rw[c]at hf;cases hf
 |some r1=>
  rw[c]at hf
  cases r1 with
  |nx e1=>exact h1 O M W L σ H e _ _ o he c fun L' σ' H' g' o' he'=>h2 O M W L' σ' H' e1 r D o' he' hf (q.later g')
  |rt b e1=>cases hf;exact h1 O M W L σ H e _ _ o he c q
  |bk e1=>cases hf;exact h1 O M W L σ H e _ _ o he c q
  |ct e1=>cases hf;exact h1 O M W L σ H e _ _ o he c q
noncomputable def cX (f:FE):FS:=fun e=>bE (f e) fun b e1=>some (.rt b e1)
theorem P5 (h:Ref K t f):gH K (WN t) (cX f):=by
 intro O M W L σ H e r D o he hf q
 obtain⟨x,e1,f1,hf⟩:=aL hf
 cases hf
 exact h O M W L σ H e _ _ _ o he f1 fun v H' k rb fr=>q L σ H' v (.keep k) (o.keep k.b9) rb
noncomputable def aa8:FS:=fun e=>some (.rt (.val .aY) e)
noncomputable def ZV (f:FE):FS:=fun e=>bE (f e) fun b e1=>some (.nx e1)
noncomputable def rO (fc:FT) (f g:FS):FS:=fun e=>bE (fc e) fun b e1=>bB b (f e1) (g e1)
theorem O6 {t u:TS} {f:FS} (hc:jX K c fc) (h1:gH K t f) (h2:gH K u g):gH K (W7 c t u) (rO fc f g):=by
 intro O M W L σ H e r D o he hf q
 obtain⟨x,e1,f1,hf⟩:=aL hf
 refine hc O M W L σ H e _ _ _ o he f1 fun H1 k1 en=>?_
 cases x with
 |true=>rw[if_pos rfl];exact h1 O M W L σ H1 e1 r D (o.keep k1.b9) en hf (q.later (.keep k1))
 |false=>rw[if_neg Bool.false_ne_true];exact h2 O M W L σ H1 e1 r D (o.keep k1.b9) en hf (q.later (.keep k1))
theorem eB {l:List α} {j:Nat} {x y:α} (h:(l.set i x)[j]? =some y):(i=j/\i<l.length/\x=y)\/ (i≠j/\l[j]? =some y):=by
 by_cases e:i=j
 ·subst e
  have hl:i<l.length:=by
   have:=(List.getElem?_eq_some_iff.mp h).1
   simpa using this
  rw[getElem?_set_self hl]at h
  exact .inl ⟨rfl,hl,Option.some.inj h⟩
 ·rw[getElem?_set_ne e]at h
  exact .inr ⟨e,h⟩
theorem aO.put {e:En} (h:aO K Z W L H σ e) (hm:s.cU=false) (hs:i9 K Z W L H i v s):aO K Z W L H (σ.set i (some v)) (e.set i (some s)):=by
 refine⟨by rw[length_set,length_set];exact h.len,fun j t q=>?_,fun j k s1 s2 hjk q1 q2 m1 m2=>?_⟩
 ·rcases eB q with⟨rfl,hl,e⟩|⟨hn,q⟩
  ·cases e
   exact⟨v,by rw[getElem?_set_self (by rw[<-h.len];exact hl)],hs⟩
  ·rw[getElem?_set_ne hn]
   exact h.at' j t q
 ·rcases eB q1 with⟨rfl,hl,e⟩|⟨hn1,q1⟩
  ·cases e;rw[hm]at m1;cases m1
  ·rcases eB q2 with⟨rfl,hl,e⟩|⟨hn2,q2⟩
   ·cases e;rw[hm]at m2;cases m2
   ·rw[getElem?_set_ne hn1,getElem?_set_ne hn2]
    exact h.mY j k s1 s2 hjk q1 q2 m1 m2
theorem aO.putL {e:En} (h:aO K (aT M (aT L (one a))) W (aT L (one a)) H σ e) (hf:MJ σ e a) (hc:hV K (aT M (aT L (one a))) H a p):
  aO K (aT M (aT L (one a))) W (aT L (one a)) H (σ.set i (some (.ref a))) (e.set i (some (.loc p))):=by
 refine⟨by rw[length_set,length_set];exact h.len,fun j t q=>?_,fun j k s1 s2 hjk q1 q2 m1 m2=>?_⟩
 ·rcases eB q with⟨rfl,hl,e⟩|⟨hn,q⟩
  ·cases e
   exact⟨_,by rw[getElem?_set_self (by rw[<-h.len];exact hl)],a,rfl,.inr rfl,hc⟩
  ·rw[getElem?_set_ne hn]
   exact h.at' j t q
 ·rcases eB q1 with⟨rfl,hl,e⟩|⟨hn1,q1⟩
  ·rcases eB q2 with⟨rfl,hl,e⟩|⟨hn2,q2⟩
   ·exact absurd rfl hjk
   ·rw[getElem?_set_ne hn2,getElem?_set_self (by rw[<-h.len];exact hl)]
    exact fun z=>hf k s2 q2 m2 z.symm
  ·rcases eB q2 with⟨rfl,hl,e⟩|⟨hn2,q2⟩
   ·rw[getElem?_set_ne hn1,getElem?_set_self (by rw[<-h.len];exact hl)]
    exact fun z=>hf j s1 q1 m1 z
   ·rw[getElem?_set_ne hn1,getElem?_set_ne hn2]
    exact h.mY j k s1 s2 hjk q1 q2 m1 m2
noncomputable def bX (i:Nat) (f:FE):FS:=fun e=>bE (f e) fun b e1=>match b with
 | .val p=>some (.nx (e1.set i (some (.val p))))
 | .new p=>some (.nx (e1.set i (some (.val p))))
 | .slot j=>match e1[j]? with
  |some (some (.bor p))=>some (.nx (e1.set i (some (.bor p))))
  |_=>none
theorem OR (h:Ref K t f):gH K (tH t (lY i)) (bX i f):=by
 intro O M W L σ H e r D o he hf q
 obtain⟨x,e1,f1,hf⟩:=aL hf
 refine h O M W L σ H e _ _ _ o he f1 fun v H' k rb fr=>?_
 have o1:=o.keep k.b9
 cases x with
 |val p=>cases hf;exact q L _ H' (.keep k) o1 (aO.put rb.1 rfl rb.2)
 |new p=>cases hf;have rb:=rb.weak o1;exact q L _ H' (.keep k) o1 (aO.put (s:=.val p) rb.1 rfl rb.2)
 | slot j=>
  dsimp only at hf
  cases c:e1[j]? with
  |none=>rw[c]at hf;cases hf
  | some s=>
   cases s with
   |none=>rw[c]at hf;cases hf
   | some s=>
    rw[c]at hf
    cases s with
    |bor p=>
     cases hf
     obtain⟨u,h1,h2⟩:=rb.1.at' j _ c
     rw[rb.2]at h1
     cases h1
     exact q L _ H' (.keep k) o1 (aO.put (s:=.bor p) rb.1 rfl h2)
    |_=>cases hf
noncomputable def fO (i:Nat) (f:FE):FS:=fun e=>bE (f e) fun b e1=>match b with
 | .new p=>some (.nx (e1.set i (some (.loc p))))
 |_=>none
theorem LV (h:Ref K t f):gH K (tH t (lY i)) (fO i f):=by
 intro O M W L σ H e r D o he hf q
 obtain⟨x,e1,f1,hf⟩:=aL hf
 cases x with
 |val p=>cases hf
 |slot j=>cases hf
 |new p=>
  cases hf
  refine h O M W L σ H e _ _ _ o he f1 fun v H' k rb fr=>?_
  obtain⟨a,rfl,nO,nL,en,fe,c⟩:=rb
  obtain⟨ob,hob,_⟩:=c.there
  have o1:=o.keep k.b9
  have new:H a=none:=fr a rfl
  exact q (aT L (one a)) _ H' ⟨k.obj,k.tup,k.b9,fun b z=>z.elim .inl fun z=>.inr (by rw[show b=a from z];exact new)⟩ ⟨o1.old,o1.mo,o1.wm,fun b z=>z.elim (o1.loc b) fun z=>(by rw[show b=a from z];exact⟨(by rw[hob];exact fun z=>nomatch z),nO⟩)⟩ (aO.putL en fe c)
noncomputable def rel (i:Nat) (e:En):Option En:=match e[i]? with
 |some (some (.loc p))=>some (e.set i (some (.val p)))
 |some (some (.val p))=>some e
 |_=>none
theorem aO.rel {e:En} {i:Nat} (o:jK O M W L H) (h:aO K (aT M L) W L H σ e) (hi:e[i]? =some (some (.loc p))):∃L',(∀a,L' a->L a)/\aO K (aT M L') W L' H σ (e.set i (some (.val p))):=by
 obtain⟨v,h1,a,rfl,la,c⟩:=h.at' i _ hi
 refine⟨fun b=>L b/\b≠a,fun b z=>z.1,by rw[length_set];exact h.len,fun j t q=>?_,fun j k s1 s2 hjk q1 q2 m1 m2=>?_⟩
 ·have k:cT (aT M L) (aT M fun b=>L b/\b≠a) H H:=.less fun b z=>z.elim .inl fun z=>.inr z.1
  rcases eB q with⟨rfl,hl,e⟩|⟨hn,q⟩
  ·cases e
   refine⟨_,h1,(c.aH k fun _ q=>q).rep fun z=>?_⟩
   rcases z with z|z
   ·exact(o.loc a la).2 (o.mo a z)
   ·exact z.2 rfl
  ·obtain⟨v,g1,g2⟩:=h.at' j t q
   refine⟨v,g1,?_⟩
   cases t with
   |val p=>exact Rep.aH k g2
   |own p=>obtain⟨b,e,w,c⟩:=g2;exact⟨b,e,w,c.aH k fun o q=>q⟩
   |loc p=>
    obtain⟨b,e,w,c⟩:=g2
    refine⟨b,e,⟨w,fun z=>?_⟩,c.aH k fun o q=>q⟩
    subst z
    subst e
    exact h.mY i j _ _ hn hi q rfl rfl (h1.trans g1.symm)
   |bor p=>
    obtain⟨b,e,c⟩:=g2
    refine⟨b,e,?_⟩
    cases c with
    |lst e od n m r=>exact .lst e od n (fun z=>m z.1) (r.aH k)
    |dF e r=>exact .dF e (r.aH k)
    |a9 e od n m kk r=>exact .a9 e od n (fun z=>m z.1) kk (r.aH k)
 ·rcases eB q1 with⟨rfl,hl,e⟩|⟨hn1,q1⟩
  ·cases e;cases m1
  ·rcases eB q2 with⟨rfl,hl,e⟩|⟨hn2,q2⟩
   ·cases e;cases m2
   ·exact h.mY j k s1 s2 hjk q1 q2 m1 m2
noncomputable def UC (i:Nat) (f:FS):FS:=fun e=>bO (rel i e) f
theorem QP {t:TS} {f:FS} (i:Nat) (h:gH K t f):gH K t (UC i f):=by
 intro O M W L σ H e r D o he hf q
 obtain⟨e1,f1,hf⟩:=aF hf
 unfold Mr.rel at f1
 cases c:e[i]? with
 |none=>rw[c]at f1;cases f1
 | some s=>
  cases s with
  |none=>rw[c]at f1;cases f1
  | some s=>
   rw[c]at f1
   cases s with
   |loc p=>
    cases f1
    obtain⟨L',hL,en⟩:=he.rel o c
    refine h O M W L' σ H _ r D ⟨o.old,o.mo,o.wm,fun a z=>o.loc a (hL a z)⟩ en hf (q.later ⟨fun _ _ h _ _=>h,fun _ _ h=>h,fun _ h=>h,fun a z=>.inl (hL a z)⟩)
   |val p=>cases f1;exact h O M W L σ H _ r D o he hf q
   |_=>cases f1
noncomputable def bZ (e:En) (i:Nat) (p:PV):En:=match e[i]? with
 |some (some (.own _))=>e.set i (some (.own p))
 |_=>e.set i (some (.loc p))
noncomputable def ownAt (e:En) (i:Nat):Option PV:=match e[i]? with
 |some (some (.own p))=>some p
 |some (some (.loc p))=>some p
 |_=>none
theorem bQ (h:ownAt e i=some p):(e[i]? =some (some (.own p))\/ e[i]? =some (some (.loc p))):=by
 unfold ownAt at h
 split at h
 ·cases h;exact .inl (by assumption)
 ·cases h;exact .inr (by assumption)
 ·cases h
theorem aO.own {i:Nat} (h:aO K Z W L H σ e) (g:ownAt e i=some p):∃a,σ[i]? =some (some (.ref a))/\(aw W a\/ L a)/\hV K Z H a p:=by
 rcases bQ g with g|g
 ·obtain⟨v,h1,a,rfl,w,c⟩:=h.at' i _ g
  exact⟨a,h1,.inl ⟨i,w⟩,c⟩
 ·obtain⟨v,h1,a,rfl,w,c⟩:=h.at' i _ g
  exact⟨a,h1,.inr w,c⟩
theorem cT.write (z:Z a) (h:H a=some ob) (nt:∀xs,ob≠ .tup xs):cT Z Z H (upd H a o):=
 ⟨fun b xs e=>by rw[aS (K5 e h fun z=>nt _ z.symm)];exact e,fun b u e n=>⟨by rw[aS (fun q:b=a=>n (by rw[q];exact z))];exact e,n⟩⟩
theorem aO.write {i:Nat} {q:PV} (wm:∀i a,W i a->M a) (h:aO K (aT M L) W L H σ e) (g:ownAt e i=some p) (ha:σ[i]? =some (some (.ref a))) (c:hV K (aT M L) (upd H a ob) a q):
  aO K (aT M L) W L (upd H a ob) σ (bZ e i q):=by
 obtain⟨a',h1,hz,c0⟩:=h.own g
 rw[ha]at h1
 cases h1
 have za:aT M L a:=hz.elim (fun⟨i,w⟩=>.inl (wm i a w)) .inr
 obtain⟨o0,e0,nt⟩:=c0.there
 have k:cT (aT M L) (aT M L) H (upd H a ob):=.write za e0 nt
 have hl:i<e.length:=by
  rcases bQ g with g|g<;>exact(List.getElem?_eq_some_iff.mp g).1
 have hm:∃s,e[i]? =some (some s)/\s.cU=true:=by
  rcases bQ g with g|g<;>exact⟨_,g,rfl⟩
 obtain⟨s0,hs0,hm0⟩:=hm
 have key:∀s',(bZ e i q)[i]? =some (some s')->∃v,σ[i]? =some (some v)/\i9 K (aT M L) W L (upd H a ob) i v s':=fun s' z=>by
  unfold bZ at z
  rcases bQ g with g|g
  ·rw[g]at z
   rw[getElem?_set_self hl]at z
   cases z
   obtain⟨v,h1,a',rfl,w,_⟩:=h.at' i _ g
   rw[ha]at h1;cases h1
   exact⟨_,ha,a,rfl,w,c⟩
  ·rw[g]at z
   rw[getElem?_set_self hl]at z
   cases z
   obtain⟨v,h1,a',rfl,w,_⟩:=h.at' i _ g
   rw[ha]at h1;cases h1
   exact⟨_,ha,a,rfl,w,c⟩
 have oth:∀j,i≠j->(bZ e i q)[j]? =e[j]?:=fun j hj=>by
  unfold bZ
  rcases bQ g with g|g<;>(rw[g];exact getElem?_set_ne hj)
 refine⟨?_,fun j t z=>?_,fun j l s1 s2 hjk q1 q2 m1 m2=>?_⟩
 ·rw[<-h.len];unfold bZ;rcases bQ g with g|g<;>(rw[g];exact length_set)
 ·by_cases hj:i=j
  ·subst hj;exact key t z
  ·rw[oth j hj]at z
   obtain⟨v,g1,g2⟩:=h.at' j t z
   refine⟨v,g1,?_⟩
   cases t with
   |val p=>exact Rep.aH k g2
   |own p=>
    obtain⟨b,e',w,c⟩:=g2
    subst e'
    have hb:b≠a:=fun z'=>h.mY i j s0 _ hj hs0 z hm0 rfl (by rw[ha,g1,z'])
    exact⟨b,rfl,w,c.aH k fun o q=>by rw[aS hb];exact q⟩
   |loc p=>
    obtain⟨b,e',w,c⟩:=g2
    subst e'
    have hb:b≠a:=fun z'=>h.mY i j s0 _ hj hs0 z hm0 rfl (by rw[ha,g1,z'])
    exact⟨b,rfl,w,c.aH k fun o q=>by rw[aS hb];exact q⟩
   | bor p=>
    obtain⟨b,e',c⟩:=g2
    refine⟨b,e',?_⟩
    cases c with
    |lst e od n m r=>
     have hb:b≠a:=fun z'=>hz.elim (fun w=>n (z'▸w)) fun w=>m (z'▸w)
     exact .lst (e.elim (fun e=>.inl (by rw[aS hb];exact e)) fun⟨u,e⟩=>.inr ⟨u,by rw[aS hb];exact e⟩) od n m (r.aH k)
    |dF e r=>exact .dF e (r.aH k)
    |a9 e od n m kk r=>
     have hb:b≠a:=fun z'=>hz.elim (fun w=>n (z'▸w)) fun w=>m (z'▸w)
     exact .a9 (e.elim (fun e=>.inl (by rw[aS hb];exact e)) fun⟨u,e⟩=>.inr ⟨u,by rw[aS hb];exact e⟩) od n m kk (r.aH k)
 ·have cU:∀(j:Nat) (s:Sl),(bZ e i q)[j]? =some (some s)->s.cU=true->∃s':Sl,e[j]? =some (some s')/\s'.cU=true:=fun j s z m=>by
   by_cases hj:i=j
   ·subst hj;exact⟨s0,hs0,hm0⟩
   ·rw[oth j hj]at z;exact⟨s,z,m⟩
  obtain⟨t1,w1,n1⟩:=cU j s1 q1 m1
  obtain⟨t2,w2,n2⟩:=cU l s2 q2 m2
  exact h.mY j l t1 t2 hjk w1 w2 n1 n2
theorem bW.write (hz:aw W a\/ L a) (h:H a=some ob) (nt:∀xs,ob≠ .tup xs):bW W L H (upd H a o):=
 ⟨fun b u e n m=>by rw[aS (fun q:b=a=>hz.elim (fun z=>n (by rw[q];exact z)) fun z=>m (by rw[q];exact z))];exact e,fun b xs e=>by rw[aS (K5 e h fun z=>nt _ z.symm)];exact e,fun b e=>by
  by_cases hb:b=a
  ·subst hb;rw[aW];exact fun z=>nomatch z
  ·rw[aS hb];exact e⟩
noncomputable def wO (i:Nat) (f:FE):FS:=fun e=>bO (ownAt e i) fun p0=>match p0 with
 | .lst _=>bE (f e) fun b e1=>bO b.put fun p=>match ownAt e1 i with
  |some (.lst ps)=>aN (decide (ps.length<1000000)) (some (.nx (bZ e1 i (.lst (ps++[p])))))
  |_=>none
 |_=>none
theorem RB.put {b:Bv} (o:jK O M W L H) (h:RB K O M W L H σ e v b) (g:b.put=some p):aO K (aT M L) W L H σ e/\Rep K (aT M L) H p v:=by
 have h:=h.weak o
 cases b with
 |val q=>cases g;exact h
 |new q=>cases g;exact h
 |slot i=>cases g
theorem O2 {i:Nat} (h:Ref K t f):gH K (MW (YN K "list" rR (xK i) (eN t p9))) (wO i f):=by
 intro O M W L σ H e r D o he hf q
 obtain⟨p0,g0,hf⟩:=aF hf
 cases p0 with
 | lst ps0=>
  obtain⟨x,e1,f1,hf⟩:=aL hf
  obtain⟨p,g1,hf⟩:=aF hf
  cases c:ownAt e1 i with
  |none=>rw[c]at hf;cases hf
  | some q1=>
   rw[c]at hf
   cases q1 with
   | lst ps=>
    obtain⟨g2,hf⟩:=aK hf
    cases hf
    obtain⟨a,ha,hz,ct⟩:=he.own g0
    refine⟨_,ha,.inl ⟨rfl,?_⟩,?_⟩
    ·cases ct with|lst e r=>exact⟨_,iR.of e⟩
    refine h O M W L σ H e _ _ _ o he f1 fun v H' k rb fr=>?_
    have o1:=o.keep k.b9
    obtain⟨en,rp⟩:=rb.put o1 g1
    obtain⟨a',ha',hz',ct'⟩:=en.own c
    rw[ha]at ha'
    cases ha'
    cases ct' with
    |lst e2 r2=>
     rename_i xs
     refine⟨a,xs,v,rfl,rfl,e2,by rw[<-r2.length];exact iE g2,?_⟩
     have kw:bW W L H' (upd H' a (.lst (xs++[v]))):=.write hz e2 fun _ z=>nomatch z
     have st:cT (aT M L) (aT M L) H' (upd H' a (.lst (xs++[v]))):=.write (hz.elim (fun⟨i,w⟩=>.inl (o.wm i a w)) .inr) e2 fun _ z=>nomatch z
     exact q L σ _ (.keep (k.trans kw)) (o1.keep kw.b9) (aO.write o.wm en c ha (.lst aW ((r2.aH st).app (.cons (rp.aH st) .nil))))
   |_=>cases hf
 |_=>cases hf
noncomputable def xE (i:Nat) (fi fv:FE):FS:=fun e=>bE (fv e) fun b e1=>bO b.put fun p=>bO (ownAt e1 i) fun _=>bE (fi e1) fun k e2=>match k with
 | .val (.int k)=>match ownAt e2 i with
  |some (.lst ps)=>bO (rY ps.length k) fun j=>some (.nx (bZ e2 i (.lst (ps.set j p))))
  |_=>none
 |_=>none
theorem GG {i:Nat} {ti:TE} {fi:FE} (hv:Ref K tv fv) (hi:Ref K ti fi):gH K (tH tv (uM (xK i) ti SQ)) (xE i fi fv):=by
 intro O M W L σ H e r D o he hf q
 obtain⟨x,e1,f1,hf⟩:=aL hf
 obtain⟨p,g1,hf⟩:=aF hf
 obtain⟨p0,g0,hf⟩:=aF hf
 obtain⟨y,e2,f2,hf⟩:=aL hf
 cases y with
 |slot i=>cases hf
 |new p=>cases hf
 | val y=>
  cases y with
  | int k=>
   dsimp only at hf
   cases c:ownAt e2 i with
   |none=>rw[c]at hf;cases hf
   | some q1=>
    rw[c]at hf
    cases q1 with
    | lst ps=>
     obtain⟨j,g2,hf⟩:=aF hf
     cases hf
     refine hv O M W L σ H e _ _ _ o he f1 fun v H1 k1 rb fr=>?_
     have o1:=o.keep k1.b9
     obtain⟨en,rp⟩:=rb.put o1 g1
     obtain⟨a,ha,_,_⟩:=en.own g0
     refine⟨_,ha,hi O M W L σ H1 e1 _ _ _ o1 en f2 fun v2 H2 k2 rb2 fr2=>?_⟩
     obtain⟨en2,r2⟩:=rb2
     cases r2
     have o2:=o1.keep k2.b9
     obtain⟨a',ha',hz,ct⟩:=en2.own c
     rw[ha]at ha'
     cases ha'
     cases ct with
     |lst e3 r3=>
      rename_i xs
      refine⟨a,xs,k,j,rfl,rfl,e3,by rw[<-r3.length];exact g2,?_⟩
      have kw:bW W L H2 (upd H2 a (.lst (xs.set j v))):=.write hz e3 fun _ z=>nomatch z
      have st:cT (aT M L) (aT M L) H2 (upd H2 a (.lst (xs.set j v))):=.write (hz.elim (fun⟨i,w⟩=>.inl (o.wm i a w)) .inr) e3 fun _ z=>nomatch z
      exact q L σ _ (.keep ((k1.trans k2).trans kw)) (o2.keep kw.b9) (aO.write o.wm en2 c ha (.lst aW ((r3.aH st).set ((rp.aH (k2.aH o1)).aH st) j)))
    |_=>cases hf
  |_=>cases hf
end
noncomputable def cE (kvs:List (Key×PV)) (k:Key):Option PV:=(kvs.find? fun kv=>decide (kv.1=k)).map (·.2)
noncomputable def fM (kvs:List (Key×PV)) (k:Key) (v:PV):List (Key×PV):=
 if(kvs.any fun kv=>decide (kv.1=k))=true then kvs.map (fun kv=>if kv.1=k then(kv.1,v)else kv)else kvs++[(k,v)]
section
variable {K:Frag} {Z:aI} {H:Hp}
noncomputable def dM (K:Frag) (Z:aI) (H:Hp) (kvs:List (Key×PV)) (ys:List (Key×V)):Prop:=ys.map (·.1)=kvs.map (·.1)/\bG K Z H (kvs.map (·.2)) (ys.map (·.2))
theorem dM.cases {kvs:List (Key×PV)} {ys:List (Key×V)} (h:dM K Z H kvs ys):(kvs=[]/\ys=[])\/ ∃k p v r s,kvs=(k,p)::r/\ys=(k,v)::s/\Rep K Z H p v/\dM K Z H r s:=by
 obtain⟨h1,h2⟩:=h
 cases kvs with
 |nil=>
  cases ys with
  |nil=>exact .inl ⟨rfl,rfl⟩
  |cons y ys=>cases h1
 | cons x kvs=>
  cases ys with
  |nil=>cases h1
  |cons y ys=>
   obtain⟨a,p⟩:=x
   obtain⟨b,v⟩:=y
   rw[map_cons,map_cons]at h1
   have h1':=List.cons.inj h1
   have e:b=a:=h1'.1
   subst e
   cases h2 with
   |cons h2 r2=>exact .inr ⟨b,p,v,kvs,ys,rfl,rfl,h2,h1'.2,r2⟩
theorem dM.cons {r:List (Key×PV)} {s:List (Key×V)} (h:Rep K Z H p v) (hr:dM K Z H r s):dM K Z H ((k,p)::r) ((k,v)::s):=
 ⟨by rw[map_cons,map_cons,hr.1],.cons h hr.2⟩
theorem dM.val:∀{kvs:List (Key×PV)} {ys:List (Key×V)} (k:Key),dM K Z H kvs ys->(cE kvs k=none/\dX ys k=none)\/ ∃p v,cE kvs k=some p/\dX ys k=some v/\Rep K Z H p v
 |[],ys,k,h=>by
  rcases h.cases with⟨_,rfl⟩|⟨_,_,_,_,_,e,_⟩
  ·exact .inl ⟨rfl,rfl⟩
  ·cases e
 | x::kvs,ys,k,h=>by
  rcases h.cases with⟨e,_⟩|⟨j,p,v,r,s,e,e',hp,hr⟩
  ·cases e
  ·cases e
   subst e'
   by_cases hj:j=k
   ·exact .inr ⟨p,v,by simp[cE,find?_cons,hj],by simp[dX,find?_cons,hj],hp⟩
   ·have a:cE ((j,p)::kvs) k=cE kvs k:=by simp[cE,find?_cons,hj]
    have b:dX ((j,v)::s) k=dX s k:=by simp[dX,find?_cons,hj]
    rw[a,b]
    exact dM.val k hr
theorem dM.any (k:Key) (h:dM K Z H kvs ys):(kvs.any fun kv=>decide (kv.1=k))=ys.any fun kv=>decide (kv.1=k):=by
 have e1:(kvs.any fun kv=>decide (kv.1=k))=(kvs.map (·.1)).any fun j=>decide (j=k):=by rw[any_map];rfl
 have e2:(ys.any fun kv=>decide (kv.1=k))=(ys.map (·.1)).any fun j=>decide (j=k):=by rw[any_map];rfl
 rw[e1,e2,h.1]
theorem dM.CS (hp:Rep K Z H p v) (k:Key):∀{kvs:List (Key×PV)} {ys:List (Key×V)},dM K Z H kvs ys->dM K Z H (kvs.map fun kv=>if kv.1=k then(kv.1,p)else kv) (ys.map fun kv=>if kv.1=k then(kv.1,v)else kv)
 |[],ys,h=>by
  rcases h.cases with⟨_,rfl⟩|⟨_,_,_,_,_,e,_⟩
  ·exact h
  ·cases e
 | x::kvs,ys,h=>by
  rcases h.cases with⟨e,_⟩|⟨j,q,u,r,s,e,e',hq,hr⟩
  ·cases e
  ·cases e
   subst e'
   rw[map_cons,map_cons]
   by_cases hj:j=k
   ·rw[if_pos hj,if_pos hj];exact .cons hp (dM.CS hp k hr)
   ·rw[if_neg hj,if_neg hj];exact .cons hq (dM.CS hp k hr)
theorem dM.put (k:Key) (h:dM K Z H kvs ys) (hp:Rep K Z H p v):dM K Z H (fM kvs k p) (putK ys k v):=by
 unfold fM putK
 rw[h.any k]
 split
 ·exact h.CS hp k
 ·exact⟨by rw[map_append,map_append,h.1];rfl,by rw[map_append,map_append];exact h.2.app (.cons hp .nil)⟩
end
noncomputable def keyOf:PV->Option Key
 | .int i=>some (.inl i)
 | .str x=>some (.inr x)
 |_=>none
section
variable {K:Frag}
theorem Red.key {p:PV} (h:Red K Z H p v) (g:keyOf p=some k):v=kV k:=by
 cases p with
 |int i=>cases g;exact h.int
 |str i=>cases g;exact h.str
 |_=>cases g
noncomputable def eZ (i:Nat) (fk fv:FE):FS:=fun e=>bE (fv e) fun b e1=>bO b.put fun p=>bO (ownAt e1 i) fun _=>bE (fk e1) fun k e2=>bO (k.weak.get e2) fun kp=>bO (keyOf kp) fun key=>match ownAt e2 i with
  |some (.a9 kvs)=>aN (decide (kvs.length<1000000)) (some (.nx (bZ e2 i (.a9 (fM kvs key p)))))
  |_=>none
theorem MO {i:Nat} {tk:TE} {fk:FE} (hv:Ref K tv fv) (hk:Ref K tk fk):gH K (L2.eZ (xK i) tk tv) (eZ i fk fv):=by
 intro O M W L σ H e r D o he hf q
 obtain⟨x,e1,f1,hf⟩:=aL hf
 obtain⟨p,g1,hf⟩:=aF hf
 obtain⟨p0,g0,hf⟩:=aF hf
 obtain⟨y,e2,f2,hf⟩:=aL hf
 obtain⟨kp,g3,hf⟩:=aF hf
 obtain⟨key,g4,hf⟩:=aF hf
 cases c:ownAt e2 i with
 |none=>rw[c]at hf;cases hf
 | some q1=>
  rw[c]at hf
  cases q1 with
  | a9 kvs=>
   obtain⟨g2,hf⟩:=aK hf
   cases hf
   refine hv O M W L σ H e _ _ _ o he f1 fun v H1 k1 rb fr=>?_
   have o1:=o.keep k1.b9
   obtain⟨en,rp⟩:=rb.put o1 g1
   obtain⟨a,ha,_,_⟩:=en.own g0
   refine⟨_,ha,hk O M W L σ H1 e1 _ _ _ o1 en f2 fun v2 H2 k2 rb2 fr2=>?_⟩
   have o2:=o1.keep k2.b9
   have en2:=rb2.en o2
   have ek:=((rb2.rv o2).red en2 g3).key g4
   subst ek
   obtain⟨a',ha',hz,ct⟩:=en2.own c
   rw[ha]at ha'
   cases ha'
   cases ct with
   |a9 e3 kk r3=>
    rename_i ys
    have hl:ys.length=kvs.length:=by have:=congrArg List.length kk;simpa using this
    refine⟨a,rfl,.inl ⟨_,_,⟨_,e3⟩,rfl,by rw[hl];exact iE g2,fun ep=>?_⟩⟩
    have kw:bW W L H2 (upd H2 a (.dK (putK ys key v) ep)):=.write hz e3 fun _ z=>nomatch z
    have st:cT (aT M L) (aT M L) H2 (upd H2 a (.dK (putK ys key v) ep)):=.write (hz.elim (fun⟨i,w⟩=>.inl (o.wm i a w)) .inr) e3 fun _ z=>nomatch z
    have rd:dM K (aT M L) (upd H2 a (.dK (putK ys key v) ep)) (fM kvs key p) (putK ys key v):=dM.put key ⟨kk,r3.aH st⟩ ((rp.aH (k2.aH o1)).aH st)
    exact q L σ _ (.keep ((k1.trans k2).trans kw)) (o2.keep kw.b9) (aO.write o.wm en2 c ha (.a9 aW rd.1 rd.2))
  |_=>cases hf
noncomputable abbrev FG:=PV->En->Option En
noncomputable abbrev FU:=List PV->En->Option En
noncomputable def wM (K:Frag) (g:TG) (f:FG):Prop:=∀(O M:aI) (W:WS) (L:aI) (σ:St) (H:Hp) (e e':En) (p:PV) (v:V) (Q:St->Hp->Prop),jK O M W L H->aO K (aT M L) W L H σ e->Rep K (aT M L) H p v->f p e=some e'->(∀σ',aO K (aT M L) W L H σ' e'->Q σ' H)->g v σ H Q
noncomputable def EE (K:Frag) (g:EY) (f:FU):Prop:=∀(O M:aI) (W:WS) (L:aI) (σ:St) (H:Hp) (e e':En) (p:List PV) (v:List V) (Q:St->Hp->Prop),jK O M W L H->aO K (aT M L) W L H σ e->bG K (aT M L) H p v->f p e=some e'->(∀σ',aO K (aT M L) W L H σ' e'->Q σ' H)->g v σ H Q
noncomputable def aR (i:Nat):FG:=fun p e=>some (e.set i (some (.val p)))
theorem HK (i:Nat):wM K (lY i) (aR i):=by
 intro O M W L σ H e e' p v Q o he hp hf q
 cases hf
 exact q _ (aO.put he rfl hp)
noncomputable def j7:FU:=fun ps e=>match ps with|[]=>some e|_=>none
noncomputable def cJ (f:FG) (g:FU):FU:=fun ps e=>match ps with|p::ps=>bO (f p e) (g ps)|[]=>none
theorem LB:EE K WH j7:=by
 intro O M W L σ H e e' p v Q o he hp hf q
 cases p with
 |nil=>cases hf;cases hp;exact⟨rfl,q σ he⟩
 |cons p ps=>cases hf
theorem F8 {g:TG} {gs:EY} {f:FG} {fs:FU} (h1:wM K g f) (h2:EE K gs fs):EE K (LA g gs) (cJ f fs):=by
 intro O M W L σ H e e' p v Q o he hp hf q
 cases p with
 |nil=>cases hf
 |cons p ps=>
  obtain⟨e1,f1,hf⟩:=aF hf
  cases hp with
  |cons hp hr=>exact⟨_,_,rfl,h1 O M W L σ H e e1 p _ _ o he hp f1 fun σ' he'=>h2 O M W L σ' H e1 e' ps _ _ o he' hr hf q⟩
noncomputable def j6 (n:Nat) (f:FU):FG:=fun p e=>match p with
 | .tup ps=>aN (decide (ps.length=n)) (f ps e)
 |_=>none
theorem NM {g:EY} {f:FU} (h:EE K g f):wM K (RC K n g) (j6 n f):=by
 intro O M W L σ H e e' p v Q o he hp hf q
 cases p with
 |tup ps=>
  obtain⟨g1,hf⟩:=aK hf
  cases hp with
  |tup ha hr=>exact⟨_,_,rfl,ha.sq,by rw[<-hr.length];exact of_decide_eq_true g1,h O M W L σ H e e' ps _ Q o he hr hf q⟩
 |_=>cases hf
noncomputable def S5 (f:FE) (fg:FG):FS:=fun e=>bE (f e) fun b e1=>bO b.put fun p=>bO (fg p e1) fun e2=>some (.nx e2)
theorem PN {g:TG} (h:Ref K t f) (hg:wM K g fg):gH K (tH t g) (S5 f fg):=by
 intro O M W L σ H e r D o he hf q
 obtain⟨x,e1,f1,hf⟩:=aL hf
 obtain⟨p,g1,hf⟩:=aF hf
 obtain⟨e2,f2,hf⟩:=aF hf
 cases hf
 refine h O M W L σ H e _ _ _ o he f1 fun v H1 k1 rb fr=>?_
 have o1:=o.keep k1.b9
 obtain⟨en,rp⟩:=rb.put o1 g1
 exact hg O M W L σ H1 e1 e2 p v _ o1 en rp f2 fun σ' he'=>q L σ' H1 (.keep k1) o1 he'
noncomputable def acH (i j:Nat) (fa:FA):FS:=fun e=>bE (fa e) fun bs e1=>bO (putL bs) fun ps=>match ps with
 |[p,q]=>some (.nx ((e1.set i (some (.val p))).set j (some (.val q))))
 |_=>none
noncomputable def MP (K:Frag) (M L Wr:aI) (H:Hp) (J:It) (items:List PV):Prop:=∀L' H',(∀a o,H a=some o->¬Wr a->H' a=some o)->(∀a xs,H a=some (.tup xs)->H' a=some (.tup xs))->(∀a,L' a->L a\/ H a=none)->
 (∀k p,items[k]? =some p->J.go k H'/\∀x H3,J.YL k H' x H3->aZ H' H3/\Rep K (aT M L') H3 p x)/\J.stop items.length H'
noncomputable abbrev FI:=(Nat->Bool)->En->Option (List PV×En)
noncomputable def tE (K:Frag) (wi:TI) (f:FI):Prop:=∀(st:Nat->Bool) (O M:aI) (W:WS) (L:aI) (σ:St) (H:Hp) (e e':En) (ps:List PV) (R:It->Hp->Prop),jK O M W L H->aO K (aT M L) W L H σ e->f st e=some (ps,e')->
 (∀J H',bW W L H H'->aO K (aT M L) W L H' σ e'->
  (∀Wr:aI,(∀a,Wr a->aw W a\/ L a)->(∀(i:Nat) a s,st i=true->e'[i]? =some (some s)->s.cU=true->σ[i]? =some (some (.ref a))->¬Wr a)->MP K M L Wr H' J ps)->R J H')->wi σ H R
noncomputable def m9 (body:PV->En->Option Out):List PV->En->Option Out
 |[],e=>some (.nx e)
 |x::xs,e=>match body x e with
  |some (.nx e1)=>m9 body xs e1
  |some (.ct e1)=>m9 body xs e1
  |some (.bk e1)=>some (.nx e1)
  |some (.rt b e1)=>some (.rt b e1)
  |none=>none
noncomputable def iJ (fi:FI) (fg:FG) (fb:FS):FS:=fun e=>bE (fi (fun _=>false) e) fun ps e1=>m9 (fun x e=>bO (fg x e) fb) ps e1
theorem PF {g:TG} {tb:TS} {fg:FG} {fb:FS} (hi:tE K wi fi) (hg:wM K g fg) (hb:gH K tb fb):gH K (TB wi g tb) (iJ fi fg fb):=by
 intro O M W L σ H e r D o he hf q
 obtain⟨ps,e1,f1,hf⟩:=aL hf
 refine hi (fun _=>false) O M W L σ H e e1 ps _ o he f1 fun J H1 k1 en it=>?_
 have it:=it (aT (aw W) L) (fun a z=>z) fun i a s z=>nomatch z
 have o1:=o.keep k1.b9
 have q1:=q.later (.keep k1)
 let N:Nat->St->Hp->Prop:=fun i σ' H'=>∃L' e',lD W L L' H1 H'/\jK O M W L' H'/\aO K (aT M L') W L' H' σ' e'/\m9 (fun x e=>bO (fg x e) fb) (ps.drop i) e'=some r
 refine⟨fun i m σ' H'=>m=ps.length - i/\i<=ps.length/\N i σ' H',⟨ps.length,by simp,zero_le _,L,e1,.refl,o1,en,by rw[drop_zero];exact hf⟩,?_⟩
 rintro i m σ2 H2 ⟨rfl,hil,L2,e2,g2,o2,en2,f2⟩
 obtain⟨itm,its⟩:=it L2 H2 (fun a ob h n=>g2.obj a ob h (fun z=>n (.inl z)) fun z=>n (.inr z)) g2.tup g2.new
 by_cases hlt:i<ps.length
 ·refine .inr ?_
  obtain⟨go,yl⟩:=itm i ps[i] (by simp[hlt])
  refine⟨go,N (i+1),fun σ' H' n=>⟨ps.length - (i+1),by omega,rfl,hlt,n⟩,fun x H3 y=>?_⟩
  obtain⟨s3,rp⟩:=yl x H3 y
  rw[drop_eq_getElem_cons hlt]at f2
  unfold m9 at f2
  have k3:bW W L2 H2 H3:=.same s3
  have o3:=o2.keep k3.b9
  have g3:lD W L L2 H1 H3:=g2.trans (.keep k3)
  cases c1:fg ps[i] e2 with
  |none=>rw[c1]at f2;cases f2
  | some e3=>
   rw[c1]at f2
   refine hg O M W L2 σ2 H3 e2 e3 _ x _ o3 (en2.same s3) rp c1 fun σ3 en3=>?_
   cases c2:fb e3 with
   |none=>rw[rA,c2]at f2;cases f2
   |some r1=>
    rw[rA,c2]at f2
    refine hb O M W L2 σ3 H3 e3 r1 _ o3 en3 c2 ?_
    cases r1 with
    |nx e4=>exact fun L' σ' H' g' o' en'=>⟨L',e4,g3.trans g',o',en',f2⟩
    |ct e4=>exact fun L' σ' H' g' o' en'=>⟨L',e4,g3.trans g',o',en',f2⟩
    |bk e4=>cases f2;exact fun L' σ' H' g' o' en'=>q1 L' σ' H' (g3.trans g') o' en'
    |rt b e4=>cases f2;exact fun L' σ' H' v g' o' en'=>q1 L' σ' H' v (g3.trans g') o' en'
 ·have e:i=ps.length:=by omega
  subst e
  rw[drop_length]at f2
  cases f2
  exact .inl ⟨its,q1 L2 σ2 H2 g2 o2 en2⟩
noncomputable def l3 (fc:FT) (fb:FS):Nat->En->Option Out
 |0,_=>none
 | n+1,e=>bE (fc e) fun b e1=>match b with
  |false=>some (.nx e1)
  |true=>match fb e1 with
   |some (.nx e2)=>l3 fc fb n e2
   |some (.ct e2)=>l3 fc fb n e2
   |some (.bk e2)=>some (.nx e2)
   |some (.rt b e2)=>some (.rt b e2)
   |none=>none
theorem GP {tb:TS} {fb:FS} (n:Nat) (hc:jX K c fc) (hb:gH K tb fb):gH K (KU c tb) (l3 fc fb n):=by
 intro O M W L σ H e r D o he hf q
 let N:Nat->St->Hp->Prop:=fun m σ' H'=>∃L' e',lD W L L' H H'/\jK O M W L' H'/\aO K (aT M L') W L' H' σ' e'/\l3 fc fb m e'=some r
 refine⟨N,⟨n,L,e,.refl,o,he,hf⟩,?_⟩
 rintro m σ2 H2 ⟨L2,e2,g2,o2,en2,f2⟩
 cases m with
 |zero=>cases f2
 | succ m=>
  obtain⟨b,e3,c1,f2⟩:=aL f2
  refine hc O M W L2 σ2 H2 e2 e3 b _ o2 en2 c1 fun H3 k3 en3=>?_
  have o3:=o2.keep k3.b9
  have g3:lD W L L2 H H3:=g2.trans (.keep k3)
  cases b with
  |false=>cases f2;rw[if_neg Bool.false_ne_true];exact q L2 σ2 H3 g3 o3 en3
  | true=>
   rw[if_pos rfl]
   refine⟨N m,fun σ' H' z=>⟨m,lt_succ_self m,z⟩,?_⟩
   dsimp only at f2
   cases c2:fb e3 with
   |none=>rw[c2]at f2;cases f2
   |some r1=>
    rw[c2]at f2
    refine hb O M W L2 σ2 H3 e3 r1 _ o3 en3 c2 ?_
    cases r1 with
    |nx e4=>exact fun L' σ' H' g' o' en'=>⟨L',e4,g3.trans g',o',en',f2⟩
    |ct e4=>exact fun L' σ' H' g' o' en'=>⟨L',e4,g3.trans g',o',en',f2⟩
    |bk e4=>cases f2;exact fun L' σ' H' g' o' en'=>q L' σ' H' (g3.trans g') o' en'
    |rt b e4=>cases f2;exact fun L' σ' H' v g' o' en'=>q L' σ' H' v (g3.trans g') o' en'
end
noncomputable def x6 (e:En) (ms:List (Nat×Nat)) (i j:Nat):Option Sl:=match e[i]? with
 |some (some (.val p))=>some (.val p)
 |some (some (.bor p))=>some (.bor p)
 |some (some (.own p))=>if ms.contains (i,j)then some (.own p)else if ms.any (fun z=>z.1==i)then none else some (.bor p)
 |some (some (.loc p))=>if ms.contains (i,j)then some (.own p)else if ms.any (fun z=>z.1==i)then none else some (.bor p)
 |_=>none
noncomputable def yL (e:En) (ms:List (Nat×Nat)):Nat->List Nat->En
 |_,[]=>[]
 |j,i::r=>x6 e ms i j::yL e ms (j+1) r
noncomputable def nX (k:Nat) (cH:List Nat) (ms:List (Nat×Nat)) (e:En):En:=List.replicate k none++yL e ms k cH
theorem zT:∀{cH:List Nat} {j q:Nat},(yL e ms j cH)[q]? =(cH[q]?).map fun i=>x6 e ms i (j+q)
 |[],j,q=>by simp[yL]
 |i::r,j,0=>by simp[yL]
 |i::r,j,q+1=>by
  rw[yL,List.getElem?_cons_succ,zT,List.getElem?_cons_succ]
  congr 1
  funext i
  rw[show j+1+q=j+(q+1) by omega]
theorem uA:∀{cH:List Nat} {j:Nat},(yL e ms j cH).length=cH.length
 |[],j=>rfl
 |i::r,j=>by rw[yL,length_cons,length_cons,uA]
theorem jV {k:Nat} {cH:List Nat} {j:Nat} (h:(nX k cH ms e)[j]? =some (some s)):∃q i,j=k+q/\cH[q]? =some i/\x6 e ms i j=some s:=by
 unfold nX at h
 by_cases hj:j<k
 ·rw[getElem?_append_left (by simpa using hj),List.getElem?_replicate]at h
  split at h<;>cases h
 ·rw[getElem?_append_right (by simpa using hj),length_replicate,zT]at h
  cases q:cH[j - k]? with
  |none=>rw[q]at h;cases h
  |some i=>
   rw[q]at h
   have h':x6 e ms i (k+(j - k))=some s:=Option.some.inj h
   rw[show k+(j - k)=j by omega]at h'
   exact⟨j - k,i,by omega,q,h'⟩
theorem j9 {k:Nat} {q:Nat} (h:cH[q]? =some i) (hv:σ[i]? =some (some v)):(eM k cH σ)[k+q]? =some (some v):=by
 unfold eM
 rw[getElem?_append_right (by simp),length_replicate,getElem?_map,show k+q - k=q by omega,h]
 show some ((σ[i]?).getD none)=_
 rw[hv];rfl
noncomputable def iX (fg:FG) (ft:FT) (fe:FE):List PV->En->Option (List PV×En)
 |[],e=>some ([],e)
 |x::xs,e=>bO (fg x e) fun e1=>bE (ft e1) fun b e2=>match b with
  |false=>iX fg ft fe xs e2
  |true=>bE (fe e2) fun r e3=>bO r.put fun p=>bE (iX fg ft fe xs e3) fun ys e4=>some (p::ys,e4)
noncomputable def nH (ei:En):List (Nat×Nat)->En->Option En
 |[],e=>some e
 |(i,j)::r,e=>bO (ownAt ei j) fun p=>bO (ownAt e i) fun _=>nH ei r (bZ e i p)
noncomputable def fN (fi:FI) (k:Nat) (cH:List Nat) (ms:List (Nat×Nat)) (fg:FG) (ft:FT) (fe:FE):FE:=fun e=>
 bE (fi (fun i=>!(ms.any fun z=>z.1==i)) e) fun items e1=>aN (decide (items.length<1000000)) (bE (iX fg ft fe items (nX k cH ms e1)) fun ys ei=>bO (nH ei ms e1) fun e2=>some (.new (.lst ys),e2))
structure xF (K:Frag) (Z:aI) (W:WS) (L:aI) (H:Hp) (σ:St) (T:Nat->Prop) (e:En):Prop where
 len:e.length=σ.length
 at':∀(i:Nat) s,e[i]? =some (some s)->∃v,σ[i]? =some (some v)/\((¬T i\/ s.cU=false)->i9 K Z W L H i v s)/\(s.cU=true->∃a,v= .ref a/\((∃p,s= .own p/\W i a)\/ ∃p,s= .loc p/\L a))
 mY:∀(i j:Nat) s t,i≠j->e[i]? =some (some s)->e[j]? =some (some t)->s.cU=true->t.cU=true->σ[i]?≠σ[j]?
theorem lR {K:Frag}:∀{ms:List (Nat×Nat)} {e e':En},xF K Z W L H σ (fun i=>∃j,(i,j)∈ms) e->(∀i j p a,(i,j)∈ms->ownAt ei j=some p->σ[i]? =some (some (.ref a))->hV K Z H a p)->nH ei ms e=some e'->aO K Z W L H σ e'
 |[],e,e',h,hc,g=>by
  cases g
  exact⟨h.len,fun i s q=>let⟨v,h1,h2,_⟩:=h.at' i s q;⟨v,h1,h2 (.inl fun⟨j,z⟩=>nomatch z)⟩,h.mY⟩
 | (i,j)::r,e,e',h,hc,g=>by
  obtain⟨p,g1,g⟩:=aF g
  obtain⟨p0,g2,g⟩:=aF g
  refine lR (e:=bZ e i p) ?_ (fun i' j' p' a' hm=>hc i' j' p' a' (mem_cons_of_mem _ hm)) g
  have hl:i<e.length:=by
   rcases bQ g2 with g|g<;>exact(List.getElem?_eq_some_iff.mp g).1
  have oth:∀l,i≠l->(bZ e i p)[l]? =e[l]?:=fun l hj=>by
   unfold bZ
   rcases bQ g2 with g|g<;>(rw[g];exact getElem?_set_ne hj)
  have own:∃s0 s1 a,e[i]? =some (some s0)/\s0.cU=true/\(bZ e i p)[i]? =some (some s1)/\σ[i]? =some (some (.ref a))/\i9 K Z W L H i (.ref a) s1/\((∃p,s1= .own p/\W i a)\/ ∃p,s1= .loc p/\L a):=by
   rcases bQ g2 with g|g
   ·obtain⟨v,h1,_,h3⟩:=h.at' i _ g
    obtain⟨a,rfl,h4⟩:=h3 rfl
    have c:=hc i j p a mem_cons_self g1 h1
    rcases h4 with⟨q,e1,w⟩|⟨q,e1,w⟩
    ·exact⟨_,.own p,a,g,rfl,by unfold bZ;rw[g];exact getElem?_set_self hl,h1,⟨a,rfl,w,c⟩,.inl ⟨p,rfl,w⟩⟩
    ·cases e1
   ·obtain⟨v,h1,_,h3⟩:=h.at' i _ g
    obtain⟨a,rfl,h4⟩:=h3 rfl
    have c:=hc i j p a mem_cons_self g1 h1
    rcases h4 with⟨q,e1,w⟩|⟨q,e1,w⟩
    ·cases e1
    ·exact⟨_,.loc p,a,g,rfl,by unfold bZ;rw[g];exact getElem?_set_self hl,h1,⟨a,rfl,w,c⟩,.inr ⟨p,rfl,w⟩⟩
  obtain⟨s0,s1,a,hs0,hm0,hs1,ha,hrep,hwl⟩:=own
  refine⟨?_,fun l s q=>?_,fun l1 l2 t1 t2 hn q1 q2 m1 m2=>?_⟩
  ·rw[<-h.len];unfold bZ;rcases bQ g2 with g|g<;>(rw[g];exact length_set)
  ·by_cases hil:i=l
   ·subst hil
    rw[hs1]at q
    cases q
    exact⟨_,ha,fun _=>hrep,fun _=>⟨a,rfl,hwl⟩⟩
   ·rw[oth l hil]at q
    obtain⟨v,h1,h2,h3⟩:=h.at' l s q
    refine⟨v,h1,fun z=>h2 (z.elim (fun z=>.inl fun⟨j',hm⟩=>?_) .inr),h3⟩
    rcases mem_cons.mp hm with hm|hm
    ·cases hm;exact hil rfl
    ·exact z ⟨j',hm⟩
  ·have cU:∀(l:Nat) (s:Sl),(bZ e i p)[l]? =some (some s)->s.cU=true->∃s':Sl,e[l]? =some (some s')/\s'.cU=true:=fun l s z m=>by
    by_cases hj:i=l
    ·subst hj;exact⟨s0,hs0,hm0⟩
    ·rw[oth l hj]at z;exact⟨s,z,m⟩
   obtain⟨u1,w1,n1⟩:=cU l1 t1 q1 m1
   obtain⟨u2,w2,n2⟩:=cU l2 t2 q2 m2
   exact h.mY l1 l2 u1 u2 hn w1 w2 n1 n2
theorem kH:∀{ms:List (Nat×Nat)} {e e':En},nH ei ms e=some e'->∀(i:Nat) (s:Sl),e'[i]? =some (some s)->s.cU=true->∃s':Sl,e[i]? =some (some s')/\s'.cU=true
 |[],e,e',g=>by cases g;exact fun i s h m=>⟨s,h,m⟩
 | (i,j)::r,e,e',g=>by
  obtain⟨p,g1,g⟩:=aF g
  obtain⟨p0,g2,g⟩:=aF g
  intro l s h m
  obtain⟨s',h',m'⟩:=kH g l s h m
  by_cases hj:i=l
  ·subst hj
   rcases bQ g2 with g|g<;>exact⟨_,g,rfl⟩
  ·have oth:(bZ e i p)[l]? =e[l]?:=by
    unfold bZ
    rcases bQ g2 with g|g<;>(rw[g];exact getElem?_set_ne hj)
   rw[oth]at h'
   exact⟨s',h',m'⟩
section
variable {K:Frag}
theorem LS {g:TG} {tt:TT} {te:TE} {k:Nat} (ms:List (Nat×Nat)) {ft:FT} {fe:FE} (hms:∀i j1 j2,(i,j1)∈ms->(i,j2)∈ms->j1=j2) (hms2:∀i1 i2 j,(i1,j)∈ms->(i2,j)∈ms->i1=i2) (hi:tE K wi fi) (hg:wM K g fg) (ht:jX K tt ft) (he:Ref K te fe):Ref K (wG wi k cH g tt te) (fN fi k cH ms fg ft fe):=by
 intro O M W L σ H e e' b Q o hen hf q
 obtain⟨items,e1,f1,hf⟩:=aL hf
 obtain⟨hsz,hf⟩:=aK hf
 obtain⟨ys,ei,f2,hf⟩:=aL hf
 obtain⟨e2,f3,hf⟩:=aF hf
 cases hf
 have hsz:=of_decide_eq_true hsz
 refine hi (fun i=>!(ms.any fun z=>z.1==i)) O M W L σ H e e1 items _ o hen f1 fun J H1 k1 en it=>?_
 have o1:=o.keep k1.b9
 let W':WS:=⟨fun j a=>∃i s,(i,j)∈ms/\e1[i]? =some (some s)/\s.cU=true/\σ[i]? =some (some (.ref a)),fun a=>H1 a≠none⟩
 have whose:∀(i:Nat) s a,e1[i]? =some (some s)->s.cU=true->σ[i]? =some (some (.ref a))->(aw W a\/ L a)/\∃ob,H1 a=some ob/\∀xs,ob≠ .tup xs:=fun i s a hs hm ha=>by
  obtain⟨v,h1,h2⟩:=en.at' i s hs
  rw[ha]at h1
  cases h1
  cases s with
  |val p=>cases hm
  |bor p=>cases hm
  |own p=>obtain⟨b,e,w,c⟩:=h2;cases e;exact⟨.inl ⟨i,w⟩,c.there⟩
  |loc p=>obtain⟨b,e,w,c⟩:=h2;cases e;exact⟨.inr w,c.there⟩
 have wsub:∀a,aw W' a->(aw W a\/ L a)/\∃ob,H1 a=some ob/\∀xs,ob≠ .tup xs:=fun a ⟨j,i,s,hm,hs,hmine,ha⟩=>whose i s a hs hmine ha
 have it:=it (aw W') (fun a z=>(wsub a z).1) fun i a s hst hs hm ha ⟨j,i',s',hm',hs',hmine',ha'⟩=>by
  have ne:i'≠i:=fun z=>by
   subst z
   have:(ms.any fun z=>z.1==i')=true:=any_eq_true.mpr ⟨(i',j),hm',by simp⟩
   rw[this]at hst
   cases hst
  exact en.mY i' i s' s ne hs' hs hmine' hm (by rw[ha',ha])
 intro l hl
 have zl:∀a ob,H1 a=some ob->a≠l:=fun a ob h=>b8 h hl
 let M':aI:=aT M (aT L (one l))
 let O':aI:=fun a=>H1 a≠none\/ a=l
 have s0:aZ H1 (upd H1 l (.lst [])):=aZ.upd hl
 have ML:∀a,(aw W a\/ L a)->aT M L a:=fun a z=>z.elim (fun⟨i,w⟩=>.inl (o.wm i a w)) .inr
 have k0:cT (aT M L) (aT M' cR) H1 (upd H1 l (.lst [])):=⟨fun a xs h=>s0 _ _ h,fun a ob h n=>⟨s0 _ _ h,fun z=>by
  rcases z with(z|z|z)|z
  ·exact n (.inl z)
  ·exact n (.inr z)
  ·exact zl a ob h z
  ·exact z⟩⟩
 have okc0:∀H2,(∀a,H1 a≠none\/ a=l->H2 a≠none)->jK O' M' W' cR H2:=fun H2 d=>⟨d,fun a z=>by
   rcases z with z|z|z
   ·exact .inl (o1.old a (o1.mo a z))
   ·exact .inl (o1.loc a z).1
   ·exact .inr z,fun j a z=>by
   rcases ML a (wsub a ⟨j,z⟩).1 with z|z
   ·exact .inl z
   ·exact .inr (.inl z),fun a z=>z.elim⟩
 have lenS:(nX k cH ms e1).length=(eM k cH σ).length:=by
  unfold nX eM
  rw[length_append,length_append,uA,length_map,length_replicate,length_replicate]
 have en0:aO K (aT M' cR) W' cR (upd H1 l (.lst [])) (eM k cH σ) (nX k cH ms e1):=by
  have lend:∀(i:Nat) s p a,e1[i]? =some (some s)->(s= .own p\/ s= .loc p)->σ[i]? =some (some (.ref a))->hV K (aT M L) H1 a p->¬(∃j,(i,j)∈ms)->rL K (aT M' cR) W' cR (upd H1 l (.lst [])) a p:=fun i s p a hs hp ha c nm=>by
   have hm:s.cU=true:=by rcases hp with rfl|rfl<;>rfl
   have nw:¬aw W' a:=fun⟨j,i',s',hm',hs',hmine',ha'⟩=>by
    have ne:i'≠i:=fun z=>nm ⟨j,z▸hm'⟩
    exact en.mY i' i s' s ne hs' hs hmine' hm (by rw[ha',ha])
   have c':=c.aH k0 fun ob h=>s0 _ _ h
   cases c' with
   |lst h r=>exact .lst (.inl h) (by obtain⟨ob,h1,_⟩:=c.there;show H1 a≠none;rw[h1];exact fun z=>nomatch z) nw (fun z=>z) r
   |a9 h kk r=>exact .a9 (.inl h) (by obtain⟨ob,h1,_⟩:=c.there;show H1 a≠none;rw[h1];exact fun z=>nomatch z) nw (fun z=>z) kk r
  have bors:∀p a,rL K (aT M L) W L H1 a p->rL K (aT M' cR) W' cR (upd H1 l (.lst [])) a p:=fun p a c=>by
   cases c with
   |lst h od n m r=>exact .lst (h.elim (fun h=>.inl (s0 _ _ h)) fun⟨u,h⟩=>.inr ⟨u,s0 _ _ h⟩) (fun z=>Rd.ne h z rfl) (fun z=>(wsub a z).1.elim n m) (fun z=>z) (r.aH k0)
   |dF h r=>exact .dF h (r.aH k0)
   |a9 h od n m kk r=>exact .a9 (h.elim (fun h=>.inl (s0 _ _ h)) fun⟨u,h⟩=>.inr ⟨u,s0 _ _ h⟩) (fun z=>Rd.ne h z rfl) (fun z=>(wsub a z).1.elim n m) (fun z=>z) kk (r.aH k0)
  have row:∀(i j:Nat) s,x6 e1 ms i j=some s->∃v,σ[i]? =some (some v)/\i9 K (aT M' cR) W' cR (upd H1 l (.lst [])) j v s/\(s.cU=true->(i,j)∈ms/\∃s',e1[i]? =some (some s')/\s'.cU=true):=fun i j s h=>by
   unfold x6 at h
   have nc:∀{p:PV},ms.contains (i,j)=true->(i,j)∈ms:=fun z=>contains_iff_mem.mp z
   cases c:e1[i]? with
   |none=>rw[c]at h;cases h
   | some s'=>
    cases s' with
    |none=>rw[c]at h;cases h
    | some s'=>
     rw[c]at h
     obtain⟨v,h1,h2⟩:=en.at' i s' c
     refine⟨v,h1,?_⟩
     cases s' with
     |val p=>cases h;exact⟨Rep.aH k0 h2,fun z=>nomatch z⟩
     |bor p=>cases h;obtain⟨a,e,c⟩:=h2;exact⟨⟨a,e,bors p a c⟩,fun z=>nomatch z⟩
     | own p=>
      obtain⟨a,e,w,ct⟩:=h2
      subst e
      dsimp only at h
      cases d:ms.contains (i,j)with
      |true=>
       rw[d,if_pos rfl]at h
       cases h
       have hm:=contains_iff_mem.mp d
       exact⟨⟨a,rfl,⟨i,_,hm,c,rfl,h1⟩,ct.aH k0 fun ob h=>s0 _ _ h⟩,fun _=>⟨hm,_,rfl,rfl⟩⟩
      | false=>
       rw[d,if_neg Bool.false_ne_true]at h
       cases d2:ms.any (fun z=>z.1==i)with
       |true=>rw[d2,if_pos rfl]at h;cases h
       |false=>
        rw[d2,if_neg Bool.false_ne_true]at h
        cases h
        refine⟨⟨a,rfl,lend i _ p a c (.inl rfl) h1 ct fun⟨j',hm'⟩=>?_⟩,fun z=>nomatch z⟩
        have:(ms.any fun z=>z.1==i)=true:=any_eq_true.mpr ⟨(i,j'),hm',by simp⟩
        rw[d2]at this
        cases this
     | loc p=>
      obtain⟨a,e,w,ct⟩:=h2
      subst e
      dsimp only at h
      cases d:ms.contains (i,j)with
      |true=>
       rw[d,if_pos rfl]at h
       cases h
       have hm:=contains_iff_mem.mp d
       exact⟨⟨a,rfl,⟨i,_,hm,c,rfl,h1⟩,ct.aH k0 fun ob h=>s0 _ _ h⟩,fun _=>⟨hm,_,rfl,rfl⟩⟩
      | false=>
       rw[d,if_neg Bool.false_ne_true]at h
       cases d2:ms.any (fun z=>z.1==i)with
       |true=>rw[d2,if_pos rfl]at h;cases h
       |false=>
        rw[d2,if_neg Bool.false_ne_true]at h
        cases h
        refine⟨⟨a,rfl,lend i _ p a c (.inr rfl) h1 ct fun⟨j',hm'⟩=>?_⟩,fun z=>nomatch z⟩
        have:(ms.any fun z=>z.1==i)=true:=any_eq_true.mpr ⟨(i,j'),hm',by simp⟩
        rw[d2]at this
        cases this
  refine⟨lenS,fun j s hj=>?_,fun j1 j2 s t hn h1 h2 m1 m2=>?_⟩
  ·obtain⟨q,i,rfl,hc,hs⟩:=jV hj
   obtain⟨v,h1,h2,_⟩:=row i _ s hs
   exact⟨v,j9 hc h1,h2⟩
  ·obtain⟨q1,i1,rfl,c1,hs1⟩:=jV h1
   obtain⟨q2,i2,rfl,c2,hs2⟩:=jV h2
   obtain⟨v1,a1,_,b1⟩:=row i1 _ s hs1
   obtain⟨v2,a2,_,b2⟩:=row i2 _ t hs2
   obtain⟨w1,s1,d1,n1⟩:=b1 m1
   obtain⟨w2,s2,d2,n2⟩:=b2 m2
   rw[j9 c1 a1,j9 c2 a2]
   have ne:i1≠i2:=fun z=>by subst z;exact hn (hms _ _ _ w1 w2)
   have:=en.mY i1 i2 s1 s2 ne d1 d2 n1 n2
   rw[a1,a2]at this
   exact this
 have dl:∀a xs,H1 a=some (.tup xs)->a≠l:=fun a xs h=>zl a _ h
 let N:Nat->St->Hp->Prop:=fun i σ' H'=>∃ei' acc rest vs,bW W' (one l) (upd H1 l (.lst [])) H'/\H' l=some (.lst vs)/\bG K (aT M' cR) H' acc vs/\aO K (aT M' cR) W' cR H' σ' ei'/\acc.length<=i/\
  iX fg ft fe (items.drop i) ei'=some (rest,ei)/\ys=acc++rest
 have k0':∀H',bW W' (one l) (upd H1 l (.lst [])) H'->∀a,H1 a≠none\/ a=l->H' a≠none:=fun H' kk a z=>kk.b9 a (by
  rcases z with z|z
  ·cases e:H1 a with
   |none=>exact absurd e z
   |some u=>rw[s0 _ _ e];exact fun z=>nomatch z
  ·rw[z,aW];exact fun z=>nomatch z)
 refine⟨fun i m σ' H'=>m=items.length - i/\i<=items.length/\N i σ' H',⟨items.length,by simp,zero_le _,nX k cH ms e1,[],ys,[],.refl,aW,.nil,en0,le_refl _,by rw[drop_zero];exact f2,rfl⟩,?_⟩
 rintro i m σ2 H2 ⟨rfl,hil,ei2,acc,rest,vs,kk,hl2,ra,en2,hacc,f4,hys⟩
 have oki:=okc0 H2 (k0' H2 kk)
 obtain⟨itm,its⟩:=it (aT L (one l)) H2 (fun a ob h n=>kk.obj a ob (s0 _ _ h) n (zl a ob h)) (fun a xs h=>kk.tup a xs (s0 _ _ h)) (fun a z=>z.elim .inl fun z=>.inr (by rw[show a=l from z];exact hl))
 by_cases hlt:i<items.length
 ·refine .inr ?_
  obtain⟨go,yl⟩:=itm i items[i] (by simp[hlt])
  refine⟨go,N (i+1),fun σ' H' n=>⟨items.length - (i+1),by omega,rfl,hlt,n⟩,fun x H3 y=>?_⟩
  obtain⟨s3,rp⟩:=yl x H3 y
  rw[drop_eq_getElem_cons hlt]at f4
  obtain⟨e4,c1,f4⟩:=aF f4
  have oki3:=oki.keep (H':=H3) (bW.same (W:=W') (L:=cR) s3).b9
  have rp':Rep K (aT M' cR) H3 items[i] x:=rp.aH (.less fun a z=>z.elim id fun z=>z.elim)
  refine hg O' M' W' cR σ2 H3 ei2 e4 _ x _ oki3 (en2.same s3) rp' c1 fun σ3 en3=>?_
  obtain⟨b,e5,c2,f4⟩:=aL f4
  refine ht O' M' W' cR σ3 H3 e4 e5 b _ oki3 en3 c2 fun H4 k4 en4=>?_
  have oki4:=oki3.keep k4.b9
  have nlw:¬aw W' l:=fun z=>by obtain⟨_,ob,h,_⟩:=wsub l z;rw[hl]at h;cases h
  have kL:∀{A B:Hp},bW W' cR A B->bW W' (one l) A B:=fun k=>⟨fun a ob h n m=>k.obj a ob h n fun z=>z,k.tup,k.b9⟩
  have st:∀{A B:Hp},bW W' cR A B->jK O' M' W' cR A->cT (aT M' cR) (aT M' cR) A B:=fun k ok=>k.aH ok
  have k34:bW W' cR H2 H4:=(bW.same s3).trans k4
  cases b with
  |false=>
   rw[if_neg Bool.false_ne_true]
   exact⟨e5,acc,rest,vs,kk.trans (kL k34),k34.obj l _ hl2 nlw (fun z=>z),ra.aH (st k34 oki),en4,le_succ_of_le hacc,f4,hys⟩
  | true=>
   rw[if_pos rfl]
   obtain⟨rv,e6,c3,f4⟩:=aL f4
   obtain⟨p,c4,f4⟩:=aF f4
   obtain⟨rest',e7,c5,f4⟩:=aL f4
   cases f4
   refine he O' M' W' cR σ3 H4 e5 e6 rv _ oki4 en4 c3 fun v H5 k5 rb fr=>?_
   have oki5:=oki4.keep k5.b9
   obtain⟨en5,rp5⟩:=rb.put oki5 c4
   have k35:bW W' cR H2 H5:=k34.trans k5
   have hl5:=k35.obj l _ hl2 nlw (fun z=>z)
   have ra5:=ra.aH (st k35 oki)
   refine⟨vs,hl5,szt (by have:=ra.length;omega),?_⟩
   have stw:cT (aT M' cR) (aT M' cR) H5 (upd H5 l (.lst (vs++[v]))):=.write (.inl (.inr (.inr rfl))) hl5 fun _ z=>nomatch z
   have kw:bW W' (one l) H5 (upd H5 l (.lst (vs++[v]))):=.write (.inr rfl) hl5 fun _ z=>nomatch z
   refine⟨e6,acc++[p],rest',vs++[v],(kk.trans (kL k35)).trans kw,aW,(ra5.aH stw).app (.cons (rp5.aH stw) .nil),?_,by rw[length_append];exact Nat.succ_le_succ hacc,c5,by rw[hys,append_assoc];rfl⟩
   refine⟨en5.len,fun j s hj=>?_,en5.mY⟩
   obtain⟨u,g1,g2⟩:=en5.at' j s hj
   refine⟨u,g1,?_⟩
   cases s with
   |val p=>exact Rep.aH stw g2
   |own p=>
    obtain⟨a,e,w,c⟩:=g2
    exact⟨a,e,w,c.aH stw fun ob h=>by rw[aS (fun z:a=l=>nlw (by rw[<-z];exact⟨j,w⟩))];exact h⟩
   |loc p=>obtain⟨a,e,w,c⟩:=g2;exact w.elim
   |bor p=>
    obtain⟨a,e,c⟩:=g2
    refine⟨a,e,?_⟩
    have ne:W'.old a->a≠l:=fun od z=>od (by rw[z];exact hl)
    cases c with
    |lst h od n m r=>exact .lst (h.elim (fun h=>.inl (by rw[aS (ne od)];exact h)) fun⟨u,h⟩=>.inr ⟨u,by rw[aS (ne od)];exact h⟩) od n m (r.aH stw)
    |dF h r=>exact .dF h (r.aH stw)
    |a9 h od n m kk r=>exact .a9 (h.elim (fun h=>.inl (by rw[aS (ne od)];exact h)) fun⟨u,h⟩=>.inr ⟨u,by rw[aS (ne od)];exact h⟩) od n m kk (r.aH stw)
 ·have e:i=items.length:=by omega
  subst e
  rw[drop_length]at f4
  cases f4
  rw[append_nil]at hys
  subst hys
  have kout:bW W L H1 H2:=⟨fun a ob h n m=>kk.obj a ob (s0 _ _ h) (fun z=>(wsub a z).1.elim n m) (zl a ob h),fun a xs h=>kk.tup a xs (s0 _ _ h),fun a h=>k0' H2 kk a (.inl h)⟩
  have kf:cT (aT M L) (aT M (aT L (one l))) H1 H2:=⟨kout.tup,fun a ob h n=>⟨kk.obj a ob (s0 _ _ h) (fun z=>n (ML a (wsub a z).1)) (zl a ob h),fun z=>by
   rcases z with z|z|z
   ·exact n (.inl z)
   ·exact n (.inr z)
   ·exact zl a ob h z⟩⟩
  have pend:xF K (aT M (aT L (one l))) W (aT L (one l)) H2 σ (fun i=>∃j,(i,j)∈ms) e1:=by
   refine⟨en.len,fun i s hs=>?_,en.mY⟩
   obtain⟨v,h1,h2⟩:=en.at' i s hs
   have keepM:∀a,s.cU=true->¬(∃j,(i,j)∈ms)->v= .ref a->∀ob,H1 a=some ob->H2 a=some ob:=fun a hm nt ev ob h=>by
    subst ev
    refine kk.obj a ob (s0 _ _ h) (fun⟨j,i',s',hm',hs',hmine',ha'⟩=>?_) (zl a ob h)
    have ne:i'≠i:=fun z=>nt ⟨j,z▸hm'⟩
    exact en.mY i' i s' s ne hs' hs hmine' hm (by rw[ha',h1])
   refine⟨v,h1,fun z=>?_,fun hm=>?_⟩
   ·cases s with
    |val p=>exact Rep.aH kf h2
    |own p=>
     obtain⟨a,e,w,c⟩:=h2
     exact⟨a,e,w,c.aH kf fun ob h=>keepM a rfl (z.elim id fun z=>nomatch z) e ob h⟩
    |loc p=>
     obtain⟨a,e,w,c⟩:=h2
     exact⟨a,e,.inl w,c.aH kf fun ob h=>keepM a rfl (z.elim id fun z=>nomatch z) e ob h⟩
    |bor p=>
     obtain⟨a,e,c⟩:=h2
     refine⟨a,e,?_⟩
     cases c with
     |lst h od n m r=>exact .lst (h.elim (fun h=>.inl (kout.obj _ _ h n m)) fun⟨u,h⟩=>.inr ⟨u,kout.obj _ _ h n m⟩) od n (fun z=>z.elim m (Rd.ne h hl)) (r.aH kf)
     |dF h r=>exact .dF h (r.aH kf)
     |a9 h od n m kk r=>exact .a9 (h.elim (fun h=>.inl (kout.obj _ _ h n m)) fun⟨u,h⟩=>.inr ⟨u,kout.obj _ _ h n m⟩) od n (fun z=>z.elim m (Rd.ne h hl)) kk (r.aH kf)
   ·cases s with
    |val p=>cases hm
    |bor p=>cases hm
    |own p=>obtain⟨a,e,w,c⟩:=h2;exact⟨a,e,.inl ⟨p,rfl,w⟩⟩
    |loc p=>obtain⟨a,e,w,c⟩:=h2;exact⟨a,e,.inr ⟨p,rfl,.inl w⟩⟩
  have enf:aO K (aT M (aT L (one l))) W (aT L (one l)) H2 σ e':=lR pend (fun i j p a hm hp ha=>by
   rcases bQ hp with g|g
   ·obtain⟨v,h1,a',rfl,⟨i',s',hm',_,_,ha'⟩,c⟩:=en2.at' j _ g
    have ei:=hms2 i i' j hm hm'
    subst ei
    rw[ha]at ha'
    cases ha'
    exact c.aH (.less fun a z=>.inl z) fun _ h=>h
   ·obtain⟨v,h1,a',rfl,w,c⟩:=en2.at' j _ g
    exact w.elim) f3
  refine .inl ⟨its,q _ _ (k1.trans kout) ⟨l,rfl,fun z=>o1.old l z hl,fun z=>(o1.loc l z).1 hl,enf,fun i s hs hm e=>?_,.lst hl2 (ra.aH (.less fun a z=>.inl z))⟩ (Fr.back (b:=.new (.lst _)) k1.b9 fun a e=>by cases e;exact hl)⟩
  obtain⟨s',hs',hm'⟩:=kH f3 i s hs hm
  obtain⟨_,ob,h,_⟩:=whose i s' l hs' hm' e
  rw[hl]at h
  cases h
end
inductive Kd where
 |v|b|m
 deriving DecidableEq
noncomputable def B4:Kd->PV->Sl
 | .v,p=>.val p
 | .m,p=>.own p
 | .b,.lst ps=>.bor (.lst ps)
 | .b,.a9 ps=>.bor (.a9 ps)
 | .b,p=>.val p
noncomputable def mZ:List Kd->List PV->En
 |k::ks,p::ps=>some (B4 k p)::mZ ks ps
 |_,_=>[]
noncomputable def oI (ks:List Kd) (vs:List V) (H:Hp):WS:=⟨fun i a=>ks[i]? =some .m/\vs[i]? =some (.ref a),fun a=>H a≠none⟩
noncomputable def LL:List Kd->List V->List V
 | .m::ks,v::vs=>v::LL ks vs
 |_::ks,_::vs=>LL ks vs
 |_,_=>[]
noncomputable def zA (K:Frag) (Z:aI) (H:Hp) (ks:List Kd) (vs:List V) (qs:List PV):Prop:=∀(n:Nat) v q,(LL ks vs)[n]? =some v->qs[n]? =some q->∃a,v= .ref a/\hV K Z H a q
noncomputable def aaL (K:Frag) (M:aI) (H H':Hp) (ks:List Kd) (vs:List V) (r:PV) (qs:List PV) (v:V):Bool->Prop
 |false=>Rep K M H' r v/\zA K M H' ks vs qs
 |true=>∃a,v= .ref a/\H a=none/\hV K (aT M (one a)) H' a r/\zA K (aT M (one a)) H' ks vs qs
noncomputable abbrev FN:=List PV->Option (PV×List PV)
noncomputable def RY (K:Frag) (ks:List Kd) (fr:Bool) (f:FN):Sp:=fun vs H Q _=>∃(M:aI) (ps:List PV) (r:PV) (qs:List PV),(∀a,M a->H a≠none)/\vs.length=ks.length/\ps.length=ks.length/\
 (∀(i:Nat) k p v,ks[i]? =some k->ps[i]? =some p->vs[i]? =some v->i9 K M (oI ks vs H) cR H i v (B4 k p))/\
 (∀(i j:Nat),i≠j->ks[i]? =some .m->ks[j]? =some .m->vs[i]?≠vs[j]?)/\(∀i a,oI ks vs H i a->M a)/\
 f ps=some (r,qs)/\∀v H',bW (oI ks vs H) cR H H'->aaL K M H H' ks vs r qs v fr->Q v H'
noncomputable def ZU (e:En):Bool->Bv->Option PV
 |false,.val p=>some p
 |_,.new p=>some p
 |_,.slot i=>match e[i]? with
  |some (some (.loc p))=>some p
  |_=>none
 |true,.val _=>none
noncomputable def qT (e:En):Nat->List Kd->Option (List PV)
 |_,[]=>some []
 |j,.m::ks=>match e[j]? with
  |some (some (.own q))=>bO (qT e (j+1) ks) fun qs=>some (q::qs)
  |_=>none
 |j,_::ks=>qT e (j+1) ks
noncomputable def U8 (ks:List Kd) (fr:Bool):Out->Option (PV×List PV)
 | .rt b e=>bO (ZU e fr b) fun r=>bO (qT e 0 ks) fun qs=>some (r,qs)
 | .nx e=>match fr with
  |false=>bO (qT e 0 ks) fun qs=>some (.aY,qs)
  |true=>none
 |_=>none
noncomputable def nQ (ks:List Kd) (nl:Nat) (fr:Bool) (g:FS):FN:=fun ps=>bO (g (mZ ks ps++List.replicate nl none)) (U8 ks fr)
theorem zK:∀{ks:List Kd} {ps:List PV} {i:Nat} {s:Sl},(mZ ks ps)[i]? =some (some s)->∃k p,ks[i]? =some k/\ps[i]? =some p/\s=B4 k p
 |[],ps,i,s,h=>by simp[mZ]at h
 |k::ks,[],i,s,h=>by simp[mZ]at h
 |k::ks,p::ps,0,s,h=>by simp[mZ]at h;exact⟨k,p,rfl,rfl,h.symm⟩
 |k::ks,p::ps,i+1,s,h=>by
  rw[mZ,List.getElem?_cons_succ]at h
  obtain⟨k',p',h1,h2,h3⟩:=zK h
  exact⟨k',p',by simpa using h1,by simpa using h2,h3⟩
theorem zF:∀{ks:List Kd} {ps:List PV},ps.length=ks.length->(mZ ks ps).length=ks.length
 |[],ps,h=>rfl
 |k::ks,[],h=>by simp at h
 |k::ks,p::ps,h=>by rw[mZ,length_cons,length_cons,zF (by simpa using h)]
theorem mI:∀{ks:List Kd} {vs:List V} {j:Nat} {qs:List PV} {n:Nat} {v:V} {q:PV},qT e j ks=some qs->(LL ks vs)[n]? =some v->qs[n]? =some q->∃i,ks[i]? =some .m/\vs[i]? =some v/\e[j+i]? =some (some (.own q))
 |[],vs,j,qs,n,v,q,h,h1,h2=>by cases h;simp at h2
 | .m::ks,[],j,qs,n,v,q,h,h1,h2=>by simp[LL]at h1
 | .v::ks,[],j,qs,n,v,q,h,h1,h2=>by simp[LL]at h1
 | .b::ks,[],j,qs,n,v,q,h,h1,h2=>by simp[LL]at h1
 | .v::ks,x::vs,j,qs,n,v,q,h,h1,h2=>by
  obtain⟨i,a,b,c⟩:=mI (ks:=ks) (vs:=vs) (j:=j+1) h h1 h2
  exact⟨i+1,by simpa using a,by simpa using b,by rw[show j+(i+1)=j+1+i by omega];exact c⟩
 | .b::ks,x::vs,j,qs,n,v,q,h,h1,h2=>by
  obtain⟨i,a,b,c⟩:=mI (ks:=ks) (vs:=vs) (j:=j+1) h h1 h2
  exact⟨i+1,by simpa using a,by simpa using b,by rw[show j+(i+1)=j+1+i by omega];exact c⟩
 | .m::ks,x::vs,j,qs,n,v,q,h,h1,h2=>by
  unfold qT at h
  split at h
  ·rename_i q0 he
   obtain⟨qs',g,h⟩:=aF h
   cases h
   cases n with
   |zero=>
    simp[LL]at h1 h2
    subst h1 h2
    exact⟨0,rfl,rfl,he⟩
   |succ n=>
    obtain⟨i,a,b,c⟩:=mI (ks:=ks) (vs:=vs) (j:=j+1) g (by simpa [LL]using h1) (by simpa using h2)
    exact⟨i+1,by simpa using a,by simpa using b,by rw[show j+(i+1)=j+1+i by omega];exact c⟩
  ·cases h
section
variable {K:Frag}
theorem i9.cR {s:Sl} (h:i9 K M W L H i v s):i9 K (aT M cR) W L H i v s:=by
 have k:cT M (aT M Mr.cR) H H:=.less fun a z=>z.elim id fun z=>z.elim
 cases s with
 |val p=>exact Rep.aH k h
 |own p=>obtain⟨a,e,w,c⟩:=h;exact⟨a,e,w,c.aH k fun _ h=>h⟩
 |loc p=>obtain⟨a,e,w,c⟩:=h;exact⟨a,e,w,c.aH k fun _ h=>h⟩
 |bor p=>
  obtain⟨a,e,c⟩:=h
  refine⟨a,e,?_⟩
  cases c with
  |lst e od n m r=>exact .lst e od n m (r.aH k)
  |dF e r=>exact .dF e (r.aH k)
  |a9 e od n m kk r=>exact .a9 e od n m kk (r.aH k)
theorem VY {nl:Nat} {fr:Bool} {t:TS} {N:List Str} (h:gH K t g) (hN:N.length=ks.length+nl) {vs:List V} {Q:VK} (hs:RY K ks fr (nQ ks nl fr g) vs H Q E):t {nx:=fun _ H'=>Q .aY H',rt:=Q} (L2.start N vs) H:=by
 obtain⟨M,ps,r,qs,hM,hvl,hpl,har,hdis,hwm,hf,q⟩:=hs
 obtain⟨out,g1,hf⟩:=aF hf
 let O:aI:=fun a=>H a≠none
 have o:jK O M (oI ks vs H) cR H:=⟨fun a h=>h,hM,hwm,fun a z=>z.elim⟩
 have hvN:N.length - vs.length=nl:=by omega
 have st:∀(i:Nat) v,vs[i]? =some v->(L2.start N vs)[i]? =some (some v):=fun i v hv=>by
  unfold L2.start
  have hi:=(List.getElem?_eq_some_iff.mp hv).1
  rw[getElem?_append_left (by simpa using hi),getElem?_map,hv]
  rfl
 have sl:∀(i:Nat) s,(mZ ks ps++List.replicate nl none)[i]? =some (some s)->∃k p v,ks[i]? =some k/\ps[i]? =some p/\vs[i]? =some v/\s=B4 k p:=fun i s hi=>by
  by_cases hl:i<(mZ ks ps).length
  ·rw[getElem?_append_left hl]at hi
   obtain⟨k,p,h1,h2,h3⟩:=zK hi
   have:i<vs.length:=by have:=(List.getElem?_eq_some_iff.mp h1).1;omega
   exact⟨k,p,vs[i],h1,h2,by simp,h3⟩
  ·rw[getElem?_append_right (by omega),List.getElem?_replicate]at hi
   split at hi<;>cases hi
 have mk:∀k p,(B4 k p).cU=true->k= .m:=fun k p hm=>by
  cases k with
  |v=>cases hm
  |m=>rfl
  |b=>cases p<;>cases hm
 have en:aO K (aT M cR) (oI ks vs H) cR H (L2.start N vs) (mZ ks ps++List.replicate nl none):=by
  refine⟨?_,fun i s hi=>?_,fun i j s s' hij h1 h2 m1 m2=>?_⟩
  ·unfold L2.start
   rw[length_append,length_append,length_replicate,length_replicate,zF hpl,length_map,hvN,hvl]
  ·obtain⟨k,p,v,h1,h2,h3,rfl⟩:=sl i s hi
   exact⟨v,st i v h3,(har i k p v h1 h2 h3).cR⟩
  ·obtain⟨k,p,v,a1,a2,a3,rfl⟩:=sl i s h1
   obtain⟨k',p',v',b1,b2,b3,rfl⟩:=sl j s' h2
   rw[st i v a3,st j v' b3]
   have e1:=mk _ _ m1
   have e2:=mk _ _ m2
   subst e1 e2
   have:=hdis i j hij a1 b1
   rw[a3,b3]at this
   exact fun z=>this (by cases z;rfl)
 have gk:∀{L':aI} {H':Hp},lD (oI ks vs H) cR L' H H'->bW (oI ks vs H) cR H H':=fun gr=>⟨gr.obj,gr.tup,gr.b9⟩
 have mu:∀{Z Zf:aI} {L':aI} {H':Hp} {σ':St} {e':En} {qs:List PV},aO K Z (oI ks vs H) L' H' σ' e'->(∀a,Zf a->Z a)->qT e' 0 ks=some qs->zA K Zf H' ks vs qs:=fun en' hz hm n v q' h1 h2=>by
  obtain⟨i,a1,a2,a3⟩:=mI hm h1 h2
  rw[zero_add]at a3
  obtain⟨u,h3,a,rfl,⟨_,w⟩,c⟩:=en'.at' i _ a3
  rw[a2]at w
  cases w
  exact⟨a,rfl,c.aH (.less hz) fun _ h=>h⟩
 refine h O M (oI ks vs H) cR (L2.start N vs) H _ out _ o en g1 ?_
 cases out with
 |bk e'=>cases hf
 |ct e'=>cases hf
 | nx e'=>
  cases fr with
  |true=>cases hf
  |false=>
   obtain⟨qs',g2,hf⟩:=aF hf
   cases hf
   exact fun L' σ' H' gr o' en'=>q .aY H' (gk gr) ⟨.aY,mu en' (fun a z=>.inl z) g2⟩
 | rt b e'=>
  obtain⟨r',g2,hf⟩:=aF hf
  obtain⟨qs',g3,hf⟩:=aF hf
  cases hf
  intro L' σ' H' v gr o' rb
  refine q v H' (gk gr) ?_
  cases b with
  | val p=>
   cases fr with
   |true=>cases g2
   |false=>
    cases g2
    exact⟨rb.2.aH (.less fun a z=>.inl z),mu rb.1 (fun a z=>.inl z) g3⟩
  | new p=>
   cases fr with
   |false=>
    cases g2
    have rb:=rb.weak o'
    exact⟨Rep.aH (.less fun a z=>.inl z) rb.2,mu rb.1 (fun a z=>.inl z) g3⟩
   |true=>
    cases g2
    obtain⟨a,rfl,n1,n2,en',fe,c⟩:=rb
    exact⟨a,rfl,Classical.byContradiction n1,c.aH (.less fun a z=>z.elim .inl fun z=>.inr (.inr z)) fun _ h=>h,mu en' (fun a z=>z.elim .inl fun z=>.inr (.inr z)) g3⟩
  | slot i=>
   have g2':(match e'[i]? with|some (some (.loc p))=>some p|_=>none)=some r:=by
    cases fr<;>exact g2
   cases c:e'[i]? with
   |none=>rw[c]at g2';cases g2'
   | some s=>
    cases s with
    |none=>rw[c]at g2';cases g2'
    | some s=>
     rw[c]at g2'
     cases s with
     |loc p=>
      cases g2'
      obtain⟨u,h1,a,rfl,la,ct⟩:=rb.1.at' i _ c
      have:=rb.2
      rw[h1]at this
      cases this
      have nO:H a=none:=Classical.byContradiction (o'.loc a la).2
      cases fr with
      |false=>exact⟨(ct.aH (.less fun a z=>.inl z) fun _ h=>h).rep fun z=>absurd nO (hM a z),mu rb.1 (fun a z=>.inl z) g3⟩
      |true=>exact⟨a,rfl,nO,ct.aH (.less fun b z=>z.elim .inl fun z=>.inr (by rw[show b=a from z];exact la)) fun _ h=>h,mu rb.1 (fun b z=>z.elim .inl fun z=>.inr (by rw[show b=a from z];exact la)) g3⟩
     |_=>cases g2'
noncomputable def CT (e:En):Kd->Bv->Option PV
 | .v,b=>b.put
 | .b,b=>b.get e
 | .m,.slot i=>ownAt e i
 | .m,_=>none
noncomputable def HS (e:En):List Kd->List Bv->Option (List PV)
 |[],[]=>some []
 |k::ks,b::bs=>bO (CT e k b) fun p=>bO (HS e ks bs) fun ps=>some (p::ps)
 |_,_=>none
noncomputable def bY:List Kd->List Bv->List Nat
 | .m::ks,.slot i::bs=>i::bY ks bs
 |_::ks,_::bs=>bY ks bs
 |_,_=>[]
noncomputable def nU:List Kd->List Bv->List Nat
 | .b::ks,.slot i::bs=>i::nU ks bs
 |_::ks,_::bs=>nU ks bs
 |_,_=>[]
noncomputable def resB (r:PV):Bool->Bv
 |true=>.new r
 |false=>.val r
noncomputable def bF (ks:List Kd) (fr:Bool) (f:FN) (fa:FA):FE:=fun e=>bE (fa e) fun bs e1=>bO (HS e1 ks bs) fun ps=>
 aN (decide ((bY ks bs).Nodup) && (nU ks bs).all fun i=>!(bY ks bs).contains i) (bO (f ps) fun rq=>bO (nH (rq.2.map fun q=>some (.own q)) (bY ks bs).zipIdx e1) fun e2=>some (resB rq.1 fr,e2))
theorem AY:∀{ks:List Kd} {bs:List Bv} {ps:List PV},HS e ks bs=some ps->ps.length=ks.length/\bs.length=ks.length/\∀(i:Nat) k b p,ks[i]? =some k->bs[i]? =some b->ps[i]? =some p->CT e k b=some p
 |[],[],ps,h=>by cases h;exact⟨rfl,rfl,fun i k b p h=>by simp at h⟩
 |[],_::_,ps,h=>by cases h
 |_::_,[],ps,h=>by cases h
 |k::ks,b::bs,ps,h=>by
  obtain⟨p,g1,h⟩:=aF h
  obtain⟨ps',g2,h⟩:=aF h
  cases h
  obtain⟨a1,a2,a3⟩:=AY g2
  refine⟨by rw[length_cons,length_cons,a1],by rw[length_cons,length_cons,a2],fun i k' b' p' h1 h2 h3=>?_⟩
  cases i with
  |zero=>simp at h1 h2 h3;subst h1 h2 h3;exact g1
  |succ i=>exact a3 i k' b' p' (by simpa using h1) (by simpa using h2) (by simpa using h3)
theorem AK.get:∀{bs:List Bv} {vs:List V} {i:Nat} {v:V},AK K Z H σ bs vs->vs[i]? =some v->∃b,bs[i]? =some b/\RV K Z H σ v b
 |_,_,_,_,.nil,h=>by simp at h
 |_,_,0,_,.cons h _,e=>by simp at e;subst e;exact⟨_,rfl,h⟩
 |_,_,i+1,_,.cons _ r,e=>by
  obtain⟨b,h1,h2⟩:=AK.get (i:=i) r (by simpa using e)
  exact⟨b,by simpa using h1,h2⟩
theorem AK.length:∀{bs:List Bv} {vs:List V},AK K Z H σ bs vs->bs.length=vs.length
 |_,_,.nil=>rfl
 |_,_,.cons _ r=>by rw[length_cons,length_cons,AK.length r]
theorem mU:∀{ks:List Kd} {bs:List Bv} {i j:Nat},ks[i]? =some .m->bs[i]? =some (.slot j)->∃n:Nat,(bY ks bs)[n]? =some j
 |[],bs,i,j,h,_=>by simp at h
 |k::ks,[],i,j,_,h=>by simp at h
 |k::ks,b::bs,0,j,h1,h2=>by simp at h1 h2;subst h1 h2;exact⟨0,rfl⟩
 | k::ks,b::bs,i+1,j,h1,h2=>by
  obtain⟨n,h⟩:=mU (ks:=ks) (bs:=bs) (i:=i) (by simpa using h1) (by simpa using h2)
  cases k with
  |v=>exact⟨n,h⟩
  |b=>exact⟨n,h⟩
  |m=>
   cases b with
   |val p=>exact⟨n,h⟩
   |new p=>exact⟨n,h⟩
   |slot l=>exact⟨n+1,by simpa [bY]using h⟩
theorem vI:∀{ks:List Kd} {bs:List Bv} {i j:Nat},ks[i]? =some .b->bs[i]? =some (.slot j)->j∈nU ks bs
 |[],bs,i,j,h,_=>by simp at h
 |k::ks,[],i,j,_,h=>by simp at h
 |k::ks,b::bs,0,j,h1,h2=>by simp at h1 h2;subst h1 h2;exact mem_cons_self
 | k::ks,b::bs,i+1,j,h1,h2=>by
  have h:=vI (ks:=ks) (bs:=bs) (i:=i) (j:=j) (by simpa using h1) (by simpa using h2)
  cases k with
  |v=>exact h
  |m=>exact h
  |b=>
   cases b with
   |val p=>exact h
   |new p=>exact h
   |slot l=>exact mem_cons_of_mem _ h
theorem tZ:∀{ks:List Kd} {bs:List Bv} {i1 i2 j:Nat},(bY ks bs).Nodup->i1≠i2->ks[i1]? =some .m->ks[i2]? =some .m->bs[i1]? =some (.slot j)->bs[i2]? =some (.slot j)->False
 |[],bs,i1,i2,j,_,_,h,_,_,_=>by simp at h
 |k::ks,[],i1,i2,j,_,_,_,_,h,_=>by simp at h
 |k::ks,b::bs,0,0,j,_,n,_,_,_,_=>n rfl
 |k::ks,b::bs,0,i2+1,j,nd,n,h1,h2,h3,h4=>by
  simp at h1 h3
  subst h1 h3
  obtain⟨q,h⟩:=mU (ks:=ks) (bs:=bs) (i:=i2) (j:=j) (by simpa using h2) (by simpa using h4)
  rw[bY,nodup_cons]at nd
  exact nd.1 (mem_of_getElem? h)
 |k::ks,b::bs,i1+1,0,j,nd,n,h1,h2,h3,h4=>by
  simp at h2 h4
  subst h2 h4
  obtain⟨q,h⟩:=mU (ks:=ks) (bs:=bs) (i:=i1) (j:=j) (by simpa using h1) (by simpa using h3)
  rw[bY,nodup_cons]at nd
  exact nd.1 (mem_of_getElem? h)
 | k::ks,b::bs,i1+1,i2+1,j,nd,n,h1,h2,h3,h4=>by
  refine tZ (ks:=ks) (bs:=bs) (i1:=i1) (i2:=i2) (j:=j) ?_ (fun z=>n (by rw[z])) (by simpa using h1) (by simpa using h2) (by simpa using h3) (by simpa using h4)
  cases k with
  |v=>exact nd
  |b=>exact nd
  |m=>
   cases b with
   |val p=>exact nd
   |new p=>exact nd
   |slot l=>rw[bY,nodup_cons]at nd;exact nd.2
theorem pH:∀{ks:List Kd} {bs:List Bv} {vs:List V} {ps:List PV} {n j:Nat},AK K Z H σ bs vs->HS e ks bs=some ps->(bY ks bs)[n]? =some j->∃v,(LL ks vs)[n]? =some v/\σ[j]? =some (some v)
 |[],bs,vs,ps,n,j,r,g,h=>by cases bs<;>simp[bY]at h
 |k::ks,[],vs,ps,n,j,r,g,h=>by simp[bY]at h
 | k::ks,b::bs,vs,ps,n,j,r,g,h=>by
  obtain⟨p,g1,g⟩:=aF g
  obtain⟨ps',g2,g⟩:=aF g
  cases r with
  | cons h0 r=>
   cases k with
   |v=>exact pH (ks:=ks) r g2 (by simpa [bY]using h)
   |b=>exact pH (ks:=ks) r g2 (by simpa [bY]using h)
   | m=>
    cases b with
    |val p=>cases g1
    |new p=>cases g1
    | slot l=>
     cases n with
     |zero=>simp[bY]at h;subst h;exact⟨_,rfl,h0⟩
     |succ n=>
      obtain⟨v,a,b⟩:=pH (n:=n) r g2 (by simpa [bY]using h)
      exact⟨v,by simpa [LL]using a,b⟩
theorem KQ {fr:Bool} {f:FN} {ta:TA} {fa:FA} (ha:rK K ta fa):Ref K (z7 (RY K ks fr f) [] E ta) (bF ks fr f fa):=by
 intro O M W L σ H e e' b Q o he hf q
 obtain⟨bs,e1,f1,hf⟩:=aL hf
 obtain⟨ps,g1,hf⟩:=aF hf
 obtain⟨g2,hf⟩:=aK hf
 obtain⟨⟨r,qs⟩,g3,hf⟩:=aF hf
 obtain⟨e2,g4,hf⟩:=aF hf
 cases hf
 rw[and_eq_true]at g2
 have nd:=of_decide_eq_true g2.1
 have nb:∀i∈nU ks bs,i∉bY ks bs:=fun i hi hm=>by
  have:=all_eq_true.mp g2.2 i hi
  rw[contains_iff_mem.mpr hm]at this
  cases this
 refine ha O M W L σ H e e1 bs _ o he f1 fun vs H1 k1 en rv=>?_
 have o1:=o.keep k1.b9
 obtain⟨pl,bl,ap⟩:=AY g1
 have vl:=rv.length
 show RY K ks fr f (vs++[]) H1 Q E
 rw[append_nil]
 have wr:∀i a,oI ks vs H1 i a->∃j,bs[i]? =some (.slot j)/\σ[j]? =some (some (.ref a))/\j∈bY ks bs/\∃p,ownAt e1 j=some p:=fun i a ⟨h1,h2⟩=>by
  obtain⟨b,hb,rb⟩:=rv.get h2
  have hi:i<ks.length:=(List.getElem?_eq_some_iff.mp h1).1
  have hp:ps[i]? =some (ps[i]'(by omega)):=getElem?_eq_getElem (by omega)
  have:=ap i _ b _ h1 hb hp
  cases b with
  |val p=>cases this
  |new p=>cases this
  |slot j=>
   obtain⟨n,hn⟩:=mU h1 hb
   exact⟨j,hb,rb,mem_of_getElem? hn,_,this⟩
 have wml:∀i a,oI ks vs H1 i a->(aw W a\/ L a)/\∃j s,e1[j]? =some (some s)/\s.cU=true/\σ[j]? =some (some (.ref a))/\j∈bY ks bs:=fun i a h=>by
  obtain⟨j,_,hs,hm,p,hp⟩:=wr i a h
  obtain⟨a',ha',hz,_⟩:=en.own hp
  rw[hs]at ha'
  cases ha'
  refine⟨hz,j,?_⟩
  rcases bQ hp with g|g
  ·exact⟨_,g,rfl,hs,hm⟩
  ·exact⟨_,g,rfl,hs,hm⟩
 have ML:∀a,(aw W a\/ L a)->aT M L a:=fun a z=>z.elim (fun⟨i,w⟩=>.inl (o.wm i a w)) .inr
 have nn:∀{a:Addr} {o:HO},Rd H1 a o->H1 a≠none:=fun h=>h.elim (fun h=>by rw[h];exact fun z=>nomatch z) fun⟨u,h⟩=>by rw[h];exact fun z=>nomatch z
 refine⟨aT M L,ps,r,qs,fun a z=>z.elim (fun z=>o1.old a (o1.mo a z)) fun z=>(o1.loc a z).1,by omega,by omega,fun i k p v h1 h2 h3=>?_,fun i j hij h1 h2 z=>?_,fun i a z=>ML a (wml i a z).1,g3,fun v H' kc res=>?_⟩
 ·obtain⟨b,hb,rb⟩:=rv.get h3
  have hone:=ap i k b p h1 hb h2
  cases k with
  |v=>
   cases b with
   |val p'=>cases hone;exact rb
   |new p'=>exact rb.elim
   |slot j=>cases hone
  | m=>
   cases b with
   |val p'=>cases hone
   |new p'=>cases hone
   |slot j=>
    obtain⟨a,hs,hz,c⟩:=en.own hone
    have rb':σ[j]? =some (some v):=rb
    rw[hs]at rb'
    cases rb'
    exact⟨a,rfl,⟨h1,h3⟩,c⟩
  | b=>
   have lendR:∀p,Rep K (aT M L) H1 p v->i9 K (aT M L) (oI ks vs H1) cR H1 i v (B4 .b p):=fun p hr=>by
    cases hr with
    |lst h n r=>exact⟨_,rfl,.lst h (nn h) (fun⟨i',w⟩=>n (ML _ (wml i' _ w).1)) (fun z=>z) r⟩
    |a9 h n kk r=>exact⟨_,rfl,.a9 h (nn h) (fun⟨i',w⟩=>n (ML _ (wml i' _ w).1)) (fun z=>z) kk r⟩
    |aY=>exact Rep.aY
    |bl b=>exact Rep.bl b
    |int b=>exact Rep.int b
    |str b=>exact Rep.str b
    |ty b=>exact Rep.ty b
    |tup h r=>exact Rep.tup h r
   cases b with
   |val p'=>cases hone;exact lendR _ rb
   |new p'=>exact rb.elim
   | slot j=>
    have hone:rd e1 j=some p:=hone
    unfold Mr.rd at hone
    cases c:e1[j]? with
    |none=>rw[c]at hone;cases hone
    | some s=>
     cases s with
     |none=>rw[c]at hone;cases hone
     | some s=>
      rw[c]at hone
      cases hone
      obtain⟨u,hs,sr⟩:=en.at' j s c
      have rb':σ[j]? =some (some v):=rb
      rw[hs]at rb'
      cases rb'
      have nm:j∉bY ks bs:=nb j (vI h1 hb)
      have nw:∀a,s.cU=true->σ[j]? =some (some (.ref a))->¬aw (oI ks vs H1) a:=fun a hm ha ⟨i',w⟩=>by
       obtain⟨_,j',s',hs',hm',ha',hj'⟩:=wml i' a w
       have ne:j≠j':=fun z=>nm (z▸hj')
       exact en.mY j j' s s' ne c hs' hm hm' (by rw[ha,ha'])
      cases s with
      |val p=>exact lendR p sr
      |own p=>
       obtain⟨a,e,w,ct⟩:=sr
       subst e
       cases ct with
       |lst h r=>exact⟨a,rfl,.lst (.inl h) (nn (.inl h)) (nw a rfl hs) (fun z=>z) r⟩
       |a9 h kk r=>exact⟨a,rfl,.a9 (.inl h) (nn (.inl h)) (nw a rfl hs) (fun z=>z) kk r⟩
      |loc p=>
       obtain⟨a,e,w,ct⟩:=sr
       subst e
       cases ct with
       |lst h r=>exact⟨a,rfl,.lst (.inl h) (nn (.inl h)) (nw a rfl hs) (fun z=>z) r⟩
       |a9 h kk r=>exact⟨a,rfl,.a9 (.inl h) (nn (.inl h)) (nw a rfl hs) (fun z=>z) kk r⟩
      |bor p=>
       obtain⟨a,e,ct⟩:=sr
       subst e
       cases ct with
       |lst h od n m r=>exact⟨a,rfl,.lst h (nn h) (fun⟨i',w⟩=>(wml i' a w).1.elim n m) (fun z=>z) r⟩
       |dF h r=>exact⟨a,rfl,.dF h r⟩
       |a9 h od n m kk r=>exact⟨a,rfl,.a9 h (nn h) (fun⟨i',w⟩=>(wml i' a w).1.elim n m) (fun z=>z) kk r⟩
 ·
  have hi:i<ks.length:=(List.getElem?_eq_some_iff.mp h1).1
  have hj:j<ks.length:=(List.getElem?_eq_some_iff.mp h2).1
  have vi:vs[i]? =some (vs[i]'(by omega)):=getElem?_eq_getElem (by omega)
  have vj:vs[j]? =some (vs[j]'(by omega)):=getElem?_eq_getElem (by omega)
  have key:∀(i:Nat) (v:V),ks[i]? =some Kd.m->vs[i]? =some v->∃(j:Nat) (a:Addr),v= .ref a/\bs[i]? =some (Bv.slot j)/\σ[j]? =some (some v)/\∃p,ownAt e1 j=some p:=fun i v h1 h3=>by
   obtain⟨b,hb,rb⟩:=rv.get h3
   have hi:i<ks.length:=(List.getElem?_eq_some_iff.mp h1).1
   have:=ap i _ b _ h1 hb (getElem?_eq_getElem (show i<ps.length by omega))
   cases b with
   |val p=>cases this
   |new p=>cases this
   |slot l=>
    obtain⟨a,ha,_,_⟩:=en.own this
    have rb':σ[l]? =some (some v):=rb
    rw[ha]at rb'
    cases rb'
    exact⟨l,a,rfl,hb,ha,_,this⟩
  obtain⟨l1,a1,x1,y1,z1,p1,w1⟩:=key i _ h1 vi
  obtain⟨l2,a2,x2,y2,z2,p2,w2⟩:=key j _ h2 vj
  by_cases hl:l1=l2
  ·subst hl;exact tZ nd hij h1 h2 y1 y2
  ·have m1:∃s,e1[l1]? =some (some s)/\s.cU=true:=by rcases bQ w1 with g|g<;>exact⟨_,g,rfl⟩
   have m2:∃s,e1[l2]? =some (some s)/\s.cU=true:=by rcases bQ w2 with g|g<;>exact⟨_,g,rfl⟩
   obtain⟨s1,b1,c1⟩:=m1
   obtain⟨s2,b2,c2⟩:=m2
   refine en.mY l1 l2 s1 s2 hl b1 b2 c1 c2 ?_
   rw[z1,z2,<-Option.some.inj (vi.symm.trans (z.trans vj))]
 ·
  have kout:bW W L H1 H':=⟨fun a ob h n m=>kc.obj a ob h (fun⟨i,w⟩=>(wml i a w).1.elim n m) (fun z=>z),kc.tup,kc.b9⟩
  have pend:∀(Zf Lf:aI),(∀a ob,H1 a=some ob->¬aT M L a->¬Zf a)->(∀a,L a->Lf a)->(∀a ob,H1 a=some ob->¬L a->¬Lf a)->xF K Zf W Lf H' σ (fun i=>∃j,(i,j)∈(bY ks bs).zipIdx) e1:=fun Zf Lf hz hL hL2=>by
   have kf:cT (aT M L) Zf H1 H':=⟨kc.tup,fun a ob h n=>⟨kc.obj a ob h (fun⟨i,w⟩=>n (ML a (wml i a w).1)) (fun z=>z),hz a ob h n⟩⟩
   refine⟨en.len,fun i s hs=>?_,en.mY⟩
   obtain⟨u,h1,h2⟩:=en.at' i s hs
   have keepM:∀a,s.cU=true->¬(∃j,(i,j)∈(bY ks bs).zipIdx)->u= .ref a->∀ob,H1 a=some ob->H' a=some ob:=fun a hm nt ev ob h=>by
    subst ev
    refine kc.obj a ob h (fun⟨i',w⟩=>?_) (fun z=>z)
    obtain⟨_,j',s',hs',hm',ha',hj'⟩:=wml i' a w
    obtain⟨n,hn⟩:=getElem?_of_mem hj'
    have ne:j'≠i:=fun z=>nt ⟨n,by rw[<-z];exact List.mem_zipIdx_iff_getElem?.mpr hn⟩
    exact en.mY j' i s' s ne hs' hs hm' hm (by rw[ha',h1])
   have rk:∀{a:Addr} {o:HO},Rd H1 a o->¬L a->¬Lf a:=fun h n=>h.elim (fun h=>hL2 _ _ h n) fun⟨u,h⟩=>hL2 _ _ h n
   refine⟨u,h1,fun z=>?_,fun hm=>?_⟩
   ·cases s with
    |val p=>exact Rep.aH kf h2
    |own p=>obtain⟨a,e,w,c⟩:=h2;exact⟨a,e,w,c.aH kf fun ob h=>keepM a rfl (z.elim id fun z=>nomatch z) e ob h⟩
    |loc p=>obtain⟨a,e,w,c⟩:=h2;exact⟨a,e,hL a w,c.aH kf fun ob h=>keepM a rfl (z.elim id fun z=>nomatch z) e ob h⟩
    |bor p=>
     obtain⟨a,e,c⟩:=h2
     refine⟨a,e,?_⟩
     cases c with
     |lst h od n m r=>exact .lst (h.elim (fun h=>.inl (kout.obj _ _ h n m)) fun⟨u,h⟩=>.inr ⟨u,kout.obj _ _ h n m⟩) od n (rk h m) (r.aH kf)
     |dF h r=>exact .dF h (r.aH kf)
     |a9 h od n m kk r=>exact .a9 (h.elim (fun h=>.inl (kout.obj _ _ h n m)) fun⟨u,h⟩=>.inr ⟨u,kout.obj _ _ h n m⟩) od n (rk h m) kk (r.aH kf)
   ·cases s with
    |val p=>cases hm
    |bor p=>cases hm
    |own p=>obtain⟨a,e,w,c⟩:=h2;exact⟨a,e,.inl ⟨p,rfl,w⟩⟩
    |loc p=>obtain⟨a,e,w,c⟩:=h2;exact⟨a,e,.inr ⟨p,rfl,hL a w⟩⟩
  have back:∀(Zf:aI),zA K Zf H' ks vs qs->∀i j p a,(i,j)∈(bY ks bs).zipIdx->ownAt (qs.map fun q=>some (.own q)) j=some p->σ[i]? =some (some (.ref a))->hV K Zf H' a p:=fun Zf mu i j p a hm hp ha=>by
   have hm':=List.mem_zipIdx_iff_getElem?.mp hm
   obtain⟨v',a1,a2⟩:=pH rv g1 hm'
   dsimp only at a2
   rw[ha]at a2
   cases a2
   have hq:qs[j]? =some p:=by
    rcases bQ hp with g|g
    ·rw[getElem?_map]at g
     cases c:qs[j]? with
     |none=>rw[c]at g;cases g
     |some q'=>rw[c]at g;cases g;rfl
    ·rw[getElem?_map]at g
     cases c:qs[j]? with
     |none=>rw[c]at g;cases g
     |some q'=>rw[c]at g;cases g
   obtain⟨a',e,c⟩:=mu j _ p a1 hq
   cases e
   exact c
  cases fr with
  |false=>
   obtain⟨rr,mu⟩:=res
   exact q v H' (k1.trans kout) ⟨lR (pend (aT M L) L (fun _ _ _ n=>n) (fun _ z=>z) fun _ _ _ n=>n) (back _ mu) g4,rr⟩ trivial
  | true=>
   obtain⟨a,rfl,na,c,mu⟩:=res
   have sub:∀b,aT M (aT L (one a)) b->aT (aT M L) (one a) b:=fun b z=>by
    rcases z with z|z|z
    ·exact .inl (.inl z)
    ·exact .inl (.inr z)
    ·exact .inr z
   have ne:∀b ob,H1 b=some ob->b≠a:=fun b ob h=>b8 h na
   have mu':zA K (aT M (aT L (one a))) H' ks vs qs:=fun n v q' h1 h2=>by
    obtain⟨a',e,c⟩:=mu n v q' h1 h2
    exact⟨a',e,c.aH (.less sub) fun _ h=>h⟩
   refine q _ H' (k1.trans kout) ⟨a,rfl,fun z=>o1.old a z na,fun z=>(o1.loc a z).1 na,lR (pend (aT M (aT L (one a))) (aT L (one a)) (fun b ob h n z=>?_) (fun _ z=>.inl z) fun b ob h n z=>z.elim n (ne b ob h)) (back _ mu') g4,fun i s hs hm e=>?_,c.aH (.less sub) fun _ h=>h⟩ (Fr.back (b:=.new r) k1.b9 fun b e=>by cases e;exact na)
   ·rcases z with z|z|z
    ·exact n (.inl z)
    ·exact n (.inr z)
    ·exact ne b ob h z
   ·obtain⟨s',hs',hm'⟩:=kH g4 i s hs hm
    obtain⟨u,h1,h2⟩:=en.at' i s' hs'
    rw[e]at h1
    cases h1
    cases s' with
    |val p=>cases hm'
    |bor p=>cases hm'
    |own p=>obtain⟨b,e,w,c⟩:=h2;cases e;obtain⟨ob,h,_⟩:=c.there;rw[na]at h;cases h
    |loc p=>obtain⟨b,e,w,c⟩:=h2;cases e;obtain⟨ob,h,_⟩:=c.there;rw[na]at h;cases h
end
end Mr
namespace Mr
open PySem PySem.Spec L2 PyProof.Rows
variable {a:Addr} {ys:Array Value} {X:Cx} {f:FE} {h:Heap} {H:Hp} {g':Int->Int->PV} {g:Int->Int->V} {ps:List PV} {vs xs:List V} {k n:Nat} {p q:PV} {r r':R2} {t:TE} {u v:Value} {W:WS} {L M O Wr Z:aI}
mutual
inductive Lies (h:Heap):PV->Value->Prop
 |aY:Lies h .aY .none
 |bl (b:Bool):Lies h (.bl b) (.bool b)
 |int (i:Int) (t:Tok):Lies h (.int i) (.int i t)
 |str (x:Str) (t:Tok):Lies h (.str x) (.str x t)
 |tup {a:Addr} {its:List Value} {ps:List PV}:IsTup h a its.toArray->bR h ps its->Lies h (.tup ps) (.ref a)
 |lst {a:Addr} {its:List Value} {ps:List PV}:h.IsList a its.toArray->bR h ps its->Lies h (.lst ps) (.ref a)
inductive bR (h:Heap):List PV->List Value->Prop
 |nil:bR h [] []
 |cons {p:PV} {v:Value} {ps:List PV} {vs:List Value}:Lies h p v->bR h ps vs->bR h (p::ps) (v::vs)
end
noncomputable def gO:Nat->PV->Bool
 |_,.aY=>true
 |_,.bl _=>true
 |_,.int _=>true
 |_,.str _=>true
 |n+1,.tup ps=>ps.all (gO n)
 |n+1,.lst ps=>ps.all (gO n)
 |_,_=>false
section
variable {X:Cx} {pins:List (Addr×Obj)} {σ:L2.St} {H:Hp} {s:Shared}
theorem Rep.lies (I:Inv X pins σ H s):∀{n:Nat} {p:PV} {x:V} {v:Value},gO n p=true->Rep X.K Z H p x->RelV x v->Lies s.heap p v
 |n,.aY,x,v,ok,h,r=>by cases h;cases r;exact .aY
 |n,.bl b,x,v,ok,h,r=>by cases h;cases r;exact .bl b
 |n,.int b,x,v,ok,h,r=>by cases h;obtain⟨t,rfl⟩:=r;exact .int b t
 |n,.str b,x,v,ok,h,r=>by cases h;obtain⟨t,rfl⟩:=r;exact .str b t
 |n,.ty b,x,v,ok,h,r=>by cases n<;>cases ok
 |n,.a9 b,x,v,ok,h,r=>by cases n<;>cases ok
 |0,.tup ps,x,v,ok,h,r=>by cases ok
 |0,.lst ps,x,v,ok,h,r=>by cases ok
 | n+1,.tup ps,x,v,ok,h,r=>by
  cases h with
  | tup h rl=>
   cases r
   obtain⟨its,rv,pl,_⟩:=I.tuple h.sq
   have key:∀(ps:List PV) (xs:List V) (its:List Value),ps.all (gO n)=true->bG X.K Z H ps xs->Vals xs its->bR s.heap ps its:=fun ps=>by
    induction ps with
    |nil=>intro xs its _ h1 h2;cases h1;cases h2;exact .nil
    | cons p ps ih=>
     intro xs its ha h1 h2
     rw[all_cons,and_eq_true]at ha
     cases h1 with
     |cons h1 r1=>
      cases h2 with
      |cons h2 r2=>exact .cons (Rep.lies I (n:=n) ha.1 h1 h2) (ih _ _ ha.2 r1 r2)
   exact .tup pl (key ps _ its ok rl rv)
 | n+1,.lst ps,x,v,ok,h,r=>by
  cases h with
  | lst h nz rl=>
   cases r
   obtain⟨its,rv,pl,_⟩:=I.list (show iR X.K H _ _ from .inl h)
   have key:∀(ps:List PV) (xs:List V) (its:List Value),ps.all (gO n)=true->bG X.K Z H ps xs->Vals xs its->bR s.heap ps its:=fun ps=>by
    induction ps with
    |nil=>intro xs its _ h1 h2;cases h1;cases h2;exact .nil
    | cons p ps ih=>
     intro xs its ha h1 h2
     rw[all_cons,and_eq_true]at ha
     cases h1 with
     |cons h1 r1=>
      cases h2 with
      |cons h2 r2=>exact .cons (Rep.lies I (n:=n) ha.1 h1 h2) (ih _ _ ha.2 r1 r2)
   exact .lst pl.isList (key ps _ its ok rl rv)
theorem bG.lies (I:Inv X pins σ H s):∀{ps:List PV} {xs:List V} {its:List Value},ps.all (gO n)=true->bG X.K Z H ps xs->Vals xs its->bR s.heap ps its
 |[],_,_,_,h1,h2=>by cases h1;cases h2;exact .nil
 | p::ps,_,_,ha,h1,h2=>by
  rw[all_cons,and_eq_true]at ha
  cases h1 with
  |cons h1 r1=>
   cases h2 with
   |cons h2 r2=>exact .cons (Rep.lies I (n:=n) ha.1 h1 h2) (bG.lies I ha.2 r1 r2)
theorem Red.lies (I:Inv X pins σ H s) {n:Nat} {x:V} (ok:gO n p=true) (h:Red X.K Z H p x) (r:RelV x v):Lies s.heap p v:=by
 cases h with
 |rep h=>exact h.lies I ok r
 | lst h rl=>
  cases r
  cases n with
  |zero=>cases ok
  |succ n=>
   obtain⟨its,rv,pl,_⟩:=I.list h.sq
   exact .lst pl.isList (bG.lies I (n:=n) ok rl rv)
 |a9 h e r=>cases n<;>cases ok
end
mutual
noncomputable def bJ:PV->PV->Bool
 | .aY,.aY=>true
 | .bl a,.bl b=>a==b
 | .bl a,.int b=>(if a then 1 else 0)==b
 | .int a,.bl b=>a==(if b then 1 else 0)
 | .int a,.int b=>a==b
 | .str a,.str b=>a==b
 | .tup xs,.tup ys=>cO xs ys
 | .lst xs,.lst ys=>cO xs ys
 |_,_=>false
noncomputable def cO:List PV->List PV->Bool
 |[],[]=>true
 |x::xs,y::ys=>bJ x y && cO xs ys
 |_,_=>false
end
theorem mN {xs ys:List PV}:bJ (.tup xs) (.tup ys)=cO xs ys:=by rw[bJ]
theorem rW {xs ys:List PV}:bJ (.lst xs) (.lst ys)=cO xs ys:=by rw[bJ]
theorem bR.length:∀{ps:List PV} {vs:List Value},bR h ps vs->ps.length=vs.length
 |_,_,.nil=>rfl
 |_,_,.cons _ r=>by rw[length_cons,length_cons,bR.length r]
theorem bR.get:∀{ps:List PV} {vs:List Value} {i:Nat} {v:Value},bR h ps vs->vs[i]? =some v->∃p,ps[i]? =some p/\Lies h p v
 |_,_,_,_,.nil,e=>by simp at e
 |_,_,0,_,.cons q _,e=>by simp at e;subst e;exact⟨_,rfl,q⟩
 |_,_,i+1,_,.cons _ r,e=>by
  obtain⟨v,h1,h2⟩:=bR.get (i:=i) r (by simpa using e)
  exact⟨v,by simpa using h1,h2⟩
theorem E6 {xs:Array Value} (h1:IsTup h a xs) (h2:IsTup h a ys):xs=ys:=by
 obtain⟨o,g,_,n,d⟩:=h1
 obtain⟨o',g',_,n',d'⟩:=h2
 rw[g]at g'
 cases g'
 rw[d]at d'
 injection d'
theorem FW {xs:Array Value} (h1:h.IsList a xs) (h2:h.IsList a ys):xs=ys:=by
 obtain⟨o,g,_,n,d⟩:=h1
 obtain⟨o',g',_,n',d'⟩:=h2
 rw[g]at g'
 cases g'
 rw[d]at d'
 injection d'
theorem sD {xs:Array Value} (h1:IsTup h a xs) (h2:h.IsList a ys):False:=by
 obtain⟨o,g,c,n,d⟩:=h1
 obtain⟨o',g',c',n',d'⟩:=h2
 rw[g]at g'
 cases g'
 rw[c]at c'
 exact absurd c' (by decide)
mutual
theorem Lies.same {h:Heap}:∀{p:PV} {v:Value},Lies h p v->∀{q:PV},Lies h q v->bJ p q=true
 |_,_,.aY,q,k=>by cases k;rfl
 |_,_,.bl b,q,k=>by cases k;exact beq_self_eq_true b
 |_,_,.int i t,q,k=>by cases k;exact beq_self_eq_true i
 |_,_,.str i t,q,k=>by cases k;exact beq_self_eq_true i
 | _,_,.tup ht r,q,k=>by
  cases k with
  |tup ht' r'=>
   have e:_=_:=E6 ht ht'
   have e:=congrArg Array.toList e
   simp only[toList_toArray]at e
   subst e
   unfold bJ
   exact bR.same r r'
  |lst hl r'=>exact(sD ht hl).elim
 | _,_,.lst ht r,q,k=>by
  cases k with
  |tup ht' r'=>exact(sD ht' ht).elim
  |lst hl r'=>
   have e:=congrArg Array.toList (FW ht hl)
   simp only[toList_toArray]at e
   subst e
   unfold bJ
   exact bR.same r r'
theorem bR.same {h:Heap}:∀{p:List PV} {v:List Value},bR h p v->∀{q:List PV},bR h q v->cO p q=true
 |_,_,.nil,q,k=>by cases k;rfl
 |_,_,.cons h1 r1,q,k=>by
  cases k with
  |cons h2 r2=>unfold cO;rw[Lies.same h1 h2,bR.same r1 r2];rfl
end
mutual
theorem Lies.fn {h:Heap}:∀{p:PV} {v:Value},Lies h p v->∀{q:PV},Lies h q v->p=q
 |_,_,.aY,q,k=>by cases k;rfl
 |_,_,.bl b,q,k=>by cases k;rfl
 |_,_,.int i t,q,k=>by cases k;rfl
 |_,_,.str i t,q,k=>by cases k;rfl
 | _,_,.tup ht r,q,k=>by
  cases k with
  |tup ht' r'=>
   have e:=congrArg Array.toList (E6 ht ht')
   simp only[toList_toArray]at e
   subst e
   rw[bR.fn r r']
  |lst hl r'=>exact(sD ht hl).elim
 | _,_,.lst ht r,q,k=>by
  cases k with
  |tup ht' r'=>exact(sD ht' ht).elim
  |lst hl r'=>
   have e:=congrArg Array.toList (FW ht hl)
   simp only[toList_toArray]at e
   subst e
   rw[bR.fn r r']
theorem bR.fn {h:Heap}:∀{p:List PV} {v:List Value},bR h p v->∀{q:List PV},bR h q v->p=q
 |_,_,.nil,q,k=>by cases k;rfl
 |_,_,.cons h1 r1,q,k=>by
  cases k with
  |cons h2 r2=>rw[Lies.fn h1 h2,bR.fn r1 r2]
end
theorem eY:∀{ps qs:List PV},((List.range (min ps.length qs.length)).all (fun j=>bJ (ps.getD j .aY) (qs.getD j .aY)) && ps.length==qs.length)=cO ps qs
 |[],[]=>rfl
 |[],_::_=>by unfold cO;simp
 |_::_,[]=>by unfold cO;simp
 | p::ps,q::qs=>by
  have ih:=eY (ps:=ps) (qs:=qs)
  unfold cO
  rw[<-ih]
  have e:min (p::ps).length (q::qs).length=min ps.length qs.length+1:=by simp only[length_cons];omega
  rw[e,List.range_succ_eq_map,all_cons,all_map]
  have e2:((p::ps).length==(q::qs).length)=(ps.length==qs.length):=by
   rw[Bool.eq_iff_iff];simp
  rw[e2,Bool.and_assoc]
  rfl
section
variable {A:Around} {s:Shared}
theorem toArr {vs:List Value} {j:Nat} (h:j<vs.toArray.size):vs[j]? =some (vs.toArray[j]):=by simp at h⊢
theorem yN:∀(n:Nat) (A:Around) {p q:PV} {v u:Value},A.units+n<cLine->gO n p=true->gO n q=true->Lies s.heap p v->Lies s.heap q u->SeqAt.EqAt A s v u (bJ p q):=by
 intro n
 induction n with
 | zero=>
  intro A p q v u hu o1 o2 h1 h2
  cases h1 with
  |tup _ _=>cases o1
  |lst _ _=>cases o1
  |aY=>
   cases h2 with
   |tup _ _=>cases o2
   |lst _ _=>cases o2
   |aY=>exact .same _
   |bl b=>exact .none_bool b
   |int b t=>exact .none_int b t
   |str b t=>exact .none_str b t
  |bl a=>
   cases h2 with
   |tup _ _=>cases o2
   |lst _ _=>cases o2
   |aY=>exact .bool_none a
   |bl b=>exact .bool_bool a b
   |int b t=>exact .bool_int a b t
   |str b t=>exact .bool_str a b t
  |int a t'=>
   cases h2 with
   |tup _ _=>cases o2
   |lst _ _=>cases o2
   |aY=>exact .int_none a t'
   |bl b=>exact .int_bool a t' b
   |int b t=>exact .int_int a t' b t
   |str b t=>exact .int_str a t' b t
  |str a t'=>
   cases h2 with
   |tup _ _=>cases o2
   |lst _ _=>cases o2
   |aY=>exact .str_none a t'
   |bl b=>exact .str_bool a t' b
   |int b t=>exact .str_int a t' b t
   |str b t=>exact .str_str a t' b t
 | succ n ih=>
  intro A p q v u hu o1 o2 h1 h2
  have hu0:A.units<cLine:=by omega
  have hin:A.in1.units=A.units+1:=rfl
  have els:∀{ps qs:List PV} {vs us:List Value},ps.all (gO n)=true->qs.all (gO n)=true->bR s.heap ps vs->bR s.heap qs us->∀(j:Nat) (g1:j<vs.toArray.size) (g2:j<us.toArray.size),SeqAt.EqAt A.in1 s vs.toArray[j] us.toArray[j] (bJ (ps.getD j .aY) (qs.getD j .aY)):=fun{ps qs vs us} a1 a2 l1 l2 j g1 g2=>by
   obtain⟨x,ex,rx⟩:=l1.get (toArr g1)
   obtain⟨y,ey,ry⟩:=l2.get (toArr g2)
   rw[getD_eq_getElem?_getD,getD_eq_getElem?_getD,ex,ey]
   exact ih A.in1 (by omega) (all_eq_true.mp a1 _ (mem_of_getElem? ex)) (all_eq_true.mp a2 _ (mem_of_getElem? ey)) rx ry
  cases h1 with
  | tup ht r=>
   cases h2 with
   | tup ht' r'=>
    rename_i a its ps a' its' ps'
    by_cases hab:a=a'
    ·subst hab
     rw[Lies.same (.tup ht r) (.tup ht' r')]
     exact .same _
    ·refine .of_refs hab ?_
     have e:bJ (.tup ps) (.tup ps')=((List.range (min its.toArray.size its'.toArray.size)).all (fun j=>bJ (ps.getD j .aY) (ps'.getD j .aY)) && its.toArray.size==its'.toArray.size):=by
      rw[mN,<-eY,r.length,r'.length,size_toArray,size_toArray]
     rw[e]
     exact SeqAt.RcAt.tuples (e:=fun j=>bJ (ps.getD j .aY) (ps'.getD j .aY)) ht ht' hu0 (els o1 o2 r r')
   |lst hl r'=>exact .tuple_list ht hl hu0
   |aY=>exact .tuple_none ht hu0
   |bl b=>exact .tuple_bool b ht hu0
   |int b t=>exact .tuple_int b t ht hu0
   |str b t=>exact .tuple_str b t ht hu0
  | lst ht r=>
   cases h2 with
   |tup ht' r'=>exact .list_tuple ht ht' hu0
   | lst ht' r'=>
    rename_i a its ps a' its' ps'
    by_cases hab:a=a'
    ·subst hab
     rw[Lies.same (.lst ht r) (.lst ht' r')]
     exact .same _
    ·refine .of_refs hab ?_
     by_cases hsz:its.length=its'.length
     ·have e:bJ (.lst ps) (.lst ps')=(List.range its.toArray.size).all (fun j=>bJ (ps.getD j .aY) (ps'.getD j .aY)):=by
       rw[rW,<-eY,r.length,r'.length,size_toArray,<-hsz,Nat.min_self,beq_self_eq_true,Bool.and_true]
      rw[e]
      exact SeqAt.RcAt.lists (e:=fun j=>bJ (ps.getD j .aY) (ps'.getD j .aY)) ht ht' (by simp[hsz]) hu0 (els o1 o2 r r')
     ·have e:bJ (.lst ps) (.lst ps')=false:=by
       rw[rW,<-eY,r.length,r'.length,show(its.length==its'.length)=false by simp[hsz],Bool.and_false]
      rw[e]
      exact SeqAt.RcAt.lists_lengths ht ht' (by simp[hsz]) hu0
   |aY=>exact .list_none ht hu0
   |bl b=>exact .list_bool b ht hu0
   |int b t=>exact .list_int b t ht hu0
   |str b t=>exact .list_str b t ht hu0
  |aY=>
   cases h2 with
   |tup ht' r'=>exact .none_tuple ht' hu0
   |lst hl r'=>exact .none_list hl hu0
   |aY=>exact .same _
   |bl b=>exact .none_bool b
   |int b t=>exact .none_int b t
   |str b t=>exact .none_str b t
  |bl a=>
   cases h2 with
   |tup ht' r'=>exact .bool_tuple a ht' hu0
   |lst hl r'=>exact .bool_list a hl hu0
   |aY=>exact .bool_none a
   |bl b=>exact .bool_bool a b
   |int b t=>exact .bool_int a b t
   |str b t=>exact .bool_str a b t
  |int a t'=>
   cases h2 with
   |tup ht' r'=>exact .int_tuple a t' ht' hu0
   |lst hl r'=>exact .int_list a t' hl hu0
   |aY=>exact .int_none a t'
   |bl b=>exact .int_bool a t' b
   |int b t=>exact .int_int a t' b t
   |str b t=>exact .int_str a t' b t
  |str a t'=>
   cases h2 with
   |tup ht' r'=>exact .str_tuple a t' ht' hu0
   |lst hl r'=>exact .str_list a t' hl hu0
   |aY=>exact .str_none a t'
   |bl b=>exact .str_bool a t' b
   |int b t=>exact .str_int a t' b t
   |str b t=>exact .str_str a t' b t
theorem LF {A:Around} (hu:A.units+(n+1)<cLine) (o1:gO (n+1) p=true) (o2:gO (n+1) q=true) (h1:Lies s.heap p v) (h2:Lies s.heap q u):SeqAt.RcAt A s v u (bJ p q)/\SeqAt.RcNeAt A s v u (!bJ p q):=by
 have hu0:A.units<cLine:=by omega
 have hin:A.in1.units=A.units+1:=rfl
 have els:∀{ps qs:List PV} {vs us:List Value},ps.all (gO n)=true->qs.all (gO n)=true->bR s.heap ps vs->bR s.heap qs us->∀(j:Nat) (g1:j<vs.toArray.size) (g2:j<us.toArray.size),SeqAt.EqAt A.in1 s vs.toArray[j] us.toArray[j] (bJ (ps.getD j .aY) (qs.getD j .aY)):=fun{ps qs vs us} a1 a2 l1 l2 j g1 g2=>by
  obtain⟨x,ex,rx⟩:=l1.get (toArr g1)
  obtain⟨y,ey,ry⟩:=l2.get (toArr g2)
  rw[getD_eq_getElem?_getD,getD_eq_getElem?_getD,ex,ey]
  exact yN n A.in1 (by omega) (all_eq_true.mp a1 _ (mem_of_getElem? ex)) (all_eq_true.mp a2 _ (mem_of_getElem? ey)) rx ry
 cases h1 with
 | tup ht r=>
  cases h2 with
  | tup ht' r'=>
   rename_i a its ps a' its' ps'
   have e:bJ (.tup ps) (.tup ps')=((List.range (min its.toArray.size its'.toArray.size)).all (fun j=>bJ (ps.getD j .aY) (ps'.getD j .aY)) && its.toArray.size==its'.toArray.size):=by
    rw[mN,<-eY,r.length,r'.length,size_toArray,size_toArray]
   rw[e]
   exact⟨SeqAt.RcAt.tuples (e:=fun j=>bJ (ps.getD j .aY) (ps'.getD j .aY)) ht ht' hu0 (els o1 o2 r r'),SeqAt.RcNeAt.tuples (e:=fun j=>bJ (ps.getD j .aY) (ps'.getD j .aY)) ht ht' hu0 (els o1 o2 r r')⟩
  |lst hl r'=>exact⟨.tuple_list ht hl hu0,.tuple_list ht hl hu0⟩
  |aY=>exact⟨.tuple_none ht hu0,.tuple_none ht hu0⟩
  |bl b=>exact⟨.tuple_bool b ht hu0,.tuple_bool b ht hu0⟩
  |int b t=>exact⟨.tuple_int b t ht hu0,.tuple_int b t ht hu0⟩
  |str b t=>exact⟨.tuple_str b t ht hu0,.tuple_str b t ht hu0⟩
 | lst ht r=>
  cases h2 with
  |tup ht' r'=>exact⟨.list_tuple ht ht' hu0,.list_tuple ht ht' hu0⟩
  | lst ht' r'=>
   rename_i a its ps a' its' ps'
   by_cases hsz:its.length=its'.length
   ·have e:bJ (.lst ps) (.lst ps')=(List.range its.toArray.size).all (fun j=>bJ (ps.getD j .aY) (ps'.getD j .aY)):=by
     rw[rW,<-eY,r.length,r'.length,size_toArray,<-hsz,Nat.min_self,beq_self_eq_true,Bool.and_true]
    rw[e]
    exact⟨SeqAt.RcAt.lists (e:=fun j=>bJ (ps.getD j .aY) (ps'.getD j .aY)) ht ht' (by simp[hsz]) hu0 (els o1 o2 r r'),SeqAt.RcNeAt.lists (e:=fun j=>bJ (ps.getD j .aY) (ps'.getD j .aY)) ht ht' (by simp[hsz]) hu0 (els o1 o2 r r')⟩
   ·have e:bJ (.lst ps) (.lst ps')=false:=by
     rw[rW,<-eY,r.length,r'.length,show(its.length==its'.length)=false by simp[hsz],Bool.and_false]
    rw[e]
    exact⟨SeqAt.RcAt.lists_lengths ht ht' (by simp[hsz]) hu0,SeqAt.RcNeAt.lists_lengths ht ht' (by simp[hsz]) hu0⟩
  |aY=>exact⟨.list_none ht hu0,.list_none ht hu0⟩
  |bl b=>exact⟨.list_bool b ht hu0,.list_bool b ht hu0⟩
  |int b t=>exact⟨.list_int b t ht hu0,.list_int b t ht hu0⟩
  |str b t=>exact⟨.list_str b t ht hu0,.list_str b t ht hu0⟩
 |aY=>
  cases h2 with
  |tup ht' r'=>exact⟨.none_tuple ht' hu0,.none_tuple ht' hu0⟩
  |lst hl r'=>exact⟨.none_list hl hu0,.none_list hl hu0⟩
  |aY=>exact⟨.none_none,.none_none⟩
  |bl b=>exact⟨.none_bool b,.none_bool b⟩
  |int b t=>exact⟨.none_int b t,.none_int b t⟩
  |str b t=>exact⟨.none_str b t,.none_str b t⟩
 |bl a=>
  cases h2 with
  |tup ht' r'=>exact⟨.bool_tuple a ht' hu0,.bool_tuple a ht' hu0⟩
  |lst hl r'=>exact⟨.bool_list a hl hu0,.bool_list a hl hu0⟩
  |aY=>exact⟨.bool_none a,.bool_none a⟩
  |bl b=>exact⟨.bool_bool a b,.bool_bool a b⟩
  |int b t=>exact⟨.bool_int a b t,.bool_int a b t⟩
  |str b t=>exact⟨.bool_str a b t,.bool_str a b t⟩
 |int a t'=>
  cases h2 with
  |tup ht' r'=>exact⟨.int_tuple a t' ht' hu0,.int_tuple a t' ht' hu0⟩
  |lst hl r'=>exact⟨.int_list a t' hl hu0,.int_list a t' hl hu0⟩
  |aY=>exact⟨.int_none a t',.int_none a t'⟩
  |bl b=>exact⟨.int_bool a t' b,.int_bool a t' b⟩
  |int b t=>exact⟨.int_int a t' b t,.int_int a t' b t⟩
  |str b t=>exact⟨.int_str a t' b t,.int_str a t' b t⟩
 |str a t'=>
  cases h2 with
  |tup ht' r'=>exact⟨.str_tuple a t' ht' hu0,.str_tuple a t' ht' hu0⟩
  |lst hl r'=>exact⟨.str_list a t' hl hu0,.str_list a t' hl hu0⟩
  |aY=>exact⟨.str_none a t',.str_none a t'⟩
  |bl b=>exact⟨.str_bool a t' b,.str_bool a t' b⟩
  |int b t=>exact⟨.str_int a t' b t,.str_int a t' b t⟩
  |str b t=>exact⟨.str_str a t' b t,.str_str a t' b t⟩
end
noncomputable def RI (K:Frag) (neg:Bool):R2:=fun x y H Q=>∃p q,Red K cR H p x/\Red K cR H q y/\gO 9 p=true/\gO 9 q=true/\Q (.bl (if neg then !bJ p q else bJ p q)) H
noncomputable def B9:PV->Option (List PV)
 | .lst ps=>some ps
 | .tup ps=>some ps
 |_=>none
noncomputable def OA (K:Frag) (neg:Bool):R2:=fun x y H Q=>∃p q ps,Red K cR H p x/\Red K cR H q y/\B9 q=some ps/\gO 8 p=true/\ps.all (gO 8)=true/\Q (.bl (if neg then !ps.any (fun z=>bJ z p)else ps.any fun z=>bJ z p)) H
section
variable {X:Cx} {k:Nat}
theorem yY (K:Frag) (hr:dB k X.A) (hK:X.K=K:=by rfl):iQ X (compareOp .Eq) (RI K false):=by
 subst hK
 intro pins s σ H x y v u Q I rx ry h
 obtain⟨p,q,h1,h2,o1,o2,hQ⟩:=h
 exact(LF (n:=8) (by have:=hr.un;omega) o1 o2 (h1.lies I o1 rx) (h2.lies I o2 ry)).1 _ _ _ _ (iK I hQ rfl)
theorem KO (K:Frag) (hr:dB k X.A) (hK:X.K=K:=by rfl):iQ X (compareOp .NotEq) (RI K true):=by
 subst hK
 intro pins s σ H x y v u Q I rx ry h
 obtain⟨p,q,h1,h2,o1,o2,hQ⟩:=h
 exact(LF (n:=8) (by have:=hr.un;omega) o1 o2 (h1.lies I o1 rx) (h2.lies I o2 ry)).2 _ _ _ _ (iK I hQ rfl)
theorem bR.any {e:Value->Bool} {f:PV->Bool} (he:∀{q:PV} {y:Value},Lies h q y->e y=f q):∀{ps:List PV} {its:List Value},bR h ps its->its.any e=ps.any f
 |_,_,.nil=>rfl
 |_,_,.cons h r=>by rw[any_cons,any_cons,he h,bR.any he r]
theorem xZ {s:Shared} {A:Around} (hu:A.units+8<cLine) (op:gO 8 p=true) (hp:Lies s.heap p u) {its:List Value} (ops:ps.all (gO 8)=true) (hl:bR s.heap ps its):
  ∃e:Value->Bool,(∀y,y∈its.toArray->SeqAt.EqAt A s y u (e y))/\its.toArray.any e=ps.any fun z=>bJ z p:=by
 classical
 let e:Value->Bool:=fun y=>if c:∃q,Lies s.heap q y then bJ c.choose p else false
 have he:∀{q:PV} {y:Value},Lies s.heap q y->e y=bJ q p:=fun{q y} h=>by
  have c:∃q,Lies s.heap q y:=⟨q,h⟩
  show(if c:∃q,Lies s.heap q y then bJ c.choose p else false)=_
  rw[dif_pos c,Lies.fn c.choose_spec h]
 refine⟨e,fun y hy=>?_,?_⟩
 ·obtain⟨j,hj⟩:=getElem?_of_mem (show y∈its by simpa using hy)
  obtain⟨q,h1,h2⟩:=hl.get hj
  rw[he h2]
  exact yN 8 A hu (all_eq_true.mp ops _ (mem_of_getElem? h1)) op h2 hp
 ·rw[List.any_toArray]
  exact bR.any (fun h=>he h) hl
theorem adB (K:Frag) (hr:dB k X.A) (hK:X.K=K:=by rfl):iQ X (compareOp .In) (OA K false):=by
 subst hK
 intro pins s σ H x y v u Q I rx ry h
 obtain⟨p,q,ps,h1,h2,hi,o1,o2,hQ⟩:=h
 have hu:X.A.in1.units+8<cLine:=by have:=hr.un;show X.A.units+1+8<_;omega
 have lp:=h1.lies I o1 rx
 cases q with
 | lst qs=>
  cases hi
  cases h2.lies I (n:=9) (p:=.lst _) o2 ry with
  |lst hl r=>
   obtain⟨e,e1,e2⟩:=xZ hu o1 lp o2 r
   exact SeqAt.in_listAt e hl e1 (by rw[e2];exact iK I hQ rfl)
 | tup qs=>
  cases hi
  cases h2.lies I (n:=9) (p:=.tup _) o2 ry with
  |tup hl r=>
   obtain⟨e,e1,e2⟩:=xZ hu o1 lp o2 r
   exact SeqAt.in_tupleAt e hl e1 (by rw[e2];exact iK I hQ rfl)
 |_=>cases hi
theorem OG (K:Frag) (hr:dB k X.A) (hK:X.K=K:=by rfl):iQ X (compareOp .NotIn) (OA K true):=by
 subst hK
 intro pins s σ H x y v u Q I rx ry h
 obtain⟨p,q,ps,h1,h2,hi,o1,o2,hQ⟩:=h
 have hu:X.A.in1.units+8<cLine:=by have:=hr.un;show X.A.units+1+8<_;omega
 have lp:=h1.lies I o1 rx
 cases q with
 | lst qs=>
  cases hi
  cases h2.lies I (n:=9) (p:=.lst _) o2 ry with
  |lst hl r=>
   obtain⟨e,e1,e2⟩:=xZ hu o1 lp o2 r
   exact SeqAt.notIn_listAt e hl e1 (by rw[e2];exact iK I hQ rfl)
 | tup qs=>
  cases hi
  cases h2.lies I (n:=9) (p:=.tup _) o2 ry with
  |tup hl r=>
   obtain⟨e,e1,e2⟩:=xZ hu o1 lp o2 r
   exact SeqAt.notIn_tupleAt e hl e1 (by rw[e2];exact iK I hQ rfl)
 |_=>cases hi
end
section
variable {K:Frag}
theorem dN.or {g g':PV->PV->Option Bv} (h:dN K r g) (h':dN K r' g'):dN K (fun x y H Q=>r x y H Q\/ r' x y H Q) (fun p q=>(g p q).or (g' p q)):=by
 intro Z H x y p q b Q hp hq hg k
 have hg:(g p q).or (g' p q)=some b:=hg
 cases c:g p q with
 |some b'=>rw[c]at hg;cases hg;exact .inl (h Z H x y p q _ Q hp hq c k)
 |none=>rw[c]at hg;exact .inr (h' Z H x y p q b Q hp hq hg k)
theorem fX.or {r r':List V->Hp->VK->Prop} {g g':List PV->Option Bv} (h:fX K r g) (h':fX K r' g'):fX K (fun x H Q=>r x H Q\/ r' x H Q) (fun p=>(g p).or (g' p)):=by
 intro Z H x p b Q hp hg k
 have hg:(g p).or (g' p)=some b:=hg
 cases c:g p with
 |some b'=>rw[c]at hg;cases hg;exact .inl (h Z H x p _ Q hp c k)
 |none=>rw[c]at hg;exact .inr (h' Z H x p b Q hp hg k)
noncomputable def gI (C:Int->Int->Bool) (g:Int->Int->PV):PV->PV->Option Bv
 | .int i,.int j=>aN (C i j) (some (.val (g i j)))
 |_,_=>none
theorem KI {C:Int->Int->Prop} {D:Int->Int->Bool} (hD:∀i j,D i j=true->C i j) (hg:∀i j Z H,Rep K Z H (g' i j) (g i j)):dN K (rI C g) (gI D g'):=by
 intro Z H x y p q b Q hp hq h k
 cases p with
 | int i=>
  cases q with
  |int j=>
   obtain⟨c,h⟩:=aK h
   cases h
   exact⟨i,j,hp.int,hq.int,hD i j c,k _ H (aZ.refl _) (hg i j Z H)⟩
  |_=>cases h
 |_=>cases h
noncomputable def R0 (g:Int->Int->PV):PV->PV->Option Bv
 | .int i,.int j=>some (.val (g i j))
 |_,_=>none
theorem AE (hg:∀i j Z H,Rep K Z H (g' i j) (g i j)):dN K (F1 g) (R0 g'):=by
 intro Z H x y p q b Q hp hq h k
 cases p with
 |int i=>
  cases q with
  |int j=>cases h;exact⟨i,j,hp.int,hq.int,k _ H (aZ.refl _) (hg i j Z H)⟩
  |_=>cases h
 |_=>cases h
noncomputable def uM:PV->PV->Option Bv:=R0 fun i j=>.int (i - j)
theorem MH:dN K (F1 fun i j=>.int (i - j)) uM:=AE fun _ _ _ _=>.int _
noncomputable def vF (i j:Int):Bool:=decide ((-18446744073709551616<i/\i<18446744073709551616)\/ (-18446744073709551616<j/\j<18446744073709551616))
noncomputable def qC:PV->PV->Option Bv:=gI vF fun i j=>.int (i*j)
theorem NA:dN K (rI Q3 fun i j=>.int (i*j)) qC:=KI (fun i j h=>by have:=of_decide_eq_true h;show(-(2^64)<i/\i<2^64)\/ (-(2^64)<j/\j<2^64);omega) fun _ _ _ _=>.int _
noncomputable def L9:PV->PV->Option Bv:=gI (fun _ j=>decide (0<j/\j<1000000000000000000000000)) fun i j=>.int (i / j)
theorem JM:dN K (rI SM fun i j=>.int (i / j)) L9:=KI (fun i j h=>by have:=of_decide_eq_true h;show 0<j/\j<2^200;omega) fun _ _ _ _=>.int _
noncomputable def mW:PV->PV->Option Bv:=gI (fun _ j=>decide (0<j)) fun i j=>.int (i % j)
theorem J3:dN K (rI (fun _ j=>0<j) fun i j=>.int (i % j)) mW:=KI (fun _ _ h=>of_decide_eq_true h) fun _ _ _ _=>.int _
noncomputable def rH:PV->PV->Option Bv:=gI (fun i j=>decide (0<=j/\(Builtin.Int.intBits i:Int)*j<=2^27)) fun i j=>.int (i^j.toNat)
theorem KR:dN K (rI (fun i j=>0<=j/\(Builtin.Int.intBits i:Int)*j<=2^27) fun i j=>.int (i^j.toNat)) rH:=KI (fun _ _ h=>of_decide_eq_true h) fun _ _ _ _=>.int _
noncomputable def QM:PV->Option Bv
 | .int i=>some (.val (.int (-i)))
 |_=>none
theorem JA:YX K (rU fun i=>.int (-i)) QM:=by
 intro Z H x p b Q hp h k
 cases p with
 |int i=>cases h;exact⟨i,hp.int,k _ H (aZ.refl _) (Rep.int (-i))⟩
 |_=>cases h
noncomputable def NH:PV->PV->Option Bv
 | .str i,.str j=>aN (decide (i.length+j.length<1000000)) (some (.val (.str (i++j))))
 |_,_=>none
theorem P4:dN K (fun x y H Q=>∃i j,x= .str i/\y= .str j/\i.length+j.length<=sizeLine/\Q (.str (i++j)) H) NH:=by
 intro Z H x y p q b Q hp hq h k
 cases p with
 | str i=>
  cases q with
  |str j=>
   obtain⟨c,h⟩:=aK h
   cases h
   exact⟨i,j,hp.str,hq.str,le_of_lt (iE c),k _ H (aZ.refl _) (Rep.str (i++j))⟩
  |_=>cases h
 |_=>cases h
noncomputable def K4 (K:Frag):R2:=fun x y H Q=>∃a b xs ys,x= .ref a/\y= .ref b/\iR K H a xs/\iR K H b ys/\xs.length+ys.length<=sizeLine/\∀p,H p=none->Q (.ref p) (upd H p (.lst (xs++ys)))
theorem acT (K:Frag) (hK:X.K=K:=by rfl):iQ X (binaryOp .Add) (K4 K):=by
 subst hK
 intro pins s σ H x y v u Q I rx ry h
 obtain⟨a,b,xs,ys,rfl,rfl,ha,hb,hz,q⟩:=h
 cases rx
 cases ry
 obtain⟨its,r1,p1,_⟩:=I.list ha
 obtain⟨its2,r2,p2,_⟩:=I.list hb
 obtain⟨⟨cls,dd,data,sl⟩,ho,hc,n,hd⟩:=id p1.isList
 obtain⟨⟨cls2,dd2,data2,sl2⟩,ho2,hc2,n2,hd2⟩:=id p2.isList
 simp only at hc hd hc2 hd2
 subst hc hd hc2 hd2
 have l1:=r1.length
 have l2:=r2.length
 have e:its.toArray++its2.toArray=(its++its2).toArray:=by simp
 refine concat_meets ⟨_,ho,rfl⟩ ⟨_,ho2,rfl⟩ noFill_list_add seq_list_add PySem.F.slot_list_add PySem.F.entry_list_add (PySem.F.args_list_add_2 _ _) (list_addW a b its.toArray its2.toArray n n2 dd dd2 sl sl2 (by simp only[size_toArray];omega)) ⟨ho,ho2,?_⟩
 rw[e]
 exact⟨.ref s.heap.objs.size,_,I.laid (t':=s.toks) (o:=.lst (xs++ys)) (fun b ob q=>get?_push_of_some _ q) (le_refl _) ⟨by rw[length_append];exact hz,its++its2,0,r1.append r2,get?_push_size _ rfl⟩,rfl,q _ (I.bN.fresh (le_refl _))⟩
noncomputable def JQ:PV->PV->Option Bv
 | .lst i,.lst j=>aN (decide (i.length+j.length<1000000)) (some (.new (.lst (i++j))))
 |_,_=>none
theorem yF (hl:H a=none) (r:bG K Z H ps xs):RN K Z H (upd H a (.lst xs)) (.ref a) (.new (.lst ps)):=
 ⟨a,rfl,hl,.lst aW (r.aH (.new (aZ.upd hl) hl))⟩
theorem QO:dN K (K4 K) JQ:=by
 intro Z H x y p q b Q hp hq h k
 cases p with
 | lst i=>
  cases q with
  |lst j=>
   obtain⟨c,h⟩:=aK h
   cases h
   obtain⟨a,xs,rfl,ha,ra⟩:=hp.m6
   obtain⟨a',ys,rfl,ha',ra'⟩:=hq.m6
   exact⟨a,a',xs,ys,rfl,rfl,ha.sq,ha'.sq,by rw[<-ra.length,<-ra'.length];exact le_of_lt (iE c),fun l hl=>k _ _ (aZ.upd hl) (yF hl (ra.app ra'))⟩
  |_=>cases h
 |_=>cases h
noncomputable def MR (K:Frag):R2:=fun x y H Q=>∃a b xs ys,x= .ref a/\y= .ref b/\TupAt K H a xs/\TupAt K H b ys/\xs.length+ys.length<=sizeLine/\∀p H',aZ H H'->TupAt K H' p (xs++ys)->Q (.ref p) H'
theorem acR (K:Frag) (hK:X.K=K:=by rfl):iQ X (binaryOp .Add) (MR K):=by
 subst hK
 intro pins s σ H x y v u Q I rx ry h
 obtain⟨a,b,xs,ys,rfl,rfl,ha,hb,hz,q⟩:=h
 cases rx
 cases ry
 obtain⟨its,r1,p1,_⟩:=I.tuple ha.sq
 obtain⟨its2,r2,p2,_⟩:=I.tuple hb.sq
 refine HT.N6 p1 p2 (fun z=>⟨.ref b,H,I,rfl,q b H (aZ.refl _) (by rw[r1.DW.mp z];exact hb)⟩) (fun z=>⟨.ref a,H,I,rfl,q a H (aZ.refl _) (by rw[r2.DW.mp z,append_nil];exact ha)⟩) (fun _ _=>?_) (by rw[<-r1.length,<-r2.length];exact hz)
 refine⟨.ref s.heap.objs.size,_,I.laid (t':=s.toks) (o:=.tup (xs++ys)) (fun b ob q=>get?_push_of_some _ q) (le_refl _) ?_,rfl,q _ _ (aZ.upd (I.bN.fresh (le_refl _))) (.inl aW)⟩
 exact⟨by rw[length_append];exact hz,_,r1.append r2,pP.new _ _⟩
noncomputable def KN:PV->PV->Option Bv
 | .tup i,.tup j=>aN (decide (i.length+j.length<1000000)) (some (.val (.tup (i++j))))
 |_,_=>none
theorem QF:dN K (MR K) KN:=by
 intro Z H x y p q b Q hp hq h k
 cases p with
 | tup i=>
  cases q with
  |tup j=>
   obtain⟨c,h⟩:=aK h
   cases h
   obtain⟨a,xs,rfl,ha,ra⟩:=hp.tup
   obtain⟨a',ys,rfl,ha',ra'⟩:=hq.tup
   exact⟨a,a',xs,ys,rfl,rfl,ha,ha',by rw[<-ra.length,<-ra'.length];exact le_of_lt (iE c),fun l H' s t=>k _ _ s (Rep.tup t ((ra.app ra').aH (.same s)))⟩
  |_=>cases h
 |_=>cases h
theorem iQ.or {f:Value->Value->Sem Value} (h:iQ X f r) (h':iQ X f r'):iQ X f (fun x y H Q=>r x y H Q\/ r' x y H Q):=by
 intro pins s σ H x y v u Q I rx ry q
 rcases q with q|q
 ·exact h pins s σ H x y v u Q I rx ry q
 ·exact h' pins s σ H x y v u Q I rx ry q
noncomputable def SS (K:Frag):R2:=fun x y H Q=>F1 (fun i j=>.int (i+j)) x y H Q\/ ((∃i j,x= .str i/\y= .str j/\i.length+j.length<=sizeLine/\Q (.str (i++j)) H)\/ (K4 K x y H Q\/ MR K x y H Q))
theorem l5 (K:Frag) (hK:X.K=K:=by rfl):iQ X (binaryOp .Add) (SS K):=iQ.or WM (iQ.or B6 (iQ.or (acT K hK) (acR K hK)))
noncomputable def iM:PV->PV->Option Bv:=fun p q=>(R0 (fun i j=>.int (i+j)) p q).or ((NH p q).or ((JQ p q).or (KN p q)))
theorem MT:dN K (SS K) iM:=dN.or (AE fun _ _ _ _=>.int _) (dN.or P4 (dN.or QO QF))
noncomputable def E4:PV->PV->Option Bv:=fun p q=>aN (gO 9 p && gO 9 q) (some (.val (.bl (bJ p q))))
theorem Red.any {v:V} (h:Red K Z H p v):Red K cR H p v:=by
 have k:cT Z cR H H:=.less fun a z=>z.elim
 cases h with
 |rep h=>exact .rep (h.aH k)
 |lst h r=>exact .lst h (r.aH k)
 |a9 h e r=>exact .a9 h e (r.aH k)
theorem SK:dN K (RI K false) E4:=by
 intro Z H x y p q b Q hp hq h k
 obtain⟨c,h⟩:=aK h
 rw[and_eq_true]at c
 cases h
 exact⟨p,q,hp.any,hq.any,c.1,c.2,k _ H (aZ.refl _) (Rep.bl _)⟩
noncomputable def UD:PV->PV->Option Bv:=fun p q=>aN (gO 9 p && gO 9 q) (some (.val (.bl (!bJ p q))))
theorem R9:dN K (RI K true) UD:=by
 intro Z H x y p q b Q hp hq h k
 obtain⟨c,h⟩:=aK h
 rw[and_eq_true]at c
 cases h
 exact⟨p,q,hp.any,hq.any,c.1,c.2,k _ H (aZ.refl _) (Rep.bl _)⟩
noncomputable def VC (neg:Bool):PV->PV->Option Bv:=fun p q=>bO (B9 q) fun ps=>aN (gO 8 p && ps.all (gO 8)) (some (.val (.bl (if neg then !ps.any (fun z=>bJ z p)else ps.any fun z=>bJ z p))))
theorem UR (neg:Bool):dN K (OA K neg) (VC neg):=by
 intro Z H x y p q b Q hp hq h k
 obtain⟨ps,g,h⟩:=aF h
 obtain⟨c,h⟩:=aK h
 rw[and_eq_true]at c
 cases h
 exact⟨p,q,ps,hp.any,hq.any,g,c.1,c.2,k _ H (aZ.refl _) (Rep.bl _)⟩
noncomputable def XR (neg:Bool):PV->PV->Option Bv
 | .str i,.str j=>some (.val (.bl (if neg then !(!(Builtin.Str.occurrences j i 0 j.length 1).isEmpty)else !(Builtin.Str.occurrences j i 0 j.length 1).isEmpty)))
 |_,_=>none
noncomputable def aaQ (neg:Bool):R2:=fun x y H Q=>∃i j,x= .str i/\y= .str j/\Q (.bl (if neg then !(!(Builtin.Str.occurrences j i 0 j.length 1).isEmpty)else !(Builtin.Str.occurrences j i 0 j.length 1).isEmpty)) H
theorem YC (neg:Bool):dN K (aaQ neg) (XR neg):=by
 intro Z H x y p q b Q hp hq h k
 cases p with
 |str i=>
  cases q with
  |str j=>cases h;exact⟨i,j,hp.str,hq.str,k _ H (aZ.refl _) (Rep.bl _)⟩
  |_=>cases h
 |_=>cases h
noncomputable def S7 (neg:Bool):PV->PV->Option Bv
 |p,.a9 kvs=>bO (keyOf p) fun k=>some (.val (.bl (if neg then !(cE kvs k).isSome else(cE kvs k).isSome)))
 |_,_=>none
noncomputable def NV (neg:Bool):R2:=fun x y H Q=>∃a kvs k,y= .ref a/\yI H a kvs/\x=kV k/\Q (.bl (if neg then !(dX kvs k).isSome else(dX kvs k).isSome)) H
theorem inD (hr:dB k X.A):iQ X (compareOp .In) (NV false):=by
 intro pins s σ H x y v u Q I rx ry h
 obtain⟨a,kvs,key,rfl,ha,rfl,q⟩:=h
 cases ry
 exact acG (by have:=hr.un;omega) I (.inl ⟨kvs,key,ha,rfl,rfl⟩) rx fun s' I'=>⟨.bl _,H,I',rfl,q⟩
theorem UY (hr:dB k X.A):iQ X (compareOp .NotIn) (NV true):=by
 intro pins s σ H x y v u Q I rx ry h
 obtain⟨a,kvs,key,rfl,ha,rfl,q⟩:=h
 cases ry
 exact Q1 (by have:=hr.un;omega) I (.inl ⟨kvs,key,ha,rfl,rfl⟩) rx fun s' I'=>⟨.bl _,H,I',rfl,q⟩
theorem WV (neg:Bool):dN K (NV neg) (S7 neg):=by
 intro Z H x y p q b Q hp hq h k
 cases q with
 | a9 kvs=>
  obtain⟨key,g,h⟩:=aF h
  cases h
  obtain⟨a,ys,rfl,ha,e,r⟩:=hq.rB
  refine⟨a,ys,key,rfl,ha,hp.key g,?_⟩
  have es:(dX ys key).isSome=(cE kvs key).isSome:=by
   rcases dM.val key ⟨e,r⟩with⟨h1,h2⟩|⟨p',v',h1,h2,_⟩
   ·rw[h1,h2]
    rfl
   ·rw[h1,h2]
    rfl
  rw[es]
  exact k _ H (aZ.refl _) (Rep.bl _)
 |_=>cases h
noncomputable def XJ (K:Frag) (neg:Bool):R2:=fun x y H Q=>aaQ neg x y H Q\/ (OA K neg x y H Q\/ NV neg x y H Q)
theorem ZK (K:Frag) (hr:dB k X.A) (hK:X.K=K:=by rfl):iQ X (compareOp .In) (XJ K false):=iQ.or G3 (iQ.or (adB K hr hK) (inD hr))
theorem iD (K:Frag) (hr:dB k X.A) (hK:X.K=K:=by rfl):iQ X (compareOp .NotIn) (XJ K true):=iQ.or xB (iQ.or (OG K hr hK) (UY hr))
noncomputable def vN (neg:Bool):PV->PV->Option Bv:=fun p q=>(XR neg p q).or ((VC neg p q).or (S7 neg p q))
theorem SE (neg:Bool):dN K (XJ K neg) (vN neg):=dN.or (YC neg) (dN.or (UR neg) (WV neg))
noncomputable def EF (f:Str->Str->Bool):PV->PV->Option Bv
 | .str i,.str j=>some (.val (.bl (f i j)))
 |_,_=>none
theorem PD {f:Str->Str->Bool}:dN K (fun x y H Q=>∃i j,x= .str i/\y= .str j/\Q (.bl (f i j)) H) (EF f):=by
 intro Z H x y p q b Q hp hq h k
 cases p with
 |str i=>
  cases q with
  |str j=>cases h;exact⟨i,j,hp.str,hq.str,k _ H (aZ.refl _) (Rep.bl _)⟩
  |_=>cases h
 |_=>cases h
noncomputable def YZ:R2:=fun x y H Q=>F1 (fun i j=>.bl (decide (i<j))) x y H Q\/ ∃i j,x= .str i/\y= .str j/\Q (.bl (decide (i.cps.toList<j.cps.toList))) H
theorem ltX:iQ X (compareOp .Lt) YZ:=iQ.or ZI HA
noncomputable def gLt:PV->PV->Option Bv:=fun p q=>(R0 (fun i j=>.bl (decide (i<j))) p q).or (EF (fun i j=>decide (i.cps.toList<j.cps.toList)) p q)
theorem RP:dN K YZ gLt:=dN.or (AE fun _ _ _ _=>.bl _) PD
noncomputable def gLe:PV->PV->Option Bv:=fun p q=>(R0 (fun i j=>.bl (decide (i<=j))) p q).or (EF (fun i j=>!decide (j.cps.toList<i.cps.toList)) p q)
noncomputable def YT:PV->PV->Option Bv:=R0 fun i j=>.bl (decide (j<i))
theorem RQ:dN K (F1 fun i j=>.bl (decide (j<i))) YT:=AE fun _ _ _ _=>.bl _
noncomputable def gGe:PV->PV->Option Bv:=R0 fun i j=>.bl (decide (j<=i))
theorem SN:dN K (F1 fun i j=>.bl (decide (j<=i))) gGe:=AE fun _ _ _ _=>.bl _
noncomputable def isNone:PV->Bool
 | .aY=>true
 |_=>false
theorem Red.isNone {v:V} (h:Red K Z H p v):decide (v= .aY)=Mr.isNone p:=by
 cases h with
 |rep h=>cases h<;>rfl
 |lst h r=>rfl
 |a9 h e r=>rfl
noncomputable def IL (neg:Bool):PV->PV->Option Bv
 |p,.aY=>some (.val (.bl (if neg then !isNone p else isNone p)))
 |_,_=>none
theorem SG:dN K (fun x y H Q=>y= .aY/\Q (.bl (decide (x= .aY))) H) (IL false):=by
 intro Z H x y p q b Q hp hq h k
 cases q with
 |aY=>cases h;exact⟨hq.aY,by rw[hp.isNone];exact k _ H (aZ.refl _) (Rep.bl _)⟩
 |_=>cases h
theorem AM:dN K (fun x y H Q=>y= .aY/\Q (.bl (!decide (x= .aY))) H) (IL true):=by
 intro Z H x y p q b Q hp hq h k
 cases q with
 |aY=>cases h;exact⟨hq.aY,by rw[hp.isNone];exact k _ H (aZ.refl _) (Rep.bl _)⟩
 |_=>cases h
noncomputable def dG:PV->PV->Option Bv
 | .lst ps,.int i=>bO (nF ps i) fun p=>some (.val p)
 | .tup ps,.int i=>bO (nF ps i) fun p=>some (.val p)
 | .str z,.int i=>aN (decide (z.length<1000000)) (bO (nF z.cps.toList i) fun c=>some (.val (.str ⟨#[c]⟩)))
 | .a9 kvs,p=>bO (keyOf p) fun k=>bO (cE kvs k) fun q=>some (.val q)
 |_,_=>none
theorem bG.nF {ps:List PV} {i:Int} (r:bG K Z H ps xs) (h:L2.nF ps i=some p):∃v,L2.nF xs i=some v/\Rep K Z H p v:=by
 unfold L2.nF at h⊢
 rw[<-r.length]
 cases c:rY ps.length i with
 |none=>rw[c]at h;cases h
 |some j=>rw[c]at h;exact r.get h
noncomputable def aaC:R2:=fun x y H Q=>∃a kvs k v,x= .ref a/\yI H a kvs/\y=kV k/\dX kvs k=some v/\Q v H
theorem ixD (hr:dB k X.A):DC X aaC:=by
 intro value slice pins s σ H x y v u Q I rx ry h hs
 obtain⟨a,kvs,key,w,rfl,ha,rfl,hv,q⟩:=h
 cases rx
 have g:xU H a (kV key) (some w):=.inl ⟨kvs,key,ha,rfl,hv.symm⟩
 have hT:=zQ I g
 unfold subscriptTail
 refine wpAny_bind ?_
 rw[getitemInPython_of_ne hT.not_modules]
 refine wpAny_bind (wpAny_specialOf hT PySem.F.slot_dict_getitem.lookup ?_)
 have fin:wpAny (model X.prog X.w) X.A (subscripted slice false (.ref a) u) (fun r s₃=>wpAny (model X.prog X.w) X.A (letTemporaryGo value (.ref a) r>>=fun _=>pure r) (EP X pins σ Q) X.xe s₃) X.xe s:=by
  rw[hs]
  exact wpAny_operating (wpAny_mono (F3 (by have:=hr.un;omega) I g ry fun w' s3 I3 rw'=>(⟨w,H,I3,rw',q⟩:EP X pins σ Q w' s3)) (fun r s₃ h₃=>wpAny_bind (wpAny_letTemporaryGo (wpAny_pure h₃))) fun _ _ x=>x)
 first
  |exact wpAny_pure (wpAny_bind fin)
  |exact wpAny_bind (wpAny_pure (wpAny_bind fin))
  |exact wpAny_bind fin
noncomputable def aa3 (K:Frag):R2:=fun x y H Q=>UU K x y H Q\/ (X3 K x y H Q\/ (Y2 x y H Q\/ aaC x y H Q))
theorem eK (K:Frag) (hr:dB k X.A) (hK:X.K=K:=by rfl):DC X (aa3 K):=DC.or (ixL K hK) (DC.or (ixT K hK) (DC.or XY (ixD hr)))
theorem SU:dN K (aa3 K) dG:=by
 intro Z H x y p q b Q hp hq h k
 cases p with
 | lst ps=>
  cases q with
  |int i=>
   obtain⟨p,g,h⟩:=aF h
   cases h
   obtain⟨a,xs,rfl,ha,ra⟩:=hp.m6
   obtain⟨v,hv,rv⟩:=ra.nF g
   exact .inl ⟨a,xs,i,v,rfl,hq.int,ha.sq,hv,k _ H (aZ.refl _) rv⟩
  |_=>cases h
 | tup ps=>
  cases q with
  |int i=>
   obtain⟨p,g,h⟩:=aF h
   cases h
   obtain⟨a,xs,rfl,ha,ra⟩:=hp.tup
   obtain⟨v,hv,rv⟩:=ra.nF g
   exact .inr (.inl ⟨a,xs,i,v,rfl,hq.int,ha.sq,hv,k _ H (aZ.refl _) rv⟩)
  |_=>cases h
 | str z=>
  cases q with
  |int i=>
   obtain⟨c,h⟩:=aK h
   obtain⟨p,g,h⟩:=aF h
   cases h
   exact .inr (.inr (.inl ⟨z,i,p,hp.str,hq.int,le_of_lt (iE c),g,k _ H (aZ.refl _) (Rep.str _)⟩))
  |_=>cases h
 | a9 kvs=>
  have h:(bO (keyOf q) fun k=>bO (cE kvs k) fun q=>some (Bv.val q))=some b:=by cases q<;>exact h
  obtain⟨key,g,h⟩:=aF h
  obtain⟨p,g2,h⟩:=aF h
  cases h
  obtain⟨a,ys,rfl,ha,e,r⟩:=hp.rB
  rcases dM.val key ⟨e,r⟩with⟨h1,h2⟩|⟨p',v',h1,h2,h3⟩
  ·rw[h1]at g2;cases g2
  ·rw[h1]at g2
   cases g2
   exact .inr (.inr (.inr ⟨a,ys,key,v',rfl,ha,hq.key g,h2,k _ H (aZ.refl _) h3⟩))
 |_=>cases q<;>cases h
noncomputable def yE (xs:List PV) (lo hi:Option Int):List PV:=(xs.drop (HT.eI xs.length 0 lo)).take (HT.eI xs.length xs.length hi - HT.eI xs.length 0 lo)
theorem bG.cut (r:bG K Z H ps xs) (lo hi:Option Int):bG K Z H (yE ps lo hi) (tD xs lo hi):=by
 unfold yE tD
 rw[<-r.length]
 exact(r.drop _).take _
noncomputable def Y8 (K:Frag):V->Option Int->Option Int->Hp->VK->Prop:=fun x lo hi H Q=>∃a xs,x= .ref a/\TupAt K H a xs/\∀p H',aZ H H'->TupAt K H' p (tD xs lo hi)->Q (.ref p) H'
theorem acB (K:Frag) (hK:X.K=K:=by rfl):F0 X (Y8 K):=by
 subst hK
 intro pins s σ H x v vl vu lo hi sl Q I rx hs pl pu h
 obtain⟨a,xs,rfl,hx,q⟩:=h
 by_cases hw:HT.eI xs.length 0 lo=0/\HT.eI xs.length xs.length hi=xs.length
 ·cases rx
  obtain⟨its,r,ht,hz⟩:=I.tuple hx.sq
  have hlen:its.toArray.size=xs.length:=by rw[size_toArray];exact r.length.symm
  refine⟨"tuple",_,PyProof.Rows.slot_tuple_getitem.lookup,ht.typeIs,?_⟩
  refine HT.pK ht hs pl pu (by rw[hlen];exact hw) ⟨.ref a,H,I,rfl,q a H (aZ.refl _) ?_⟩
  have e:tD xs lo hi=xs:=by unfold tD;rw[hw.1,hw.2,drop_zero,Nat.sub_zero,take_length]
  rw[e];exact hx
 ·exact V1 pins s σ H (.ref a) v vl vu lo hi sl Q I rx hs pl pu ⟨a,xs,rfl,hx.sq,hw,fun p hp=>q p _ (aZ.upd hp) (.inl aW)⟩
noncomputable def KG (K:Frag):V->Option Int->Option Int->Hp->VK->Prop:=fun x lo hi H Q=>XG K x lo hi H Q\/ (Y8 K x lo hi H Q\/ (∃z,x= .str z/\z.length<=sizeLine/\Q (.str (Txt.slice z lo hi)) H))
theorem X0 (K:Frag) (hK:X.K=K:=by rfl):F0 X (KG K):=F0.or (slL K hK) (F0.or (acB K hK) UX)
noncomputable def KD:PV->Option Int->Option Int->Option Bv
 | .lst ps,lo,hi=>some (.new (.lst (yE ps lo hi)))
 | .tup ps,lo,hi=>some (.val (.tup (yE ps lo hi)))
 | .str z,lo,hi=>aN (decide (z.length<1000000)) (some (.val (.str (Txt.slice z lo hi))))
 |_,_,_=>none
theorem S0:aaX K (KG K) KD:=by
 intro Z H x p lo hi b Q hp h k
 cases p with
 |lst ps=>
  cases h
  obtain⟨a,xs,rfl,ha,ra⟩:=hp.m6
  exact .inl ⟨a,xs,rfl,ha.sq,fun l hl=>k _ _ (aZ.upd hl) (yF hl (ra.cut lo hi))⟩
 |tup ps=>
  cases h
  obtain⟨a,xs,rfl,ha,ra⟩:=hp.tup
  exact .inr (.inl ⟨a,xs,rfl,ha,fun l H' s t=>k _ _ s (Rep.tup t ((ra.cut lo hi).aH (.same s)))⟩)
 |str z=>
  obtain⟨c,h⟩:=aK h
  cases h
  exact .inr (.inr ⟨z,hp.str,le_of_lt (iE c),k _ H (aZ.refl _) (Rep.str _)⟩)
 |_=>cases h
theorem uQ.one (h:uQ K Z H [p] vs):∃v,vs=[v]/\Red K Z H p v:=by
 cases h with|cons h r=>cases r;exact⟨_,rfl,h⟩
theorem uQ.two (h:uQ K Z H [p,q] vs):∃v u,vs=[v,u]/\Red K Z H p v/\Red K Z H q u:=by
 cases h with|cons h r=>cases r with|cons h' r=>cases r;exact⟨_,_,rfl,h,h'⟩
noncomputable def pS:List PV->Option Bv
 |[.lst ps]=>some (.val (.int ps.length))
 |[.tup ps]=>some (.val (.int ps.length))
 |[.str z]=>aN (decide (z.length<1000000)) (some (.val (.int z.length)))
 |_=>none
noncomputable def L5 (K:Frag):List V->Hp->VK->Prop:=fun xs H Q=>(∃p ys,xs=[.ref p]/\(iR K H p ys\/ nD K H p ys)/\Q (.int ys.length) H)\/ ∃z,xs=[.str z]/\z.length<=sizeLine/\Q (.int z.length) H
theorem xM (K:Frag) (hK:X.K=K:=by rfl):cD X (.builtin "len") (L5 K):=by subst hK;exact cD.or yU yR
theorem CP:fX K (L5 K) pS:=by
 intro Z H vs ps b Q hp h k
 unfold pS at h
 split at h
 ·cases h
  obtain⟨v,rfl,hv⟩:=hp.one
  obtain⟨a,xs,rfl,ha,ra⟩:=hv.m6
  exact .inl ⟨a,xs,rfl,.inl ha.sq,k _ H (aZ.refl _) (by rw[ra.length];exact Rep.int _)⟩
 ·cases h
  obtain⟨v,rfl,hv⟩:=hp.one
  obtain⟨a,xs,rfl,ha,ra⟩:=hv.tup
  exact .inl ⟨a,xs,rfl,.inr ha.sq,k _ H (aZ.refl _) (by rw[ra.length];exact Rep.int _)⟩
 ·obtain⟨c,h⟩:=aK h
  cases h
  obtain⟨v,rfl,hv⟩:=hp.one
  exact .inr ⟨_,by rw[hv.str],le_of_lt (iE c),k _ H (aZ.refl _) (Rep.int _)⟩
 ·cases h
noncomputable def nK:List PV->Option Bv
 |[.lst ps]=>some (.val (.tup ps))
 |[.tup ps]=>some (.val (.tup ps))
 |_=>none
noncomputable def RU (K:Frag):List V->Hp->VK->Prop:=fun xs H Q=>∃p ys,xs=[.ref p]/\((iR K H p ys/\∀l,H l=none->Q (.ref l) (upd H l (.tup ys)))\/ (nD K H p ys/\Q (.ref p) H))
theorem DA (K:Frag) (hK:X.K=K:=by rfl):cD X (.type "tuple") (RU K):=by subst hK;exact uG
theorem E5:fX K (RU K) nK:=by
 intro Z H vs ps b Q hp h k
 unfold nK at h
 split at h
 ·cases h
  obtain⟨v,rfl,hv⟩:=hp.one
  obtain⟨a,xs,rfl,ha,ra⟩:=hv.m6
  exact⟨a,xs,rfl,.inl ⟨ha.sq,fun l hl=>k _ _ (aZ.upd hl) (Rep.tup (.inl aW) (ra.aH (.same (aZ.upd hl))))⟩⟩
 ·cases h
  obtain⟨v,rfl,hv⟩:=hp.one
  obtain⟨a,xs,rfl,ha,ra⟩:=hv.tup
  exact⟨a,xs,rfl,.inr ⟨ha.sq,k _ H (aZ.refl _) (Rep.tup ha ra)⟩⟩
 ·cases h
noncomputable def sS:List PV->Option Bv
 |[.lst ps]=>some (.new (.lst ps))
 |[.tup ps]=>some (.new (.lst ps))
 |_=>none
theorem z9:fX K (KL K) sS:=by
 intro Z H vs ps b Q hp h k
 unfold sS at h
 split at h
 ·cases h
  obtain⟨v,rfl,hv⟩:=hp.one
  obtain⟨a,xs,rfl,ha,ra⟩:=hv.m6
  exact⟨a,xs,rfl,.inl ha.sq,fun l hl=>k _ _ (aZ.upd hl) (yF hl ra)⟩
 ·cases h
  obtain⟨v,rfl,hv⟩:=hp.one
  obtain⟨a,xs,rfl,ha,ra⟩:=hv.tup
  exact⟨a,xs,rfl,.inr ha.sq,fun l hl=>k _ _ (aZ.upd hl) (yF hl ra)⟩
 ·cases h
noncomputable def acN:List PV->Option Bv
 |[.int i]=>some (.val (.int (if i<0 then -i else i)))
 |_=>none
noncomputable def aaN:List PV->Option Bv
 |[.int i,.int j]=>some (.val (.int (if j>i then j else i)))
 |_=>none
noncomputable def DV:List PV->Option Bv
 |[.int i,.int j]=>some (.val (.int (if j<i then j else i)))
 |_=>none
theorem FV:fX K (fun xs H Q=>∃i j,xs=[.int i,.int j]/\Q (.int (if j<i then j else i)) H) DV:=by
 intro Z H vs ps b Q hp h k
 unfold DV at h
 split at h
 ·cases h
  obtain⟨v,u,rfl,hv,hu⟩:=hp.two
  exact⟨_,_,by rw[hv.int,hu.int],k _ H (aZ.refl _) (Rep.int _)⟩
 ·cases h
noncomputable def AG:List PV->Option Bv
 |[.int i]=>some (.val (.int i))
 |[.bl k]=>some (.val (.int (if k then 1 else 0)))
 |_=>none
theorem FK:fX K (fun xs H Q=>(∃i,xs=[.int i]/\Q (.int i) H)\/ ∃k,xs=[.bl k]/\Q (.int (if k then 1 else 0)) H) AG:=by
 intro Z H vs ps b Q hp h k
 unfold AG at h
 split at h
 ·cases h
  obtain⟨v,rfl,hv⟩:=hp.one
  exact .inl ⟨_,by rw[hv.int],k _ H (aZ.refl _) (Rep.int _)⟩
 ·cases h
  obtain⟨v,rfl,hv⟩:=hp.one
  exact .inr ⟨_,by rw[hv.bl],k _ H (aZ.refl _) (Rep.int _)⟩
 ·cases h
noncomputable def zG:List PV->Option Bv
 |[.int i]=>aN (decide (i.natAbs.log2<1920)) (some (.val (.str (toString i))))
 |_=>none
theorem D5:fX K (fun xs H Q=>∃i,xs=[.int i]/\i.natAbs.log2<1920/\Q (.str (toString i)) H) zG:=by
 intro Z H vs ps b Q hp h k
 unfold zG at h
 split at h
 ·obtain⟨c,h⟩:=aK h
  cases h
  obtain⟨v,rfl,hv⟩:=hp.one
  exact⟨_,by rw[hv.int],of_decide_eq_true c,k _ H (aZ.refl _) (Rep.str _)⟩
 ·cases h
noncomputable def lO:List PV->Option (List Str)
 |[]=>some []
 | .str x::ps=>bO (lO ps) fun xs=>some (x::xs)
 |_=>none
theorem oR:∀{ps:List PV} {xs:List Str},lO ps=some xs->ps=xs.map PV.str
 |[],xs,h=>by cases h;rfl
 | p::ps,xs,h=>by
  cases p with
  |str x=>
   obtain⟨ys,g,h⟩:=aF h
   cases h
   rw[oR g];rfl
  |_=>cases h
theorem mM (xs:List Str):lO (xs.map PV.str)=some xs:=by
 induction xs with
 |nil=>rfl
 |cons x xs ih=>rw[map_cons,lO,ih];rfl
theorem bG.strs:∀{xs:List Str} {vs:List V},bG K Z H (xs.map PV.str) vs->vs=xs.map V.str
 |[],vs,h=>by cases h;rfl
 |x::xs,vs,h=>by cases h with|cons h r=>cases h;rw[bG.strs r];rfl
noncomputable def AX:PV->List PV->Option Bv
 | .str z,[.lst ps]=>bO (lO ps) fun xs=>aN (decide ((xs.map (·.length)).sum+xs.length*z.length<1000000)) (some (.val (.str (Txt.join z xs))))
 |_,_=>none
theorem EH:YJ K (rJoin K) AX:=by
 intro Z H x vs p ps b Q hp hps h k
 unfold AX at h
 split at h
 ·obtain⟨xs,g,h⟩:=aF h
  obtain⟨c,h⟩:=aK h
  cases h
  obtain⟨v,rfl,hv⟩:=hps.one
  obtain⟨a,ys,rfl,ha,ra⟩:=hv.m6
  rw[oR g]at ra
  rw[ra.strs]at ha
  refine⟨_,a,xs,hp.str,rfl,ha.sq,?_,k _ H (aZ.refl _) (Rep.str _)⟩
  have:=of_decide_eq_true c
  omega
 ·cases h
noncomputable def gP:PV->Option (List PV)
 | .lst ps=>some ps
 | .tup ps=>some ps
 | .str z=>some (z.cps.toList.map fun c=>.str ⟨#[c]⟩)
 |_=>none
noncomputable def sT (f:FE):FI:=fun st e=>bE (f e) fun b e1=>match b with
 | .slot i=>match e1[i]? with
  |some (some (.bor p))=>bO (gP p) fun ps=>some (ps,e1)
  |some (some (.own p))=>aN (st i) (bO (gP p) fun ps=>some (ps,e1))
  |some (some (.loc p))=>aN (st i) (bO (gP p) fun ps=>some (ps,e1))
  |_=>none
 | .val p=>bO (gP p) fun ps=>some (ps,e1)
 | .new p=>bO (gP p) fun ps=>some (ps,e1)
noncomputable def VE (K:Frag) (tl:TE):TI:=fun σ H R=>tl σ H fun x H1=>(∃a,x= .ref a/\(∃xs,iR K H1 a xs)/\R (Itl K a) H1)\/ ((∃a,x= .ref a/\(∃xs,nD K H1 a xs)/\R (Itt K a) H1)\/ ∃z,x= .str z/\R (YS z) H1)
theorem cN (K:Frag) {tg l:Expr} {tl:TE} (hl:PE X l tl) (hK:X.K=K:=by rfl):PI X tg l (VE K tl):=by
 subst hK
 intro pins s σ H R I h
 refine cM (hl pins s σ H _ I h) fun v s1 ⟨x,H1,I1,r1,q1⟩=>?_
 rcases q1 with⟨a,e,⟨xs,hq⟩,q⟩|⟨a,e,⟨xs,hq⟩,q⟩|⟨z,e,q⟩
 ·subst e
  cases r1
  obtain⟨its,rv,p,hz⟩:=I1.list hq
  refine wpAny_pyIter_list p.isList ?_
  refine⟨s1.heap.objs.size,[s1.heap.objs.size],_,_,H1,rfl,I1.kept (t':=s1.toks) fun b o e=>get?_push_of_some _ e,HN a _,⟨_,get?_push_size _ rfl,rfl,rfl⟩,fun b hb=>?_,q⟩
  have e:b=s1.heap.objs.size:=by simpa using hb
  subst e
  exact I1.rF (le_refl _) (I1.bN.fresh (le_refl _))
 ·subst e
  cases r1
  obtain⟨its,rv,p,hz⟩:=I1.tuple hq
  refine wpAny_pyIter_tuple (show s1.heap.IsTuple a its.toArray from p) ?_
  refine⟨s1.heap.objs.size,[s1.heap.objs.size],_,_,H1,rfl,I1.kept (t':=s1.toks) fun b o e=>get?_push_of_some _ e,DF a _,⟨_,get?_push_size _ rfl,rfl,rfl⟩,fun b hb=>?_,q⟩
  have e:b=s1.heap.objs.size:=by simpa using hb
  subst e
  exact I1.rF (le_refl _) (I1.bN.fresh (le_refl _))
 ·subst e
  obtain⟨t,rfl⟩:=r1
  cases ha:z.cps.all (·<128)with
  |true=>
   refine wpAny_pyIter_ascii ha ?_
   refine⟨s1.heap.objs.size,[s1.heap.objs.size],_,_,H1,rfl,I1.kept (t':=s1.toks) fun b o e=>get?_push_of_some _ e,HF z t _,⟨_,get?_push_size _ rfl,rfl,rfl⟩,fun b hb=>?_,q⟩
   have e:b=s1.heap.objs.size:=by simpa using hb
   subst e
   exact I1.rF (le_refl _) (I1.bN.fresh (le_refl _))
  |false=>
   refine wpAny_pyIter_wide ha ?_
   refine⟨s1.heap.objs.size,[s1.heap.objs.size],_,_,H1,rfl,I1.kept (t':=s1.toks) fun b o e=>get?_push_of_some _ e,HX z t _,⟨_,get?_push_size _ rfl,rfl,rfl⟩,fun b hb=>?_,q⟩
   have e:b=s1.heap.objs.size:=by simpa using hb
   subst e
   exact I1.rF (le_refl _) (I1.bN.fresh (le_refl _))
theorem tW {L':aI} {H':Hp} (o:jK O M W L H) (hw:∀a,Wr a->aw W a\/ L a) (k1:∀a ob,H a=some ob->¬Wr a->H' a=some ob) (k2:∀a xs,H a=some (.tup xs)->H' a=some (.tup xs)) (k3:∀a,L' a->L a\/ H a=none):cT (aT M L) (aT M L') H H':=
 ⟨k2,fun a ob h n=>⟨k1 a ob h fun z=>n ((hw a z).elim (fun⟨i,w⟩=>.inl (o.wm i a w)) .inr),fun z=>z.elim (fun z=>n (.inl z)) fun z=>(k3 a z).elim (fun z=>n (.inr z)) fun z=>by rw[h]at z;cases z⟩⟩
theorem o7 (o:jK O M W L H) (hw:∀a,Wr a->aw W a\/ L a) (ha:(Rd H a (.lst xs)/\¬Wr a)\/ X1 K a xs) (r:bG K (aT M L) H ps xs):MP K M L Wr H (Itl K a) ps:=by
 intro L' H' k1 k2 k3
 have st:=tW o hw k1 k2 k3
 have sq:iR K H' a xs:=by
  rcases ha with⟨h|⟨u,h⟩,n⟩|h
  ·exact .inl (.inl (k1 _ _ h n))
  ·exact .inl (.inr ⟨u,k1 _ _ h n⟩)
  ·exact .inr h
 refine⟨fun k p hp=>?_,xs,sq,by rw[r.length];exact le_refl _⟩
 obtain⟨v,hv,rv⟩:=r.get hp
 refine⟨⟨xs,v,sq,hv⟩,fun x H3 y=>?_⟩
 obtain⟨e,y⟩:=y
 subst e
 have:=y xs sq
 rw[hv]at this
 cases this
 exact⟨aZ.refl _,rv.aH st⟩
theorem T3 (o:jK O M W L H) (hw:∀a,Wr a->aw W a\/ L a) (ha:TupAt K H a xs) (r:bG K (aT M L) H ps xs):MP K M L Wr H (Itt K a) ps:=by
 intro L' H' k1 k2 k3
 have st:=tW o hw k1 k2 k3
 have sq:nD K H' a xs:=TupAt.sq (ha.elim (fun h=>.inl (k2 _ _ h)) .inr)
 refine⟨fun k p hp=>?_,xs,sq,by rw[r.length];exact le_refl _⟩
 obtain⟨v,hv,rv⟩:=r.get hp
 refine⟨⟨xs,v,sq,hv⟩,fun x H3 y=>?_⟩
 obtain⟨e,y⟩:=y
 subst e
 have:=y xs sq
 rw[hv]at this
 cases this
 exact⟨aZ.refl _,rv.aH st⟩
theorem VA {z:Str}:MP K M L Wr H (YS z) (z.cps.toList.map fun c=>.str ⟨#[c]⟩):=by
 intro L' H' k1 k2 k3
 refine⟨fun k p hp=>?_,by simp[YS]⟩
 rw[getElem?_map]at hp
 cases c:z.cps.toList[k]? with
 |none=>rw[c]at hp;cases hp
 |some d=>
  rw[c]at hp
  cases hp
  have hk:k<z.cps.size:=by simpa using(List.getElem?_eq_some_iff.mp c).1
  refine⟨hk,fun x H3 y=>?_⟩
  obtain⟨e,d',h1,h2⟩:=y
  subst e h2
  rw[<-getElem?_toList,c]at h1
  cases h1
  exact⟨aZ.refl _,.str _⟩
theorem WT (h:Ref K t f):tE K (VE K t) (sT f):=by
 intro st O M W L σ H e e' ps R o he hf q
 obtain⟨x,e1,f1,hf⟩:=aL hf
 refine h O M W L σ H e e1 x _ o he f1 fun v H1 k1 rb fr=>?_
 have o1:=o.keep k1.b9
 have en:=rb.en o1
 have vals:∀p,Rep K (aT M L) H1 p v->gP p=some ps->e1=e'->(∃a,v= .ref a/\(∃xs,iR K H1 a xs)/\R (Itl K a) H1)\/ ((∃a,v= .ref a/\(∃xs,nD K H1 a xs)/\R (Itt K a) H1)\/ ∃z,v= .str z/\R (YS z) H1):=fun p hp hi ee=>by
  subst ee
  cases hp with
  |lst ha n r=>
   cases hi
   exact .inl ⟨_,rfl,⟨_,.inl ha⟩,q _ H1 k1 en fun Wr hw _=>o7 o1 hw (.inl ⟨ha,fun z=>n ((hw _ z).elim (fun⟨i,w⟩=>.inl (o.wm i _ w)) .inr)⟩) r⟩
  |tup ha r=>
   cases hi
   exact .inr (.inl ⟨_,rfl,⟨_,ha.sq⟩,q _ H1 k1 en fun Wr hw _=>T3 o1 hw ha r⟩)
  |str z=>
   cases hi
   exact .inr (.inr ⟨z,rfl,q _ H1 k1 en fun Wr hw _=>VA⟩)
  |_=>cases hi
 cases x with
 |val p=>
  obtain⟨ps',g,hf⟩:=aF hf
  cases hf
  exact vals p rb.2 g rfl
 |new p=>
  obtain⟨ps',g,hf⟩:=aF hf
  cases hf
  exact vals p (rb.weak o1).2 g rfl
 | slot i=>
  dsimp only at hf
  cases c:e1[i]? with
  |none=>rw[c]at hf;cases hf
  | some s=>
   cases s with
   |none=>rw[c]at hf;cases hf
   | some s=>
    rw[c]at hf
    obtain⟨u,hu,sr⟩:=rb.1.at' i s c
    have:=rb.2
    rw[hu]at this
    cases this
    cases s with
    |val p=>cases hf
    |bor p=>
     obtain⟨ps',g,hf⟩:=aF hf
     cases hf
     obtain⟨a,rfl,lt⟩:=sr
     cases lt with
     |lst ha od n m r=>cases g;exact .inl ⟨a,rfl,⟨_,.inl ha⟩,q _ H1 k1 en fun Wr hw _=>o7 o1 hw (.inl ⟨ha,fun z=>(hw _ z).elim n m⟩) r⟩
     |dF ha r=>cases g;exact .inl ⟨a,rfl,⟨_,.inr ha⟩,q _ H1 k1 en fun Wr hw _=>o7 o1 hw (.inr ha) r⟩
     |a9 ha od n m kk r=>cases g
    |own p=>
     obtain⟨hst,hf⟩:=aK hf
     obtain⟨ps',g,hf⟩:=aF hf
     cases hf
     obtain⟨a,rfl,w,ct⟩:=sr
     cases ct with
     |lst ha r=>cases g;exact .inl ⟨a,rfl,⟨_,iR.of ha⟩,q _ H1 k1 en fun Wr hw hs=>o7 o1 hw (.inl ⟨.inl ha,hs i a _ hst c rfl hu⟩) r⟩
     |a9 ha kk r=>cases g
    |loc p=>
     obtain⟨hst,hf⟩:=aK hf
     obtain⟨ps',g,hf⟩:=aF hf
     cases hf
     obtain⟨a,rfl,w,ct⟩:=sr
     cases ct with
     |lst ha r=>cases g;exact .inl ⟨a,rfl,⟨_,iR.of ha⟩,q _ H1 k1 en fun Wr hw hs=>o7 o1 hw (.inl ⟨.inl ha,hs i a _ hst c rfl hu⟩) r⟩
     |a9 ha kk r=>cases g
theorem JZ {lo:Int}:MP K M L Wr H (YR lo n) ((List.range n).map fun k:Nat=>.int (lo+(k:Int))):=by
 intro L' H' k1 k2 k3
 refine⟨fun k p hp=>?_,by simp[YR]⟩
 rw[getElem?_map]at hp
 by_cases hk:k<n
 ·rw[List.getElem?_range hk]at hp
  cases hp
  refine⟨hk,fun x H3 y=>?_⟩
  obtain⟨e,y⟩:=y
  subst e y
  exact⟨aZ.refl _,.int _⟩
 ·rw[List.getElem?_eq_none (by simpa using hk)]at hp
  cases hp
noncomputable def ac9 (fa:FA):FI:=fun _ e=>bE (fa e) fun bs e1=>match bs with
 |[.val (.tup ps)]=>some (ps.zipIdx.map fun z=>.tup [.int (z.2:Int),z.1],e1)
 |_=>none
end
section
variable {K:Frag}
theorem P2 {f:FN} {Q:VK} {E:XK} (hf:∀ns:List Int,ns.length<=63->f [.lst (ns.map PV.int)]=some (.bl true,[])) (h:z4 K vs H Q E):RY K [.b] false f vs H Q E:=by
 obtain⟨a,ns,rfl,hS,hl,q⟩:=h
 have rl:∀(Z:aI) (ms:List Int),bG K Z H (ms.map PV.int) (ms.map V.int):=fun Z ms=>by
  induction ms with
  |nil=>exact .nil
  |cons m ms ih=>exact .cons (.int m) ih
 refine⟨cR,[.lst (ns.map PV.int)],.bl true,[],fun a z=>z.elim,rfl,rfl,fun i k p v h1 h2 h3=>?_,fun i j hij h1 h2=>?_,fun i a ⟨h1,_⟩=>?_,hf ns hl,fun v H' k r=>?_⟩
 ·cases i with
  | zero=>
   cases h1
   cases h2
   cases h3
   have nw:¬aw (oI [.b] [.ref a] H) a:=fun⟨i,h,_⟩=>by
    cases i with
    |zero=>cases h
    |succ i=>simp at h
   rcases hS with h|h
   ·refine⟨a,rfl,.lst h ?_ nw (fun z=>z) (rl _ ns)⟩
    rcases h with h|⟨u,h⟩
    ·show H a≠none
     rw[h];exact fun z=>nomatch z
    ·show H a≠none
     rw[h];exact fun z=>nomatch z
   ·exact⟨a,rfl,.dF h (rl _ ns)⟩
  |succ i=>simp at h1
 ·cases i with
  |zero=>cases h1
  |succ i=>simp at h1
 ·cases i with
  |zero=>cases h1
  |succ i=>simp at h1
 ·obtain⟨r,_⟩:=r
  cases r
  exact q H'
noncomputable def kdOf:PV->Option L2.Kd
 | .aY=>some .aY
 | .bl _=>some .bl
 | .int _=>some .int
 | .str _=>some .str
 | .lst _=>some .lst
 | .tup _=>some .tup
 | .a9 _=>some .a9
 | .ty _=>none
noncomputable def IP (k:L2.Kd):String->Option Bool
 |"str"=>some (decide (k= .str))
 |"tuple"=>some (decide (k= .tup))
 |"int"=>some (decide (k= .int)||decide (k= .bl))
 |"bool"=>some (decide (k= .bl))
 |_=>none
theorem K6 {k:L2.Kd} {T:String} {b:Bool} (h:IP k T=some b):kitOne K (.type k.nm) (.type T)=some b:=by
 unfold IP at h
 split at h
 ·cases h;exact UE k
 ·cases h;exact WC k
 ·cases h;exact XU k
 ·cases h;exact Q6 k
 ·cases h
noncomputable def RZ (K:Frag):List V->Hp->VK->Prop:=fun xs H Q=>∃p x T k b,xs=[x,.ty T]/\Red K cR H p x/\kdOf p=some k/\IP k T=some b/\Q (.bl b) H
theorem ZH (K:Frag) (hK:X.K=K:=by rfl):cD X (.builtin "isinstance") (RZ K):=by
 subst hK
 intro pins s σ H xs us Q I r h
 obtain⟨p,x,T,k,b,rfl,hp,hk,hT,q⟩:=h
 obtain⟨u,u',rfl,rx,ry⟩:=vals2 r
 cases ry
 have e:=K6 (K:=X.K) hT
 have fin:∀tk,EP X pins σ Q (.bool b) {s with toks:=tk}:=fun tk=>⟨.bl b,H,I.tok tk,rfl,q⟩
 cases p with
 |aY=>cases hk;have:=hp.aY;subst this;cases(show u=Value.none from rx);exact kia_one PySem.W.kitx_none I.HU True.intro e (fun z=>nomatch z) fin
 |bl y=>cases hk;have:=hp.bl;subst this;cases(show u=Value.bool y from rx);exact kia_one PySem.W.kitx_bool I.HU True.intro e (fun z=>nomatch z) fin
 |int i=>cases hk;have:=hp.int;subst this;obtain⟨t,q⟩:=(show∃t,u=Value.int i t from rx);cases q;exact kia_one PySem.W.kitx_int I.HU True.intro e (fun z=>nomatch z) fin
 |str y=>cases hk;have:=hp.str;subst this;obtain⟨t,q⟩:=(show∃t,u=Value.str y t from rx);cases q;exact kia_one PySem.W.kitx_str I.HU True.intro e (fun z=>nomatch z) fin
 |ty y=>cases hk
 |tup ps=>
  cases hk
  obtain⟨a,xs,rfl,ha,_⟩:=hp.tup
  cases(show u=Value.ref a from rx)
  obtain⟨its,_,⟨o,h1,h2,_⟩,_⟩:=I.tuple ha.sq
  exact kia_one PySem.W.kitx_tuple I.HU ⟨o,h1,h2⟩ e (fun z=>nomatch z) fin
 |lst ps=>
  cases hk
  obtain⟨a,xs,rfl,ha,_⟩:=hp.m6
  cases(show u=Value.ref a from rx)
  obtain⟨its,_,pl,_⟩:=I.list ha.sq
  obtain⟨o,h1,h2,_⟩:=pl.isList
  exact kia_one PySem.W.kitx_list I.HU ⟨o,h1,h2⟩ e (fun z=>nomatch z) fin
 |a9 kvs=>
  cases hk
  obtain⟨a,ys,rfl,ha,_,_⟩:=hp.rB
  cases(show u=Value.ref a from rx)
  obtain⟨_,_,vs,_,pd⟩:=gU I.bN ha
  obtain⟨o,es,ep,h1,h2,_⟩:=pd
  exact kia_one PySem.W.kitx_dict I.HU ⟨o,h1,h2.1⟩ e (fun z=>nomatch z) fin
noncomputable def y6:List PV->Option Bv
 |[p,.ty n]=>bO (kdOf p) fun k=>bO (IP k n) fun b=>some (.val (.bl b))
 |_=>none
theorem KS:fX K (RZ K) y6:=by
 intro Z H vs ps b Q hp h k
 unfold y6 at h
 split at h
 ·rename_i p n
  obtain⟨c,g,h⟩:=aF h
  obtain⟨d,g2,h⟩:=aF h
  cases h
  obtain⟨v,u,rfl,hv,hu⟩:=hp.two
  have eu:=hu.ty
  subst eu
  exact⟨p,v,n,c,d,rfl,hv.any,g,g2,k _ H (aZ.refl _) (Rep.bl _)⟩
 ·cases h
noncomputable def XF:PV->List PV->Option Bv
 | .str z,[]=>aN (decide (z.length<1000000)) (some (.val (.str (Txt.lower z))))
 |_,_=>none
noncomputable def TZ:PV->List PV->Option Bv
 | .str z,[]=>aN (decide (z.length<1000000)) (some (.val (.str (Txt.upper z))))
 |_,_=>none
noncomputable def RO:PV->List PV->Option Bv
 | .str z,[.str y]=>some (.val (.bl (Txt.startswith z y)))
 |_,_=>none
noncomputable def Z6:PV->List PV->Option Bv
 | .str z,[.str y]=>some (.val (.bl (Txt.endswith z y)))
 |_,_=>none
noncomputable def WB:PV->List PV->Option Bv
 | .str z,[.str y]=>aN (decide (z.length<1000000)) (some (.val (.str (Txt.stripChars z y))))
 |_,_=>none
noncomputable def PU:PV->List PV->Option Bv
 | .str z,[.str y]=>match Builtin.Str.occurrences z y 0 z.length 1 with
  |i::_=>some (.val (.int i))
  |[]=>none
 |_,_=>none
noncomputable def Y3:PV->List PV->Option Bv
 | .str z,[.str y]=>aN (decide (z.length<1000000) && !(y.length==0)) (some (.val (.tup [.str (Txt.partition z y).1,.str (Txt.partition z y).2.1,.str (Txt.partition z y).2.2])))
 |_,_=>none
noncomputable def Q0:PV->List PV->Option Bv
 | .str z,[.str y]=>if y=Str.ofString " "then aN (decide (z.length<1000000)) (some (.new (.lst ((Txt.split z y).map PV.str))))else none
 |_,_=>none
noncomputable def HZ:List PV->Option (List Bool)
 |[]=>some []
 | .bl x::ps=>bO (HZ ps) fun xs=>some (x::xs)
 |_=>none
theorem JS (xs:List Bool):HZ (xs.map PV.bl)=some xs:=by
 induction xs with
 |nil=>rfl
 |cons x xs ih=>rw[map_cons,HZ,ih];rfl
theorem bG.bls:∀{ps:List PV} {xs:List Bool} {vs:List V},HZ ps=some xs->bG K Z H ps vs->vs=J2 xs
 |[],xs,vs,g,h=>by cases g;cases h;rfl
 | p::ps,xs,vs,g,h=>by
  cases p with
  |bl x=>
   obtain⟨ys,g1,g⟩:=aF g
   cases g
   cases h with|cons h r=>cases h;rw[bG.bls g1 r];rfl
  |_=>cases g
noncomputable def PJ:List PV->Option Bv
 |[.lst ps]=>bO (HZ ps) fun bs=>some (.val (.bl (bs.all id)))
 |_=>none
theorem JC:fX K (aaR K) PJ:=by
 intro Z H vs ps b Q hp h k
 unfold PJ at h
 split at h
 ·obtain⟨bs,g,h⟩:=aF h
  cases h
  obtain⟨v,rfl,hv⟩:=hp.one
  obtain⟨a,xs,rfl,ha,ra⟩:=hv.m6
  have e:=ra.bls g
  subst e
  exact⟨a,bs,rfl,ha.sq,k _ H (aZ.refl _) (Rep.bl _)⟩
 ·cases h
noncomputable def acL:List PV->Option Bv
 |[.lst ps]=>bO (HZ ps) fun bs=>some (.val (.bl (bs.any id)))
 |_=>none
noncomputable def U5 (g g':PV->PV->Option Bv) (fa fb fc:FE):FE:=fun e=>bE (fa e) fun x e1=>bE (fb e1) fun y e2=>bO (x.weak.get e2) fun p=>bO (y.weak.get e2) fun q=>bO (g p q) fun b=>match b with
 | .val (.bl true)=>bE (fc e2) fun z e3=>bO (y.weak.get e3) fun q'=>bO (z.weak.get e3) fun r=>bO (g' q' r) fun b'=>some (b',e3)
 | .val (.bl false)=>some (.val (.bl false),e2)
 |_=>none
noncomputable def UI:PV->Option Bool
 | .aY=>some false
 | .bl b=>some b
 | .int i=>some (i !=0)
 | .str y=>aN (decide (y.length<1000000)) (some ((y.length:Int) !=0))
 | .lst ps=>some (!ps.isEmpty)
 | .tup ps=>some (!ps.isEmpty)
 |_=>none
noncomputable def NW (f:FE):FT:=fun e=>bE (f e) fun b e1=>bO (b.weak.get e1) fun p=>bO (UI p) fun c=>some (c,e1)
theorem bG.empty (r:bG K Z H ps xs):ps.isEmpty=xs.isEmpty:=by cases r<;>rfl
theorem O5 (h:Ref K t f):jX K (fun σ H Q=>t σ H fun x H'=>∃k,P1 K x H' k/\Q k H') (NW f):=by
 intro O M W L σ H e e' b Q o he hf q
 obtain⟨x,e1,f1,hf⟩:=aL hf
 obtain⟨p,g1,hf⟩:=aF hf
 obtain⟨c,g2,hf⟩:=aF hf
 cases hf
 refine h O M W L σ H e _ _ _ o he f1 fun v1 H1 k1 r1 fr=>?_
 have o1:=o.keep k1.b9
 have en:=r1.en o1
 have rd:=(r1.rv o1).red en g1
 refine⟨b,?_,q H1 k1 en⟩
 cases p with
 |aY=>cases g2;rw[rd.aY];rfl
 |bl y=>cases g2;rw[rd.bl];rfl
 |int y=>cases g2;rw[rd.int];rfl
 |str y=>obtain⟨c,g2⟩:=aK g2;cases g2;rw[rd.str];exact⟨le_of_lt (iE c),rfl⟩
 |lst ps=>cases g2;obtain⟨a,xs,rfl,ha,ra⟩:=rd.m6;exact .inl ⟨xs,ha.sq,by rw[ra.empty]⟩
 |tup ps=>cases g2;obtain⟨a,xs,rfl,ha,ra⟩:=rd.tup;exact .inr (.inl ⟨xs,ha.sq,by rw[ra.empty]⟩)
 |ty y=>cases g2
 |a9 y=>cases g2
end
theorem u4 (K:Frag) {a:Expr} {ta:TE} (ha:PE X a ta) (he:∀whole,isTrue a X.env whole=(do let v<-whole;standAt a.pos;holding [v] (truthy v))) (hK:X.K=K:=by rfl):
  PT X a (fun σ H Q=>ta σ H fun x H'=>∃k,P1 K x H' k/\Q k H'):=by subst hK;exact K1 ha he
theorem F6 {K:Frag} {wi:TI} {g:TG} {tt:TT} {te:TE} {fi:FI} {cH:List Nat} (ms:List (Nat×Nat)) {fg:FG} {ft:FT} {fe:FE} (hms:(ms.all fun z=>ms.all fun z'=>(z.1==z'.1)==(z.2==z'.2))=true) (hi:tE K wi fi) (hg:wM K g fg) (ht:jX K tt ft) (he:Ref K te fe):Ref K (wG wi k cH g tt te) (fN fi k cH ms fg ft fe):=by
 have key:∀z∈ms,∀z'∈ms,(z.1==z'.1)=(z.2==z'.2):=fun z hz z' hz'=>by
  have:=all_eq_true.mp (all_eq_true.mp hms z hz) z' hz'
  simpa using this
 refine LS ms (fun i j1 j2 h1 h2=>?_) (fun i1 i2 j h1 h2=>?_) hi hg ht he
 ·have:=key _ h1 _ h2
  simpa using this
 ·have:=key _ h1 _ h2
  simpa using this
theorem V9 (i:Nat) (e:En):aC i e=(match e[i]? with
 |some (some (.val p))=>some (.val p,e)
 |some (some _)=>some (.slot i,e)
 |_=>none):=rfl
theorem ac6 (p:PV) (e:En):fC p e=some (.val p,e):=rfl
theorem ZX (g:PV->PV->Option Bv) (fa fb:FE) (e:En):bC g fa fb e=bE (fa e) fun x e1=>bE (fb e1) fun y e2=>bO (x.weak.get e2) fun p=>bO (y.weak.get e2) fun q=>bO (g p q) fun b=>some (b,e2):=rfl
theorem aa7 (g:PV->Option Bv) (fa:FE) (e:En):fUn g fa e=bE (fa e) fun x e1=>bO (x.weak.get e1) fun p=>bO (g p) fun b=>some (b,e1):=rfl
theorem S4 (e:En):aM e=some ([],e):=rfl
theorem N4 (fa:FE) (fr:FA) (e:En):aB fa fr e=bE (fa e) fun x e1=>bE (fr e1) fun xs e2=>some (x.weak::xs,e2):=rfl
theorem ZP (g:List PV->Option Bv) (fa:FA) (e:En):kA g fa e=bE (fa e) fun xs e1=>bO (getL e1 xs) fun ps=>bO (g ps) fun b=>some (b,e1):=rfl
theorem ZZ (g:PV->List PV->Option Bv) (fo:FE) (fa:FA) (e:En):fBM g fo fa e=(bE (fo e) fun x e0=>match x with
 | .val (.str z)=>bE (fa e0) fun xs e1=>bO (getL e1 xs) fun ps=>bO (g (.str z) ps) fun b=>some (b,e1)
 |_=>none):=rfl
theorem UP (g:PV->List PV->Option Bv) (fo:FE) (e:En):acU g fo e=(bE (fo e) fun x e0=>match x with
 | .val (.str z)=>bO (g (.str z) []) fun b=>some (b,e0)
 |_=>none):=rfl
theorem UJ (fa:FA) (e:En):eV fa e=bE (fa e) fun xs e1=>bO (putL xs) fun ps=>aN (decide (ps.length<1000000)) (some (.val (.tup ps),e1)):=rfl
theorem VM (fa:FA) (e:En):gY fa e=bE (fa e) fun xs e1=>bO (putL xs) fun ps=>aN (decide (ps.length<1000000)) (some (.new (.lst ps),e1)):=rfl
theorem QE (f:FE) (e:En):bK f e=(bE (f e) fun b e1=>match b with
 | .val (.bl c)=>some (c,e1)
 |_=>none):=rfl
theorem W5 (f g:FT) (e:En):uS f g e=bE (f e) fun b e1=>bB b (g e1) (some (false,e1)):=rfl
theorem ZM (f g:FT) (e:En):VD f g e=bE (f e) fun b e1=>bB b (some (true,e1)) (g e1):=rfl
theorem WG (f:FT) (e:En):GY f e=bE (f e) fun b e1=>some (!b,e1):=rfl
theorem QB (e:En):eR e=some (true,e):=rfl
theorem P9 (fa fb:FE) (e:En):AL fa fb e=bE (fa e) fun b e1=>bO (wQ b) fun c=>bB c (fb e1) (some (.val (.bl false),e1)):=rfl
theorem U0 (fa fb:FE) (e:En):acS fa fb e=bE (fa e) fun b e1=>bO (wQ b) fun c=>bB c (some (.val (.bl true),e1)) (fb e1):=rfl
theorem Q8 (fa:FE) (e:En):Z1 fa e=bE (fa e) fun b e1=>bO (wQ b) fun c=>some (.val (.bl (!c)),e1):=rfl
theorem ZG (fc:FT) (fa fb:FE) (e:En):SD fc fa fb e=bE (fc e) fun b e1=>bB b (fa e1) (fb e1):=rfl
theorem HC (e:En):fH e=some (none,e):=rfl
theorem RK (f:FE) (e:En):l4 f e=(bE (f e) fun b e1=>match b with
 | .val (.int i)=>some (some i,e1)
 |_=>none):=rfl
theorem Z0 (g:PV->Option Int->Option Int->Option Bv) (fa:FE) (fl fh:FO) (e:En):IM g fa fl fh e=bE (fa e) fun x e1=>bE (fl e1) fun lo e2=>bE (fh e2) fun hi e3=>bO (x.weak.get e3) fun p=>bO (g p lo hi) fun b=>some (b,e3):=rfl
theorem NZ (e:En):dA e=some (.nx e):=rfl
theorem JO (e:En):S9 e=some (.bk e):=rfl
theorem QQ (e:En):aa2 e=some (.ct e):=rfl
theorem VX (f:FE) (e:En):cX f e=bE (f e) fun b e1=>some (.rt b e1):=rfl
theorem O4 (e:En):aa8 e=some (.rt (.val .aY) e):=rfl
theorem OX (f:FE) (e:En):ZV f e=bE (f e) fun b e1=>some (.nx e1):=rfl
theorem Y0 (fc:FT) (f g:FS) (e:En):rO fc f g e=bE (fc e) fun b e1=>bB b (f e1) (g e1):=rfl
theorem XB (i:Nat) (f:FE) (e:En):bX i f e=(bE (f e) fun b e1=>match b with
 | .val p=>some (.nx (e1.set i (some (.val p))))
 | .new p=>some (.nx (e1.set i (some (.val p))))
 | .slot j=>match e1[j]? with
  |some (some (.bor p))=>some (.nx (e1.set i (some (.bor p))))
  |_=>none):=rfl
theorem OK (i:Nat) (f:FE) (e:En):fO i f e=(bE (f e) fun b e1=>match b with
 | .new p=>some (.nx (e1.set i (some (.loc p))))
 |_=>none):=rfl
theorem WZ (i:Nat) (f:FS) (e:En):UC i f e=bO (rel i e) f:=rfl
theorem V6 (i:Nat) (f:FE) (e:En):wO i f e=(bO (ownAt e i) fun p0=>match p0 with
 | .lst _=>bE (f e) fun b e1=>bO b.put fun p=>match ownAt e1 i with
  |some (.lst ps)=>aN (decide (ps.length<1000000)) (some (.nx (bZ e1 i (.lst (ps++[p])))))
  |_=>none
 |_=>none):=rfl
theorem MY (i:Nat) (fi fv:FE) (e:En):xE i fi fv e=(bE (fv e) fun b e1=>bO b.put fun p=>bO (ownAt e1 i) fun _=>bE (fi e1) fun k e2=>match k with
 | .val (.int k)=>match ownAt e2 i with
  |some (.lst ps)=>bO (rY ps.length k) fun j=>some (.nx (bZ e2 i (.lst (ps.set j p))))
  |_=>none
 |_=>none):=rfl
theorem PC (i:Nat) (fk fv:FE) (e:En):eZ i fk fv e=(bE (fv e) fun b e1=>bO b.put fun p=>bO (ownAt e1 i) fun _=>bE (fk e1) fun k e2=>bO (k.weak.get e2) fun kp=>bO (keyOf kp) fun key=>match ownAt e2 i with
  |some (.a9 kvs)=>aN (decide (kvs.length<1000000)) (some (.nx (bZ e2 i (.a9 (fM kvs key p)))))
  |_=>none):=rfl
theorem ME (i:Nat) (p:PV) (e:En):aR i p e=some (e.set i (some (.val p))):=rfl
theorem QU (ps:List PV) (e:En):j7 ps e=match ps with|[]=>some e|_=>none:=rfl
theorem K9 (f:FG) (g:FU) (ps:List PV) (e:En):cJ f g ps e=match ps with|p::ps=>bO (f p e) (g ps)|[]=>none:=rfl
theorem O3 (n:Nat) (f:FU) (p:PV) (e:En):j6 n f p e=(match p with
 | .tup ps=>aN (decide (ps.length=n)) (f ps e)
 |_=>none):=rfl
theorem T4 (f:FE) (fg:FG) (e:En):S5 f fg e=bE (f e) fun b e1=>bO b.put fun p=>bO (fg p e1) fun e2=>some (.nx e2):=rfl
theorem TQ (i j:Nat) (fa:FA) (e:En):acH i j fa e=(bE (fa e) fun bs e1=>bO (putL bs) fun ps=>match ps with
 |[p,q]=>some (.nx ((e1.set i (some (.val p))).set j (some (.val q))))
 |_=>none):=rfl
theorem ZF (f:FE) (st:Nat->Bool) (e:En):sT f st e=(bE (f e) fun b e1=>match b with
 | .slot i=>match e1[i]? with
  |some (some (.bor p))=>bO (gP p) fun ps=>some (ps,e1)
  |some (some (.own p))=>aN (st i) (bO (gP p) fun ps=>some (ps,e1))
  |some (some (.loc p))=>aN (st i) (bO (gP p) fun ps=>some (ps,e1))
  |_=>none
 | .val p=>bO (gP p) fun ps=>some (ps,e1)
 | .new p=>bO (gP p) fun ps=>some (ps,e1)):=rfl
theorem VH (fa:FA) (st_:Nat->Bool) (e:En):ac9 fa st_ e=(bE (fa e) fun bs e1=>match bs with
 |[.val (.tup ps)]=>some (ps.zipIdx.map fun z=>.tup [.int (z.2:Int),z.1],e1)
 |_=>none):=rfl
theorem MZ (g g':PV->PV->Option Bv) (fa fb fc:FE) (e:En):U5 g g' fa fb fc e=(bE (fa e) fun x e1=>bE (fb e1) fun y e2=>bO (x.weak.get e2) fun p=>bO (y.weak.get e2) fun q=>bO (g p q) fun b=>match b with
 | .val (.bl true)=>bE (fc e2) fun z e3=>bO (y.weak.get e3) fun q'=>bO (z.weak.get e3) fun r=>bO (g' q' r) fun b'=>some (b',e3)
 | .val (.bl false)=>some (.val (.bl false),e2)
 |_=>none):=rfl
theorem XD (f:FE) (e:En):NW f e=bE (f e) fun b e1=>bO (b.weak.get e1) fun p=>bO (UI p) fun c=>some (c,e1):=rfl
theorem OC (e:En):nE e=some (.new (.a9 []),e):=rfl
end Mr
namespace L2
open PySem PySem.Spec PyProof.Rows
variable {a:Expr} {p pos:Pos} {ta:TA}
noncomputable def YW (K:Frag) (a:Addr):It:=
 ⟨fun i H=>∃xs x,iR K H a xs/\xs[i]? =some x,fun i H v H'=>∃t,H t=none/\v= .ref t/\∀xs,iR K H a xs->∃x,xs[i]? =some x/\H'=upd H t (.tup [.int i,x]),fun i H=>∃xs,iR K H a xs/\xs.length=i⟩
theorem CG {P:Program} {w:World} {K:Frag} {elts:List Expr} {x1} (a it e:Addr) (hei:e≠it):Turn P w K (.Tuple elts x1 pos) (YW K a) [e,it] e (fun i h=>(∃old,IsEnum h e it i old)/\h.IsListIter it a i)where
 mem:=by simp
 obj:=fun i h st b hb=>by
  obtain⟨⟨old,he⟩,o,ho,c,d⟩:=st
  rcases mem_cons.mp hb with z|z
  ·subst z;exact⟨_,he,fun v z=>by cases z⟩
  ·have z:b=it:=by simpa using z
   subst z;exact⟨o,ho,fun v z=>by rw[d]at z;cases z⟩
 keep:=fun i h h' st k=>⟨let⟨old,he⟩:=st.1;⟨old,k e (by simp) _ he⟩,st.2.at fun o q=>k it (by simp) o q⟩
 item:=by
  intro X hP hw hK hc i pins s σ H E I hf st hg
  subst hP hw hK
  obtain⟨xs,x,hq,hx⟩:=hg
  obtain⟨its,rv,p,hz⟩:=I.list hq
  obtain⟨u,hu,ru⟩:=rv.get hx
  obtain⟨⟨old,he⟩,ht⟩:=st
  have hne:a≠it:=fun z=>by
   obtain⟨o,ho,c,_⟩:=ht
   obtain⟨o',_,ho',c',_,_⟩:=p
   subst z
   rw[ho]at ho';cases ho'
   rw[c]at c'
   exact absurd (Value.type.inj c') (by decide)
  have hae:a≠e:=fun z=>by
   obtain⟨o',_,ho',c',_,_⟩:=p
   subst z
   rw[he]at ho';cases ho'
   exact absurd (Value.type.inj c') (by decide)
  have hlt:i<its.toArray.size:=by have:=(List.getElem?_eq_some_iff.mp hu).1;simpa using this
  refine wpAny_pyNext_enum_itemD (Draws.list (A:=X.A.in1) (by exact I.ok.hd hc) it a hne its.toArray) he ⟨ht,p.isList⟩ hlt hei (by simp[hei,Ne.symm hae]) fun v h' tk hPv ho' st' htup hsz hk=>?_
  have ev:v=u:=by
   have h1:its[i]? =some v:=by simpa using hPv
   rw[hu]at h1;exact(Option.some.inj h1).symm
  subst ev
  refine⟨_,rfl,wpAny_letOwnedTupleGo_enum (s:={s with heap:=h',toks:=tk+1}) ho' fun h2 he2 sb=>?_⟩
  have hTe:s.heap.objs.size≠e:=fun z=>by
   have:=lt_size he;rw[<-z]at this;exact lt_irrefl _ this
  have hTi:s.heap.objs.size≠it:=fun z=>by
   obtain⟨o,ho,_⟩:=ht
   have:=lt_size ho;rw[<-z]at this;exact lt_irrefl _ this
  have hk2:∀b o,b∉[e,it]->s.heap.get? b=some o->h2.get? b=some o:=fun b o hb q=>
   sb.extBut b o (fun z=>hb (by simp[z])) (hk b o (fun z=>hb (by simp[z])) (fun z=>hb (by simp[z])) q)
  have I1:Inv X pins σ H {s with heap:=h2,toks:=tk+1}:=I.EM hk2 hf
  have hfr:H s.heap.objs.size=none:=I.bN.fresh (le_refl _)
  have htup2:h2.get? s.heap.objs.size=some {cls:=.type "tuple",data:=.seq #[.int i tk,v]}:=sb.extBut _ _ hTe htup
  have I2:Inv X pins σ (upd H s.heap.objs.size (.tup [.int i,x])) {s with heap:=h2,toks:=tk+1}:=by
   refine I.un2 hk2 hf hfr (by simp[hTe,hTi]) ⟨by show 2<=sizeLine;decide,[.int i tk,v],.cons ⟨_,rfl⟩ (.cons ru .nil),pP.of htup2⟩ (fun b hb o q=>?_)
   rcases mem_cons.mp hb with r|r
   ·subst r;exact⟨_,he2⟩
   ·have r:b=it:=by simpa using r
    subst r
    obtain⟨o',ho',_⟩:=st'.1.extBut sb.extBut (Ne.symm hei)
    exact⟨o',ho'⟩
  refine⟨.ref s.heap.objs.size,_,I2,rfl,⟨s.heap.objs.size,hfr,rfl,fun ys hy=>⟨x,by rw[I.AQ hy hq];exact hx,rfl⟩⟩,⟨⟨_,he2⟩,st'.1.extBut sb.extBut (Ne.symm hei)⟩,fun b hb=>?_⟩
  have hbT:b≠s.heap.objs.size:=fun z=>by
   rcases mem_cons.mp hb with r|r
   ·exact hTe (z▸r)
   ·have r:b=it:=by simpa using r
    exact hTi (z▸r)
  rw[aS hbT]
  exact(hf b hb).1
 done:=by
  intro X hP hw hK hc i pins s σ H E I hf st hg
  subst hP hw hK
  obtain⟨xs,hq,hx⟩:=hg
  obtain⟨its,rv,p,hz⟩:=I.list hq
  obtain⟨⟨old,he⟩,ht⟩:=st
  have hl:=rv.length
  have hne:a≠it:=fun z=>by
   obtain⟨o,ho,c,_⟩:=ht
   obtain⟨o',_,ho',c',_,_⟩:=p
   subst z
   rw[ho]at ho';cases ho'
   rw[c]at c'
   exact absurd (Value.type.inj c') (by decide)
  have ei:(i:Nat)=its.toArray.size:=by simp;omega
  subst ei
  obtain⟨f0,f1,f2,f3,f4,f5⟩:=hf it (by simp)
  exact wpAny_pyNext_enum_endD (Draws.list (A:=X.A.in1) (by exact I.ok.hd hc) it a hne its.toArray) he ⟨ht,p.isList⟩ fun h' eb=>⟨rfl,I.turned (t':=s.toks) (fun b o hb e=>eb b o hb e) f0 f1 f3 f4 f5⟩
 self:=fun _ _ _ _ _ st h=>let⟨_,he⟩:=st.1;wpAny_pyIter_enum he h
section
variable {X:Cx} {elts:List Expr} {x1:Nat} {tpos:Pos}
noncomputable def xG (K:Frag) (ta:TA):TI:=fun σ H R=>ta σ H fun vs H1=>(∃a xs,vs=[.ref a]/\nD K H1 a xs/\R (Ite K a) H1)\/ ∃a xs,vs=[.ref a]/\iR K H1 a xs/\R (YW K a) H1
theorem MG (hg:Gl X "enumerate") (hm:X.mg "enumerate"=none) (ha:PA X [a] ta) (hs:starEach [a] X.env=[(false,eval a X.env)]:=by rfl):PI X (.Tuple elts x1 tpos) (.Call (.Name "enumerate" p) [a] [] pos) (xG X.K ta):=by
 intro pins s σ H R I h
 refine Call_ (qE I hg hm wR (PyProof.Rows.callWith_type1 (cM (ha pos pins s σ H _ I h) fun us s1 ⟨vs,H1,I1,r1,q1⟩=>?_) hs rfl))
 rcases q1 with⟨t,xs,e,hq,q⟩|⟨t,xs,e,hq,q⟩
 ·subst e
  obtain⟨u,rfl,rx⟩:=vals1 r1
  cases rx
  obtain⟨its,rv,pt,hz⟩:=I1.tuple hq
  refine iS (show s1.heap.IsTuple t its.toArray from pt) fun h' he ht hsz hk=>?_
  have I2:Inv X pins σ H1 {s1 with heap:=h'}:=I1.kept (t':=s1.toks) hk
  refine wpAny_pyIter_enum (s:={s1 with heap:=h'}) he ?_
  refine⟨s1.heap.objs.size+1,[s1.heap.objs.size+1,s1.heap.objs.size],_,_,H1,rfl,I2,C0 t s1.heap.objs.size (s1.heap.objs.size+1) (Nat.succ_ne_self _),⟨⟨_,he⟩,ht⟩,fun b hb=>?_,q⟩
  rcases mem_cons.mp hb with r|r
  ·subst r;exact I1.rF (le_succ _) (I1.bN.fresh (le_succ _))
  ·have r:b=s1.heap.objs.size:=by simpa using r
   subst r;exact I1.rF (le_refl _) (I1.bN.fresh (le_refl _))
 ·subst e
  obtain⟨u,rfl,rx⟩:=vals1 r1
  cases rx
  obtain⟨its,rv,pt,hz⟩:=I1.list hq
  refine call_enumerate_list pt.isList fun h' he ht hsz hk=>?_
  have I2:Inv X pins σ H1 {s1 with heap:=h'}:=I1.kept (t':=s1.toks) hk
  refine wpAny_pyIter_enum (s:={s1 with heap:=h'}) he ?_
  refine⟨s1.heap.objs.size+1,[s1.heap.objs.size+1,s1.heap.objs.size],_,_,H1,rfl,I2,CG t s1.heap.objs.size (s1.heap.objs.size+1) (Nat.succ_ne_self _),⟨⟨_,he⟩,ht⟩,fun b hb=>?_,q⟩
  rcases mem_cons.mp hb with r|r
  ·subst r;exact I1.rF (le_succ _) (I1.bN.fresh (le_succ _))
  ·have r:b=s1.heap.objs.size:=by simpa using r
   subst r;exact I1.rF (le_refl _) (I1.bN.fresh (le_refl _))
theorem xT (K:Frag) (hg:Gl X "enumerate") (hm:X.mg "enumerate"=none) (ha:PA X [a] ta) (h:X.K=K:=by rfl) (hs:starEach [a] X.env=[(false,eval a X.env)]:=by rfl):
  PI X (.Tuple elts x1 tpos) (.Call (.Name "enumerate" p) [a] [] pos) (xG K ta):=h▸MG hg hm ha hs
end
end L2
namespace Mr
open PySem PySem.Spec L2 PyProof.Rows
variable {e:En} {fa:FA} {ss:List Str} {a b:Str}
section
variable {K:Frag}
noncomputable def EJ (fa:FA):FI:=fun _ e=>bE (fa e) fun bs e1=>match bs with
 |[.val (.tup ps)]=>some (ps.zipIdx.map fun z=>.tup [.int (z.2:Int),z.1],e1)
 |[.val (.lst ps)]=>some (ps.zipIdx.map fun z=>.tup [.int (z.2:Int),z.1],e1)
 |_=>none
theorem LM {ta:TA} (h:rK K ta fa):tE K (xG K ta) (EJ fa):=by
 intro st O M W L σ H e e' ps R o he hf q
 obtain⟨x,e1,f1,hf⟩:=aL hf
 refine h O M W L σ H e e1 x _ o he f1 fun vs H1 k1 en rv=>?_
 have o1:=o.keep k1.b9
 split at hf
 ·rename_i ps0
  cases hf
  cases rv with
  | cons h r=>
   cases r
   cases h with
   | tup ha ra=>
    rename_i a xs
    refine .inl ⟨a,xs,rfl,ha.sq,q _ H1 k1 en fun Wr hw _=>?_⟩
    intro L' H' j1 j2 j3
    have st:=tW o1 hw j1 j2 j3
    have sq:nD K H' a xs:=TupAt.sq (ha.elim (fun h=>.inl (j2 _ _ h)) .inr)
    refine⟨fun k p hp=>?_,xs,sq,by rw[length_map,length_zipIdx,ra.length]⟩
    rw[getElem?_map,getElem?_zipIdx]at hp
    cases c:ps0[k]? with
    |none=>rw[c]at hp;cases hp
    |some p0=>
     rw[c]at hp
     cases hp
     obtain⟨v,hv,rv⟩:=ra.get c
     refine⟨⟨xs,v,sq,hv⟩,fun x H3 y=>?_⟩
     obtain⟨t,ht,rfl,y⟩:=y
     obtain⟨x',hx',rfl⟩:=y xs sq
     rw[hv]at hx'
     cases hx'
     refine⟨aZ.upd ht,.tup (.inl aW) (.cons ?_ (.cons ((rv.aH st).aH (.same (aZ.upd ht))) .nil))⟩
     rw[zero_add]
     exact .int _
 ·rename_i ps0
  cases hf
  cases rv with
  | cons h r=>
   cases r
   cases h with
   | lst ha n ra=>
    rename_i a xs
    refine .inr ⟨a,xs,rfl,.inl ha,q _ H1 k1 en fun Wr hw _=>?_⟩
    intro L' H' j1 j2 j3
    have st:=tW o1 hw j1 j2 j3
    have nw:¬Wr a:=fun z=>n ((hw _ z).elim (fun⟨i,w⟩=>.inl (o.wm i _ w)) .inr)
    have sq:iR K H' a xs:=by
     rcases ha with h|⟨u,h⟩
     ·exact .inl (.inl (j1 _ _ h nw))
     ·exact .inl (.inr ⟨u,j1 _ _ h nw⟩)
    refine⟨fun k p hp=>?_,xs,sq,by rw[length_map,length_zipIdx,ra.length]⟩
    rw[getElem?_map,getElem?_zipIdx]at hp
    cases c:ps0[k]? with
    |none=>rw[c]at hp;cases hp
    |some p0=>
     rw[c]at hp
     cases hp
     obtain⟨v,hv,rv⟩:=ra.get c
     refine⟨⟨xs,v,sq,hv⟩,fun x H3 y=>?_⟩
     obtain⟨t,ht,rfl,y⟩:=y
     obtain⟨x',hx',rfl⟩:=y xs sq
     rw[hv]at hx'
     cases hx'
     refine⟨aZ.upd ht,.tup (.inl aW) (.cons ?_ (.cons ((rv.aH st).aH (.same (aZ.upd ht))) .nil))⟩
     rw[zero_add]
     exact .int _
 ·cases hf
theorem O9 {st:Nat->Bool}:EJ fa st e=bE (fa e) fun bs e1=>match bs with
 |[.val (.tup ps)]=>some (ps.zipIdx.map fun z=>.tup [.int (z.2:Int),z.1],e1)
 |[.val (.lst ps)]=>some (ps.zipIdx.map fun z=>.tup [.int (z.2:Int),z.1],e1)
 |_=>none:=rfl
end
section
variable {K:Frag}
noncomputable def ZY:PV->PV->Option Bv
 | .tup ps,.int i=>aN (decide (i= -1)) (some (.val (.tup ps.reverse)))
 |_,_=>none
end
section
variable {K:Frag}
noncomputable def abV (i:Nat) (f:FE):FE:=fun e=>bO (ownAt e i) fun p0=>match p0 with
 | .lst _=>bE (f e) fun b e1=>match b with
  | .val (.int k)=>match ownAt e1 i with
   |some (.lst ps)=>aN (decide (-1000000000<=k/\k<1000000000)) (bO (rY ps.length k) fun j=>bO ps[j]? fun p=>some (.val p,bZ e1 i (.lst (ps.eraseIdx j))))
   |_=>none
  |_=>none
 |_=>none
theorem VT {i:Nat} {f:FE}:abV i f e=bO (ownAt e i) fun p0=>match p0 with
 | .lst _=>bE (f e) fun b e1=>match b with
  | .val (.int k)=>match ownAt e1 i with
   |some (.lst ps)=>aN (decide (-1000000000<=k/\k<1000000000)) (bO (rY ps.length k) fun j=>bO ps[j]? fun p=>some (.val p,bZ e1 i (.lst (ps.eraseIdx j))))
   |_=>none
  |_=>none
 |_=>none:=rfl
noncomputable def BU (a b:Str):Prop:=¬b.cps.toList<a.cps.toList
theorem u3 {c:Str} (h:BU a b) (h':BU b c):BU a c:=not_lt.mpr (List.le_trans (not_lt.mp h) (not_lt.mp h'))
theorem KY {a b:Str} (h:BU a b) (h':BU b a):a=b:=by
 have:=List.le_antisymm (not_lt.mp h) (not_lt.mp h')
 exact Str.ext' (by cases a;cases b;simp at this;exact this)
theorem qN:∀{x:Str} {r:List Str},risingS x r=true->(x::r).Pairwise BU
 |x,[],_=>List.pairwise_singleton _ _
 | x,y::r,h=>by
  have h:(!ltCps y.cps.toList x.cps.toList && risingS y r)=true:=h
  rw[and_eq_true]at h
  have ih:=qN h.2
  have hxy:BU x y:=by
   have:=h.1
   rw[ltCps_eq]at this
   simpa [BU]using this
  refine pairwise_cons.mpr ⟨fun z hz=>?_,ih⟩
  rcases mem_cons.mp hz with e|e
  ·rw[e];exact hxy
  ·exact u3 hxy ((pairwise_cons.mp ih).1 z e)
theorem BL {l:List Str} (h:sortedS l=true):l.Pairwise BU:=by
 cases l with
 |nil=>exact .nil
 |cons x r=>exact qN h
theorem mF:∀{a b:List Str},a.Pairwise BU->b.Pairwise BU->a.Perm b->a=b
 |[],b,_,_,p=>(List.Perm.nil_eq p)
 |x::a,[],_,_,p=>absurd p.symm.nil_eq (by simp)
 | x::a,y::b,ha,hb,p=>by
  have hx:=(pairwise_cons.mp ha).1
  have hy:=(pairwise_cons.mp hb).1
  have e:x=y:=by
   rcases mem_cons.mp (p.mem_iff.mp mem_cons_self)with z|z
   ·exact z
   ·rcases mem_cons.mp (p.mem_iff.mpr mem_cons_self)with w|w
    ·exact w.symm
    ·exact KY (hx y w) (hy x z)
  subst e
  rw[mF (pairwise_cons.mp ha).2 (pairwise_cons.mp hb).2 p.cons_inv]
noncomputable def leS (a b:Str):Bool:=!ltCps b.cps.toList a.cps.toList
theorem mQ:leS a b=true↔BU a b:=by
 unfold leS BU
 rw[ltCps_eq]
 simp
noncomputable def dW (ss:List Str):List Str:=ss.mergeSort leS
theorem lA (ss:List Str):(dW ss).Pairwise BU:=by
 have:=List.pairwise_mergeSort (le:=leS) (fun a b c h1 h2=>mQ.mpr (u3 (mQ.mp h1) (mQ.mp h2))) (fun a b=>by
  rw[or_eq_true,mQ,mQ]
  by_cases h:BU a b
  ·exact .inl h
  ·right
   unfold BU at h⊢
   have h:=Classical.not_not.mp h
   exact not_lt.mpr (List.le_of_lt h)) ss
 exact this.imp fun h=>mQ.mp h
theorem lL (ss:List Str):(dW ss).Perm ss:=List.mergeSort_perm ss leS
theorem A2 {out:List Str} (hp:out.Perm ss) (hs:sortedS out=true):dW ss=out:=mF (lA ss) (BL hs) ((lL ss).trans hp.symm)
theorem DJ {tt:List Str} (hp:ss.Perm tt):dW ss=dW tt:=mF (lA ss) (lA tt) ((lL ss).trans (hp.trans (lL tt).symm))
noncomputable def oM:List PV->Option Bv
 |[.lst ps]=>bO (lO ps) fun ss=>aN (decide (ss.length<64)) (some (.new (.lst ((dW ss).map PV.str))))
 |_=>none
theorem bG.ofStrs {Z:aI} {H:Hp}:∀(ss:List Str),bG K Z H (ss.map PV.str) (ss.map V.str)
 |[]=>.nil
 |s::ss=>.cons (.str s) (bG.ofStrs ss)
theorem NK:fX K (C9 K) oM:=by
 intro Z H vs ps b Q hp h k
 unfold oM at h
 split at h
 ·obtain⟨ss,g,h⟩:=aF h
  obtain⟨c,h⟩:=aK h
  cases h
  obtain⟨v,rfl,hv⟩:=hp.one
  obtain⟨a,ys,rfl,ha,ra⟩:=hv.m6
  rw[oR g]at ra
  rw[ra.strs]at ha
  refine⟨a,ss,rfl,ha.sq,of_decide_eq_true c,fun l out h1 h2 hl=>?_⟩
  rw[A2 h1 h2]at k
  exact k _ _ (aZ.upd hl) (yF hl (bG.ofStrs out))
 ·cases h
end
end Mr
namespace Mr
open PySem L2
variable {Q:Bv×En->Prop} {e:En} {fg:FG} {fi:FI} {ft:FT} {ks:List Kd} {x xs y ys:List PV}
structure Mark {α:Type} (Q:α->Prop):Type where
noncomputable def Wp {α:Type} (r:Option α) (Q:α->Prop) (u:Mark Q:=⟨⟩):Prop:=∃a,r=some a/\Q a
section
variable {α β:Type} {Q:β->Prop}
theorem ac1:rY 1 0=some 0:=by decide
theorem adC:rY 2 0=some 0:=by decide
theorem acA:rY 2 1=some 1:=by decide
theorem acX:rY 3 0=some 0:=by decide
theorem ab8:rY 3 1=some 1:=by decide
theorem ac2:rY 3 2=some 2:=by decide
theorem acY:rY 4 0=some 0:=by decide
theorem abX:rY 4 1=some 1:=by decide
theorem ab1:rY 4 2=some 2:=by decide
theorem abO:rY 4 3=some 3:=by decide
theorem M6 {a b c d:Nat}:(((a,b):Nat×Nat)==(c,d))=(a==c && b==d):=rfl
theorem at0 {x:α} {xs:List α}:nF (x::xs) 0=some x:=gA (j:=0) rfl
theorem at1 {x y:α} {xs:List α}:nF (x::y::xs) 1=some y:=gA (j:=1) rfl
theorem at2 {x y z:α} {xs:List α}:nF (x::y::z::xs) 2=some z:=gA (j:=2) rfl
theorem at3 {x y z w:α} {xs:List α}:nF (x::y::z::w::xs) 3=some w:=gA (j:=3) rfl
theorem jW {r:Option (α×En)} {k:α->En->Option β}:Wp (bE r k) Q↔Wp r fun z=>Wp (k z.1 z.2) Q:=by
 constructor
 ·rintro⟨b,h,q⟩
  obtain⟨a,e,h1,h2⟩:=aL h
  exact⟨(a,e),h1,b,h2,q⟩
 ·rintro⟨⟨a,e⟩,rfl,b,h2,q⟩
  exact⟨b,h2,q⟩
theorem jN {r:Option α} {k:α->Option β}:Wp (bO r k) Q↔Wp r fun z=>Wp (k z) Q:=by
 constructor
 ·rintro⟨b,h,q⟩
  obtain⟨a,h1,h2⟩:=aF h
  exact⟨a,h1,b,h2,q⟩
 ·rintro⟨a,rfl,b,h2,q⟩
  exact⟨b,h2,q⟩
theorem bU {b:β}:Wp (some b) Q↔Q b:=⟨fun⟨_,h,q⟩=>by cases h;exact q,fun q=>⟨b,rfl,q⟩⟩
theorem pL:Wp (none:Option β) Q↔False:=by
 constructor
 ·rintro⟨_,h,_⟩;cases h
 ·exact False.elim
theorem dC {c:Bool} {k:Option β}:Wp (aN c k) Q↔c=true/\Wp k Q:=by
 constructor
 ·rintro⟨b,h,q⟩
  obtain⟨h1,h2⟩:=aK h
  exact⟨h1,b,h2,q⟩
 ·rintro⟨rfl,b,h,q⟩
  exact⟨b,h,q⟩
theorem wp_seq {f g:FS} {e:En} {Q:Out->Prop}:Wp (aV f g e) Q↔Wp (f e) fun o=>match o with| .nx e1=>Wp (g e1) Q|o=>Q o:=by
 unfold aV
 cases f e with
 |none=>simp[pL]
 |some o=>
  rw[bU]
  cases o<;>simp[bU]
theorem OV {c:Bool} {x y:Option β}:Wp (bB c x y) Q↔((c=true->Wp x Q)/\(c=false->Wp y Q)):=by
 cases c<;>simp[bB]
theorem ab7 {x y:β}:bB true x y=x:=rfl
theorem acP {x y:β}:bB false x y=y:=rfl
theorem Wp.mono {r:Option β} {Q Q':β->Prop} (h:Wp r Q) (k:∀b,Q b->Q' b):Wp r Q':=let⟨b,e,q⟩:=h;⟨b,e,k b q⟩
theorem Wp.eq {r:Option β} {b:β} (h:Wp r fun x=>x=b):r=some b:=let⟨_,e,q⟩:=h;q▸e
end
theorem VO {nl:Nat} {fr:Bool} {g:FS} {ps:List PV} {Q:PV×List PV->Prop}:Wp (nQ ks nl fr g ps) Q↔Wp (g (mZ ks ps++List.replicate nl none)) fun o=>Wp (U8 ks fr o) Q:=by
 unfold nQ;exact jN
theorem wp_call {fr:Bool} {f:FN} {fa:FA}:Wp (bF ks fr f fa e) Q↔Wp (fa e) fun z=>Wp (HS z.2 ks z.1) fun ps=>
  (decide ((bY ks z.1).Nodup) && (nU ks z.1).all fun i=>!(bY ks z.1).contains i)=true/\Wp (f ps) fun rq=>Wp (nH (rq.2.map fun q=>some (.own q)) (bY ks z.1).zipIdx z.2) fun e2=>Q (resB rq.1 fr,e2):=by
 unfold bF
 constructor
 ·intro h
  obtain⟨z,h1,h⟩:=jW.mp h
  obtain⟨ps,h2,h⟩:=jN.mp h
  obtain⟨g,h⟩:=dC.mp h
  obtain⟨rq,h3,h⟩:=jN.mp h
  obtain⟨e2,h4,h⟩:=jN.mp h
  exact⟨z,h1,ps,h2,g,rq,h3,e2,h4,bU.mp h⟩
 ·rintro⟨z,h1,ps,h2,g,rq,h3,e2,h4,q⟩
  exact jW.mpr ⟨z,h1,jN.mpr ⟨ps,h2,dC.mpr ⟨g,jN.mpr ⟨rq,h3,jN.mpr ⟨e2,h4,bU.mpr q⟩⟩⟩⟩⟩
theorem cL {body:PV->En->Option Out} (I:Nat->En->Prop) {Q:Out->Prop} (hs:∀(i:Nat) x e,xs[i]? =some x->I i e->Wp (body x e) fun o=>match o with| .nx e1=>I (i+1) e1| .ct e1=>I (i+1) e1| .bk e1=>Q (.nx e1)| .rt b e1=>Q (.rt b e1))
  (hd:∀e,I xs.length e->Q (.nx e)) {e:En} (h0:I 0 e):Wp (m9 body xs e) Q:=by
 have key:∀(ys:List PV) (i:Nat) (e:En),i<=xs.length->xs.drop i=ys->I i e->Wp (m9 body ys e) Q:=by
  intro ys
  induction ys with
  | nil=>
   intro i e hil hy hi
   unfold m9
   rw[bU]
   have hl:xs.length<=i:=by
    have:=congrArg List.length hy
    rw[length_drop]at this
    simp at this
    omega
   have h:i=xs.length:=by omega
   subst h
   exact hd e hi
  | cons x ys ih=>
   intro i e hil hy hi
   have hlt:i<xs.length:=by
    have:=congrArg List.length hy
    rw[length_drop,length_cons]at this
    omega
   rw[drop_eq_getElem_cons hlt]at hy
   have hx:xs[i]? =some x:=by rw[getElem?_eq_getElem hlt,(List.cons.inj hy).1]
   obtain⟨o,h1,h2⟩:=hs i x e hx hi
   unfold m9
   rw[h1]
   cases o with
   |nx e1=>exact ih (i+1) e1 hlt (List.cons.inj hy).2 h2
   |ct e1=>exact ih (i+1) e1 hlt (List.cons.inj hy).2 h2
   |bk e1=>exact bU.mpr h2
   |rt b e1=>exact bU.mpr h2
 exact key xs 0 e (zero_le _) rfl h0
theorem fF {fe:FE} (I:Nat->List PV->En->Prop) {Q:List PV×En->Prop} {xs:List PV} (hs:∀(i:Nat) x e acc,xs[i]? =some x->I i acc e->Wp (fg x e) fun e1=>Wp (ft e1) fun z=>match z.1 with|false=>I (i+1) acc z.2|true=>Wp (fe z.2) fun w=>Wp w.1.put fun p=>I (i+1) (acc++[p]) w.2)
  (hd:∀acc e,I xs.length acc e->Q (acc,e)) {e:En} (h0:I 0 [] e):Wp (iX fg ft fe xs e) Q:=by
 have key:∀(ys:List PV) (i:Nat) (acc:List PV) (e:En),i<=xs.length->xs.drop i=ys->I i acc e->∃rest e',iX fg ft fe ys e=some (rest,e')/\I xs.length (acc++rest) e':=by
  intro ys
  induction ys with
  | nil=>
   intro i acc e hil hy hi
   have hl:xs.length<=i:=by
    have:=congrArg List.length hy
    rw[length_drop]at this
    simp at this
    omega
   have h:i=xs.length:=by omega
   subst h
   exact⟨[],e,rfl,by rw[append_nil];exact hi⟩
  | cons x ys ih=>
   intro i acc e hil hy hi
   have hlt:i<xs.length:=by
    have:=congrArg List.length hy
    rw[length_drop,length_cons]at this
    omega
   rw[drop_eq_getElem_cons hlt]at hy
   have hx:xs[i]? =some x:=by rw[getElem?_eq_getElem hlt,(List.cons.inj hy).1]
   obtain⟨e1,h1,z,h2,h3⟩:=hs i x e acc hx hi
   obtain⟨b,e2⟩:=z
   unfold iX
   rw[h1,rA,h2,BP]
   cases b with
   |false=>exact ih (i+1) acc e2 hlt (List.cons.inj hy).2 h3
   |true=>
    obtain⟨⟨r,e3⟩,h4,p,h5,h6⟩:=h3
    dsimp only at h4 h5 h6⊢
    obtain⟨rest,e',h7,h8⟩:=ih (i+1) (acc++[p]) e3 hlt (List.cons.inj hy).2 h6
    rw[h4,BP,h5,rA,h7,BP]
    exact⟨p::rest,e',rfl,by rw[append_assoc]at h8;exact h8⟩
 obtain⟨rest,e',h1,h2⟩:=key xs 0 [] e (zero_le _) rfl h0
 exact⟨_,h1,hd _ _ h2⟩
theorem tY {fc:FT} {fb:FS} (I:En->Prop) (μ:En->Nat) {Q:Out->Prop} (hs:∀e,I e->Wp (fc e) fun z=>match z.1 with|false=>Q (.nx z.2)|true=>Wp (fb z.2) fun o=>match o with| .nx e1=>I e1/\μ e1<μ e| .ct e1=>I e1/\μ e1<μ e| .bk e1=>Q (.nx e1)| .rt b e1=>Q (.rt b e1)):
  ∀{n:Nat} {e:En},μ e<n->I e->Wp (l3 fc fb n e) Q
 |0,e,h,_=>absurd h (not_lt_zero _)
 | n+1,e,h,hi=>by
  obtain⟨⟨b,e1⟩,h1,h2⟩:=hs e hi
  unfold l3
  rw[h1,BP]
  cases b with
  |false=>exact bU.mpr h2
  |true=>
   obtain⟨o,h3,h4⟩:=h2
   dsimp only at h3⊢
   rw[h3]
   cases o with
   |nx e2=>exact tY I μ hs (by have:=h4.2;omega) h4.1
   |ct e2=>exact tY I μ hs (by have:=h4.2;omega) h4.1
   |bk e2=>exact bU.mpr h4
   |rt b e2=>exact bU.mpr h4
theorem MB {k:Nat} {cH:List Nat} {ms:List (Nat×Nat)} {fe:FE}:Wp (fN fi k cH ms fg ft fe e) Q↔Wp (fi (fun i=>!(ms.any fun z=>z.1==i)) e) fun z=>z.1.length<1000000/\Wp (iX fg ft fe z.1 (nX k cH ms z.2)) fun w=>Wp (nH w.2 ms z.2) fun e2=>Q (.new (.lst w.1),e2):=by
 unfold fN
 constructor
 ·intro h
  obtain⟨z,h1,h⟩:=jW.mp h
  obtain⟨g,h⟩:=dC.mp h
  obtain⟨w,h2,h⟩:=jW.mp h
  obtain⟨e2,h3,h⟩:=jN.mp h
  exact⟨z,h1,of_decide_eq_true g,w,h2,e2,h3,bU.mp h⟩
 ·rintro⟨z,h1,g,w,h2,e2,h3,q⟩
  exact jW.mpr ⟨z,h1,dC.mpr ⟨decide_eq_true g,jW.mpr ⟨w,h2,jN.mpr ⟨e2,h3,bU.mpr q⟩⟩⟩⟩
theorem N5 {fb:FS} {Q:Out->Prop}:Wp (iJ fi fg fb e) Q↔Wp (fi (fun _=>false) e) fun z=>Wp (m9 (fun x e=>bO (fg x e) fb) z.1 z.2) Q:=by
 unfold iJ
 rw[jW]
theorem W2:bJ PV.aY PV.aY=true:=by simp[bJ]
theorem WD {y:Bool}:bJ PV.aY (PV.bl y)=false:=by simp[bJ]
theorem U7 {y:Int}:bJ PV.aY (PV.int y)=false:=by simp[bJ]
theorem WX {y:Str}:bJ PV.aY (PV.str y)=false:=by simp[bJ]
theorem W3:bJ PV.aY (PV.tup y)=false:=by simp[bJ]
theorem X8:bJ PV.aY (PV.lst y)=false:=by simp[bJ]
theorem VJ {x:Bool}:bJ (PV.bl x) PV.aY=false:=by simp[bJ]
theorem WR {x:Bool} {y:Bool}:bJ (PV.bl x) (PV.bl y)=(x==y):=by simp[bJ]
theorem YH {x:Bool} {y:Int}:bJ (PV.bl x) (PV.int y)=((if x then 1 else 0)==y):=by simp[bJ]
theorem VW {x:Bool} {y:Str}:bJ (PV.bl x) (PV.str y)=false:=by simp[bJ]
theorem TY {x:Bool}:bJ (PV.bl x) (PV.tup y)=false:=by simp[bJ]
theorem WW {x:Bool}:bJ (PV.bl x) (PV.lst y)=false:=by simp[bJ]
theorem TR {x:Int}:bJ (PV.int x) PV.aY=false:=by simp[bJ]
theorem VN {x:Int} {y:Bool}:bJ (PV.int x) (PV.bl y)=(x==(if y then 1 else 0)):=by simp[bJ]
theorem VF {x:Int} {y:Int}:bJ (PV.int x) (PV.int y)=(x==y):=by simp[bJ]
theorem S1 {x:Int} {y:Str}:bJ (PV.int x) (PV.str y)=false:=by simp[bJ]
theorem VQ {x:Int}:bJ (PV.int x) (PV.tup y)=false:=by simp[bJ]
theorem YA {x:Int}:bJ (PV.int x) (PV.lst y)=false:=by simp[bJ]
theorem UH {x:Str}:bJ (PV.str x) PV.aY=false:=by simp[bJ]
theorem X2 {x:Str} {y:Bool}:bJ (PV.str x) (PV.bl y)=false:=by simp[bJ]
theorem WI {x:Str} {y:Int}:bJ (PV.str x) (PV.int y)=false:=by simp[bJ]
theorem wK {x:Str} {y:Str}:bJ (PV.str x) (PV.str y)=(x==y):=by simp[bJ]
theorem XC {x:Str}:bJ (PV.str x) (PV.tup y)=false:=by simp[bJ]
theorem YG {x:Str}:bJ (PV.str x) (PV.lst y)=false:=by simp[bJ]
theorem W4:bJ (PV.tup x) PV.aY=false:=by simp[bJ]
theorem VU {y:Bool}:bJ (PV.tup x) (PV.bl y)=false:=by simp[bJ]
theorem WE {y:Int}:bJ (PV.tup x) (PV.int y)=false:=by simp[bJ]
theorem S3 {y:Str}:bJ (PV.tup x) (PV.str y)=false:=by simp[bJ]
theorem XH:bJ (PV.tup x) (PV.tup y)=cO x y:=by simp[bJ]
theorem V0:bJ (PV.tup x) (PV.lst y)=false:=by simp[bJ]
theorem TN:bJ (PV.lst x) PV.aY=false:=by simp[bJ]
theorem V8 {y:Bool}:bJ (PV.lst x) (PV.bl y)=false:=by simp[bJ]
theorem TF {y:Int}:bJ (PV.lst x) (PV.int y)=false:=by simp[bJ]
theorem U1 {y:Str}:bJ (PV.lst x) (PV.str y)=false:=by simp[bJ]
theorem TX:bJ (PV.lst x) (PV.tup y)=false:=by simp[bJ]
theorem YF:bJ (PV.lst x) (PV.lst y)=cO x y:=by simp[bJ]
theorem N8:cO [] []=true:=by simp[cO]
theorem QN {x y:PV}:cO (x::xs) (y::ys)=(bJ x y && cO xs ys):=by simp[cO]
theorem OF {y:PV}:cO [] (y::ys)=false:=by simp[cO]
theorem NX {x:PV}:cO (x::xs) []=false:=by simp[cO]
end Mr
namespace Mr
open PySem PySem.Spec L2 PyProof.Rows
variable {fa fb:FE}
section
variable {K:Frag}
noncomputable def J8:PV->PV->Option Bv
 | .a9 kvs,p=>bO (keyOf p) fun k=>some (.val ((cE kvs k).getD .aY))
 |_,_=>none
noncomputable def BM (fa fb:FE):FE:=fun e=>bE (fa e) fun x e1=>bO (x.weak.get e1) fun p1=>match p1 with
 | .a9 _=>bE (fb e1) fun y e2=>bO (x.weak.get e2) fun p=>bO (y.weak.get e2) fun q=>bO (J8 p q) fun b=>some (b,e2)
 |_=>none
theorem M3 {ta tb:TE} (ha:Ref K ta fa) (hb:Ref K tb fb):Ref K (KW ta tb) (BM fa fb):=by
 intro O M W L σ H e e' b Q o he hf q
 obtain⟨x,e1,f1,hf⟩:=aL hf
 obtain⟨p1,g0,hf⟩:=aF hf
 cases p1 with
 | a9 kvs1=>
  obtain⟨y,e2,f2,hf⟩:=aL hf
  obtain⟨p,g1,hf⟩:=aF hf
  obtain⟨p',g2,hf⟩:=aF hf
  obtain⟨c,g3,hf⟩:=aF hf
  cases hf
  refine ha O M W L σ H e e1 x _ o he f1 fun v1 H1 k1 r1 fr=>?_
  have o1:=o.keep k1.b9
  obtain⟨a1,ys1,e11,ha1,_,_⟩:=((r1.rv o1).red (r1.en o1) g0).rB
  refine⟨a1,e11,.inl ⟨ys1,ha1⟩,?_⟩
  refine hb O M W L σ H1 e1 _ y _ o1 (r1.en o1) f2 fun v2 H2 k2 r2 fr=>?_
  have o2:=o1.keep k2.b9
  have en:=r2.en o2
  have rp:=((r1.rv o1).keep o1 k2).red en g1
  have rq:=(r2.rv o2).red en g2
  cases p with
  | a9 kvs=>
   obtain⟨key,g4,g3⟩:=aF g3
   cases g3
   obtain⟨a,ys,e3,ha',ek,r⟩:=rp.rB
   rw[e11]at e3
   cases e3
   refine⟨dX ys key,.inl ⟨ys,key,ha',rq.key g4,rfl⟩,?_⟩
   refine q _ H2 (k1.trans k2) ?_ ?_
   ·refine⟨en,?_⟩
    rcases dM.val key ⟨ek,r⟩with⟨h1,h2⟩|⟨p'',v',h1,h2,h3⟩
    ·rw[h1,h2];exact .aY
    ·rw[h1,h2];exact h3
   ·trivial
  |_=>cases g3
 |_=>cases hf
theorem QH {e:En}:BM fa fb e=bE (fa e) fun x e1=>bO (x.weak.get e1) fun p1=>match p1 with
 | .a9 _=>bE (fb e1) fun y e2=>bO (x.weak.get e2) fun p=>bO (y.weak.get e2) fun q=>bO (J8 p q) fun b=>some (b,e2)
 |_=>none:=rfl
end
end Mr
namespace L2
open PySem PySem.Spec PyProof.Rows PySem.W
variable {a l:Addr} {o u:HO} {H:Hp} {kvs:List (Key×V)} {vs:List (Key×Value)} {s':Shared} {Q:Value->Shared->Prop}
section
variable {prog:Program} {w:World} {A:Around} {E:Value->Shared->Prop} {s:Shared} {T:String} {r d:Addr} {n:Nat} {Pz:Nat->Value->Prop} {OKh:Heap->Prop}
noncomputable def kQ (s s':Shared):Prop:=∃h' tk dr,s'={s with heap:=h',toks:=tk,drawn:=dr}/\s.heap.objs.size<=h'.objs.size/\∀b o,s.heap.get? b=some o->h'.get? b=some o
theorem kQ.size {s:Shared} (g:kQ s s'):s.heap.objs.size<=s'.heap.objs.size:=by
 obtain⟨h',tk,dr,rfl,k,_⟩:=g
 exact k
theorem qX {Q:List Value->Shared->Prop} (K:KdlSrc prog w T r d n Pz OKh) (hh:A.handled=none) (bN:OKh s.heap) (hn:n<=sizeLine)
  (hq:∀vs s',kQ s s'->vs.length=n->(∀j v,vs[j]? =some v->Pz j v)->Q vs s'):wpAny (model prog w) A (collect (.ref r)) Q E s:=by
 have ha:=K.there _ bN
 have fin:∀(h':Heap) (tk:Nat) (acc:Array Value) (c:Nat),(∀b o,s.heap.get? b=some o->h'.get? b=some o)->
   h'.get? s.heap.objs.size=some {cls:=.type "list",dict:=none,data:=.seq acc c,slots:= #[]}->ItemsOf Pz acc n->
   wpAny (model prog w) A (match Value.ref s.heap.objs.size with
    | Value.ref a=>do
     match(<-load a).data with
      |Data.seq xs _=>pure xs.toList
      |_=>unsupported "internal:collect"
    |_=>unsupported "internal:collect") Q E {s with heap:=h',toks:=tk}:=fun h' tk acc c kp hS hacc=>by
  show wpAny _ A (load s.heap.objs.size>>=_) _ _ _
  exact wpAny_bind (wpAny_load hS (wpAny_pure (hq _ _ ⟨h',tk,s.drawn,rfl,le_of_lt (lt_size hS),kp⟩ (by rw[length_toList];exact hacc.1) fun j v e=>hacc.2 j v (by rw[<-getElem?_toList];exact e))))
 unfold collect
 refine wpAny_bind (wpAny_runValue (codeAny_builtin F.entry_proto_collect ?_))
 rw[Around.under_plainId F.plain_proto_collect _]
 refine wpAny_bind (m:=newList []) (wpAny_newObj_type ?_)
 refine wpAny_pure ⟨plainId_quiet F.plain_list_iadd _,codeAny_builtin F.entry_list_iadd ?_⟩
 rw[Around.under_plainId F.plain_list_iadd _]
 have e0:(s.heap.push {cls:=.type "list",data:=.seq ([]:List Value).toArray}).get? s.heap.objs.size=some {cls:=.type "list",data:=.seq #[] 0}:=get?_push_size _ rfl
 have key:=kdl_extend (A:=A) (s:={s with heap:=s.heap.push {cls:=.type "list",data:=.seq ([]:List Value).toArray}}) (R:=fun rs s'=>∃h' tk acc c,rs= .ok (.ret (.ref s.heap.objs.size))/\s'={s with heap:=h',toks:=tk}/\(∀b o,s.heap.get? b=some o->h'.get? b=some o)/\h'.get? s.heap.objs.size=some {cls:=.type "list",dict:=none,data:=.seq acc c,slots:= #[]}/\ItemsOf Pz acc n) K hh (K.keep _ _ bN fun b _ o e=>get?_push_of_some _ e) s.heap.objs.size (ne_of_gt ha.1) (ne_of_gt ha.2) (.ref s.heap.objs.size) 0 e0
  (fun h' tk acc c kp hS hacc=>⟨h',tk,acc,c,rfl,rfl,fun b o e=>kp b o (ne_of_lt (lt_size e)) (get?_push_of_some _ e),hS,hacc⟩) hn
 refine wpAny_mono key (fun f s' h=>?_) fun e s' h=>?_
 ·cases f with
  |done f=>
   obtain⟨h',tk,acc,c,e1,rfl,kp,hS,hacc⟩:=h
   cases e1
   exact fin h' tk acc c kp hS hacc
  |again c'=>
   refine⟨h.1,codeAny_mono h.2 fun rs s2 hr=>?_⟩
   obtain⟨h',tk,acc,c,rfl,rfl,kp,hS,hacc⟩:=hr
   exact fin h' tk acc c kp hS hacc
 ·obtain⟨h',tk,acc,c,e1,_⟩:=h
  cases e1
theorem G8 (K:KdlSrc prog w T r d n Pz OKh) (hnt:T≠"tuple") (hh:A.handled=none) (bN:OKh s.heap) (hn:n<=sizeLine)
  (hq:∀(vs:List Value) s1,kQ s s1->vs.length=n->(∀j v,vs[j]? =some v->Pz j v)->Q (.ref s1.heap.objs.size) {s1 with heap:=s1.heap.push {cls:=.type "tuple",data:=.seq vs.toArray}}):
  wpAny (model prog w) A (call (.type "tuple") [.ref r]) Q E s:=by
 have hT:=K.type s bN
 refine callType_codes (Q₁:=fun obj s₁=>s₁.TypeIs obj "tuple"/\Q obj s₁) F.called_tuple (F.typeCall_tuple_1 _) F.entry_object_init ?_ fun obj s₁ h₁=>
  ⟨h₁.1,F.args_object_init_2 obj _,object_init_meets F.called_tuple.init.lookup F.called_tuple.made (by decide) prog w A.in1 _ s₁ ⟨h₁.1,rfl,h₁.2⟩⟩
 refine codeAny_of_tree ?_
 refine wpAny_bind (m:=checkBuiltinCall "tuple.__new__" ⟨[.type "tuple",.ref r],[]⟩) (wpAny_of_eq (F.newCall_tuple_1 _) (wpAny_pure ⟨plainId_quiet F.plain_tuple_new _,codeAny_builtin F.entry_tuple_new ?_⟩))
 rw[Around.under_plainId F.plain_tuple_new _]
 have a1:=sub_tuple_self
 have a2:=init_tuple_lookup
 have a3:=madeHere_tuple
 have a4:(Value.type T==Value.type "tuple")=false:=K.notTuple
 unfold Builtin.«tuple.__new__»
 generalize hC:collect=C
 wp_walk using wpAny_typeOf hT
 subst hC
 refine qX K hh bN hn fun vs s1 g hl hv=>?_
 refine wpAny_bind (wpAny_pure ?_)
 unfold Builtin.Tuple.tupleExact
 refine wpAny_bind (m:=newObj (.type "tuple") (.seq vs.toArray)) (wpAny_newObj_type ?_ (by show vs.toArray.size<=sizeLine;rw[size_toArray,hl];exact hn))
 exact wpAny_pure ⟨⟨_,get?_push_size _ rfl,rfl⟩,hq vs s1 g hl hv⟩
theorem pU {v:Value} {R:List Str->Prop}
  (hcol:∀(E':Value->Shared->Prop) (Q':List Value->Shared->Prop),(∀vs s1 ss,kQ s s1->StrsAre vs ss->R ss->Q' vs s1)->wpAny (model prog w) A.in1 (collect v) Q' E' s) (h64:∀ss,R ss->ss.length<64)
  (hq:∀(a:Addr) s2 (out:List Value) c ss ss',kQ s s2->s.heap.objs.size<=a->s2.heap.get? a=some (seqObj "list" out.toArray c)->StrsAre out ss'->R ss->ss'.Perm ss->sortedS ss'=true->Q (.ref a) s2):
  wpAny (model prog w) A (call (.builtin "sorted") [v]) Q E s:=by
 refine Calls.call_function_entry kind_sorted plain_sorted entry_sorted (args_sorted1 _) ?_
 unfold Builtin.«sorted»
 refine wpAny_bind (m:=checkCount "sorted" 1 1 _) (wpAny_pure (wpAny_bind (hcol _ _ fun vs s1 ss g hS hR=>?_)))
 have hl:vs.length<64:=by rw[hS.length];exact h64 ss hR
 refine wpAny_bind (wpAny_newList ?_ (by simp only[sizeLine_eq];omega))
 have e1:(s1.heap.push (seqObj "list" vs.toArray 0)).get? s1.heap.objs.size=some (seqObj "list" vs.toArray 0):=get?_push_size _ rfl
 refine wpAny_bind (wpAny_holding (wpAny_call_entry slot_list_sort ⟨_,e1,rfl⟩ entry_list_sort (list_sort_treeK strKind_oneLt e1 hS.keysOf (fun v₁ v₂ rest e=>keyKind_strs (by rw[<-e];exact hS)) hl fun st' a1 a2=>⟨_,rfl,?_⟩) (args_list_sort _)))
 obtain⟨ss',b1,b2,b3⟩:=sorted_out_str hS a1 a2
 refine wpAny_pure ⟨_,rfl,?_⟩
 obtain⟨c,hc⟩:=sortedHeap_at (out:=(arrOf st').map (·.2)) e1
 refine hq s1.heap.objs.size _ ((arrOf st').map (·.2)).toList c ss ss' ?_ g.size (by rw[Array.toArray_toList];exact hc) b1 hR b2 b3
 obtain⟨h',tk,dr,rfl,gz,k⟩:=g
 refine⟨_,tk,dr,rfl,le_trans gz (le_of_lt (lt_size hc)),fun b o e=>?_⟩
 have hb:=lt_size (k b o e)
 rw[sortedHeap_old (ne_of_lt hb) (by rw[size_push'];exact lt_succ_of_lt hb)]
 exact get?_push_of_some _ (k b o e)
end
section
variable {X:Cx} {pins:List (Addr×Obj)} {σ:St} {H:Hp} {s s':Shared}
theorem Inv.aa5 (I:Inv X pins σ H s) (g:kQ s s'):Inv X pins σ H s':=by
 obtain⟨h',tk,dr,rfl,_,k⟩:=g
 exact I.call (g':=s.gens) (d':=dr) (t':=tk) (ch:=[]) (Un.kept k) (I.bN.kept k) I.bare fun _ z=>nomatch z
end
noncomputable def G5 (v d:Addr):HO:=.ext fun h=>h.IsValuesView v d
theorem Rd.upd (h:Rd H a o) (hl:H l=none):Rd (upd H l u) a o:=by
 have ne:a≠l:=by
  rintro rfl
  rcases h with h|⟨_,h⟩<;>(rw[hl]at h;cases h)
 rcases h with h|⟨x,h⟩
 ·exact .inl (by rw[aS ne];exact h)
 ·exact .inr ⟨x,by rw[aS ne];exact h⟩
theorem KV.vals (r:KV kvs vs):Vals (kvs.map (·.2)) (vs.map (·.2)):=by
 unfold KV at r
 induction r with
 |nil=>exact .nil
 |cons h t ih=>exact .cons h.2 ih
theorem KV.len (r:KV kvs vs):kvs.length=vs.length:=by
 have:=congrArg List.length r.keys
 simpa using this
theorem yI.upd (h:yI H a kvs) (hl:H l=none):yI (upd H l u) a kvs:=let⟨ep,e⟩:=h;⟨ep,Rd.upd e hl⟩
theorem Inv.aaO {X:Cx} {pins:List (Addr×Obj)} {σ:St} {s:Shared} (I:Inv X pins σ H s) (g:kQ s s') (hp:s.heap.objs.size<=a) (new:c9 X.prog X.w (L2.upd H a o) s'.heap a o):Inv X pins σ (L2.upd H a o) s':=by
 obtain⟨h',tk,dr,rfl,_,k⟩:=g
 exact I.call (g':=s.gens) (d':=dr) (t':=tk) (ch:=[]) (Un.laid k hp (I.bN.fresh hp)) (I.bN.laid k hp new) I.bare fun _ z=>nomatch z
section
variable {X:Cx}
noncomputable def L6 (to:TE):TE:=fun σ H Q=>to σ H fun x H1=>∃a kvs,x= .ref a/\yI H1 a kvs/\∀v,H1 v=none->Q (.ref v) (upd H1 v (G5 v a))
theorem FZ {o:Expr} {to:TE} {apos cpos:Pos} (ho:PE X o to) (hbase:attributeBase o "values" X.env (eval o X.env)=eval o X.env:=by rfl) (hline:(apos.endLine==cpos.line)=true:=by rfl):
  PE X (.Call (.Attribute o "values" apos) [] [] cpos) (L6 to):=by
 intro pins s σ H Q I h
 refine wpAny_Call_method0_late hbase hline (cM (ho pins s σ H _ I h) fun v s1 ⟨x,H1,I1,r1,a,kvs,ex,ha,q1⟩=>?_)
 subst ex
 obtain rfl:v=Value.ref a:=r1
 obtain⟨hz,hd,vs,rel,dd⟩:=gU I1.bN ha
 refine⟨"dict","dict.values",plainAttrs_dict,PySem.F.slot_dict_values,PySem.F.type_dict_values,dd.typeIs,dd.mapOf.noDict,Calls.callWith_builtin rfl (PySem.evalArgs_none ?_)⟩
 refine call_meetsIn PySem.F.slot_dict_values dd.typeIs PySem.F.entry_dict_values (PySem.F.args_dict_values_1 _) (meets_dict_values (bT X.prog X.w) a hd) ⟨⟨vs,dd⟩,?_⟩
 have e0:(s1.heap.push {cls:=.type "dict_values",data:=.fields #[.ref a]}).get? s1.heap.objs.size=some {cls:=.type "dict_values",data:=.fields #[.ref a]}:=get?_push_size _ rfl
 refine⟨.ref s1.heap.objs.size,_,I1.laid (t':=s1.toks) (o:=G5 s1.heap.objs.size a) (fun b u e=>get?_push_of_some _ e) (le_refl _) ⟨⟨_,e0,rfl,rfl⟩,⟨_,e0⟩,fun h1 h2 ⟨u,e,c⟩ k=>⟨u,k u e,c⟩⟩,rfl,q1 _ (I1.bN.fresh (le_refl _))⟩
noncomputable def R1:List V->Hp->VK->Prop:=fun xs H Q=>∃v a kvs,xs=[.ref v]/\H v=some (G5 v a)/\yI H a kvs/\∀l,H l=none->Q (.ref l) (upd H l (.tup (kvs.map (·.2))))
theorem ac7 (hc:X.calm=true:=by rfl):cD X (.type "tuple") R1:=by
 intro pins s σ H xs us Q I r ⟨v,a,kvs,e,hv,ha,q⟩
 subst e
 obtain⟨u,rfl,rx⟩:=vals1 r
 cases rx
 obtain⟨hz,hd,vs,rel,dd⟩:=gU I.bN ha
 obtain⟨ep,dd⟩:=dd.dictAt
 refine G8 (kdl_values (knd:=bT X.prog X.w) (r:=v) (d:=a) (kvs:=vs) (ep:=ep)) (by decide) (by exact I.ok.hd hc) ⟨(I.bN v _ hv).1,dd⟩ (by rw[<-rel.len];exact hz) fun ws s1 g hl hw=>?_
 have ew:=kdl_vals_eq ws hl hw
 subst ew
 have I1:=I.aa5 g
 exact⟨.ref s1.heap.objs.size,_,I1.laid (t':=s1.toks) (o:=.tup (kvs.map (·.2))) (fun b o e=>get?_push_of_some _ e) (le_refl _) ⟨by rw[length_map];exact hz,_,rel.vals,pP.new _ _⟩,rfl,q _ (I1.bN.fresh (le_refl _))⟩
noncomputable def SW:List V->Hp->VK->Prop:=fun xs H Q=>∃v a kvs,xs=[.ref v]/\H v=some (G5 v a)/\yI H a kvs/\∀l,H l=none->Q (.ref l) (upd H l (.lst (kvs.map (·.2))))
theorem abU (hc:X.calm=true:=by rfl):cD X (.type "list") SW:=by
 intro pins s σ H xs us Q I r ⟨v,a,kvs,e,hv,ha,q⟩
 subst e
 obtain⟨u,rfl,rx⟩:=vals1 r
 cases rx
 obtain⟨hz,hd,vs,rel,dd⟩:=gU I.bN ha
 obtain⟨ep,dd⟩:=dd.dictAt
 refine kdl_call (kdl_values (knd:=bT X.prog X.w) (r:=v) (d:=a) (kvs:=vs) (ep:=ep)) (by exact I.ok.hd hc) ⟨(I.bN v _ hv).1,dd⟩ (by rw[<-rel.len];exact hz) fun h' tk acc c kp hS hacc=>?_
 have ew:=kdl_vals_eq acc.toList (by rw[length_toList];exact hacc.1) fun j x e=>hacc.2 j x (by rw[<-getElem?_toList];exact e)
 refine⟨.ref s.heap.objs.size,_,I.laid (t':=tk) (o:=.lst (kvs.map (·.2))) kp (le_refl _) ⟨by rw[length_map];exact hz,_,c,rel.vals,?_⟩,rfl,q _ (I.bN.fresh (le_refl _))⟩
 rw[hS,<-ew,Array.toArray_toList]
noncomputable def DN:List V->Hp->VK->Prop:=fun xs H Q=>∃a kvs ss,xs=[.ref a]/\yI H a kvs/\kvs.map (·.1)=ss.map Sum.inr/\ss.length<64/\∀l out,out.Perm ss->sortedS out=true->H l=none->Q (.ref l) (upd H l (.lst (out.map V.str)))
theorem wA {prog:Program} {w:World}:∀{ss:List Str} {vs:List (Key×Value)} {us:List Value},vs.map (·.1)=ss.map Sum.inr->us.length=vs.length->(∀(j:Nat) v,us[j]? =some v->∃k x,vs[j]? =some (k,x)/\(bT prog w).is k v=true)->StrsAre us ss
 |[],[],[],_,_,_=>.nil
 |[],[],_::_,_,h,_=>by cases h
 |[],_::_,_,h,_,_=>by cases h
 |_::_,[],_,h,_,_=>by cases h
 |_::_,_::_,[],_,h,_=>by cases h
 | t::ss,(k,x)::vs,u::us,h,hl,hu=>by
  rw[map_cons,map_cons]at h
  have h:=List.cons.inj h
  have e:k=Sum.inr t:=h.1
  subst e
  obtain⟨k',x',e',hk⟩:=hu 0 u rfl
  cases e'
  rcases cA (show mB (Sum.inr t) u=true from hk)with⟨i,tk,z,_⟩|⟨y,tk,z,rfl⟩
  ·cases z
  ·cases z
   exact .cons _ tk (wA h.2 (by simpa using hl) fun j v e=>hu (j+1) v (by simpa using e))
theorem ZE (hc:X.calm=true:=by rfl):cD X (.builtin "sorted") DN:=by
 intro pins s σ H xs us Q I r ⟨a,kvs,ss,e,ha,hk,h64,q⟩
 subst e
 obtain⟨u,rfl,rx⟩:=vals1 r
 cases rx
 obtain⟨hz,hd,vs,rel,dd⟩:=gU I.bN ha
 obtain⟨ep,dd⟩:=dd.dictAt
 rw[rel.keys]at hk
 refine pU (R:=fun tt=>tt=ss) (fun E' Q' k=>?_) (fun tt e=>by rw[e];exact h64) fun l s2 out c tt tt' g hl hat h1 h2 h3 h4=>?_
 ·exact qX (kdl_dict (knd:=bT X.prog X.w) (d:=a) (kvs:=vs) (ep:=ep) hd) (by exact I.ok.hd hc) dd (by rw[<-rel.len];exact hz) fun ws s1 g hl hw=>k ws s1 ss g (wA hk hl hw) rfl
 ·subst h2
  exact⟨.ref l,_,I.aaO (o:=.lst (tt'.map V.str)) g hl ⟨by rw[length_map,h3.length_eq];rw[sizeLine_eq];omega,out,c,k9 h1,hat⟩,rfl,q _ tt' h3 h4 (I.bN.fresh hl)⟩
end
section
variable (prog:Program) (w:World)
variable {prog w}
noncomputable def iV (ks:List Str) (x:Str):List Str:=if x∈ks then ks else ks++[x]
variable {A:Around} {E:Value->Shared->Prop} {s:Shared}
end
noncomputable def bV (ss:List Str):List Str:=ss.foldl iV []
theorem fA (ss:List Str) (x:Str):bV (ss++[x])=iV (bV ss) x:=by unfold bV;rw[foldl_append];rfl
end L2
namespace Mr
open PySem PySem.Spec L2 PyProof.Rows
variable {e:En} {fa:FE} {ta:TE}
section
variable {K:Frag}
noncomputable def C1 (fa:FE):FE:=fun e=>bE (fa e) fun x e1=>bO (x.weak.get e1) fun p=>match p with
 | .a9 kvs=>some (.val (.tup (kvs.map (·.2))),e1)
 |_=>none
noncomputable def C4 (fa:FE):FE:=fun e=>bE (fa e) fun x e1=>bO (x.weak.get e1) fun p=>match p with
 | .a9 kvs=>some (.new (.lst (kvs.map (·.2))),e1)
 |_=>none
theorem GA (ha:Ref K ta fa):Ref K (YU R1 (eN (L6 ta) p9)) (C1 fa):=by
 intro O M W L σ H e e' b Q o he hf q
 obtain⟨x,e1,f1,hf⟩:=aL hf
 obtain⟨p,g0,hf⟩:=aF hf
 cases p with
 |a9 kvs=>
  cases hf
  refine ha O M W L σ H e _ x _ o he f1 fun v1 H1 k1 r1 fr=>?_
  have o1:=o.keep k1.b9
  have en:=r1.en o1
  obtain⟨a,ys,rfl,hd,ek,rl⟩:=((r1.rv o1).red en g0).rB
  refine⟨a,ys,rfl,hd,fun v hv=>⟨v,a,ys,rfl,aW,yI.upd hd hv,fun l hl=>?_⟩⟩
  have s1:aZ H1 (upd H1 v (G5 v a)):=aZ.upd hv
  have s2:=aZ.upd (o:=.tup (ys.map (·.2))) hl
  refine q _ _ ((k1.trans (.same s1)).trans (.same s2)) ⟨(en.same s1).same s2,.tup (.inl aW) ((rl.aH (.same s1)).aH (.same s2))⟩ trivial
 |_=>cases hf
theorem ID (ha:Ref K ta fa):Ref K (YU SW (eN (L6 ta) p9)) (C4 fa):=by
 intro O M W L σ H e e' b Q o he hf q
 obtain⟨x,e1,f1,hf⟩:=aL hf
 obtain⟨p,g0,hf⟩:=aF hf
 cases p with
 |a9 kvs=>
  cases hf
  refine ha O M W L σ H e _ x _ o he f1 fun v1 H1 k1 r1 fr=>?_
  have o1:=o.keep k1.b9
  have en:=r1.en o1
  obtain⟨a,ys,rfl,hd,ek,rl⟩:=((r1.rv o1).red en g0).rB
  refine⟨a,ys,rfl,hd,fun v hv=>⟨v,a,ys,rfl,aW,yI.upd hd hv,fun l hl=>?_⟩⟩
  have s1:aZ H1 (upd H1 v (G5 v a)):=aZ.upd hv
  have k2:=k1.trans (.same s1)
  have s2:=aZ.upd (o:=.lst (ys.map (·.2))) hl
  have rn:RN K (aT M L) _ _ (.ref l) (.new (.lst (kvs.map (·.2)))):=yF hl (rl.aH (.same s1))
  exact q _ _ (k2.trans (.same s2)) (rn.rb (o.keep k2.b9) (en.same s1) s2) (rn.fr k2.b9)
 |_=>cases hf
noncomputable def MD (fa:FE):FE:=fun e=>bE (fa e) fun x e1=>bO (x.weak.get e1) fun p=>match p with
 | .lst ps=>bO (lO ps) fun ss=>aN (decide (ss.length<64)) (some (.new (.lst ((dW (bV ss)).map PV.str)),e1))
 |_=>none
noncomputable def uY:List (Key×PV)->Option (List Str)
 |[]=>some []
 |(.inr x,_)::r=>bO (uY r) fun ss=>some (x::ss)
 |_=>none
theorem BA:∀{kvs:List (Key×PV)} {ss:List Str},uY kvs=some ss->kvs.map (·.1)=ss.map Sum.inr
 |[],ss,h=>by cases h;rfl
 |(.inr x,p)::r,ss,h=>by
  obtain⟨ss',h1,h⟩:=aF h
  cases h
  rw[map_cons,map_cons,BA h1]
 |(.inl x,p)::r,ss,h=>by cases h
noncomputable def qD:List PV->Option Bv
 |[.a9 kvs]=>bO (uY kvs) fun ss=>aN (decide (ss.length<64)) (some (.new (.lst ((dW ss).map PV.str))))
 |_=>none
theorem II:fX K DN qD:=by
 intro Z H vs ps b Q hp h k
 unfold qD at h
 split at h
 ·obtain⟨ss,g,h⟩:=aF h
  obtain⟨c,h⟩:=aK h
  cases h
  obtain⟨v,rfl,hv⟩:=hp.one
  obtain⟨a,ys,rfl,ha,ek,ra⟩:=hv.rB
  refine⟨a,ys,ss,rfl,ha,ek.trans (BA g),of_decide_eq_true c,fun l out h1 h2 hl=>?_⟩
  rw[A2 h1 h2]at k
  exact k _ _ (aZ.upd hl) (yF hl (bG.ofStrs out))
 ·cases h
theorem KJ:C1 fa e=bE (fa e) fun x e1=>bO (x.weak.get e1) fun p=>match p with
 | .a9 kvs=>some (.val (.tup (kvs.map (·.2))),e1)
 |_=>none:=rfl
theorem IJ:C4 fa e=bE (fa e) fun x e1=>bO (x.weak.get e1) fun p=>match p with
 | .a9 kvs=>some (.new (.lst (kvs.map (·.2))),e1)
 |_=>none:=rfl
theorem DL:MD fa e=bE (fa e) fun x e1=>bO (x.weak.get e1) fun p=>match p with
 | .lst ps=>bO (lO ps) fun ss=>aN (decide (ss.length<64)) (some (.new (.lst ((dW (bV ss)).map PV.str)),e1))
 |_=>none:=rfl
end
end Mr
namespace Mr
open PySem PySem.Spec L2 PyProof.Rows PySem.W
variable {A:Around} {C:Bool->Shared->Prop} {ps:List PV} {n:Nat} {prog:Program} {w:World}
noncomputable def dO (lt:PV->PV->Option Bool):List PV->List PV->Option Bool
 |[],[]=>some false
 |[],_::_=>some true
 |_::_,[]=>some false
 |x::xs,y::ys=>if bJ x y=true then dO lt xs ys else lt x y
noncomputable def oO:Nat->PV->PV->Option Bool
 |_,.str a,.str b=>some (decide (a.cps.toList<b.cps.toList))
 |_,.int a,.int b=>some (decide (a<b))
 |n+1,.tup xs,.tup ys=>dO (oO n) xs ys
 |_,_,_=>none
section
variable {s:Shared}
theorem VI {lt:PV->PV->Option Bool}:∀{xs ys:List PV} {us vs:List Value} {c:Bool} {fin:Bool},bR s.heap xs us->bR s.heap ys vs->(∀x∈xs,∀y∈ys,∀u v,Lies s.heap x u->Lies s.heap y v->SeqAt.EqAt A s u v (bJ x y)/\∀b,lt x y=some b->GV A s u v b)->
  fin=decide (us.length<vs.length)->dO lt xs ys=some c->BC A s fin (us.zip vs) c:=by
 intro xs
 induction xs with
 |nil=>
  intro ys us vs c fin h1 h2 hk hf h
  cases h1
  cases h2<;>(cases h;rw[hf];exact .done)
 | cons x xs ih=>
  intro ys us vs c fin h1 h2 hk hf h
  cases h1 with
  | cons r1 rr1=>
   cases h2 with
   |nil=>cases h;rw[hf];exact .done
   | @cons y _ ys _ r2 rr2=>
    obtain⟨he,hl⟩:=hk x mem_cons_self y mem_cons_self _ _ r1 r2
    unfold dO at h
    cases e:bJ x y with
    |true=>
     rw[e]at he
     rw[if_pos e]at h
     exact .same he (ih rr1 rr2 (fun a ha b hb=>hk a (mem_cons_of_mem _ ha) b (mem_cons_of_mem _ hb)) (by rw[hf];simp) h)
    |false=>
     rw[e]at he
     rw[if_neg (by rw[e];exact Bool.false_ne_true)]at h
     exact .less he (hl c h)
theorem C6:∀(n:Nat) (A:Around) {p q:PV} {v u:Value} {b:Bool},A.units+n<cLine->gO n p=true->gO n q=true->Lies s.heap p v->Lies s.heap q u->oO n p q=some b->GV A s v u b:=by
 intro n
 induction n with
 | zero=>
  intro A p q v u b hu o1 o2 h1 h2 h
  cases p with
  |str x=>
   cases q with
   |str y=>cases h;cases h1;cases h2;exact fun prog w E Q q=>PySem.P.lt_str q
   |_=>cases h
  |int x=>
   cases q with
   |int y=>cases h;cases h1;cases h2;exact fun prog w E Q q=>PyProof.Rows.lt_int q
   |_=>cases h
  |_=>cases q<;>cases h
 | succ n ih=>
  intro A p q v u b hu o1 o2 h1 h2 h
  cases p with
  |str x=>
   cases q with
   |str y=>cases h;cases h1;cases h2;exact fun prog w E Q q=>PySem.P.lt_str q
   |_=>cases h
  |int x=>
   cases q with
   |int y=>cases h;cases h1;cases h2;exact fun prog w E Q q=>PyProof.Rows.lt_int q
   |_=>cases h
  | tup xs=>
   cases q with
   | tup ys=>
    cases h1 with
    | tup t1 l1=>
     cases h2 with
     |tup t2 l2=>
      have hin:A.in1.units=A.units+1:=rfl
      have o1:xs.all (gO n)=true:=o1
      have o2:ys.all (gO n)=true:=o2
      refine WA t1 t2 (by omega) ?_
      simpa using VI (A:=A.in1) (s:=s) l1 l2 (fun x hx y hy u v a b=>⟨yN n A.in1 (by omega) (all_eq_true.mp o1 x hx) (all_eq_true.mp o2 y hy) a b,fun c hc=>ih A.in1 (by omega) (all_eq_true.mp o1 x hx) (all_eq_true.mp o2 y hy) a b hc⟩) rfl h
   |_=>cases h
  |_=>cases q<;>cases h
theorem M8 {fin:Bool} {lt:PV->PV->Option Bool}:∀{xs ys:List PV} {us vs:List Value} {c:Bool} (i:Nat),1<=i->bR s.heap xs us->bR s.heap ys vs->
  (∀x∈xs,∀y∈ys,∀u v,Lies s.heap x u->Lies s.heap y v->SeqAt.EqAt A s u v (bJ x y)/\∀b,lt x y=some b->GV A s u v b)->fin=decide (us.length<vs.length)->dO lt xs ys=some c->C c s->KatLex prog w A true fin C (us.zip vs) i s:=by
 intro xs
 induction xs with
 |nil=>
  intro ys us vs c i hi h1 h2 hk hf h hC
  cases h1
  cases h2<;>(cases h;exact kat_nil (by rw[hf];exact hC))
 | cons x xs ih=>
  intro ys us vs c i hi h1 h2 hk hf h hC
  cases h1 with
  | cons r1 rr1=>
   cases h2 with
   |nil=>cases h;exact kat_nil (by rw[hf];exact hC)
   | @cons y _ ys _ r2 rr2=>
    obtain⟨he,hl⟩:=hk x mem_cons_self y mem_cons_self _ _ r1 r2
    refine kat_cons (he prog w _ _ ?_)
    unfold dO at h
    cases e:bJ x y with
    |true=>
     rw[if_pos e]at h
     exact kat_yes (ih (i+1) (by omega) rr1 rr2 (fun a ha b hb=>hk a (mem_cons_of_mem _ ha) b (mem_cons_of_mem _ hb)) (by rw[hf];simp) h hC)
    |false=>
     rw[if_neg (by rw[e];exact Bool.false_ne_true)]at h
     refine kat_no ?_
     have e0:(true && i==0)=false:=by simp;omega
     rw[e0]
     exact kat_one _ _ (hl c h prog w _ _ hC)
noncomputable def j5 (b:Bool):PV->Bool
 | .tup (.str _::_)=>b
 | .tup (.int _::_)=>!b
 |_=>false
noncomputable def LI (b:Bool):String:=if b then "str"else "int"
theorem WO {b:Bool} {n:Nat} {vs:List Value} (hl:bR s.heap ps vs) (hu:A.units+n<cLine) (led:∀p∈ps,j5 b p=true) (ok:∀p∈ps,gO (n+1) p=true)
  {i j:Nat} {c:Bool} {p q:PV} (hp:ps[i]? =some p) (hq:ps[j]? =some q) (hc:oO (n+1) p q=some c) (hC:C c s):kas_ask prog w A (tuples' (Value.type (LI b) !=Value.type "tuple")) vs i j C s:=by
 have kt:(Value.type (LI b) !=Value.type "tuple")=true:=by cases b<;>decide
 obtain⟨u,hu1,lu⟩:∃u,vs[i]? =some u/\Lies s.heap p u:=by
  have hlt:i<vs.length:=by rw[<-hl.length];exact(List.getElem?_eq_some_iff.mp hp).1
  obtain⟨p',e,l⟩:=hl.get (getElem?_eq_getElem hlt)
  rw[hp]at e;cases e
  exact⟨_,getElem?_eq_getElem hlt,l⟩
 obtain⟨v,hv1,lv⟩:∃v,vs[j]? =some v/\Lies s.heap q v:=by
  have hlt:j<vs.length:=by rw[<-hl.length];exact(List.getElem?_eq_some_iff.mp hq).1
  obtain⟨p',e,l⟩:=hl.get (getElem?_eq_getElem hlt)
  rw[hq]at e;cases e
  exact⟨_,getElem?_eq_getElem hlt,l⟩
 have l1:=led p (mem_of_getElem? hp)
 have l2:=led q (mem_of_getElem? hq)
 have o1:=ok p (mem_of_getElem? hp)
 have o2:=ok q (mem_of_getElem? hq)
 show wpAny _ _ (keyLt' _ (vs.getD i Value.none) (vs.getD j Value.none)) C _ s
 rw[getD_eq_getElem?_getD,hu1,getD_eq_getElem?_getD,hv1,kt]
 cases lu with
 | @tup _ us xs t1 r1=>
  cases lv with
  | @tup _ vs' ys t2 r2=>
   obtain⟨oa,ga,_,na,da⟩:=t1
   obtain⟨ob,gb,_,nb,db⟩:=t2
   refine kat_lt ga da gb db ?_
   have o1:xs.all (gO n)=true:=o1
   have o2:ys.all (gO n)=true:=o2
   have key:∀x∈xs,∀y∈ys,∀u v,Lies s.heap x u->Lies s.heap y v->SeqAt.EqAt A s u v (bJ x y)/\∀b,oO n x y=some b->GV A s u v b:=fun x hx y hy u v a b=>
    ⟨yN n A hu (all_eq_true.mp o1 x hx) (all_eq_true.mp o2 y hy) a b,fun c hc=>C6 n A hu (all_eq_true.mp o1 x hx) (all_eq_true.mp o2 y hy) a b hc⟩
   have hc:dO (oO n) xs ys=some c:=hc
   cases r1 with
   |nil=>cases l1
   | @cons x u0 xs us a1 a2=>
    cases r2 with
    |nil=>cases l2
    | @cons y v0 ys vs' b1 b2=>
     obtain⟨he,_⟩:=key x mem_cons_self y mem_cons_self _ _ a1 b1
     refine kat_cons (he prog w _ _ ?_)
     unfold dO at hc
     cases e:bJ x y with
     |true=>
      rw[if_pos e]at hc
      exact kat_yes (M8 1 (le_refl _) a2 b2 (fun a ha b hb=>key a (mem_cons_of_mem _ ha) b (mem_cons_of_mem _ hb)) (by simp) hc hC)
     | false=>
      rw[if_neg (by rw[e];exact Bool.false_ne_true)]at hc
      refine kat_no ?_
      cases x with
      | str x=>
       cases y with
       |str y=>
        have hc:some (decide (x.cps.toList<y.cps.toList))=some c:=by cases n<;>exact hc
        cases hc
        cases a1
        cases b1
        exact oneLt_str hC
       |int y=>cases b<;>cases l1<;>cases l2
       |_=>cases l2
      | int x=>
       cases y with
       |int y=>
        have hc:some (decide (x<y))=some c:=by cases n<;>exact hc
        cases hc
        cases a1
        cases b1
        exact oneLt_int hC
       |str y=>cases b<;>cases l1<;>cases l2
       |_=>cases l2
      |_=>cases l1
  |_=>cases l2
 |_=>cases l1
end
noncomputable def nC:Nat->PV->Bool
 |_,.aY=>true
 |_,.int _=>true
 |_,.str _=>true
 |n+1,.tup ps=>ps.all (nC n)
 |_,_=>false
theorem sU:∀{n:Nat} {p:PV},nC n p=true->gO n p=true:=by
 intro n
 induction n with
 |zero=>intro p h;cases p<;>first|rfl|cases h
 |succ n ih=>
  intro p h
  cases p with
  |tup ps=>exact all_eq_true.mpr fun x hx=>ih (all_eq_true.mp h x hx)
  |lst ps=>cases h
  |a9 ps=>cases h
  |ty x=>cases h
  |bl x=>cases h
  |_=>rfl
theorem D9 (ih:∀{p q:PV},nC n p=true->nC n q=true->bJ p q=true->p=q):∀{xs ys:List PV},xs.all (nC n)=true->ys.all (nC n)=true->cO xs ys=true->xs=ys
 |[],[],_,_,_=>rfl
 |[],_::_,_,_,h=>by simp[cO]at h
 |_::_,[],_,_,h=>by simp[cO]at h
 |x::xs,y::ys,h1,h2,h=>by
  simp only[cO,and_eq_true]at h
  rw[all_cons,and_eq_true]at h1 h2
  rw[ih h1.1 h2.1 h.1,D9 ih h1.2 h2.2 h.2]
theorem BZ:∀{n:Nat} {p q:PV},nC n p=true->nC n q=true->bJ p q=true->p=q:=by
 intro n
 induction n with
 |zero=>
  intro p q h1 h2 h
  cases p<;>cases q<;>first|rfl|(cases h1;done)|(cases h2;done)|(simp[bJ]at h;try subst h;try rfl)
 | succ n ih=>
  intro p q h1 h2 h
  cases p with
  |tup xs=>
   cases q with
   |tup ys=>rw[mN]at h;rw[D9 ih h1 h2 h]
   |_=>simp[bJ]at h
  |lst xs=>cases h1
  |a9 xs=>cases h1
  |ty xs=>cases h1
  |bl xs=>cases h1
  |aY=>cases q<;>first|rfl|(simp[bJ]at h)
  |int i=>cases q<;>first|(cases h2;done)|(simp[bJ]at h;try subst h;try rfl)
  |str i=>cases q<;>first|(cases h2;done)|(simp[bJ]at h;try subst h;try rfl)
theorem mS (ih:∀{p:PV},nC n p=true->bJ p p=true):∀{xs:List PV},xs.all (nC n)=true->cO xs xs=true
 |[],_=>by simp[cO]
 |x::xs,h=>by
  rw[all_cons,and_eq_true]at h
  simp only[cO,and_eq_true]
  exact⟨ih h.1,mS ih h.2⟩
theorem pF:∀{n:Nat} {p:PV},nC n p=true->bJ p p=true:=by
 intro n
 induction n with
 |zero=>intro p h;cases p<;>first|(simp[bJ];done)|cases h
 |succ n ih=>
  intro p h
  cases p with
  |tup xs=>rw[mN];exact mS ih h
  |lst xs=>cases h
  |a9 xs=>cases h
  |ty xs=>cases h
  |bl xs=>cases h
  |_=>simp[bJ]
noncomputable def code:Nat->PV->List Int
 |_,.str x=>x.cps.toList.map (fun c:Nat=>(c:Int)+1)++[0]
 |_,.int i=>[i]
 |n+1,.tup xs=>xs.flatMap (fun x=>1::code n x)++[0]
 |_,_=>[0]
noncomputable abbrev fP:List Int->List Int->Bool:=j0 DP
theorem w5 (a r r':List Int):fP (a++r) (a++r')=fP r r':=by
 induction a with
 |nil=>rfl
 |cons x a ih=>
  show gL DP x x (fP (a++r) (a++r'))=_
  exact(gK (A:=DP) (a:=x)).trans ih
theorem eQ {x y:Int} {r r':List Int}:fP (x::r) (y::r')=if x=y then fP r r' else decide (x<y):=by
 show gL DP x y (fP r r')=_
 rcases fI (A:=DP) x y with⟨a,b⟩|⟨a,b⟩|a
 ·rw[eJ a]
  have a:=of_decide_eq_true a
  rw[if_neg (by omega),decide_eq_true a]
 ·rw[jS a]
  have a:=of_decide_eq_true a
  rw[if_neg (by omega),decide_eq_false (by omega)]
 ·subst a
  rw[if_pos rfl]
  exact gK (A:=DP) (a:=x)
theorem xW:∀(a b:List Nat) (r r':List Int),fP ((a.map fun c:Nat=>(c:Int)+1)++[0]++r) ((b.map fun c:Nat=>(c:Int)+1)++[0]++r')=if a=b then fP r r' else decide (a<b)
 |[],[],r,r'=>by
  rw[if_pos rfl]
  exact w5 [0] r r'
 |[],y::b,r,r'=>by
  rw[if_neg (by simp)]
  show fP (0::r) (((y:Int)+1)::_)=_
  rw[eQ,if_neg (by omega),decide_eq_true (by omega)]
  exact(decide_eq_true (by simp)).symm
 |x::a,[],r,r'=>by
  rw[if_neg (by simp)]
  show fP (((x:Int)+1)::_) (0::r')=_
  rw[eQ,if_neg (by omega),decide_eq_false (by omega)]
  exact(decide_eq_false (by simp)).symm
 | x::a,y::b,r,r'=>by
  show fP (((x:Int)+1)::((a.map fun c:Nat=>(c:Int)+1)++[0]++r)) (((y:Int)+1)::((b.map fun c:Nat=>(c:Int)+1)++[0]++r'))=_
  rw[eQ,xW a b r r']
  by_cases e:x=y
  ·subst e
   rw[if_pos rfl]
   by_cases e2:a=b
   ·subst e2;rw[if_pos rfl,if_pos rfl]
   ·rw[if_neg e2,if_neg (by simpa using e2)]
    congr 1
    simp[List.cons_lt_cons_iff]
  ·rw[if_neg (by omega),if_neg (by intro z;exact e (List.cons.inj z).1)]
   by_cases h:x<y
   ·rw[decide_eq_true (show(x:Int)+1<y+1 by omega)]
    exact(decide_eq_true (List.cons_lt_cons_iff.mpr (.inl h))).symm
   ·rw[decide_eq_false (show¬(x:Int)+1<y+1 by omega)]
    refine(decide_eq_false fun z=>?_).symm
    rcases List.cons_lt_cons_iff.mp z with z|z
    ·exact h z
    ·exact e z.1
theorem BI (ih:∀{p q:PV} {b:Bool} (r r':List Int),nC n p=true->nC n q=true->oO n p q=some b->fP (code n p++r) (code n q++r')=if bJ p q=true then fP r r' else b):
  ∀{xs ys:List PV} {b:Bool} (r r':List Int),xs.all (nC n)=true->ys.all (nC n)=true->dO (oO n) xs ys=some b->
   fP (xs.flatMap (fun x=>1::code n x)++[0]++r) (ys.flatMap (fun x=>1::code n x)++[0]++r')=if cO xs ys=true then fP r r' else b
 |[],[],b,r,r',_,_,h=>by
  rw[if_pos (by simp[cO])]
  exact w5 [0] r r'
 |[],y::ys,b,r,r',_,_,h=>by
  cases h
  rw[if_neg (by simp[cO])]
  show fP (0::r) (1::_)=_
  rw[eQ];rfl
 |x::xs,[],b,r,r',_,_,h=>by
  cases h
  rw[if_neg (by simp[cO])]
  show fP (1::_) (0::r')=_
  rw[eQ];rfl
 | x::xs,y::ys,b,r,r',h1,h2,h=>by
  rw[all_cons,and_eq_true]at h1 h2
  have e1:∀(z:PV) (zs:List PV) (w:List Int),(z::zs).flatMap (fun x=>1::code n x)++[0]++w=1::(code n z++(zs.flatMap (fun x=>1::code n x)++[0]++w)):=fun z zs w=>by simp
  rw[e1,e1,eQ,if_pos rfl]
  unfold dO at h
  cases e:bJ x y with
  |true=>
   rw[if_pos e]at h
   have exy:=BZ h1.1 h2.1 e
   subst exy
   rw[w5,BI ih r r' h1.2 h2.2 h]
   simp only[cO,e,Bool.true_and]
  |false=>
   rw[if_neg (by rw[e];exact Bool.false_ne_true)]at h
   rw[ih _ _ h1.1 h2.1 h,if_neg (by rw[e];exact Bool.false_ne_true),if_neg (by simp[cO,e])]
theorem OJ:∀{n:Nat} {p q:PV} {b:Bool} (r r':List Int),nC n p=true->nC n q=true->oO n p q=some b->fP (code n p++r) (code n q++r')=if bJ p q=true then fP r r' else b:=by
 have str:∀{n:Nat} {x y:Str} {b:Bool} (r r':List Int),oO n (.str x) (.str y)=some b->fP (code n (.str x)++r) (code n (.str y)++r')=if bJ (.str x) (.str y)=true then fP r r' else b:=fun{n x y b} r r' h=>by
  have h:some (decide (x.cps.toList<y.cps.toList))=some b:=by cases n<;>exact h
  cases h
  have e1:∀z:Str,code n (.str z)=z.cps.toList.map (fun c:Nat=>(c:Int)+1)++[0]:=fun z=>by cases n<;>rfl
  rw[e1,e1,xW]
  by_cases e:x=y
  ·subst e;rw[if_pos rfl,if_pos (by simp[bJ])]
  ·rw[if_neg (fun z=>e (EV z)),if_neg (by simpa [bJ]using e)]
 have int:∀{n:Nat} {x y:Int} {b:Bool} (r r':List Int),oO n (.int x) (.int y)=some b->fP (code n (.int x)++r) (code n (.int y)++r')=if bJ (.int x) (.int y)=true then fP r r' else b:=fun{n x y b} r r' h=>by
  have h:some (decide (x<y))=some b:=by cases n<;>exact h
  cases h
  have e1:∀z:Int,code n (.int z)=[z]:=fun z=>by cases n<;>rfl
  rw[e1,e1]
  show fP (x::r) (y::r')=_
  rw[eQ]
  by_cases e:x=y
  ·subst e;rw[if_pos rfl,if_pos (by simp[bJ])]
  ·rw[if_neg e,if_neg (by simpa [bJ]using e)]
 intro n
 induction n with
 | zero=>
  intro p q b r r' h1 h2 h
  cases p with
  |str x=>cases q with
   |str y=>exact str r r' h
   |_=>cases h
  |int x=>cases q with
   |int y=>exact int r r' h
   |_=>cases h
  |_=>cases q<;>cases h
 | succ n ih=>
  intro p q b r r' h1 h2 h
  cases p with
  |str x=>cases q with
   |str y=>exact str r r' h
   |_=>cases h
  |int x=>cases q with
   |int y=>exact int r r' h
   |_=>cases h
  | tup xs=>cases q with
   |tup ys=>
    rw[mN]
    exact BI ih r r' h1 h2 h
   |_=>cases h
  |_=>cases q<;>cases h
theorem DZ (ih:∀{p q:PV},oO n p q=some false->oO n q p=some false->bJ p q=true) (sym:∀p q:PV,bJ p q=bJ q p):∀{xs ys:List PV},dO (oO n) xs ys=some false->dO (oO n) ys xs=some false->cO xs ys=true
 |[],[],_,_=>by simp[cO]
 |[],_::_,h,_=>by cases h
 |_::_,[],_,h=>by cases h
 | x::xs,y::ys,h,h'=>by
  unfold dO at h h'
  rw[sym y x]at h'
  cases e:bJ x y with
  |true=>
   rw[if_pos e]at h h'
   simp only[cO,e,Bool.true_and]
   exact DZ ih sym h h'
  |false=>
   rw[if_neg (by rw[e];exact Bool.false_ne_true)]at h h'
   rw[ih h h']at e
   cases e
mutual
theorem FJ:∀p q:PV,bJ p q=bJ q p
 | .aY,q=>by cases q<;>simp[bJ]
 | .bl a,q=>by cases q<;>simp only[bJ]<;>(rw[Bool.eq_iff_iff,beq_iff_eq,beq_iff_eq];exact eq_comm)
 | .int a,q=>by cases q<;>simp only[bJ]<;>(rw[Bool.eq_iff_iff,beq_iff_eq,beq_iff_eq];exact eq_comm)
 | .str a,q=>by cases q<;>simp only[bJ]<;>(rw[Bool.eq_iff_iff,beq_iff_eq,beq_iff_eq];exact eq_comm)
 | .ty a,q=>by cases q<;>simp[bJ]
 | .a9 a,q=>by cases q<;>simp[bJ]
 | .tup xs,q=>by
  cases q with
  |tup ys=>simp only[bJ];exact sE xs ys
  |_=>simp[bJ]
 | .lst xs,q=>by
  cases q with
  |lst ys=>simp only[bJ];exact sE xs ys
  |_=>simp[bJ]
theorem sE:∀xs ys:List PV,cO xs ys=cO ys xs
 |[],ys=>by cases ys<;>simp[cO]
 |x::xs,[]=>by simp[cO]
 |x::xs,y::ys=>by simp only[cO];rw[FJ x y,sE xs ys]
end
theorem tri:∀{n:Nat} {p q:PV},oO n p q=some false->oO n q p=some false->bJ p q=true:=by
 have str:∀{x y:Str},¬x.cps.toList<y.cps.toList->¬y.cps.toList<x.cps.toList->bJ (.str x) (.str y)=true:=fun h h'=>by
  have e:=List.le_antisymm (not_lt.mp h') (not_lt.mp h)
  rw[EV e]
  simp[bJ]
 have int:∀{x y:Int},¬x<y->¬y<x->bJ (.int x) (.int y)=true:=fun h h'=>by
  have e:_=_:=Int.le_antisymm (Int.not_lt.mp h') (Int.not_lt.mp h)
  rw[e]
  simp[bJ]
 intro n
 induction n with
 | zero=>
  intro p q h h'
  cases p with
  |str x=>cases q with
   |str y=>exact str (of_decide_eq_false (Option.some.inj h)) (of_decide_eq_false (Option.some.inj h'))
   |_=>cases h
  |int x=>cases q with
   |int y=>exact int (of_decide_eq_false (Option.some.inj h)) (of_decide_eq_false (Option.some.inj h'))
   |_=>cases h
  |_=>cases q<;>cases h
 | succ n ih=>
  intro p q h h'
  cases p with
  |str x=>cases q with
   |str y=>exact str (of_decide_eq_false (Option.some.inj h)) (of_decide_eq_false (Option.some.inj h'))
   |_=>cases h
  |int x=>cases q with
   |int y=>exact int (of_decide_eq_false (Option.some.inj h)) (of_decide_eq_false (Option.some.inj h'))
   |_=>cases h
  |tup xs=>cases q with
   |tup ys=>rw[mN];exact DZ ih FJ h h'
   |_=>cases h
  |_=>cases q<;>cases h
noncomputable def cP (n:Nat) (ps:List PV):Bool:=ps.all fun p=>nC n p && ps.all fun q=>(oO n p q).isSome
noncomputable abbrev lG:KeyOrd:=ZN DP
noncomputable def kK (n:Nat) (a b:PV):Bool:=!fP (code n b) (code n a)
noncomputable def lI (n:Nat) (ps:List PV):List PV:=ps.mergeSort (kK n)
theorem qG (a b c:PV) (h1:kK n a b=true) (h2:kK n b c=true):kK n a c=true:=by
 unfold kK at*
 rw[not_eq_true']at*
 exact KeyOrd.kle_trans (O:=lG) h1 h2
theorem pT {n:Nat} (a b:PV):(kK n a b||kK n b a)=true:=by
 unfold kK
 rcases fI (A:=lG) (code n a) (code n b)with⟨x,y⟩|⟨x,y⟩|x
 ·rw[show fP (code n b) (code n a)=false from y];rfl
 ·rw[show fP (code n a) (code n b)=false from y];simp
 ·rw[x,show fP (code n b) (code n b)=false from lG.irrefl _];rfl
theorem cF (n:Nat) (ps:List PV):(lI n ps).Perm ps:=List.mergeSort_perm ps (kK n)
theorem dY (n:Nat) (ps:List PV):(lI n ps).Pairwise fun a b=>kK n a b=true:=List.pairwise_mergeSort qG pT ps
theorem gM:∀{a b:List PV},a.Pairwise (fun x y=>kK n x y=true)->b.Pairwise (fun x y=>kK n x y=true)->a.Perm b->(∀x∈a,∀y∈a,kK n x y=true->kK n y x=true->x=y)->a=b
 |[],b,_,_,p,_=>List.Perm.nil_eq p
 |x::a,[],_,_,p,_=>absurd p.symm.nil_eq (by simp)
 | x::a,y::b,ha,hb,p,an=>by
  have hx:=(pairwise_cons.mp ha).1
  have hy:=(pairwise_cons.mp hb).1
  have e:x=y:=by
   rcases mem_cons.mp (p.mem_iff.mp mem_cons_self)with z|z
   ·exact z
   ·rcases mem_cons.mp (p.mem_iff.mpr mem_cons_self)with w|w
    ·exact w.symm
    ·exact an x mem_cons_self y (mem_cons_of_mem _ w) (hx y w) (hy x z)
  subst e
  rw[gM (pairwise_cons.mp ha).2 (pairwise_cons.mp hb).2 p.cons_inv fun u hu v hv=>an u (mem_cons_of_mem _ hu) v (mem_cons_of_mem _ hv)]
theorem kY (h:cP n ps=true) {p q:PV} (hp:p∈ps) (hq:q∈ps):oO n p q=some (fP (code n p) (code n q)):=by
 have a:=all_eq_true.mp h p hp
 have b:=all_eq_true.mp h q hq
 rw[and_eq_true]at a b
 have c:=all_eq_true.mp a.2 q hq
 obtain⟨v,e⟩:=isSome_iff_exists.mp c
 have c':=all_eq_true.mp b.2 p hp
 obtain⟨v',e'⟩:=isSome_iff_exists.mp c'
 have k:=OJ [] [] a.1 b.1 e
 rw[append_nil,append_nil]at k
 rw[e,k]
 cases z:bJ p q with
 |false=>rw[if_neg Bool.false_ne_true]
 | true=>
  rw[if_pos rfl]
  have epq:=BZ a.1 b.1 z
  subst epq
  rw[e]at e'
  cases e'
  show some v=some false
  have irr:∀{m:Nat} {p:PV} {v:Bool},nC m p=true->oO m p p=some v->v=false:=by
   intro m p v hp h
   cases v with
   |false=>rfl
   | true=>
    exfalso
    cases m with
    |zero=>
     cases p with
     |str x=>exact absurd (of_decide_eq_true (Option.some.inj h)) (List.lt_irrefl _)
     |int x=>exact absurd (of_decide_eq_true (Option.some.inj h)) (by omega)
     |_=>cases h
    | succ m=>
     cases p with
     |str x=>exact absurd (of_decide_eq_true (Option.some.inj h)) (List.lt_irrefl _)
     |int x=>exact absurd (of_decide_eq_true (Option.some.inj h)) (by omega)
     | tup xs=>
      have key:∀{l:List PV},l.all (nC m)=true->dO (oO m) l l=some false:=by
       intro l
       induction l with
       |nil=>intro _;rfl
       |cons x l ih=>
        intro hl
        rw[all_cons,and_eq_true]at hl
        unfold dO
        rw[if_pos (pF hl.1)]
        exact ih hl.2
      have:=key (show xs.all (nC m)=true from hp)
      rw[show dO (oO m) xs xs=some true from h]at this
      cases this
     |_=>cases h
  rw[irr a.1 e]
theorem lV (h:cP n ps=true) {p q:PV} (hp:p∈ps) (hq:q∈ps) (h1:kK n p q=true) (h2:kK n q p=true):p=q:=by
 have a:=all_eq_true.mp h p hp
 have b:=all_eq_true.mp h q hq
 rw[and_eq_true]at a b
 unfold kK at h1 h2
 rw[not_eq_true']at h1 h2
 refine BZ a.1 b.1 (tri (n:=n) ?_ ?_)
 ·rw[kY h hp hq,h2]
 ·rw[kY h hq hp,h1]
section
variable {X:Cx} {k:Nat}
noncomputable def DG (K:Frag):List V->Hp->VK->Prop:=fun xs H Q=>∃p ys ps b,xs=[.ref p]/\iR K H p ys/\bG K cR H ps ys/\ys.length<64/\(∀x∈ps,j5 b x=true)/\cP 3 ps=true/\
 ∀l (ix:List Nat),ix.Perm (List.range ps.length)->(ix.map fun i=>ps.getD i .aY).Pairwise (fun a b=>kK 3 a b=true)->H l=none->Q (.ref l) (upd H l (.lst (ix.map fun i=>ys.getD i .aY)))
theorem mK {s:Shared} {b:Bool}:∀{ps:List PV} {vs:List Value},bR s.heap ps vs->(∀x∈ps,j5 b x=true)->∃fs,KatTups s.heap vs fs/\fs.length=vs.length/\∀v∈fs,(∃x t,b=true/\v= .str x t)\/ ∃x t,b=false/\v= .int x t
 |[],_,.nil,_=>⟨[],.nil,rfl,fun _ h=>nomatch h⟩
 | p::ps,_,.cons l r,h=>by
  obtain⟨fs,h1,h2,h3⟩:=mK r fun z hz=>h z (mem_cons_of_mem _ hz)
  have hp:=h p mem_cons_self
  cases l with
  | tup t1 r1=>
   obtain⟨o,g1,g2,m,g3⟩:=t1
   cases r1 with
   |nil=>cases hp
   | cons a1 a2=>
    cases a1 with
    |str x t=>
     refine⟨.str x t::fs,.cons g1 g2 g3 (by simp) h1,by rw[length_cons,length_cons,h2],fun v hv=>?_⟩
     rcases mem_cons.mp hv with e|e
     ·exact .inl ⟨x,t,hp,e⟩
     ·exact h3 v e
    |int x t=>
     refine⟨.int x t::fs,.cons g1 g2 g3 (by simp) h1,by rw[length_cons,length_cons,h2],fun v hv=>?_⟩
     rcases mem_cons.mp hv with e|e
     ·exact .inr ⟨x,t,by simpa [j5]using hp,e⟩
     ·exact h3 v e
    |_=>cases hp
  |_=>cases hp
theorem T1 (K:Frag) (hr:dB k X.A) (hK:X.K=K:=by rfl):cD X (.builtin "sorted") (DG K):=by
 subst hK
 intro pins s σ H xs us Q I r ⟨p,ys,ps,b,e,hq,rp,h64,led,cmp,q⟩
 subst e
 obtain⟨u,rfl,rx⟩:=vals1 r
 cases rx
 obtain⟨vs,rv,pl,hz⟩:=I.list hq
 have hlen:=rv.length
 have hpl:=rp.length
 have ok:∀x∈ps,gO 3 x=true:=fun x hx=>by
  have:=all_eq_true.mp cmp x hx
  rw[and_eq_true]at this
  exact sU this.1
 refine zX (R:=fun p=>lE lG (fun i=>code 3 (ps.getD i .aY)) p vs.length) pl.isList (by omega) (fun l2 h' kp=>?_) (fun h2 i j a b=>?_) fun out p h1 h2 h3=>?_
 ·have I':=I.kept (t':=s.toks) kp
  have hL:bR h' ps vs:=bG.lies I' (n:=3) (all_eq_true.mpr ok) rp rv
  obtain⟨fs,k1,k2,k3⟩:=mK (s:={s with heap:=h'}) hL led
  refine⟨tuples' (Value.type (LI b) !=Value.type "tuple"),fun Q E q=>kat_kind k1 (by omega) (fun v hv=>?_) (by cases b<;>decide) q,fun G hG=>oW.run (n:=vs.length) (ans:=BS lG (fun i=>code 3 (ps.getD i .aY))) (fun i j C hi hj hC=>?_) (fun p h1 h2=>hG p h1 h2) (yC (by omega)) (DI (by omega))⟩
  ·rcases k3 v hv with⟨x,t,rfl,rfl⟩|⟨x,t,rfl,rfl⟩
   ·exact Looks.of_pure rfl
   ·exact Looks.of_pure rfl
  ·have e1:ps[i]? =some ps[i]:=getElem?_eq_getElem (by omega)
   have e2:ps[j]? =some ps[j]:=getElem?_eq_getElem (by omega)
   refine WO (s:={s with heap:=h'}) (n:=2) hL (by have:=hr.un;show X.A.units+1+1+2<_;omega) led ok e1 e2 (kY cmp (getElem_mem _) (getElem_mem _)) ?_
   have hC:C (lG.blt (code 3 (ps.getD i .aY)) (code 3 (ps.getD j .aY))) _:=hC
   rw[getD_eq_getElem?_getD,e1,getD_eq_getElem?_getD,e2]at hC
   exact hC
 ·rw[show i=j by omega];exact KeyOrd.kle_refl _
 ·have hp:p.toList.Perm (List.range vs.length):=by simpa using perm_iff_toList_perm.mp h1
  have hlt:∀i∈p.toList,i<vs.length:=fun i hi=>mem_range.mp (hp.mem_iff.mp hi)
  have z2:=nZ rv p.toList hlt
  rw[<-h3]at z2
  have hpz:p.toList.length=vs.length:=by rw[hp.length_eq,length_range]
  obtain⟨c,hat⟩:=sortedAll_at s.heap vs out
  refine⟨.ref (s.heap.objs.size+1),_,I.laid (t':=s.toks) (o:=.lst (p.toList.map fun i=>ys.getD i .aY)) (fun b o e=>sortedAll_old e) (le_succ _) ⟨by rw[length_map,hpz,<-hlen];exact hz,out.toList,c,z2,hat⟩,rfl,q _ _ (by rw[hpl,hlen];exact hp) ?_ (I.bN.fresh (le_succ _))⟩
  rw[pairwise_iff_getElem]
  intro i j hi hj hij
  rw[length_map]at hi hj
  have h:=h2 i j (by omega) (by omega)
  rw[getElem_map,getElem_map]
  have ky:∀(i:Nat) (hi:i<p.toList.length),Ky lG (fun i=>code 3 (ps.getD i .aY)) p i=code 3 (ps.getD p.toList[i] .aY):=fun i hi=>by
   unfold Ky
   rw[getD_eq_getD_getElem?,<-getElem?_toList,getElem?_eq_getElem hi]
   rfl
  rw[ky i hi,ky j hj]at h
  show(!fP _ _)=true
  rw[not_eq_true']
  exact h
end
section
variable {K:Frag}
noncomputable def uD:List PV->Option Bv
 |[.lst ps]=>aN (decide (ps.length<64) && ((ps.all (j5 true)||ps.all (j5 false)) && cP 3 ps)) (some (.new (.lst (lI 3 ps))))
 |_=>none
theorem qB {Z:aI} {H:Hp} {ys:List V} (r:bG K Z H ps ys):∀{ix:List Nat},(∀i∈ix,i<ps.length)->bG K Z H (ix.map fun i=>ps.getD i .aY) (ix.map fun i=>ys.getD i .aY)
 |[],_=>.nil
 |i::ix,h=>by
  have hi:=h i mem_cons_self
  have e:=getElem?_eq_getElem hi
  obtain⟨v,ev,rv⟩:=r.get e
  refine .cons ?_ (qB r fun j hj=>h j (mem_cons_of_mem _ hj))
  dsimp only
  rw[getD_eq_getElem?_getD,getD_eq_getElem?_getD,e,ev]
  exact rv
theorem MA:fX K (DG K) uD:=by
 intro Z H vs qs b Q hp h kk
 unfold uD at h
 split at h
 ·rename_i ps
  obtain⟨c,h⟩:=aK h
  cases h
  rw[and_eq_true,and_eq_true]at c
  obtain⟨c1,c2,c3⟩:=c
  obtain⟨v,rfl,hv⟩:=hp.one
  obtain⟨a,ys,rfl,ha,ra⟩:=hv.m6
  have led:∃b,∀x∈ps,j5 b x=true:=by
   rcases Bool.or_eq_true_iff.mp c2 with z|z
   ·exact⟨true,fun x hx=>all_eq_true.mp z x hx⟩
   ·exact⟨false,fun x hx=>all_eq_true.mp z x hx⟩
  obtain⟨b,led⟩:=led
  refine⟨a,ys,ps,b,rfl,ha.sq,ra.aH (.less fun _ z=>z.elim),by rw[<-ra.length];exact of_decide_eq_true c1,led,c3,fun l ix h1 h2 hl=>?_⟩
  have hix:∀i∈ix,i<ps.length:=fun i hi=>mem_range.mp (h1.mem_iff.mp hi)
  have pm:(ix.map fun i=>ps.getD i .aY).Perm ps:=by
   have:=h1.map fun i=>ps.getD i PV.aY
   have e:(List.range ps.length).map (fun i=>ps.getD i PV.aY)=ps:=by
    apply ext_getElem
    ·simp
    ·intro i a1 a2
     simp[getElem?_eq_getElem a2]
   rw[e]at this
   exact this
  have es:lI 3 ps=ix.map fun i=>ps.getD i .aY:=
   gM (dY 3 ps) h2 ((cF 3 ps).trans pm.symm) fun x hx y hy=>lV c3 ((cF 3 ps).mem_iff.mp hx) ((cF 3 ps).mem_iff.mp hy)
  rw[es]at kk
  exact kk _ _ (aZ.upd hl) (yF hl (qB ra hix))
 ·cases h
end
end Mr
namespace Mr
open PySem PySem.Spec L2 PyProof.Rows
variable {X:Cx} {e:En} {fa:FA} {ta:TA}
section
variable {K:Frag}
noncomputable def CJ (K:Frag):List V->Hp->VK->Prop:=fun xs H Q=>C9 K xs H Q\/ (DN xs H Q\/ DG K xs H Q)
theorem E9 {k:Nat} (K:Frag) (hr:dB k X.A) (hK:X.K=K:=by rfl) (hc:X.calm=true:=by rfl):cD X (.builtin "sorted") (CJ K):=cD.or (GO K hK) (cD.or (ZE hc) (T1 K hr hK))
noncomputable def fS:List PV->Option Bv:=fun p=>(oM p).or ((qD p).or (uD p))
theorem uE:fX K (CJ K) fS:=fX.or NK (fX.or II MA)
end
section
variable {K:Frag}
noncomputable def mulC (i j:Int):Bool:=decide (Builtin.Int.intTooBig (Builtin.Int.intBits i+Builtin.Int.intBits j)=false)
theorem x3:iQ X (binaryOp .Mult) (rI IntMulOk fun i j=>.int (i*j)):=Y9 fun _ _ _ _ _ _ _ hc q=>mul_int q hc
noncomputable def qL:PV->PV->Option Bv:=gI mulC fun i j=>.int (i*j)
theorem ED:dN K (rI IntMulOk fun i j=>.int (i*j)) qL:=KI (fun i j h=>by
 have h:=of_decide_eq_true h
 unfold IntMulOk
 rw[h,Bool.and_false]
 exact Bool.false_ne_true) fun _ _ _ _=>.int _
end
section
variable {K:Frag}
noncomputable def inR (k:Int):Bool:= @decide (-1000000000<=k/\k<1000000000) (Classical.propDecidable _)
theorem gQ {k:Int} (h0: -1000000000<=k) (h1:k<1000000000):inR k=true:= @decide_eq_true _ (Classical.propDecidable _) ⟨h0,h1⟩
noncomputable def qF (fa:FA):FI:=fun _ e=>bE (fa e) fun bs e1=>match bs with
 |[.val (.int j)]=>aN (inR j) (some ((List.range j.toNat).map (fun k:Nat=>.int (0+(k:Int))),e1))
 |_=>none
theorem OB (h:rK K ta fa):tE K (SV ta) (qF fa):=by
 intro st O M W L σ H e e' ps R o he hf q
 obtain⟨x,e1,f1,hf⟩:=aL hf
 refine h O M W L σ H e e1 x _ o he f1 fun vs H1 k1 en rv=>?_
 split at hf
 ·rename_i j
  obtain⟨c,hf⟩:=aK hf
  have c:= @of_decide_eq_true _ (Classical.propDecidable _) c
  cases hf
  cases rv with
  |cons h r=>
   cases r
   cases h
   exact⟨j,rfl,by omega,by omega,q _ H1 k1 en fun Wr hw _=>JZ⟩
 ·cases hf
noncomputable def UA (fa:FA):FI:=fun _ e=>bE (fa e) fun bs e1=>match bs with
 |[.val (.int i),.val (.int j)]=>aN (inR i && inR j) (some ((List.range (j - i).toNat).map (fun k:Nat=>.int (i+(k:Int))),e1))
 |_=>none
theorem QL (h:rK K ta fa):tE K (RR ta) (UA fa):=by
 intro st O M W L σ H e e' ps R o he hf q
 obtain⟨x,e1,f1,hf⟩:=aL hf
 refine h O M W L σ H e e1 x _ o he f1 fun vs H1 k1 en rv=>?_
 split at hf
 ·rename_i i j
  obtain⟨c,hf⟩:=aK hf
  rw[and_eq_true]at c
  have c1:= @of_decide_eq_true _ (Classical.propDecidable _) c.1
  have c2:= @of_decide_eq_true _ (Classical.propDecidable _) c.2
  cases hf
  cases rv with
  | cons h r=>
   cases r with
   |cons h' r=>
    cases r
    cases h
    cases h'
    exact⟨i,j,rfl,⟨by omega,by omega,by omega,by omega⟩,q _ H1 k1 en fun Wr hw _=>JZ⟩
 ·cases hf
theorem UZ {st:Nat->Bool}:qF fa st e=bE (fa e) fun bs e1=>match bs with
 |[.val (.int j)]=>aN (inR j) (some ((List.range j.toNat).map (fun k:Nat=>.int (0+(k:Int))),e1))
 |_=>none:=rfl
theorem WY {st:Nat->Bool}:UA fa st e=bE (fa e) fun bs e1=>match bs with
 |[.val (.int i),.val (.int j)]=>aN (inR i && inR j) (some ((List.range (j - i).toNat).map (fun k:Nat=>.int (i+(k:Int))),e1))
 |_=>none:=rfl
end
end Mr
namespace Mr
open PySem L2
variable {fa:FE} {f:FN} {α β:Type}
section
variable {K:Frag}
theorem aO.given {M L:aI} {W:WS} {H H':Hp} {σ:St} {e:En} {l:Addr} (h:aO K (aT M (aT L (one l))) W (aT L (one l)) H σ e) (f:MJ σ e l) (nL:¬L l) (nW:∀i,¬W i l) (kp:∀a o,a≠l->H a=some o->H' a=some o) (kt:∀a xs,H a=some (.tup xs)->H' a=some (.tup xs)):aO K (aT M L) W L H' σ e:=by
 have k:cT (aT M (aT L (one l))) (aT M L) H H':=⟨kt,fun a o q n=>⟨kp a o (fun z=>n (.inr (.inr z))) q,fun z=>n (z.elim .inl fun z=>.inr (.inl z))⟩⟩
 refine⟨h.len,fun i sl q=>?_,h.mY⟩
 obtain⟨v,h1,h2⟩:=h.at' i sl q
 refine⟨v,h1,?_⟩
 cases sl with
 |val p=>exact Rep.aH k h2
 |own p=>obtain⟨a,e,w,c⟩:=h2;exact⟨a,e,w,c.aH k fun o q=>kp a o (fun z=>nW i (z▸w)) q⟩
 | loc p=>
  obtain⟨a,e,w,c⟩:=h2
  have na:a≠l:=fun z=>by
   subst z e
   exact f i _ q rfl h1
  exact⟨a,e,w.elim id fun z=>absurd z na,c.aH k fun o q=>kp a o na q⟩
 |bor p=>
  obtain⟨a,e,c⟩:=h2
  refine⟨a,e,?_⟩
  cases c with
  |lst e od n m r=>exact .lst (e.elim (fun e=>.inl (kp _ _ (fun z=>m (.inr z)) e)) fun⟨u,e⟩=>.inr ⟨u,kp _ _ (fun z=>m (.inr z)) e⟩) od n (fun z=>m (.inl z)) (r.aH k)
  |dF e r=>exact .dF e (r.aH k)
  |a9 e od n m kk r=>exact .a9 (e.elim (fun e=>.inl (kp _ _ (fun z=>m (.inr z)) e)) fun⟨u,e⟩=>.inr ⟨u,kp _ _ (fun z=>m (.inr z)) e⟩) od n (fun z=>m (.inl z)) kk (r.aH k)
noncomputable def CF (f:FN) (fa:FE) (i:Nat):FE:=fun e=>bE (fa e) fun x e1=>match x with
 | .new p=>bO (rd e1 i) fun q=>match q with
  | .int k=>bO (f [p,.int k]) fun rq=>some (.val rq.1,e1)
  |_=>none
 |_=>none
theorem F5 {ta:TE} {E:XK} (i:Nat) (ha:Ref K ta fa):Ref K (z7 (RY K [.m,.b] false f) [] E (eN ta (eN (xK i) p9))) (CF f fa i):=by
 intro O M W L σ H e e' b Q o he hf q
 obtain⟨x,e1,f1,hf⟩:=aL hf
 cases x with
 | new p=>
  obtain⟨qv,g1,hf⟩:=aF hf
  cases qv with
  | int k=>
   obtain⟨⟨r,qs⟩,g2,hf⟩:=aF hf
   cases hf
   refine ha O M W L σ H e _ _ _ o he f1 fun v1 H1 k1 r1 fr=>?_
   have o1:=o.keep k1.b9
   obtain⟨a,rfl,nO,nL,en,hfree,ct⟩:=r1
   have hfr:H a=none:=fr a rfl
   have en0:=en.SF hfree
   have g1':=g1
   unfold Mr.rd at g1'
   cases c:e'[i]? with
   |none=>rw[c]at g1';cases g1'
   | some s=>
    cases s with
    |none=>rw[c]at g1';cases g1'
    | some s=>
     obtain⟨u,hs,_⟩:=en0.at' i s c
     have hu:=(en0.rd g1 hs).int
     subst hu
     refine⟨.int k,hs,?_⟩
     show RY K [.m,.b] false f ([.ref a,.int k]++[]) H1 Q E
     rw[append_nil]
     obtain⟨ob,hob,nt⟩:=ct.there
     have ws:∀j b,oI [.m,.b] [.ref a,.int k] H1 j b->b=a:=fun j b ⟨h1,h2⟩=>by
      match j,h1,h2 with
      |0,h1,h2=>cases h2;rfl
      |1,h1,h2=>cases h1
     refine⟨aT M (aT L (one a)),[p,.int k],r,qs,fun b z=>?_,rfl,rfl,fun j kk p' v h1 h2 h3=>?_,fun j1 j2 hne h1 h2=>?_,fun j b h=>?_,g2,fun v H' kc res=>?_⟩
     ·rcases z with z|z|z
      ·exact o1.old b (o1.mo b z)
      ·exact(o1.loc b z).1
      ·rw[show b=a from z,hob];exact fun z=>nomatch z
     ·match j,h1,h2,h3 with
      |0,h1,h2,h3=>cases h1;cases h2;cases h3;exact⟨a,rfl,⟨rfl,rfl⟩,ct⟩
      |1,h1,h2,h3=>cases h1;cases h2;cases h3;exact Rep.int k
     ·match j1,j2,h1,h2 with
      |0,0,_,_=>exact absurd rfl hne
      |0,1,_,h2=>cases h2
      |1,_,h1,_=>cases h1
     ·exact .inr (.inr (ws j b h))
     ·have kp:∀b u,b≠a->H1 b=some u->H' b=some u:=fun b u nb e=>kc.obj b u e (fun⟨j,w⟩=>nb (ws j b w)) fun z=>z
      have kout:bW W L H H':=⟨fun b u e n m=>kp b u (fun z=>by rw[z,hfr]at e;cases e) (k1.obj b u e n m),fun b xs e=>kc.tup b xs (k1.tup b xs e),fun b h=>kc.b9 b (k1.b9 b h)⟩
      exact q v H' kout ⟨en.given hfree nL (fun j w=>nO (o1.mo a (o1.wm j a w))) kp kc.tup,res.1.aH (.less fun b z=>z.elim .inl fun z=>.inr (.inl z))⟩ trivial
  |_=>cases hf
 |_=>cases hf
theorem IG {i:Nat} {e:En}:CF f fa i e=bE (fa e) fun x e1=>match x with
 | .new p=>bO (rd e1 i) fun q=>match q with
  | .int k=>bO (f [p,.int k]) fun rq=>some (.val rq.1,e1)
  |_=>none
 |_=>none:=rfl
end
theorem QC {k:α->Option β}:bO (none:Option α) k=none:=rfl
theorem N7 {k:α->En->Option β}:bE (none:Option (α×En)) k=none:=rfl
end Mr
namespace L2
open PySem PySem.Spec PyProof.Rows PySem.W
section
variable {prog:Program} {w:World} {A:Around} {E:Value->Shared->Prop} {s:Shared}
theorem kQ.trans {s s1 s2:Shared} (a:kQ s s1) (b:kQ s1 s2):kQ s s2:=by
 obtain⟨h1,t1,d1,rfl,z1,k1⟩:=a
 obtain⟨h2,t2,d2,rfl,z2,k2⟩:=b
 exact⟨h2,t2,d2,rfl,le_trans z1 z2,fun x o e=>k2 x o (k1 x o e)⟩
theorem rJ {v:Value} {Ok:List Value->Shared->Prop} {R:List Value->Array Nat->Prop} {Q:Value->Shared->Prop}
  (hcol:∀(E':Value->Shared->Prop) (Q':List Value->Shared->Prop),(∀vs s1,kQ s s1->Ok vs s1->Q' vs s1)->wpAny (model prog w) A.in1 (collect v) Q' E' s) (h64:∀vs s1,Ok vs s1->vs.length<64)
  (hk:∀vs s1,kQ s s1->Ok vs s1->2<=vs.length->∀h':Heap,(∀b o,s1.heap.get? b=some o->h'.get? b=some o)->xC prog w A.in1.in1 vs (R vs) {s1 with heap:=h'}) (hR:∀vs s1,Ok vs s1->vs.length<2->R vs (List.range vs.length).toArray)
  (hq:∀(a:Addr) s1 s2 (out:Array Value) c vs (p:Array Nat),kQ s s1->Ok vs s1->kQ s1 s2->s1.heap.objs.size<=a->s2.heap.get? a=some (seqObj "list" out c)->m7 vs.length p->R vs p->out.toList=p.toList.map (fun i=>vs.getD i Value.none)->Q (.ref a) s2):
  wpAny (model prog w) A (call (.builtin "sorted") [v]) Q E s:=by
 refine Calls.call_function_entry kind_sorted plain_sorted entry_sorted (args_sorted1 _) ?_
 unfold Builtin.«sorted»
 refine wpAny_bind (m:=checkCount "sorted" 1 1 _) (wpAny_pure (wpAny_bind (hcol _ _ fun vs s1 g ok=>?_)))
 have hl:=h64 vs s1 ok
 refine wpAny_bind (wpAny_newList ?_ (by simp only[sizeLine_eq];omega))
 have e1:(s1.heap.push (seqObj "list" vs.toArray 0)).get? s1.heap.objs.size=some (seqObj "list" vs.toArray 0):=get?_push_size _ rfl
 refine wpAny_bind (wpAny_holding (wpAny_call_entry slot_list_sort ⟨_,e1,rfl⟩ entry_list_sort ?bd (args_list_sort _)))
 case bd=>
  refine pW e1 hl (fun l2 h' kp=>hk vs s1 g ok l2 h' fun b o gb=>kp b o (ne_of_lt (lt_size gb)) (get?_push_of_some _ gb)) (hR vs s1 ok) fun out p p1 p2 p3=>⟨_,rfl,wpAny_pure ⟨_,rfl,?_⟩⟩
  obtain⟨c,hc⟩:=sortedHeap_at (out:=out) e1
  refine hq s1.heap.objs.size s1 _ out c vs p g ok ?_ (le_refl _) hc p1 p2 p3
  refine⟨_,s1.toks,s1.drawn,rfl,le_of_lt (lt_size hc),fun b o e=>?_⟩
  have hb:=lt_size e
  rw[sortedHeap_old (ne_of_lt hb) (by rw[size_push'];exact lt_succ_of_lt hb)]
  exact get?_push_of_some _ e
theorem uK {K:Type} [DecidableEq K] {knd:KeyKind prog w K} {r d:Addr} {kvs:List (K×Value)} {ep:Nat} {Q:List Value->Shared->Prop} (hh:A.handled=none) (hv:s.heap.IsItemsView r d) (hm:s.heap.DictAt knd d kvs ep) (hn:kvs.length<=sizeLine)
  (hq:∀s1 (as:List Addr),kQ s s1->as.length=kvs.length->KdxG knd kvs s.heap.objs.size s1.heap as->Q (as.map Value.ref) s1):wpAny (model prog w) A (collect (.ref r)) Q E s:=by
 have hr:r<s.heap.objs.size:=let⟨_,ho,_⟩:=hv;lt_size ho
 have hd:d<s.heap.objs.size:=hm.lt_size
 have fin:∀(h':Heap) (tk:Nat) (acc:Array Value) (c:Nat) (as:List Addr),(∀b o,s.heap.get? b=some o->h'.get? b=some o)->
   h'.get? s.heap.objs.size=some {cls:=.type "list",dict:=none,data:=.seq acc c,slots:= #[]}->as.length=kvs.length->KdxG knd kvs s.heap.objs.size h' as->acc.toList=as.map Value.ref->
   wpAny (model prog w) A (match Value.ref s.heap.objs.size with
    | Value.ref a=>do
     match(<-load a).data with
      |Data.seq xs _=>pure xs.toList
      |_=>unsupported "internal:collect"
    |_=>unsupported "internal:collect") Q E {s with heap:=h',toks:=tk}:=fun h' tk acc c as kp hS hl hG ea=>by
  show wpAny _ A (load s.heap.objs.size>>=_) _ _ _
  refine wpAny_bind (wpAny_load hS (wpAny_pure ?_))
  show Q acc.toList _
  rw[ea]
  exact hq _ as ⟨h',tk,s.drawn,rfl,le_of_lt (lt_size hS),kp⟩ hl hG
 unfold collect
 refine wpAny_bind (wpAny_runValue (codeAny_builtin F.entry_proto_collect ?_))
 rw[Around.under_plainId F.plain_proto_collect _]
 refine wpAny_bind (m:=newList []) (wpAny_newObj_type ?_)
 refine wpAny_pure ⟨plainId_quiet F.plain_list_iadd _,codeAny_builtin F.entry_list_iadd ?_⟩
 rw[Around.under_plainId F.plain_list_iadd _]
 have e0:(s.heap.push {cls:=.type "list",data:=.seq ([]:List Value).toArray}).get? s.heap.objs.size=some {cls:=.type "list",data:=.seq #[] 0}:=get?_push_size _ rfl
 have key:=kdx_extend (A:=A) (knd:=knd) (kvs:=kvs) (ep:=ep) (s:={s with heap:=s.heap.push {cls:=.type "list",data:=.seq ([]:List Value).toArray}}) (R:=fun rs s'=>∃h' tk acc c as,rs= .ok (.ret (.ref s.heap.objs.size))/\s'={s with heap:=h',toks:=tk}/\(∀b o,s.heap.get? b=some o->h'.get? b=some o)/\h'.get? s.heap.objs.size=some {cls:=.type "list",dict:=none,data:=.seq acc c,slots:= #[]}/\as.length=kvs.length/\KdxG knd kvs s.heap.objs.size h' as/\acc.toList=as.map Value.ref)
  hh (let⟨o,ho,x⟩:=hv;⟨o,get?_push_of_some _ ho,x⟩) (hm.push _) s.heap.objs.size (ne_of_gt hr) (ne_of_lt hd) (.ref s.heap.objs.size) 0 e0
  (fun h' tk acc c as kp hS hl hG ea=>⟨h',tk,acc,c,as,rfl,rfl,fun b o e=>kp b o (ne_of_lt (lt_size e)) (get?_push_of_some _ e),hS,hl,hG.low (by rw[size_push];exact le_succ _),ea⟩) hn
 refine wpAny_mono key (fun f s' h=>?_) fun e s' h=>?_
 ·cases f with
  |done f=>
   obtain⟨h',tk,acc,c,as,e1,rfl,kp,hS,hl,hG,ea⟩:=h
   cases e1
   exact fin h' tk acc c as kp hS hl hG ea
  |again c'=>
   refine⟨h.1,codeAny_mono h.2 fun rs s2 hr=>?_⟩
   obtain⟨h',tk,acc,c,as,rfl,rfl,kp,hS,hl,hG,ea⟩:=hr
   exact fin h' tk acc c as kp hS hl hG ea
 ·obtain⟨h',tk,acc,c,as,e1,_⟩:=h
  cases e1
theorem Inv.SR {X:Cx} {pins:List (Addr×Obj)} {σ:L2.St} {H H':Hp} {s s':Shared} (I:Inv X pins σ H s) (g:kQ s s') (he:∀b,b<s.heap.objs.size->H' b=H b) (new:∀a o,s.heap.objs.size<=a->H' a=some o->c9 X.prog X.w H' s'.heap a o):Inv X pins σ H' s':=by
 obtain⟨h',tk,dr,rfl,_,k⟩:=g
 have old:∀a o,H a=some o->H' a=some o:=fun a o e=>by rw[he a (I.bN.lt e)];exact e
 refine I.call (g':=s.gens) (d':=dr) (t':=tk) (ch:=[]) ⟨fun b u q _ _ _=>k b u q,fun b u q _ _ _=>⟨u.slots,k b u q⟩,fun b u q n _=>by rw[he b (lt_size q)];exact n,fun b u q _=>⟨u,k b u q⟩,fun b xs q=>old b _ q,fun b u xs q=>old b _ q,fun b ps q=>⟨#[],by rw[old b _ q];simp⟩⟩ (fun a o e=>?_) I.bare fun _ z=>nomatch z
 by_cases ha:a<s.heap.objs.size
 ·rw[he a ha]at e
  exact(I.bN a o e).aH (fun c v _ q=>k c v q) (fun c q=>old c _ q) fun c xs q=>old c _ q
 ·exact new a o (Nat.le_of_not_lt ha) e
end
section
variable {X:Cx}
noncomputable def NS (v d:Addr):HO:=.ext fun h=>h.IsItemsView v d
noncomputable def CW (to:TE):TE:=fun σ H Q=>to σ H fun x H1=>∃a kvs,x= .ref a/\yI H1 a kvs/\∀v,H1 v=none->Q (.ref v) (upd H1 v (NS v a))
theorem AS {o:Expr} {to:TE} {apos cpos:Pos} (ho:PE X o to) (hbase:attributeBase o "items" X.env (eval o X.env)=eval o X.env:=by rfl) (hline:(apos.endLine==cpos.line)=true:=by rfl):
  PE X (.Call (.Attribute o "items" apos) [] [] cpos) (CW to):=by
 intro pins s σ H Q I h
 refine wpAny_Call_method0_late hbase hline (cM (ho pins s σ H _ I h) fun v s1 ⟨x,H1,I1,r1,a,kvs,ex,ha,q1⟩=>?_)
 subst ex
 obtain rfl:v=Value.ref a:=r1
 obtain⟨hz,hd,vs,rel,dd⟩:=gU I1.bN ha
 refine⟨"dict","dict.items",plainAttrs_dict,PySem.F.slot_dict_items,PySem.F.type_dict_items,dd.typeIs,dd.mapOf.noDict,Calls.callWith_builtin rfl (PySem.evalArgs_none ?_)⟩
 refine call_meetsIn PySem.F.slot_dict_items dd.typeIs PySem.F.entry_dict_items (PySem.F.args_dict_items_1 _) (meets_dict_items (bT X.prog X.w) a hd) ⟨⟨vs,dd⟩,?_⟩
 have e0:(s1.heap.push {cls:=.type "dict_items",data:=.fields #[.ref a]}).get? s1.heap.objs.size=some {cls:=.type "dict_items",data:=.fields #[.ref a]}:=get?_push_size _ rfl
 exact⟨.ref s1.heap.objs.size,_,I1.laid (t':=s1.toks) (o:=NS s1.heap.objs.size a) (fun b u e=>get?_push_of_some _ e) (le_refl _) ⟨⟨_,e0,rfl,rfl⟩,⟨_,e0⟩,fun h1 h2 ⟨u,e,c⟩ k=>⟨u,k u e,c⟩⟩,rfl,q1 _ (I1.bN.fresh (le_refl _))⟩
end
end L2
namespace Mr
open PySem PySem.Spec L2 PyProof.Rows PySem.W
variable {e:En} {fa:FE} {H:Hp} {Z:aI}
noncomputable def tQ:Key->PV
 | .inl i=>.int i
 | .inr x=>.str x
theorem vU {h:Heap} {k:Key} {v:Value} (e:mB k v=true):Lies h (tQ k) v/\RelV (kV k) v:=by
 rcases cA e with⟨i,t,rfl,rfl⟩|⟨x,t,rfl,rfl⟩
 ·exact⟨.int i t,t,rfl⟩
 ·exact⟨.str x t,t,rfl⟩
noncomputable def bD (kvs:List (Key×PV)):List PV:=kvs.map fun z=>.tup [tQ z.1,z.2]
section
variable {X:Cx} {k:Nat}
noncomputable def LJ (K:Frag):List V->Hp->VK->Prop:=fun xs H Q=>∃v a ys kvs b,xs=[.ref v]/\H v=some (NS v a)/\yI H a ys/\dM K cR H kvs ys/\kvs.length<64/\(∀x∈bD kvs,j5 b x=true)/\cP 3 (bD kvs)=true/\
 ∀l H' (as:List Addr) (ix:List Nat),aZ H H'->(∀(j:Nat) t q,as[j]? =some t->ys[j]? =some q->H' t=some (.tup [kV q.1,q.2]))->as.length=ys.length->ix.Perm (List.range kvs.length)->(ix.map fun i=>(bD kvs).getD i .aY).Pairwise (fun a b=>kK 3 a b=true)->H l=none->H' l=some (.lst (ix.map fun i=>.ref (as.getD i 0)))->Q (.ref l) H'
theorem y9 {h:Heap}:∀{ps:List PV} {vs:List Value},ps.length=vs.length->(∀(j:Nat) p v,ps[j]? =some p->vs[j]? =some v->Lies h p v)->bR h ps vs
 |[],[],_,_=>.nil
 |[],_::_,h,_=>by cases h
 |_::_,[],h,_=>by cases h
 |p::ps,v::vs,h,k=>.cons (k 0 p v rfl rfl) (y9 (by simpa using h) fun j p v a b=>k (j+1) p v (by simpa using a) (by simpa using b))
theorem sortI (K:Frag) (hr:dB k X.A) (hK:X.K=K:=by rfl) (hc:X.calm=true:=by rfl):cD X (.builtin "sorted") (LJ K):=by
 subst hK
 intro pins s σ H xs us Q I r ⟨v,a,ys,kvs,b,e,hv,ha,rd,h64,led,cmp,q⟩
 subst e
 obtain⟨u,rfl,rx⟩:=vals1 r
 cases rx
 obtain⟨hz,hd,vs,rel,dd⟩:=gU I.bN ha
 obtain⟨ep,dd⟩:=dd.dictAt
 have hlen:kvs.length=ys.length:=by have:=congrArg List.length rd.1;simpa using this.symm
 have hlen2:=rel.len
 have ok:∀x∈bD kvs,gO 3 x=true:=fun x hx=>by
  have:=all_eq_true.mp cmp x hx
  rw[and_eq_true]at this
  exact sU this.1
 refine rJ (s:=s) (Ok:=fun ws s1=>∃as:List Addr,ws=as.map Value.ref/\as.length=vs.length/\KdxG (bT X.prog X.w) vs s.heap.objs.size s1.heap as) (R:=fun ws p=>lE lG (fun i=>code 3 ((bD kvs).getD i .aY)) p ws.length) (fun E' Q' kk=>?_) ?_ ?_ ?_ ?_
 ·exact uK (by exact I.ok.hd hc) (I.bN v _ hv).1 dd (by rw[<-hlen2];exact hz) fun s1 as gr hl g=>kk _ s1 gr ⟨as,rfl,hl,g⟩
 ·rintro ws s1 ⟨as,rfl,hl,g⟩
  rw[length_map];omega
 ·rintro ws s1 gr ⟨as,rfl,hl,g⟩ l2 h' kp
  have I':Inv X pins σ H {s1 with heap:=h'}:=(I.aa5 gr).kept (t':=s1.toks) kp
  have okv:(kvs.map (·.2)).all (gO 2)=true:=all_eq_true.mpr fun p hp=>by
   obtain⟨z,hz,rfl⟩:=mem_map.mp hp
   have:=ok (.tup [tQ z.1,z.2]) (mem_map.mpr ⟨z,hz,rfl⟩)
   have this:([tQ z.1,z.2].all (gO 2))=true:=this
   rw[all_cons,all_cons,and_eq_true,and_eq_true]at this
   exact this.2.1
  have lv:bR h' (kvs.map (·.2)) (vs.map (·.2)):=bG.lies I' (n:=2) okv rd.2 rel.vals
  have hL:bR h' (bD kvs) (as.map Value.ref):=by
   refine y9 (by unfold bD;rw[length_map,length_map];omega) fun j p v hp hv=>?_
   rw[getElem?_map]at hv
   obtain⟨t,ht,rfl⟩:=map_eq_some_iff.mp hv
   unfold bD at hp
   rw[getElem?_map]at hp
   obtain⟨z,hz',rfl⟩:=map_eq_some_iff.mp hp
   obtain⟨key,kk,x,e1,e2,e3⟩:=g.pairs j t ht
   have ek:kk=z.1:=by
    have a1:(vs.map (·.1))[j]? =some kk:=by rw[getElem?_map,e1];rfl
    have a2:(kvs.map (·.1))[j]? =some z.1:=by rw[getElem?_map,hz'];rfl
    rw[<-rel.keys,rd.1,a2]at a1
    exact(Option.some.inj a1).symm
   subst ek
   obtain⟨p',h1,h2⟩:=lv.get (show(vs.map (·.2))[j]? =some x by rw[getElem?_map,e1];rfl)
   rw[getElem?_map,hz']at h1
   cases h1
   exact .tup ⟨_,kp _ _ e3,rfl,0,rfl⟩ (.cons (vU (show mB z.1 key=true from e2)).1 (.cons h2 .nil))
  obtain⟨fs,k1,k2,k3⟩:=mK (s:={s1 with heap:=h'}) hL led
  have hpl:(bD kvs).length=(as.map Value.ref).length:=hL.length
  have h64':(as.map Value.ref).length<64:=by rw[length_map];omega
  refine⟨tuples' (Value.type (LI b) !=Value.type "tuple"),fun Q E q=>kat_kind k1 (by omega) (fun v hv=>?_) (by cases b<;>decide) q,fun G hG=>oW.run (n:=(as.map Value.ref).length) (ans:=BS lG (fun i=>code 3 ((bD kvs).getD i .aY))) (fun i j C hi hj hC=>?_) (fun p h1 h2=>hG p h1 h2) (yC (by omega)) (DI (by omega))⟩
  ·rcases k3 v hv with⟨x,t,rfl,rfl⟩|⟨x,t,rfl,rfl⟩
   ·exact Looks.of_pure rfl
   ·exact Looks.of_pure rfl
  ·have e1:(bD kvs)[i]? =some (bD kvs)[i]:=getElem?_eq_getElem (by omega)
   have e2:(bD kvs)[j]? =some (bD kvs)[j]:=getElem?_eq_getElem (by omega)
   refine WO (s:={s1 with heap:=h'}) (n:=2) hL (by have:=hr.un;show X.A.units+1+1+2<_;omega) led ok e1 e2 (kY cmp (getElem_mem _) (getElem_mem _)) ?_
   have hC:C (lG.blt (code 3 ((bD kvs).getD i .aY)) (code 3 ((bD kvs).getD j .aY))) _:=hC
   rw[getD_eq_getElem?_getD,e1,getD_eq_getElem?_getD,e2]at hC
   exact hC
 ·rintro ws s1 ⟨as,rfl,hl,g⟩ h2 i j a b
  rw[show i=j by omega];exact KeyOrd.kle_refl _
 ·rintro l s1 s2 out c ws p gr ⟨as,rfl,hl,g⟩ g2 hla hat h1 h2 h3
  have hp:p.toList.Perm (List.range as.length):=by
   have:=perm_iff_toList_perm.mp h1
   rw[length_map]at this
   simpa using this
  have hlt:∀i∈p.toList,i<as.length:=fun i hi=>mem_range.mp (hp.mem_iff.mp hi)
  have above:∀t∈as,s.heap.objs.size<=t:=fun t ht=>le_of_lt (g.above t ht)
  have nl:l∉as:=fun z=>absurd (g.there z) (Nat.not_lt.mpr hla)
  have hls:s.heap.objs.size<=l:=le_trans gr.size hla
  let H':Hp:=fun x=>if x=l then some (.lst (p.toList.map fun i=>V.ref (as.getD i 0)))else match as.findIdx? (fun t=>t==x)with
   |some j=>(ys[j]?).map fun q=>HO.tup [kV q.1,q.2]
   |none=>H x
  have hl':H' l=some (.lst (p.toList.map fun i=>V.ref (as.getD i 0))):=if_pos rfl
  have hno:∀x,x≠l->x∉as->H' x=H x:=fun x h1 h2=>by
   show(if x=l then _ else _)=_
   rw[if_neg h1]
   have:as.findIdx? (fun t=>t==x)=none:=List.findIdx?_eq_none_iff.mpr fun t ht=>by
    cases c:t==x with
    |false=>rfl
    |true=>exact absurd (by rw[<-eq_of_beq c];exact ht) h2
   rw[this]
  have hat':∀(j:Nat) t q,as[j]? =some t->ys[j]? =some q->H' t=some (.tup [kV q.1,q.2]):=fun j t q hj hq=>by
   have hm:=mem_of_getElem? hj
   show(if t=l then _ else _)=_
   rw[if_neg (fun z:t=l=>nl (by rw[<-z];exact hm))]
   have:as.findIdx? (fun u=>u==t)=some j:=by
    rw[List.findIdx?_eq_some_iff_getElem]
    obtain⟨hjl,ej⟩:=List.getElem?_eq_some_iff.mp hj
    refine⟨hjl,by simp[ej],fun i hi=>?_⟩
    have:=pairwise_iff_getElem.mp g.rise i j (by omega) hjl hi
    rw[ej]at this
    simpa using ne_of_lt this
   rw[this]
   show(ys[j]?).map _=_
   rw[hq];rfl
  have same:aZ H H':=fun x o e=>by
   have hx:=I.bN.lt e
   rw[hno x (fun z:x=l=>absurd (by rw[<-z];exact hx) (Nat.not_lt.mpr hls)) (fun z=>absurd hx (Nat.not_lt.mpr (above x z)))]
   exact e
  have I2:Inv X pins σ H' s2:=by
   refine I.SR (gr.trans g2) (fun x hx=>hno x (fun z:x=l=>absurd (by rw[<-z];exact hx) (Nat.not_lt.mpr hls)) (fun z=>absurd hx (Nat.not_lt.mpr (above x z)))) fun x o hx e=>?_
   by_cases hxl:x=l
   ·subst hxl
    rw[hl']at e
    cases e
    refine⟨by rw[length_map,hp.length_eq,length_range,hl,<-hlen2];exact hz,out.toList,c,?_,hat⟩
    rw[h3]
    have:∀(ix:List Nat),(∀i∈ix,i<as.length)->Vals (ix.map fun i=>V.ref (as.getD i 0)) (ix.map fun i=>(as.map Value.ref).getD i Value.none):=by
     intro ix
     induction ix with
     |nil=>intro _;exact .nil
     |cons i ix ih=>
      intro hi
      refine .cons ?_ (ih fun j hj=>hi j (mem_cons_of_mem _ hj))
      have:=hi i mem_cons_self
      dsimp only
      rw[getD_eq_getElem?_getD,getD_eq_getElem?_getD,getElem?_map,getElem?_eq_getElem this]
      rfl
    exact this _ hlt
   ·by_cases hxa:x∈as
    ·obtain⟨j,hj⟩:=List.mem_iff_getElem?.mp hxa
     have hjl:=(List.getElem?_eq_some_iff.mp hj).1
     have hy:ys[j]? =some (ys[j]'(by omega)):=getElem?_eq_getElem (by omega)
     rw[hat' j x _ hj hy]at e
     cases e
     obtain⟨key,kk,y,e1,e2,e3⟩:=g.pairs j x hj
     have rl:=rel
     obtain⟨t1,t2,t3,t4,t5,t6⟩:=g2
     subst t4
     have rj:∀{l1:List (Key×V)} {l2:List (Key×Value)} {j:Nat} {a b},KV l1 l2->l1[j]? =some a->l2[j]? =some b->a.1=b.1/\RelV a.2 b.2:=by
      intro l1 l2 j a b r
      unfold KV at r
      induction r generalizing j with
      |nil=>intro h;simp at h
      |cons h t ih=>
       intro h1 h2
       cases j with
       |zero=>simp at h1 h2;subst h1 h2;exact h
       |succ j=>exact ih (by simpa using h1) (by simpa using h2)
     obtain⟨q1,q2⟩:=rj rel hy e1
     refine⟨by show 2<=sizeLine;decide,[key,y],.cons ?_ (.cons q2 .nil),pP.of (t6 _ _ e3)⟩
     have q1:(ys[j]'(by omega)).1=kk:=q1
     rw[q1]
     exact(vU (h:=s1.heap) (show mB kk key=true from e2)).2
    ·rw[hno x hxl hxa]at e
     exact absurd (I.bN.lt e) (Nat.not_lt.mpr hx)
  have hk:as.length=kvs.length:=by omega
  refine⟨.ref l,H',I2,rfl,q l H' as p.toList same hat' (by omega) (by rw[<-hk];exact hp) ?_ (I.bN.fresh hls) hl'⟩
  rw[pairwise_iff_getElem]
  intro i j hi hj hij
  rw[length_map]at hi hj
  have hpz:p.toList.length=as.length:=by rw[hp.length_eq,length_range]
  have h:=h2 i j (by omega) (by rw[length_map];omega)
  rw[getElem_map,getElem_map]
  have ky:∀(i:Nat) (hi:i<p.toList.length),Ky lG (fun i=>code 3 ((bD kvs).getD i .aY)) p i=code 3 ((bD kvs).getD p.toList[i] .aY):=fun i hi=>by
   unfold Ky
   rw[getD_eq_getD_getElem?,<-getElem?_toList,getElem?_eq_getElem hi]
   rfl
  rw[ky i hi,ky j hj]at h
  show(!fP _ _)=true
  rw[not_eq_true']
  exact h
end
section
variable {K:Frag}
theorem IT (k:Key):Rep K Z H (tQ k) (kV k):=by
 cases k with
 |inl i=>exact .int i
 |inr x=>exact .str x
noncomputable def B8 (fa:FE):FE:=fun e=>bE (fa e) fun x e1=>bO (x.weak.get e1) fun p=>match p with
 | .a9 kvs=>aN (decide (kvs.length<64) && (((bD kvs).all (j5 true)||(bD kvs).all (j5 false)) && cP 3 (bD kvs))) (some (.new (.lst (lI 3 (bD kvs))),e1))
 |_=>none
theorem zV:∀{kvs:List (Key×PV)} {ys:List (Key×V)} {i:Nat} {z:Key×PV},dM K Z H kvs ys->kvs[i]? =some z->∃y,ys[i]? =some y/\y.1=z.1/\Rep K Z H z.2 y.2
 |[],ys,i,z,h,e=>by simp at e
 | x::kvs,ys,i,z,h,e=>by
  rcases h.cases with⟨q,_⟩|⟨j,p,v,r,t,q,q',hp,hr⟩
  ·cases q
  ·cases q
   subst q'
   cases i with
   |zero=>simp at e;subst e;exact⟨(j,v),rfl,rfl,hp⟩
   |succ i=>exact zV (i:=i) hr (by simpa using e)
theorem GJ {ta:TE} (ha:Ref K ta fa):Ref K (YU (LJ K) (eN (CW ta) p9)) (B8 fa):=by
 intro O M W L σ H e e' b Q o he hf q
 obtain⟨x,e1,f1,hf⟩:=aL hf
 obtain⟨p,g0,hf⟩:=aF hf
 cases p with
 | a9 kvs=>
  obtain⟨c,hf⟩:=aK hf
  cases hf
  rw[and_eq_true,and_eq_true]at c
  obtain⟨c1,c2,c3⟩:=c
  refine ha O M W L σ H e _ x _ o he f1 fun v1 H1 k1 r1 fr=>?_
  have o1:=o.keep k1.b9
  have en:=r1.en o1
  obtain⟨a,ys,rfl,hd,ek,rl⟩:=((r1.rv o1).red en g0).rB
  have led:∃b,∀x∈bD kvs,j5 b x=true:=by
   rcases Bool.or_eq_true_iff.mp c2 with z|z
   ·exact⟨true,fun x hx=>all_eq_true.mp z x hx⟩
   ·exact⟨false,fun x hx=>all_eq_true.mp z x hx⟩
  obtain⟨bb,led⟩:=led
  refine⟨a,ys,rfl,hd,fun v hv=>?_⟩
  have s1:aZ H1 (upd H1 v (NS v a)):=aZ.upd hv
  have k2:=k1.trans (.same s1)
  have rd:dM K (aT M L) (upd H1 v (NS v a)) kvs ys:=⟨ek,rl.aH (.same s1)⟩
  refine⟨v,a,ys,kvs,bb,rfl,aW,hd.upd hv,⟨ek,(rl.aH (.same s1)).aH (.less fun _ z=>z.elim)⟩,of_decide_eq_true c1,led,c3,fun l H' as ix sm hat al h1 h2 hl hl'=>?_⟩
  have hix:∀i∈ix,i<kvs.length:=fun i hi=>mem_range.mp (h1.mem_iff.mp hi)
  have pl:(bD kvs).length=kvs.length:=by unfold bD;rw[length_map]
  have pm:(ix.map fun i=>(bD kvs).getD i .aY).Perm (bD kvs):=by
   have:=h1.map fun i=>(bD kvs).getD i PV.aY
   have e:(List.range kvs.length).map (fun i=>(bD kvs).getD i PV.aY)=bD kvs:=by
    rw[<-pl]
    apply ext_getElem
    ·simp
    ·intro i a1 a2
     simp[getElem?_eq_getElem a2]
   rw[e]at this
   exact this
  have es:lI 3 (bD kvs)=ix.map fun i=>(bD kvs).getD i .aY:=
   gM (dY 3 _) h2 ((cF 3 _).trans pm.symm) fun x hx y hy=>lV c3 ((cF 3 _).mem_iff.mp hx) ((cF 3 _).mem_iff.mp hy)
  rw[es]at q
  have st:cT (aT M L) (aT (aT M L) (one l)) (upd H1 v (NS v a)) H':=cT.new sm hl
  have reps:∀(js:List Nat),(∀i∈js,i<kvs.length)->bG K (aT (aT M L) (one l)) H' (js.map fun i=>(bD kvs).getD i .aY) (js.map fun i=>V.ref (as.getD i 0)):=by
   intro js
   induction js with
   |nil=>intro _;exact .nil
   |cons i js ih=>
    intro hj
    have hi:=hj i mem_cons_self
    refine .cons ?_ (ih fun j h=>hj j (mem_cons_of_mem _ h))
    have hlen:ys.length=kvs.length:=by have:=congrArg List.length ek;simpa using this
    obtain⟨y,hy,e1,e2⟩:=zV rd (getElem?_eq_getElem hi)
    have ht:as[i]? =some (as[i]'(by omega)):=getElem?_eq_getElem (by omega)
    dsimp only
    rw[getD_eq_getElem?_getD,getD_eq_getElem?_getD,ht]
    unfold bD
    rw[getElem?_map,getElem?_eq_getElem hi]
    show Rep K _ H' (.tup [tQ kvs[i].1,kvs[i].2]) (.ref as[i])
    refine .tup (.inl (hat i _ _ ht hy)) (.cons (by rw[e1];exact IT _) (.cons (e2.aH st) .nil))
  have rn:RN K (aT M L) (upd H1 v (NS v a)) H' (.ref l) (.new (.lst (ix.map fun i=>(bD kvs).getD i .aY))):=⟨l,rfl,hl,.lst hl' (reps ix hix)⟩
  exact q _ _ (k2.trans (.same sm)) (rn.rb (o.keep k2.b9) (en.same s1) sm) (rn.fr k2.b9)
 |_=>cases hf
theorem K3:B8 fa e=bE (fa e) fun x e1=>bO (x.weak.get e1) fun p=>match p with
 | .a9 kvs=>aN (decide (kvs.length<64) && (((bD kvs).all (j5 true)||(bD kvs).all (j5 false)) && cP 3 (bD kvs))) (some (.new (.lst (lI 3 (bD kvs))),e1))
 |_=>none:=rfl
noncomputable def GX (fa:FE):FE:=fun e=>bE (fa e) fun x e1=>bO (x.weak.get e1) fun p=>match p with
 | .lst ps=>bO (lO ps) fun ss=>aN (decide (ss.length<4000) && decide ((bV ss).length<64)) (some (.new (.lst ((dW (bV ss)).map PV.str)),e1))
 |_=>none
theorem AZ:GX fa e=bE (fa e) fun x e1=>bO (x.weak.get e1) fun p=>match p with
 | .lst ps=>bO (lO ps) fun ss=>aN (decide (ss.length<4000) && decide ((bV ss).length<64)) (some (.new (.lst ((dW (bV ss)).map PV.str)),e1))
 |_=>none:=rfl
end
end Mr
namespace L2
open PySem PySem.Spec PyProof.Rows PySem.W
section
variable {X:Cx}
noncomputable def IY:List V->Hp->VK->Prop:=fun xs H Q=>∃a kvs,xs=[.ref a]/\yI H a kvs/\Q (.int kvs.length) H
theorem ac5:cD X (.builtin "len") IY:=by
 intro pins s σ H xs us Q I r ⟨a,kvs,e,ha,q⟩
 subst e
 obtain⟨u,rfl,rx⟩:=vals1 r
 cases rx
 obtain⟨hz,hd,vs,rel,dd⟩:=gU I.bN ha
 refine call_len_dict hd dd (by have:=rel.len;rw[sizeLine_eq]at hz;omega) ?_
 exact⟨.int kvs.length,H,I.tok _,⟨s.toks+1,by rw[rel.len]⟩,q⟩
end
end L2
namespace Mr
open PySem L2
section
variable {K:Frag}
noncomputable def E1:List PV->Option Bv
 |[.a9 kvs]=>some (.val (.int kvs.length))
 |_=>none
theorem NY:fX K IY E1:=by
 intro Z H vs ps b Q hp h k
 unfold E1 at h
 split at h
 ·cases h
  obtain⟨v,rfl,hv⟩:=hp.one
  obtain⟨a,ys,rfl,ha,ek,ra⟩:=hv.rB
  refine⟨a,ys,rfl,ha,k _ H (aZ.refl _) ?_⟩
  have:=congrArg List.length ek
  rw[length_map,length_map]at this
  rw[this]
  exact Rep.int _
 ·cases h
noncomputable def RT (K:Frag):List V->Hp->VK->Prop:=fun xs H Q=>L5 K xs H Q\/ IY xs H Q
theorem aaE {X:Cx} (K:Frag) (hK:X.K=K:=by rfl):cD X (.builtin "len") (RT K):=cD.or (xM K hK) ac5
noncomputable def EU:List PV->Option Bv:=fun p=>(pS p).or (E1 p)
theorem EZ:fX K (RT K) EU:=fX.or CP NY
end
end Mr
namespace L2
open PySem PySem.Spec PyProof.Rows PySem.W
section
variable {prog:Program} {w:World} {A:Around} {R:Result->Shared->Prop} {I:Addr} {fp wr:List Addr} {n:Nat} {Pz:Nat->Value->Prop} {Sz:Nat->Heap->Prop}
noncomputable def NI (prog:Program) (w:World) (A:Around) (ok:Heap->Prop) (Pz:Nat->Value->Prop) (bt:Nat->Nat->Bool):Prop:=
 ∀i j vi vj (s:Shared) (Q:Value->Shared->Prop) (E:Value->Shared->Prop),ok s.heap->Pz i vi->Pz j vj->Q (.bool (bt i j)) s->wpAny (model prog w) A (richCompare .Lt vi vj) Q E s
theorem qJ:(toString "min"++toString ".loop":String)="min.loop":=by decide
theorem zD {ok:Heap->Prop} (W:Walks prog w A.in1 I fp wr n Pz Sz) (bt:Nat->Nat->Bool) (hcmp:NI prog w A.in1 ok Pz bt) (S:Addr) (nf:S∉fp) (okk:∀h h',ok h->(∀b o,b∉wr->b≠S->h.get? b=some o->h'.get? b=some o)->ok h'):
  ∀(k j:Nat) (s:Shared) (vb:Value) (c:Nat),n - (j+1)=k->j+1<=n->ok s.heap->Sz (j+1) s.heap->Pz (argBest bt j) vb->s.heap.get? S=some {cls:=.type "list",dict:=none,data:=.seq #[vb,vb] c,slots:= #[]}->
  (∀v h' tk,Pz (argBest bt (n - 1)) v->(∀b o,b∉wr->b≠S->s.heap.get? b=some o->h'.get? b=some o)->R (.ok (.ret v)) {s with heap:=h',toks:=tk})->codeAny (model prog w) A (.builtin "min.loop" ⟨[.ref I,.none,.ref S],[]⟩) R s:=by
 have nw:S∉wr:=fun h=>nf (W.sub _ h)
 intro k
 induction k with
 |zero=>
  intro j s vb c hk hj bN st hb gS hR
  have e:j+1=n:=by omega
  refine codeAny_builtin F.entry_min_loop ?_
  rw[Around.under_plainId F.plain_min_loop _]
  refine wpAny_bind (m:=seqItems? (.ref S)) (wpAny_seqItems gS rfl ?_)
  refine wpAny_bind (m:=tryCatch (pyNext (.ref I)) _) (wpAny_tryCatch (W.done s _ _ (e▸st) fun h' tk kp=>?_))
  have gS':=kp S _ nw gS
  refine wpAny_bind (m:=updateSeq S (fun _=> #[])) (wpAny_updateSeq gS' rfl (wpAny_bind (wpAny_letGo (wpAny_pure ?_))))
  exact hR vb _ tk (by rw[<-e];exact hb) fun b o h1 h2 q=>(get?_update_other _ _ (Ne.symm h2)).trans (kp b o h1 q)
 | succ k ih=>
  intro j s vb c hk hj bN st hb gS hR
  have hlt:j+1<n:=by omega
  refine codeAny_builtin F.entry_min_loop ?_
  rw[Around.under_plainId F.plain_min_loop _]
  refine wpAny_bind (m:=seqItems? (.ref S)) (wpAny_seqItems gS rfl ?_)
  refine wpAny_bind (m:=tryCatch (pyNext (.ref I)) _) (wpAny_tryCatch (W.item (j+1) s _ _ hlt st fun v h' tk hP st' kp=>?_))
  have gS':=kp S _ nw gS
  have ok':ok h':=okk _ _ bN fun b o h1 _ q=>kp b o h1 q
  refine wpAny_bind (m:=tryCatch (holding [v,v] (richCompare .Lt v vb>>=_)) _) (wpAny_tryCatch (wpAny_holding (wpAny_bind (hcmp (j+1) (argBest bt j) v vb {s with heap:=h',toks:=tk} _ _ ok' hP hb ?_))))
  refine wpAny_bind (wpAny_holding (wpAny_truthy_bool (wpAny_bind (wpAny_letGo (wpAny_pure ?_)))))
  cases hbt:bt (j+1) (argBest bt j)with
  |true=>
   simp only[if_true]
   refine wpAny_bind (wpAny_updateSeq gS' rfl (wpAny_bind (wpAny_letGo ?_)))
   rw[qJ]
   have ne:∀{b:Addr} {o:Obj},b≠S->h'.get? b=some o->(h'.update S (Obj.mapSeq fun _=> #[v,v])).get? b=some o:=fun h q=>(get?_update_other _ _ (Ne.symm h)).trans q
   refine wpAny_pure ⟨plainId_quiet F.plain_min_loop _,ih (j+1) _ v _ (by omega) hlt (okk _ _ ok' fun b o _ h2 q=>ne h2 q) (W.frame _ _ _ st' fun b hbf o q=>ne (fun z=>nf (by rw[<-z];exact hbf)) q) (by simp only[argBest,hbt,if_true];exact hP) (get?_update_self _ gS' rfl) fun v' h2 tk2 hP' kp2=>?_⟩
   exact hR v' h2 tk2 hP' fun b o h1 h3 q=>kp2 b o h1 h3 (ne h3 (kp b o h1 q))
  |false=>
   simp only[false_eq_true,if_false]
   refine wpAny_bind (wpAny_letGo ?_)
   rw[qJ]
   refine wpAny_pure ⟨plainId_quiet F.plain_min_loop _,ih (j+1) _ vb c (by omega) hlt ok' st' (by simp only[argBest,hbt,false_eq_true,if_false];exact hb) gS' fun v' h2 tk2 hP' kp2=>?_⟩
   exact hR v' h2 tk2 hP' fun b o h1 h3 q=>kp2 b o h1 h3 (kp b o h1 q)
theorem min_list {E:Value->Shared->Prop} {s:Shared} {l:Addr} {vs:List Value} {Q:Value->Shared->Prop} {ok:Heap->Prop} (bt:Nat->Nat->Bool) (hh:A.handled=none) (hl:s.heap.IsList l vs.toArray) (hn:0<vs.length)
  (bN:∀h',(∀b o,s.heap.get? b=some o->h'.get? b=some o)->ok h') (okk:∀h h':Heap,ok h->(∀b o,b<s.heap.objs.size->h.get? b=some o->h'.get? b=some o)->ok h') (hcmp:NI prog w A.in1 ok (fun i v=>vs[i]? =some v) bt)
  (hq:∀v h' tk,vs[argBest bt (vs.length - 1)]? =some v->(∀b o,s.heap.get? b=some o->h'.get? b=some o)->Q v {s with heap:=h',toks:=tk}):wpAny (model prog w) A (call (.builtin "min") [.ref l]) Q E s:=by
 have lS:l<s.heap.objs.size:=let⟨_,e,_⟩:=hl;lt_size e
 refine call_function_tree F.kind_min F.plain_min F.entry_min (F.args_min1 _) ?_
 refine wpAny_bind (m:=Builtin.Builtins.bindParams "min" ["key","default"] 0 ⟨[],[]⟩) (wpAny_of_eq (show Builtin.Builtins.bindParams "min" ["key","default"] 0 ⟨[],[]⟩=pure [none,none]from rfl) (wpAny_bind (wpAny_pure ?_)))
 refine wpAny_bind (wpAny_pyIter_list hl ?_)
 refine wpAny_bind (wpAny_newObj_type ?_)
 rw[qJ]
 generalize hX:(s.heap.push {cls:=.type "list_iterator",data:=.fields #[.ref l,.int 0 0]})=h1
 have z1:h1.objs.size=s.heap.objs.size+1:=by rw[<-hX];exact size_push ..
 have k1:∀b o,s.heap.get? b=some o->h1.get? b=some o:=fun b o e=>by rw[<-hX];exact get?_push_of_some _ e
 have e1:h1.get? s.heap.objs.size=some {cls:=.type "list_iterator",data:=.fields #[.ref l,.int 0 0]}:=by rw[<-hX];exact get?_push_size _ rfl
 have nI:l≠s.heap.objs.size:=ne_of_lt lS
 have W:=Walks.list (prog:=prog) (w:=w) (A:=A.in1) (by exact hh) s.heap.objs.size l nI vs.toArray
 have gS:(h1.push {cls:=.type "list",data:=.seq ([]:List Value).toArray}).get? h1.objs.size=some {cls:=.type "list",dict:=none,data:=.seq #[] 0,slots:= #[]}:=get?_push_size _ rfl
 have nf:h1.objs.size∉[s.heap.objs.size,l]:=by
  rw[z1]
  simp only[mem_cons,not_mem_nil,or_false,not_or]
  exact⟨ne_of_gt (lt_succ_self _),ne_of_gt (lt_succ_of_lt lS)⟩
 have nw:h1.objs.size∉[s.heap.objs.size]:=fun z=>nf (by simp at z⊢;exact .inl z)
 have st0:(h1.push {cls:=.type "list",data:=.seq ([]:List Value).toArray}).IsListIter s.heap.objs.size l 0/\(h1.push {cls:=.type "list",data:=.seq ([]:List Value).toArray}).IsList l vs.toArray:=by
  refine⟨⟨_,get?_push_of_some _ e1,rfl,rfl⟩,?_⟩
  obtain⟨o,e,r⟩:=hl
  exact⟨o,get?_push_of_some _ (k1 _ _ e),r⟩
 refine wpAny_pure ⟨plainId_quiet F.plain_min_loop _,?_⟩
 refine codeAny_builtin F.entry_min_loop ?_
 rw[Around.under_plainId F.plain_min_loop _]
 refine wpAny_bind (m:=seqItems? (.ref h1.objs.size)) (wpAny_seqItems gS rfl ?_)
 refine wpAny_bind (m:=tryCatch (pyNext (.ref s.heap.objs.size)) _) (wpAny_tryCatch (W.item 0 {s with heap:=h1.push {cls:=.type "list",data:=.seq ([]:List Value).toArray}} _ _ (by simpa using hn) st0 fun v h' tk hP st' kp=>?_))
 have gS':=kp h1.objs.size _ nw gS
 refine wpAny_bind (m:=updateSeq h1.objs.size (fun _=> #[v,v])) (wpAny_updateSeq gS' rfl ?_)
 rw[qJ]
 have ne:∀{b:Addr} {o:Obj},b≠h1.objs.size->h'.get? b=some o->(h'.update h1.objs.size (Obj.mapSeq fun _=> #[v,v])).get? b=some o:=fun h q=>(get?_update_other _ _ (Ne.symm h)).trans q
 have ltS:∀{b:Addr} {o:Obj},s.heap.get? b=some o->b∉[s.heap.objs.size]/\b≠h1.objs.size:=fun e=>by
  have:=lt_size e
  rw[z1]
  exact⟨by simp;exact ne_of_lt this,ne_of_lt (lt_succ_of_lt this)⟩
 have kq:∀b o,s.heap.get? b=some o->(h'.update h1.objs.size (Obj.mapSeq fun _=> #[v,v])).get? b=some o:=fun b o e=>ne (ltS e).2 (kp b o (ltS e).1 (get?_push_of_some _ (k1 b o e)))
 refine wpAny_pure ⟨plainId_quiet F.plain_min_loop _,zD (ok:=ok) W bt (fun i j vi vj s Q E h1 h2 h3 h4=>hcmp i j vi vj s Q E h1 (by simpa using h2) (by simpa using h3) h4) h1.objs.size nf (fun h h2 o k=>okk h h2 o fun b u hb q=>k b u (by simp;exact ne_of_lt hb) (by rw[z1];exact ne_of_lt (lt_succ_of_lt hb)) q) _ 0 _ v _ rfl (by simp;omega) (bN _ kq) (W.frame _ _ _ st' fun b hbf o q=>ne (fun z=>nf (by rw[<-z];exact hbf)) q) (by simpa [argBest]using hP) (get?_update_self _ gS' rfl) fun v' h2 tk2 hP' kp2=>?_⟩
 exact hq v' h2 tk2 (by simpa using hP') fun b o e=>kp2 b o (ltS e).1 (ltS e).2 (kq b o e)
end
end L2
namespace Mr
open PySem PySem.Spec L2 PyProof.Rows PySem.W
variable {ps:List PV}
noncomputable def q5 (ps:List PV) (i j:Nat):Bool:=fP (code 3 (ps.getD i .aY)) (code 3 (ps.getD j .aY))
noncomputable def wH (ps:List PV):PV:=ps.getD (argBest (q5 ps) (ps.length - 1)) .aY
theorem k7 (bt:Nat->Nat->Bool):∀k,argBest bt k<=k
 |0=>le_refl _
 |k+1=>by
  have:=k7 bt k
  unfold argBest
  split<;>omega
theorem QV {ps:List PV} {k:Nat} (hk:k<ps.length):∀i,i<=k->kK 3 (ps.getD (argBest (q5 ps) k) .aY) (ps.getD i .aY)=true:=by
 induction k with
 |zero=>
  intro i hi
  have:i=0:=by omega
  subst this
  unfold kK argBest
  rw[show fP (code 3 (ps.getD 0 .aY)) (code 3 (ps.getD 0 .aY))=false from lG.irrefl _];rfl
 | succ k ih=>
  intro i hi
  have ih:=ih (by omega)
  unfold argBest
  cases e:q5 ps (k+1) (argBest (q5 ps) k)with
  | true=>
   rw[if_pos rfl]
   by_cases h:i=k+1
   ·subst h;unfold kK;rw[show fP (code 3 (ps.getD (k+1) .aY)) (code 3 (ps.getD (k+1) .aY))=false from lG.irrefl _];rfl
   ·refine qG _ (ps.getD (argBest (q5 ps) k) .aY) _ ?_ (ih i (by omega))
    unfold kK
    rw[show fP (code 3 (ps.getD (argBest (q5 ps) k) .aY)) (code 3 (ps.getD (k+1) .aY))=false from yT (A:=lG) e];rfl
  | false=>
   rw[if_neg Bool.false_ne_true]
   by_cases h:i=k+1
   ·subst h
    unfold kK
    rw[show fP (code 3 (ps.getD (k+1) .aY)) (code 3 (ps.getD (argBest (q5 ps) k) .aY))=false from e];rfl
   ·exact ih i (by omega)
theorem AO (h:0<ps.length):wH ps∈ps:=by
 unfold wH
 have:=k7 (q5 ps) (ps.length - 1)
 rw[getD_eq_getElem?_getD,getElem?_eq_getElem (show argBest (q5 ps) (ps.length - 1)<ps.length by omega)]
 exact getElem_mem _
theorem nY {q:PV} (hq:q∈ps):kK 3 (wH ps) q=true:=by
 obtain⟨i,hi,rfl⟩:=List.mem_iff_getElem.mp hq
 have:=QV (ps:=ps) (k:=ps.length - 1) (by omega) i (by omega)
 rw[show ps.getD i .aY=ps[i] by rw[getD_eq_getElem?_getD,getElem?_eq_getElem hi];rfl]at this
 exact this
section
variable {X:Cx} {k:Nat}
noncomputable def SJ (K:Frag):List V->Hp->VK->Prop:=fun xs H Q=>∃p ys ps,xs=[.ref p]/\iR K H p ys/\bG K cR H ps ys/\0<ps.length/\cP 3 ps=true/\Q (ys.getD (argBest (q5 ps) (ps.length - 1)) .aY) H
theorem TK (K:Frag) (hr:dB k X.A) (hK:X.K=K:=by rfl) (hc:X.calm=true:=by rfl):cD X (.builtin "min") (SJ K):=by
 subst hK
 intro pins s σ H xs us Q I r ⟨p,ys,ps,e,hq,rp,h0,cmp,q⟩
 subst e
 obtain⟨u,rfl,rx⟩:=vals1 r
 cases rx
 obtain⟨vs,rv,pl,hz⟩:=I.list hq
 have hlen:=rv.length
 have hpl:=rp.length
 have ok:∀x∈ps,gO 3 x=true:=fun x hx=>by
  have:=all_eq_true.mp cmp x hx
  rw[and_eq_true]at this
  exact sU this.1
 refine min_list (ok:=fun h=>∀b o,s.heap.get? b=some o->h.get? b=some o) (q5 ps) (by exact I.ok.hd hc) pl.isList (by omega) (fun h' kp=>kp) (fun h h' o kk b u e=>kk b u (lt_size e) (o b u e)) (fun i j vi vj s' Q E bN h1 h2 hQ=>?_) fun v h' tk hv kp=>?_
 ·have hL:bR s'.heap ps vs:=bG.lies (I.kept (t':=s.toks) bN) (n:=3) (all_eq_true.mpr ok) rp rv
  obtain⟨p1,e1,l1⟩:=hL.get h1
  obtain⟨p2,e2,l2⟩:=hL.get h2
  have m1:=mem_of_getElem? e1
  have m2:=mem_of_getElem? e2
  refine C6 (s:=s') 3 X.A.in1 (by have:=hr.un;show X.A.units+1+3<_;omega) (ok p1 m1) (ok p2 m2) l1 l2 (kY cmp m1 m2) _ _ _ _ ?_
  have hQ:Q (.bool (fP (code 3 (ps.getD i .aY)) (code 3 (ps.getD j .aY)))) s':=hQ
  rw[getD_eq_getElem?_getD,e1,getD_eq_getElem?_getD,e2]at hQ
  exact hQ
 ·obtain⟨y,hy,ry⟩:=rv.get' hv
  refine⟨y,H,I.kept (t':=tk) kp,ry,?_⟩
  rw[getD_eq_getElem?_getD,show ps.length=vs.length by omega,hy]at q
  exact q
end
section
variable {K:Frag}
noncomputable def vW:List PV->Option Bv
 |[.lst ps]=>aN (decide (0<ps.length) && cP 3 ps) (some (.val (wH ps)))
 |_=>none
theorem EO:fX K (SJ K) vW:=by
 intro Z H vs qs b Q hp h kk
 unfold vW at h
 split at h
 ·rename_i ps
  obtain⟨c,h⟩:=aK h
  cases h
  rw[and_eq_true]at c
  have c1:=of_decide_eq_true c.1
  obtain⟨v,rfl,hv⟩:=hp.one
  obtain⟨a,ys,rfl,ha,ra⟩:=hv.m6
  refine⟨a,ys,ps,rfl,ha.sq,ra.aH (.less fun _ z=>z.elim),c1,c.2,kk _ H (aZ.refl _) ?_⟩
  have hlt:argBest (q5 ps) (ps.length - 1)<ps.length:=by have:=k7 (q5 ps) (ps.length - 1);omega
  obtain⟨y,hy,ry⟩:=ra.get (getElem?_eq_getElem hlt)
  show Rep K Z H (wH ps) _
  unfold wH
  rw[getD_eq_getElem?_getD,getD_eq_getElem?_getD,hy,getElem?_eq_getElem hlt]
  exact ry
 ·cases h
end
end Mr
namespace Mr
open PySem L2
section
variable {K:Frag}
noncomputable def acI (i:Nat) (f:FE):FS:=fun e=>bO (ownAt e i) fun p0=>match p0 with
 | .lst _=>bE (f e) fun b e1=>match b with
  | .new (.lst qs)=>match ownAt e1 i with
   |some (.lst ps)=>aN (decide (ps.length+qs.length<1000000)) (some (.nx (bZ e1 i (.lst (ps++qs)))))
   |_=>none
  |_=>none
 |_=>none
theorem X9 {i:Nat} {f:FE} {e:En}:acI i f e=bO (ownAt e i) fun p0=>match p0 with
 | .lst _=>bE (f e) fun b e1=>match b with
  | .new (.lst qs)=>match ownAt e1 i with
   |some (.lst ps)=>aN (decide (ps.length+qs.length<1000000)) (some (.nx (bZ e1 i (.lst (ps++qs)))))
   |_=>none
  |_=>none
 |_=>none:=rfl
end
end Mr
namespace L2
open PySem
section
variable {X:Cx} {pins:List (Addr×Obj)} {σ:St} {H:Hp} {s:Shared} {a:Addr} {y d:V} {u r:Value} {A:Around} {E:Value->Shared->Prop}
theorem K8 {kvs:List (Key×V)} {k:Key} {Q:Value->Shared->Prop} (I:Inv X pins σ H s) (e:sI H a kvs) (ry:RelV (kV k) u) (rd:RelV d r) (hz:kvs.length<sizeLine)
  (h1:∀v w' s',dX kvs k=some v->Inv X pins σ H s'->RelV v w'->Q w' s') (h2:∀ep s',dX kvs k=none->Inv X pins σ (upd H a (.dK (putK kvs k d) ep)) s'->Q r s'):
  wpAny (model X.prog X.w) A (call (.builtin "dict.setdefault") [.ref a,u,r]) Q E s:=by
 obtain⟨z,hd,vs,rel,dd⟩:=JP I.bN e
 have hz':vs.length<=sizeLine:=by rw[<-rel.length];exact z
 have rv:=rel.val k
 refine call_meetsIn PySem.F.slot_dict_setdefault dd.typeIs PySem.F.entry_dict_setdefault (PySem.F.args_dict_setdefault_3 _ _ _) (kt_meets_setdefault (bT X.prog X.w) a (pE ry) hd r) ⟨vs,dd,hz',fun v hv=>?_,fun hn h' dd' hs=>?_⟩
 ·rw[hv]at rv
  cases c:dX kvs k with
  |none=>rw[c]at rv;exact rv.elim
  |some v'=>rw[c]at rv;exact h1 v' v _ c (I.tok _) rv
 ·rw[hn]at rv
  cases c:dX kvs k with
  |some v'=>rw[c]at rv;exact rv.elim
  |none=>
   have hl:(putK kvs k d).length<=sizeLine:=by have:=i4 kvs k d;omega
   have he:∃q,h'.get? a=some q:=let⟨q,_,_,hq,_⟩:=dd';⟨q,hq⟩
   obtain⟨ep,da⟩:=dd'.dictAt
   exact h2 ep _ c (rX I e.mut hs he (B0 hl hd (rel.put k rd) da))
end
noncomputable def IS (td ty tx:TE):TE:=fun σ H Q=>td σ H fun x H1=>∃a,x= .ref a/\IsD H1 a/\ty σ H1 fun y H2=>tx σ H2 fun z H3=>∃kvs k,sI H3 a kvs/\y=kV k/\kvs.length<sizeLine/\
 (∀v,dX kvs k=some v->Q v H3)/\(∀ep,dX kvs k=none->Q z (upd H3 a (.dK (putK kvs k z) ep)))
section
variable {X:Cx} {o e f:Expr} {apos cpos:Pos} {td ty tx:TE}
theorem B5 (ho:PE X o td) (he:PE X e ty) (hf:PE X f tx) (m:M2 X o "setdefault" apos e f cpos):PE X (.Call (.Attribute o "setdefault" apos) [e,f] [] cpos) (IS td ty tx):=by
 intro pins s σ H Q I h
 refine wpAny_Call_method m.base m.few m.line plainAttrs_dict PySem.F.slot_dict_setdefault PySem.F.type_dict_setdefault (cM (ho pins s σ H _ I h) fun u s1 ⟨x,H1,I1,rx,a,ex,d,q1⟩=>?_)
 subst ex
 obtain rfl:u=Value.ref a:=rx
 obtain⟨t1,t2,_⟩:=BV I1 d
 refine⟨t1,t2,?_⟩
 rw[m.trees]
 refine Calls.callWith_builtin rfl (Calls.evalArgs_plain (Calls.spliced_cons (cM (he pins s1 σ H1 _ I1 q1) fun iv s2 ⟨y,H2,I2,ry,q2⟩=>
  Calls.spliced_cons (cM (hf pins s2 σ H2 _ I2 q2) fun fv s3 ⟨z,H3,I3,rz,kvs,k,ea,ey,hz,g1,g2⟩=>Calls.spliced_nil ?_))))
 subst ey
 exact K8 I3 ea ry rz hz (fun v w' s' c I' r'=>⟨v,H3,I',r',g1 v c⟩) fun ep s' c I'=>⟨z,_,I',rz,g2 ep c⟩
end
end L2
namespace Mr
open PySem L2
variable {a:Addr} {d:DD} {e:En} {D:Ends} {fa:FA} {fb fk fv:FE} {fg:FG} {fc:FT} {f g:FX} {H H' H1:Hp} {i:Nat} {σ:St} {tv:TE} {t:Tr} {W:WS} {fi:YK} {B L L1 M O Z:aI} {Q:uJ->Prop}
noncomputable abbrev DD:=List (Key×List PV)
noncomputable abbrev Tr:=List (Key×Addr×List PV)
noncomputable def ofT (t:Tr):DD:=t.map fun z=>(z.1,z.2.2)
noncomputable def BX (a:Addr) (t:Tr):aI:=fun b=>b=a\/ b∈t.map (·.2.1)
noncomputable def wB (W:WS) (B:aI):WS:=⟨W.w,fun c=>W.old c/\¬B c⟩
structure Sec (K:Frag) (Z:aI) (H:Hp) (a:Addr) (t:Tr):Prop where
 R4:sI H a (t.map fun z=>(z.1,V.ref z.2.1))
 lst:∀z∈t,∃xs,H z.2.1=some (.lst xs)/\bG K Z H z.2.2 xs
 nd:(a::t.map (·.2.1)).Nodup
 kd:(t.map (·.1)).Nodup
noncomputable def Bok (O L:aI) (H:Hp) (B:aI):Prop:=∀b,B b->H b≠none/\¬O b/\¬L b
theorem Bok.SY (o:jK O M W L H) (b:Bok O L H B):jK (aT O B) (aT M B) (wB W B) L H:=
 ⟨fun a h=>h.elim (o.old a) fun h=>(b a h).1,fun a h=>h.elim (fun h=>.inl (o.mo a h)) .inr,fun i a h=>.inl (o.wm i a h),fun a h=>⟨(o.loc a h).1,fun z=>z.elim (o.loc a h).2 fun z=>(b a z).2.2 h⟩⟩
structure e8 (W:WS) (L L' B B':aI) (H H':Hp):Prop where
 obj:∀a o,H a=some o->¬aw W a->¬L a->¬B a->H' a=some o
 tup:∀a xs,H a=some (.tup xs)->H' a=some (.tup xs)
 b9:∀a,H a≠none->H' a≠none
 new:∀a,L' a->L a\/ H a=none
 OS:∀a,B' a->B a\/ H a=none
theorem none_of {H:Hp} (d:∀a,H a≠none->H1 a≠none) {a:Addr} (h:H1 a=none):H a=none:=by
 cases e:H a with
 |none=>rfl
 |some o=>exact absurd h (d a (by rw[e];exact fun z=>nomatch z))
theorem e8.keep (k:bW W L H H'):e8 W L L B B H H':=⟨fun a o h n m _=>k.obj a o h n m,k.tup,k.b9,fun _ h=>.inl h,fun _ h=>.inl h⟩
theorem e8.refl:e8 W L L B B H H:=.keep .refl
theorem e8.trans {L2 B1 B2:aI} {H2:Hp} (a:e8 W L L1 B B1 H H1) (b:e8 W L1 L2 B1 B2 H1 H2):e8 W L L2 B B2 H H2:=
  ⟨fun c o h n m l=>b.obj c o (a.obj c o h n m l) n (fun z=>(a.new c z).elim m fun z=>(by rw[h]at z;cases z)) fun z=>(a.OS c z).elim l fun z=>(by rw[h]at z;cases z),
   fun c xs h=>b.tup c xs (a.tup c xs h),fun c h=>b.b9 c (a.b9 c h),fun c h=>(b.new c h).elim (a.new c) fun z=>.inr (none_of a.b9 z),fun c h=>(b.OS c h).elim (a.OS c) fun z=>.inr (none_of a.b9 z)⟩
inductive uJ where
 |nx (e:En) (d:DD)|ct (e:En) (d:DD)
noncomputable abbrev FX:=En->DD->Option uJ
structure IA (K:Frag) (O M:aI) (W:WS) (x:Nat) (a:Addr) (L:aI) (σ:St) (H:Hp) (e:En) (t:Tr):Prop where
 ok:jK O M W L H
 yW:Bok O L H (BX a t)
 en:aO K (aT (aT M (BX a t)) L) (wB W (BX a t)) L H σ e
 at':σ[x]? =some (some (.ref a))
 sec:Sec K (aT (aT M (BX a t)) L) H a t
noncomputable def FC (K:Frag) (O M:aI) (W:WS) (x:Nat) (a:Addr) (L:aI) (H:Hp) (t:Tr) (D:Ends):uJ->Prop
 | .nx e' d'=>∀L' σ' H' t',e8 W L L' (BX a t) (BX a t') H H'->IA K O M W x a L' σ' H' e' t'->ofT t'=d'->D.nx σ' H'
 | .ct e' d'=>∀L' σ' H' t',e8 W L L' (BX a t) (BX a t') H H'->IA K O M W x a L' σ' H' e' t'->ofT t'=d'->D.ct σ' H'
theorem FC.later {K:Frag} {x:Nat} {t1:Tr} {r:uJ} (g:e8 W L L1 (BX a t) (BX a t1) H H1) (h:FC K O M W x a L H t D r):FC K O M W x a L1 H1 t1 D r:=by
 cases r with
 |nx e d=>exact fun L' σ' H' t' g'=>h L' σ' H' t' (g.trans g')
 |ct e d=>exact fun L' σ' H' t' g'=>h L' σ' H' t' (g.trans g')
noncomputable def BJ (K:Frag) (x:Nat) (ts:TS) (f:FX):Prop:=∀(O M:aI) (W:WS) (a:Addr) (L:aI) (σ:St) (H:Hp) (e:En) (t:Tr) (r:uJ) (D:Ends),IA K O M W x a L σ H e t->f e (ofT t)=some r->FC K O M W x a L H t D r->ts D σ H
section
variable {K:Frag} {x:Nat}
theorem Sec.keep (o:jK O M W L H) (b:Bok O L H (BX a t)) (k:bW (wB W (BX a t)) L H H') (s:Sec K (aT (aT M (BX a t)) L) H a t):Sec K (aT (aT M (BX a t)) L) H' a t:=by
 have st:=k.aH (b.SY o)
 have nb:∀c ob,BX a t c->H c=some ob->H' c=some ob:=fun c ob hc h=>k.obj c ob h (fun⟨i,w⟩=>(b c hc).2.1 (o.mo _ (o.wm i c w))) (b c hc).2.2
 exact⟨let⟨ep,e⟩:=s.R4;⟨ep,nb a _ (.inl rfl) e⟩,fun z hz=>let⟨xs,h1,h2⟩:=s.lst z hz;⟨xs,nb _ _ (.inr (mem_map.mpr ⟨z,hz,rfl⟩)) h1,h2.aH st⟩,s.nd,s.kd⟩
theorem IA.keep {e':En} (n:IA K O M W x a L σ H e t) (k:bW (wB W (BX a t)) L H H') (en:aO K (aT (aT M (BX a t)) L) (wB W (BX a t)) L H' σ e'):IA K O M W x a L σ H' e' t:=
 ⟨n.ok.keep k.b9,fun b h=>⟨k.b9 b (n.yW b h).1,(n.yW b h).2⟩,en,n.at',n.sec.keep n.ok n.yW k⟩
theorem kw (k:bW (wB W B) L H H'):bW W L H H':=⟨k.obj,k.tup,k.b9⟩
noncomputable def NB:FX:=fun e d=>some (.nx e d)
theorem GC:BJ K x KP NB:=by
 intro O M W a L σ H e t r D n hf q
 cases hf
 exact q L σ H t .refl n rfl
noncomputable def aa1:FX:=fun e d=>some (.ct e d)
noncomputable def ZJ (f g:FX):FX:=fun e d=>match f e d with
 |some (.nx e1 d1)=>g e1 d1
 |r=>r
noncomputable def xIf (fc:FT) (f g:FX):FX:=fun e d=>bE (fc e) fun b e1=>bB b (f e1 d) (g e1 d)
theorem K7 {c:TT} {t u:TS} (hc:jX K c fc) (h1:BJ K x t f) (h2:BJ K x u g):BJ K x (W7 c t u) (xIf fc f g):=by
 intro O M W a L σ H e tr r D n hf q
 obtain⟨b,e1,f1,hf⟩:=aL hf
 refine hc _ _ _ L σ H e _ _ _ (n.yW.SY n.ok) n.en f1 fun H1 k1 en=>?_
 have n1:=n.keep k1 en
 cases b with
 |true=>rw[if_pos rfl];exact h1 O M W a L σ H1 e1 tr r D n1 hf (q.later (.keep (kw k1)))
 |false=>rw[if_neg Bool.false_ne_true];exact h2 O M W a L σ H1 e1 tr r D n1 hf (q.later (.keep (kw k1)))
noncomputable def D6 (K:Frag) (x:Nat) (g:TG) (f:FG):Prop:=∀(O M:aI) (W:WS) (L:aI) (σ:St) (H:Hp) (e e':En) (p:PV) (v:V) (Q:St->Hp->Prop),jK O M W L H->aO K (aT M L) W L H σ e->Rep K (aT M L) H p v->f p e=some e'->(∀σ',σ'[x]? =σ[x]?->aO K (aT M L) W L H σ' e'->Q σ' H)->g v σ H Q
noncomputable def x9 (K:Frag) (x:Nat) (g:EY) (f:FU):Prop:=∀(O M:aI) (W:WS) (L:aI) (σ:St) (H:Hp) (e e':En) (p:List PV) (v:List V) (Q:St->Hp->Prop),jK O M W L H->aO K (aT M L) W L H σ e->bG K (aT M L) H p v->f p e=some e'->(∀σ',σ'[x]? =σ[x]?->aO K (aT M L) W L H σ' e'->Q σ' H)->g v σ H Q
theorem DH (h:i≠x):D6 K x (lY i) (aR i):=by
 intro O M W L σ H e e' p v Q o he hp hf q
 cases hf
 exact q _ (getElem?_set_ne h) (aO.put he rfl hp)
theorem HM:x9 K x WH j7:=by
 intro O M W L σ H e e' p v Q o he hp hf q
 cases p with
 |nil=>cases hf;cases hp;exact⟨rfl,q σ rfl he⟩
 |cons p ps=>cases hf
theorem CH {g:TG} {gs:EY} {f:FG} {fs:FU} (h1:D6 K x g f) (h2:x9 K x gs fs):x9 K x (LA g gs) (cJ f fs):=by
 intro O M W L σ H e e' p v Q o he hp hf q
 cases p with
 |nil=>cases hf
 |cons p ps=>
  obtain⟨e1,f1,hf⟩:=aF hf
  cases hp with
  |cons hp hr=>exact⟨_,_,rfl,h1 O M W L σ H e e1 p _ _ o he hp f1 fun σ' ex he'=>h2 O M W L σ' H e1 e' ps _ _ o he' hr hf fun σ2 ex2=>q σ2 (ex2.trans ex)⟩
theorem HY {n:Nat} {g:EY} {f:FU} (h:x9 K x g f):D6 K x (RC K n g) (j6 n f):=by
 intro O M W L σ H e e' p v Q o he hp hf q
 cases p with
 |tup ps=>
  obtain⟨g1,hf⟩:=aK hf
  cases hp with
  |tup ha hr=>exact⟨_,_,rfl,ha.sq,by rw[<-hr.length];exact of_decide_eq_true g1,h O M W L σ H e e' ps _ Q o he hr hf q⟩
 |_=>cases hf
noncomputable def ab2 (f:FE) (fg:FG):FX:=fun e d=>bE (f e) fun b e1=>bO b.put fun p=>bO (fg p e1) fun e2=>some (.nx e2 d)
noncomputable def ZT (K:Frag) (Z:aI) (H:Hp) (J:It) (items:List PV):Prop:=∀Z' H',cT Z Z' H H'->(∀k p,items[k]? =some p->J.go k H'/\∀x H3,J.YL k H' x H3->aZ H' H3/\Rep K Z' H3 p x)/\J.stop items.length H'
noncomputable abbrev YK:=En->Option (List PV×En)
noncomputable def K0 (K:Frag) (wi:TI) (f:YK):Prop:=∀(O M:aI) (W:WS) (L:aI) (σ:St) (H:Hp) (e e':En) (ps:List PV) (R:It->Hp->Prop),jK O M W L H->aO K (aT M L) W L H σ e->f e=some (ps,e')->
 (∀J H',bW W L H H'->aO K (aT M L) W L H' σ e'->ZT K (aT M L) H' J ps->R J H')->wi σ H R
noncomputable def xIt (f:FE):YK:=fun e=>bE (f e) fun b e1=>match b with
 | .val (.tup ps)=>some (ps,e1)
 |_=>none
theorem OW {t:TE} {f:FE} (h:Ref K t f):K0 K (VE K t) (xIt f):=by
 intro O M W L σ H e e' ps R o he hf q
 obtain⟨b,e1,f1,hf⟩:=aL hf
 refine h O M W L σ H e e1 b _ o he f1 fun v H1 k1 rb fr=>?_
 split at hf
 ·cases hf
  obtain⟨en,rp⟩:=rb
  cases rp with
  |tup ha r=>
   rename_i aa xs
   refine .inr (.inl ⟨_,rfl,⟨_,ha.sq⟩,q _ H1 k1 en fun Z' H' st=>?_⟩)
   have sq:nD K H' aa xs:=TupAt.sq (ha.elim (fun h=>.inl (st.tup _ _ h)) .inr)
   refine⟨fun k p hp=>?_,xs,sq,by rw[r.length];exact le_refl _⟩
   obtain⟨v,hv,rv⟩:=r.get hp
   refine⟨⟨xs,v,sq,hv⟩,fun x H3 y=>?_⟩
   obtain⟨e,y⟩:=y
   subst e
   have:=y xs sq
   rw[hv]at this
   cases this
   exact⟨aZ.refl _,rv.aH st⟩
 ·cases hf
noncomputable def TV (fa:FA):YK:=fun e=>bE (fa e) fun bs e1=>match bs with
 |[.val (.tup ps)]=>some (ps.zipIdx.map fun z=>.tup [.int (z.2:Int),z.1],e1)
 |_=>none
theorem LR {ta:TA} (h:rK K ta fa):K0 K (xG K ta) (TV fa):=by
 intro O M W L σ H e e' ps R o he hf q
 obtain⟨b,e1,f1,hf⟩:=aL hf
 refine h O M W L σ H e e1 b _ o he f1 fun vs H1 k1 en rv=>?_
 split at hf
 ·rename_i ps0
  cases hf
  cases rv with
  | cons h r=>
   cases r
   cases h with
   | tup ha ra=>
    rename_i aa xs
    refine .inl ⟨aa,xs,rfl,ha.sq,q _ H1 k1 en fun Z' H' st=>?_⟩
    have sq:nD K H' aa xs:=TupAt.sq (ha.elim (fun h=>.inl (st.tup _ _ h)) .inr)
    refine⟨fun k p hp=>?_,xs,sq,by rw[length_map,length_zipIdx,ra.length]⟩
    rw[getElem?_map,getElem?_zipIdx]at hp
    cases c:ps0[k]? with
    |none=>rw[c]at hp;cases hp
    |some p0=>
     rw[c]at hp
     cases hp
     obtain⟨v,hv,rv⟩:=ra.get c
     refine⟨⟨xs,v,sq,hv⟩,fun x H3 y=>?_⟩
     obtain⟨t,ht,rfl,y⟩:=y
     obtain⟨x',hx',rfl⟩:=y xs sq
     rw[hv]at hx'
     cases hx'
     refine⟨aZ.upd ht,.tup (.inl aW) (.cons ?_ (.cons ((rv.aH st).aH (.same (aZ.upd ht))) .nil))⟩
     rw[zero_add]
     exact .int _
 ·cases hf
noncomputable def m8 (body:PV->En->DD->Option uJ):List PV->En->DD->Option uJ
 |[],e,d=>some (.nx e d)
 |p::ps,e,d=>match body p e d with
  |some (.nx e1 d1)=>m8 body ps e1 d1
  |some (.ct e1 d1)=>m8 body ps e1 d1
  |none=>none
noncomputable def NL (fi:YK) (fg:FG) (fb:FX):FX:=fun e d=>bE (fi e) fun ps e1=>m8 (fun x e d=>bO (fg x e) fun e2=>fb e2 d) ps e1 d
theorem e8.aH {L':aI} {t':Tr} (o:jK O M W L H) (g:e8 W L L' (BX a t) (BX a t') H H'):cT (aT (aT M (BX a t)) L) (aT (aT M (BX a t')) L') H H':=
 ⟨g.tup,fun c ob h n=>⟨g.obj c ob h (fun⟨i,w⟩=>n (.inl (.inl (o.wm i c w)))) (fun z=>n (.inr z)) fun z=>n (.inl (.inr z)),fun z=>by
  rcases z with(z|z)|z
  ·exact n (.inl (.inl z))
  ·exact(g.OS c z).elim (fun z=>n (.inl (.inr z))) fun z=>by rw[h]at z;cases z
  ·exact(g.new c z).elim (fun z=>n (.inr z)) fun z=>by rw[h]at z;cases z⟩⟩
theorem KH {wi:TI} {g:TG} {tb:TS} {fg:FG} {fb:FX} (hi:K0 K wi fi) (hg:D6 K x g fg) (hb:BJ K x tb fb):BJ K x (TB wi g tb) (NL fi fg fb):=by
 intro O M W a L σ H e tr r D n hf q
 obtain⟨ps,e1,f1,hf⟩:=aL hf
 refine hi _ _ _ L σ H e e1 ps _ (n.yW.SY n.ok) n.en f1 fun J H1 k1 en it=>?_
 have n1:=n.keep k1 en
 have q1:=q.later (.keep (kw k1))
 let N:Nat->St->Hp->Prop:=fun i σ' H'=>∃L' e' t',e8 W L L' (BX a tr) (BX a t') H1 H'/\IA K O M W x a L' σ' H' e' t'/\m8 (fun x e d=>bO (fg x e) fun e2=>fb e2 d) (ps.drop i) e' (ofT t')=some r
 refine⟨fun i m σ' H'=>m=ps.length - i/\i<=ps.length/\N i σ' H',⟨ps.length,by simp,zero_le _,L,e1,tr,.refl,n1,by rw[drop_zero];exact hf⟩,?_⟩
 rintro i m σ2 H2 ⟨rfl,hil,L2,e2,t2,g2,n2,f2⟩
 obtain⟨itm,its⟩:=it _ H2 (g2.aH n1.ok)
 by_cases hlt:i<ps.length
 ·refine .inr ?_
  obtain⟨go,yl⟩:=itm i ps[i] (by simp[hlt])
  refine⟨go,N (i+1),fun σ' H' n=>⟨ps.length - (i+1),by omega,rfl,hlt,n⟩,fun v H3 y=>?_⟩
  obtain⟨s3,rp⟩:=yl v H3 y
  rw[drop_eq_getElem_cons hlt]at f2
  unfold m8 at f2
  have k3:bW (wB W (BX a t2)) L2 H2 H3:=.same s3
  have n3:=n2.keep k3 (n2.en.same s3)
  have g3:e8 W L L2 (BX a tr) (BX a t2) H1 H3:=g2.trans (.keep (kw k3))
  cases c1:fg ps[i] e2 with
  |none=>rw[c1]at f2;cases f2
  | some e3=>
   rw[c1,rA]at f2
   refine hg _ _ _ L2 σ2 H3 e2 e3 _ v _ (n3.yW.SY n3.ok) n3.en rp c1 fun σ3 ex en3=>?_
   have n4:IA K O M W x a L2 σ3 H3 e3 t2:=⟨n3.ok,n3.yW,en3,by rw[ex];exact n3.at',n3.sec⟩
   cases c2:fb e3 (ofT t2)with
   |none=>rw[c2]at f2;cases f2
   |some r1=>
    rw[c2]at f2
    refine hb O M W a L2 σ3 H3 e3 t2 r1 _ n4 c2 ?_
    cases r1 with
    |nx e4 d4=>exact fun L' σ' H' t' g' n' ed=>⟨L',e4,t',g3.trans g',n',by rw[ed];exact f2⟩
    |ct e4 d4=>exact fun L' σ' H' t' g' n' ed=>⟨L',e4,t',g3.trans g',n',by rw[ed];exact f2⟩
 ·have e:i=ps.length:=by omega
  subst e
  rw[drop_length]at f2
  cases f2
  exact .inl ⟨its,q1 L2 σ2 H2 t2 g2 n2 rfl⟩
end
theorem CM {α β:Type} {f:α->β}:∀{l:List α},(l.map f).Nodup->∀y∈l,∀z∈l,f y=f z->y=z
 |[],_,_,h,_,_,_=>nomatch h
 | w::l,nd,y,hy,z,hz,e=>by
  rw[map_cons,nodup_cons]at nd
  rcases mem_cons.mp hy with e1|h1
  ·rcases mem_cons.mp hz with e2|h2
   ·rw[e1,e2]
   ·exact absurd (mem_map.mpr ⟨z,h2,by rw[<-e,e1]⟩) nd.1
  ·rcases mem_cons.mp hz with e2|h2
   ·exact absurd (mem_map.mpr ⟨y,h1,by rw[e,e2]⟩) nd.1
   ·exact CM nd.2 y h1 z h2 e
noncomputable def m5 (d:DD) (k:Key) (p:PV):DD:=if(d.any fun kp=>decide (kp.1=k))=true then d.map (fun kp=>if kp.1=k then(kp.1,kp.2++[p])else kp)else d++[(k,[p])]
noncomputable def sH (t:Tr) (k:Key) (p:PV):Tr:=t.map fun z=>if z.1=k then(z.1,z.2.1,z.2.2++[p])else z
theorem uX (t:Tr) (k:Key) (p:PV):(sH t k p).map (·.2.1)=t.map (·.2.1):=by
 unfold sH
 rw[map_map]
 refine map_congr_left fun z _=>?_
 simp only[Function.comp_apply]
 split<;>rfl
theorem L7 (t:Tr) (k:Key) (p:PV):(sH t k p).map (·.1)=t.map (·.1):=by
 unfold sH
 rw[map_map]
 refine map_congr_left fun z _=>?_
 simp only[Function.comp_apply]
 split<;>rfl
theorem NJ (t:Tr) (k:Key) (p:PV):(sH t k p).map (fun z=>(z.1,V.ref z.2.1))=t.map fun z=>(z.1,V.ref z.2.1):=by
 unfold sH
 rw[map_map]
 refine map_congr_left fun z _=>?_
 simp only[Function.comp_apply]
 split<;>rfl
theorem EW (t:Tr) (k:Key) (p:PV):ofT (sH t k p)=(ofT t).map fun kp=>if kp.1=k then(kp.1,kp.2++[p])else kp:=by
 unfold sH ofT
 rw[map_map,map_map]
 refine map_congr_left fun z _=>?_
 simp only[Function.comp_apply]
 split<;>rfl
theorem wX (a:Addr) (t:Tr) (k:Key) (p:PV):BX a (sH t k p)=BX a t:=by
 unfold BX
 rw[uX]
section
variable {K:Frag} {x:Nat}
theorem aO.grow {Z':aI} {W':WS} {e:En} (h:aO K Z W L H σ e) (k:cT Z Z' H H') (ew:W'.w=W.w) (od:∀a,W.old a->H a≠none->W'.old a)
  (ow:∀a o,aw W a\/ L a->H a=some o->H' a=some o) (bo:∀a o,H a=some o->W.old a->¬aw W a->¬L a->H' a=some o):aO K Z' W' L H' σ e:=by
 have aw':∀a,aw W' a->aw W a:=fun a ⟨i,w⟩=>⟨i,by rw[<-ew];exact w⟩
 refine⟨h.len,fun i s q=>?_,h.mY⟩
 obtain⟨v,h1,h2⟩:=h.at' i s q
 refine⟨v,h1,?_⟩
 have rn:∀{a:Addr} {ob:HO},Rd H a ob->H a≠none:=fun r=>by rcases r with r|⟨u,r⟩<;>(rw[r];exact fun z=>nomatch z)
 cases s with
 |val p=>exact Rep.aH k h2
 |own p=>obtain⟨a,e,w,c⟩:=h2;exact⟨a,e,by rw[ew];exact w,c.aH k fun o q=>ow a o (.inl ⟨_,w⟩) q⟩
 |loc p=>obtain⟨a,e,w,c⟩:=h2;exact⟨a,e,w,c.aH k fun o q=>ow a o (.inr w) q⟩
 |bor p=>
  obtain⟨a,e,c⟩:=h2
  refine⟨a,e,?_⟩
  cases c with
  |lst e o n m r=>exact .lst (e.elim (fun e=>.inl (bo _ _ e o n m)) fun⟨u,e⟩=>.inr ⟨u,bo _ _ e o n m⟩) (od _ o (rn e)) (fun z=>n (aw' _ z)) m (r.aH k)
  |dF e r=>exact .dF e (r.aH k)
  |a9 e o n m kk r=>exact .a9 (e.elim (fun e=>.inl (bo _ _ e o n m)) fun⟨u,e⟩=>.inr ⟨u,bo _ _ e o n m⟩) (od _ o (rn e)) (fun z=>n (aw' _ z)) m kk (r.aH k)
theorem aO.unset {e:En} {v:Option V} (h:aO K Z W L H σ e):aO K Z W L H (σ.set i v) (e.set i none):=by
 refine⟨by rw[length_set,length_set];exact h.len,fun j t q=>?_,fun j k s1 s2 hjk q1 q2 m1 m2=>?_⟩
 ·rcases eB q with⟨rfl,hl,e⟩|⟨hn,q⟩
  ·cases e
  ·rw[getElem?_set_ne hn]
   exact h.at' j t q
 ·rcases eB q1 with⟨rfl,hl,e⟩|⟨hn1,q1⟩
  ·cases e
  ·rcases eB q2 with⟨rfl,hl,e⟩|⟨hn2,q2⟩
   ·cases e
   ·rw[getElem?_set_ne hn1,getElem?_set_ne hn2]
    exact h.mY j k s1 s2 hjk q1 q2 m1 m2
theorem A0 {l:Addr} {k:Key} {ps:List PV} {e2:En} {b:Bv} {p:PV} (hv:Ref K tv fv) (n:IA K O M W x a L σ H e t) (hz:(k,l,ps)∈t)
  (f2:fv e=some (b,e2)) (g:b.put=some p) (hl:ps.length<1000000) (q:∀H',e8 W L L (BX a t) (BX a (sH t k p)) H H'->IA K O M W x a L σ H' e2 (sH t k p)->D.nx σ H'):
  tyV K "list" (.ref l) H/\(eN tv p9) σ H fun xs H5=>rR (.ref l) xs H5 fun _ H6=>D.nx σ H6:=by
 obtain⟨xs0,e0,_⟩:=n.sec.lst _ hz
 refine⟨.inl ⟨rfl,xs0,iR.of e0⟩,?_⟩
 refine hv _ _ _ L σ H e _ _ _ (n.yW.SY n.ok) n.en f2 fun v H5 k5 rb fr=>?_
 have o5:=(n.yW.SY n.ok).keep k5.b9
 obtain⟨en,rp⟩:=rb.put o5 g
 have n5:=n.keep k5 en
 obtain⟨xs,e5,r5⟩:=n5.sec.lst _ hz
 have bl:BX a t l:=.inr (mem_map.mpr ⟨_,hz,rfl⟩)
 have nl:=(n5.yW l bl).2
 have st:cT (aT (aT M (BX a t)) L) (aT (aT M (BX a t)) L) H5 (upd H5 l (.lst (xs++[v]))):=.write (.inl (.inr bl)) e5 fun _ z=>nomatch z
 have b9:∀c,H5 c≠none->upd H5 l (.lst (xs++[v])) c≠none:=fun c h=>by
  by_cases hc:c=l
  ·rw[hc,aW];exact fun z=>nomatch z
  ·rw[aS hc];exact h
 have off:∀c ob,c≠l->H5 c=some ob->upd H5 l (.lst (xs++[v])) c=some ob:=fun c ob hc h=>by rw[aS hc];exact h
 refine⟨l,xs,v,rfl,rfl,e5,by rw[<-r5.length,sizeLine_eq];show ps.length<_;omega,q _ ?_ ?_⟩
 ·rw[wX]
  exact⟨fun c ob h nw nL nB=>off c ob (fun z=>nB (by rw[z];exact bl)) (k5.obj c ob h nw nL),fun c ys h=>st.tup c ys (k5.tup c ys h),fun c h=>b9 c (k5.b9 c h),fun _ h=>.inl h,fun _ h=>.inl h⟩
 ·have al:a≠l:=fun z=>by
   have:=n5.sec.nd
   rw[nodup_cons]at this
   exact this.1 (by rw[z];exact mem_map.mpr ⟨_,hz,rfl⟩)
  refine⟨n5.ok.keep b9,?_,?_,n5.at',?_⟩
  ·rw[wX];exact fun c h=>⟨b9 c (n5.yW c h).1,(n5.yW c h).2⟩
  ·rw[wX]
   refine n5.en.grow st rfl (fun _ h _=>h) (fun c ob h he=>off c ob (fun z=>?_) he) fun c ob he h _ _=>off c ob (fun z=>h.2 (by rw[z];exact bl)) he
   rw[z]at h
   exact h.elim (fun⟨i,w⟩=>nl.1 (n.ok.mo _ (n.ok.wm i l w))) nl.2
  ·rw[wX]
   refine⟨?_,fun z hz'=>?_,?_,?_⟩
   ·rw[NJ];exact let⟨ep,e⟩:=n5.sec.R4;⟨ep,off a _ al e⟩
   ·obtain⟨z0,h0,rfl⟩:=mem_map.mp hz'
    by_cases hk:z0.1=k
    ·have:z0=(k,l,ps):=CM n5.sec.kd z0 h0 _ hz hk
     subst this
     rw[if_pos rfl]
     exact⟨_,aW,(r5.aH st).app (.cons (rp.aH st) .nil)⟩
    ·rw[if_neg hk]
     obtain⟨ys,h1,h2⟩:=n5.sec.lst z0 h0
     have hne:z0.2.1≠l:=fun z=>by
      have:=CM (nodup_cons.mp n5.sec.nd).2 z0 h0 _ hz z
      exact hk (by rw[this])
     exact⟨ys,off _ _ hne h1,h2.aH st⟩
   ·rw[uX];exact n5.sec.nd
   ·rw[L7];exact n5.sec.kd
noncomputable def TL (fk fv:FE):FX:=fun e d=>bE (fk e) fun kb e1=>bO (kb.weak.get e1) fun kp=>bO (keyOf kp) fun k=>bE (fv e1) fun b e2=>bO b.put fun p=>
 aN (decide (d.length<1000000) && d.all fun kp=>decide (kp.2.length<1000000)) (some (.nx e2 (m5 d k p)))
theorem WL:∀(t:Tr) (k:Key),(dX (t.map fun z=>(z.1,V.ref z.2.1)) k=none/\∀z∈t,z.1≠k)\/ ∃z∈t,z.1=k/\dX (t.map fun z=>(z.1,V.ref z.2.1)) k=some (.ref z.2.1)
 |[],k=>.inl ⟨rfl,fun _ h=>nomatch h⟩
 | z::t,k=>by
  by_cases h:z.1=k
  ·refine .inr ⟨z,mem_cons_self,h,?_⟩
   unfold dX
   rw[map_cons,find?_cons,decide_eq_true h]
   rfl
  ·have e:dX ((z::t).map fun z=>(z.1,V.ref z.2.1)) k=dX (t.map fun z=>(z.1,V.ref z.2.1)) k:=by
    unfold dX
    rw[map_cons,find?_cons,decide_eq_false h]
   rw[e]
   rcases WL t k with⟨h1,h2⟩|⟨y,hy,h1,h2⟩
   ·exact .inl ⟨h1,fun w hw=>(mem_cons.mp hw).elim (fun e=>by rw[e];exact h) (h2 w)⟩
   ·exact .inr ⟨y,mem_cons_of_mem _ hy,h1,h2⟩
theorem JN {tk:TE} (hk:Ref K tk fk) (hv:Ref K tv fv):BJ K x (MW (YN K "list" rR (IS (xK x) tk (O0 p9)) (eN tv p9))) (TL fk fv):=by
 intro O M W a L σ H e tr r D n hf q
 obtain⟨kb,e1,f1,hf⟩:=aL hf
 obtain⟨kp,g1,hf⟩:=aF hf
 obtain⟨k,gk,hf⟩:=aF hf
 obtain⟨b,e2,f2,hf⟩:=aL hf
 obtain⟨p,g2,hf⟩:=aF hf
 obtain⟨gz,hf⟩:=aK hf
 cases hf
 rw[and_eq_true]at gz
 have z1:=of_decide_eq_true gz.1
 have z2:=all_eq_true.mp gz.2
 have lenT:tr.length=(ofT tr).length:=by unfold ofT;rw[length_map]
 refine⟨.ref a,n.at',a,rfl,.inl ⟨_,n.sec.R4.rd⟩,?_⟩
 refine hk _ _ _ L σ H e _ _ _ (n.yW.SY n.ok) n.en f1 fun y H2 k1 rb fr=>?_
 have o2:=(n.yW.SY n.ok).keep k1.b9
 have n2:=n.keep k1 (rb.en o2)
 have ky:y=kV k:=((rb.rv o2).red (rb.en o2) g1).key gk
 refine⟨zero_le _,fun l hl=>?_⟩
 have al:a≠l:=fun z=>(n2.yW a (.inl rfl)).1 (by rw[z];exact hl)
 have sm:aZ H2 (upd H2 l (.lst [])):=aZ.upd hl
 have n3:IA K O M W x a L σ (upd H2 l (.lst [])) e1 tr:=n2.keep (.same sm) (n2.en.same sm)
 refine⟨_,k,n3.sec.R4,ky,by rw[length_map,lenT,sizeLine_eq];omega,?_,?_⟩
 ·intro v hv'
  rcases WL tr k with⟨h1,_⟩|⟨z,hz,h1,h2⟩
  ·rw[h1]at hv';cases hv'
  ·rw[h2]at hv'
   cases hv'
   have hz':(k,z.2.1,z.2.2)∈tr:=by rw[<-h1];exact hz
   have zl:=of_decide_eq_true (z2 (z.1,z.2.2) (mem_map.mpr ⟨z,hz,rfl⟩))
   refine A0 hv n3 hz' f2 g2 zl fun H' g' n'=>q L σ H' _ ((e8.keep (kw k1)).trans ((e8.keep (.same sm)).trans g')) n' ?_
   rw[EW]
   have anyT:((ofT tr).any fun kp=>decide (kp.1=k))=true:=any_eq_true.mpr ⟨(z.1,z.2.2),mem_map.mpr ⟨z,hz,rfl⟩,decide_eq_true h1⟩
   unfold m5
   rw[if_pos anyT]
 ·intro ep hv'
  rcases WL tr k with⟨_,h2⟩|⟨z,hz,h1,h2⟩
  ·have anyF:((tr.map fun z=>(z.1,V.ref z.2.1)).any fun kv=>decide (kv.1=k))=false:=by
    rw[any_map,any_eq_false]
    intro z hz
    simpa using h2 z hz
   have eput:putK (tr.map fun z=>(z.1,V.ref z.2.1)) k (.ref l)=(tr++[(k,l,[])]:Tr).map fun z:Key×Addr×List PV=>(z.1,V.ref z.2.1):=by
    unfold putK
    rw[anyF,if_neg Bool.false_ne_true,map_append];rfl
   rw[eput]
   have b9:∀c,H2 c≠none->upd (upd H2 l (.lst [])) a (.dK ((tr++[(k,l,[])]:Tr).map fun z:Key×Addr×List PV=>(z.1,V.ref z.2.1)) ep) c≠none:=fun c h=>by
    by_cases hc:c=a
    ·rw[hc,aW];exact fun z=>nomatch z
    ·rw[aS hc]
     by_cases hc:c=l
     ·rw[hc,aW];exact fun z=>nomatch z
     ·rw[aS hc];exact h
   have off:∀c ob,c≠a->H2 c=some ob->upd (upd H2 l (.lst [])) a (.dK ((tr++[(k,l,[])]:Tr).map fun z:Key×Addr×List PV=>(z.1,V.ref z.2.1)) ep) c=some ob:=fun c ob hc h=>by
    rw[aS hc,aS (fun z=>by rw[z,hl]at h;cases h)];exact h
   have ll:upd (upd H2 l (.lst [])) a (.dK ((tr++[(k,l,[])]:Tr).map fun z:Key×Addr×List PV=>(z.1,V.ref z.2.1)) ep) l=some (.lst []):=by rw[aS (Ne.symm al),aW]
   have bx:∀c,BX a (tr++[(k,l,[])]) c->BX a tr c\/ c=l:=fun c h=>by
    rcases h with h|h
    ·exact .inl (.inl h)
    ·rw[map_append]at h
     rcases mem_append.mp h with h|h
     ·exact .inl (.inr h)
     ·exact .inr (by simpa using h)
   have st:cT (aT (aT M (BX a tr)) L) (aT (aT M (BX a (tr++[(k,l,[])]))) L) H2 (upd (upd H2 l (.lst [])) a (.dK ((tr++[(k,l,[])]:Tr).map fun z:Key×Addr×List PV=>(z.1,V.ref z.2.1)) ep)):=
    ⟨fun c ys h=>off c _ (fun z=>by obtain⟨_,e⟩:=n2.sec.R4;rw[z,e]at h;cases h) h,fun c ob h nz=>⟨off c ob (fun z=>nz (.inl (.inr (.inl z)))) h,fun z=>by
     rcases z with(z|z)|z
     ·exact nz (.inl (.inl z))
     ·rcases bx c z with z|z
      ·exact nz (.inl (.inr z))
      ·rw[z,hl]at h;cases h
     ·exact nz (.inr z)⟩⟩
   have na:=n2.yW a (.inl rfl)
   have n4:IA K O M W x a L σ (upd (upd H2 l (.lst [])) a (.dK ((tr++[(k,l,[])]:Tr).map fun z:Key×Addr×List PV=>(z.1,V.ref z.2.1)) ep)) e1 (tr++[(k,l,[])]):=by
    refine⟨n2.ok.keep b9,fun c h=>?_,?_,n2.at',?_⟩
    ·rcases bx c h with h|h
     ·exact⟨b9 c (n2.yW c h).1,(n2.yW c h).2⟩
     ·rw[h]
      exact⟨by rw[ll];exact(fun z=>nomatch z),fun z=>n2.ok.old l z hl,fun z=>(n2.ok.loc l z).1 hl⟩
    ·refine n2.en.grow st rfl (fun c h hc=>⟨h.1,fun z=>(bx c z).elim h.2 fun z=>hc (by rw[z];exact hl)⟩) (fun c ob h he=>off c ob (fun z=>?_) he) fun c ob he h _ _=>off c ob (fun z=>h.2 (.inl z)) he
     rw[z]at h
     exact h.elim (fun⟨i,w⟩=>na.2.1 (n2.ok.mo _ (n2.ok.wm i a w))) na.2.2
    ·refine⟨⟨ep,aW⟩,fun z hz=>?_,?_,?_⟩
     ·rcases mem_append.mp hz with hz|hz
      ·obtain⟨xs,h1,h3⟩:=n2.sec.lst z hz
       have hne:z.2.1≠a:=fun w=>(nodup_cons.mp n2.sec.nd).1 (by rw[<-w];exact mem_map.mpr ⟨z,hz,rfl⟩)
       exact⟨xs,off _ _ hne h1,h3.aH st⟩
      ·rw[mem_singleton.mp hz]
       exact⟨[],ll,.nil⟩
     ·rw[map_append,<-cons_append]
      refine nodup_append.mpr ⟨n2.sec.nd,by simp,fun u hu w hw e=>?_⟩
      have hw':w=l:=by simpa using hw
      rw[e,hw']at hu
      rcases mem_cons.mp hu with hu|hu
      ·exact al hu.symm
      ·obtain⟨z,hz,ez⟩:=mem_map.mp hu
       obtain⟨xs,h1,_⟩:=n2.sec.lst z hz
       rw[show z.2.1=l from ez,hl]at h1
       cases h1
     ·rw[map_append]
      refine nodup_append.mpr ⟨n2.sec.kd,by simp,fun u hu w hw e=>?_⟩
      have hw':w=k:=by simpa using hw
      obtain⟨z,hz,ez⟩:=mem_map.mp hu
      exact h2 z hz (by rw[ez,e,hw'])
   have g4:e8 W L L (BX a tr) (BX a (tr++[(k,l,[])])) H2 (upd (upd H2 l (.lst [])) a (.dK ((tr++[(k,l,[])]:Tr).map fun z:Key×Addr×List PV=>(z.1,V.ref z.2.1)) ep)):=
    ⟨fun c ob h _ _ nb=>off c ob (fun z=>nb (.inl z)) h,st.tup,b9,fun _ h=>.inl h,fun c h=>(bx c h).elim .inl fun z=>.inr (by rw[z];exact hl)⟩
   have hz:(k,l,[])∈tr++[(k,l,([]:List PV))]:=mem_append.mpr (.inr mem_cons_self)
   refine A0 hv n4 hz f2 g2 (by decide) fun H' g' n'=>q L σ H' _ ((e8.keep (kw k1)).trans (g4.trans g')) n' ?_
   have anyD:((ofT tr).any fun kp=>decide (kp.1=k))=false:=by
    unfold ofT
    rw[any_map,any_eq_false]
    intro z hz
    simpa using h2 z hz
   unfold m5
   rw[anyD,if_neg Bool.false_ne_true,EW]
   have eo:ofT (tr++[(k,l,[])])=ofT tr++[(k,[])]:=by unfold ofT;rw[map_append];rfl
   rw[eo,map_append]
   congr 1
   ·have:∀kp∈ofT tr,(if kp.1=k then(kp.1,kp.2++[p])else kp)=kp:=fun kp hkp=>by
     obtain⟨z,hz,rfl⟩:=mem_map.mp hkp
     exact if_neg (h2 z hz)
    rw[map_congr_left this,map_id']
   ·simp
  ·rw[h2]at hv';cases hv'
noncomputable def sX (x:Nat) (f:FX):FS:=fun e=>aN (decide (x<e.length)) (match f (e.set x none) []with
 |some (.nx e' d)=>some (.rt (.new (.a9 (d.map fun kp=>(kp.1,.lst kp.2)))) e')
 |_=>none)
theorem sM:∀{t:Tr},(∀z∈t,∃xs,H z.2.1=some (.lst xs)/\bG K Z H z.2.2 xs/\¬Z z.2.1)->bG K Z H (((ofT t).map fun kp=>(kp.1,PV.lst kp.2)).map (·.2)) ((t.map fun z=>(z.1,V.ref z.2.1)).map (·.2))
 |[],_=>.nil
 |z::t,h=>by
  obtain⟨xs,h1,h2,h3⟩:=h z mem_cons_self
  exact .cons (.lst (.inl h1) h3 h2) (sM fun w hw=>h w (mem_cons_of_mem _ hw))
theorem CN {ts:TS} (h:BJ K x ts f):gH K (PB (tH yH (lY x)) (PB ts (WN (xK x)))) (sX x f):=by
 intro O M W L σ H e r D o he hf q
 obtain⟨hx,hf⟩:=aK hf
 have hx:=of_decide_eq_true hx
 split at hf
 ·rename_i e' d c
  cases hf
  intro a ha
  have sm:aZ H (upd H a (.dK [] 0)):=aZ.upd ha
  have na:¬O a/\¬L a:=⟨fun z=>o.old a z ha,fun z=>(o.loc a z).1 ha⟩
  have b0:∀c,BX a [] c->c=a:=fun c h=>h.elim id fun h=>nomatch h
  have n0:IA K O M W x a L (σ.set x (some (.ref a))) (upd H a (.dK [] 0)) (e.set x none) []:=by
   refine⟨o.keep (bW.same (W:=W) (L:=L) sm).b9,fun c h=>?_,?_,?_,?_⟩
   ·rw[b0 c h,aW];exact⟨(fun z=>nomatch z),na⟩
   ·refine(he.grow (Z':=aT (aT M (BX a [])) L) (W':=wB W (BX a [])) (H':=upd H a (.dK [] 0)) ⟨fun _ _ h=>sm _ _ h,fun c ob h nz=>⟨sm _ _ h,fun z=>?_⟩⟩ rfl (fun c h hc=>⟨h,fun z=>hc (by rw[b0 c z];exact ha)⟩) (fun c ob _ h=>sm _ _ h) fun c ob h _ _ _=>sm _ _ h).unset
    rcases z with(z|z)|z
    ·exact nz (.inl z)
    ·rw[b0 c z,ha]at h;cases h
    ·exact nz (.inr z)
   ·rw[getElem?_set_self (by rw[<-he.len];exact hx)]
   ·exact⟨⟨0,aW⟩,(fun _ h=>nomatch h),by simp,by simp⟩
  refine h O M W a L _ _ _ [] _ _ n0 c fun L' σ' H' t' g n ed=>⟨.ref a,n.at',q L' σ' H' (.ref a) ?_ n.ok ?_⟩
  ·refine⟨fun c ob h nw nl=>g.obj c ob (sm _ _ h) nw nl fun z=>?_,fun c ys h=>g.tup c ys (sm _ _ h),fun c h=>g.b9 c ((bW.same (W:=W) (L:=L) sm).b9 c h),fun c h=>(g.new c h).elim .inl fun z=>.inr (none_of (bW.same (W:=W) (L:=L) sm).b9 z)⟩
   rw[b0 c z,ha]at h;cases h
  ·subst ed
   have nb:=fun c h=>n.yW c h
   have na':=nb a (.inl rfl)
   have less:∀c,aT M (aT L' (one a)) c->aT (aT M (BX a t')) L' c:=fun c z=>by
    rcases z with z|z|z
    ·exact .inl (.inl z)
    ·exact .inr z
    ·exact .inl (.inr (.inl z))
   have k:cT (aT (aT M (BX a t')) L') (aT M (aT L' (one a))) H' H':=.less less
   refine⟨a,rfl,na'.2.1,na'.2.2,⟨n.en.len,fun i s hs=>?_,n.en.mY⟩,fun i s hs hm es=>?_,?_⟩
   ·obtain⟨v,h1,h2⟩:=n.en.at' i s hs
    refine⟨v,h1,?_⟩
    cases s with
    |val p=>exact Rep.aH k h2
    |own p=>obtain⟨a,e,w,c⟩:=h2;exact⟨a,e,w,c.aH k fun o q=>q⟩
    |loc p=>obtain⟨a,e,w,c⟩:=h2;exact⟨a,e,.inl w,c.aH k fun o q=>q⟩
    |bor p=>
     obtain⟨a',e,c⟩:=h2
     refine⟨a',e,?_⟩
     cases c with
     |lst e od n m r=>exact .lst e od.1 n (fun z=>z.elim m fun z=>od.2 (.inl z)) (r.aH k)
     |dF e r=>exact .dF e (r.aH k)
     |a9 e od n m kk r=>exact .a9 e od.1 n (fun z=>z.elim m fun z=>od.2 (.inl z)) kk (r.aH k)
   ·obtain⟨v,h1,h2⟩:=n.en.at' i s hs
    rw[h1]at es
    cases es
    cases s with
    |val p=>cases hm
    |bor p=>cases hm
    |own p=>obtain⟨a',e,w,c⟩:=h2;cases e;exact na'.2.1 (n.ok.mo _ (n.ok.wm i a w))
    |loc p=>obtain⟨a',e,w,c⟩:=h2;cases e;exact na'.2.2 w
   ·obtain⟨_,R4⟩:=n.sec.R4
    refine .a9 R4 ?_ (sM fun z hz=>?_)
    ·unfold ofT
     rw[map_map,map_map,map_map]
     rfl
    ·obtain⟨xs,h1,h2⟩:=n.sec.lst z hz
     have hb:BX a t' z.2.1:=.inr (mem_map.mpr ⟨z,hz,rfl⟩)
     have nz:=nb _ hb
     refine⟨xs,h1,h2.aH k,fun w=>?_⟩
     rcases w with w|w|w
     ·exact nz.2.1 (n.ok.mo _ w)
     ·exact nz.2.2 w
     ·exact(nodup_cons.mp n.sec.nd).1 (by rw[<-show z.2.1=a from w];exact mem_map.mpr ⟨z,hz,rfl⟩)
 ·cases hf
end
section
variable {K:Frag}
noncomputable def MV:PV->PV->PV->Option Bv
 | .a9 kvs,p,z=>bO (keyOf p) fun k=>some (.val ((cE kvs k).getD z))
 |_,_,_=>none
noncomputable def M0 (fa fb fc:FE):FE:=fun e=>bE (fa e) fun x e1=>bO (x.weak.get e1) fun p1=>match p1 with
 | .a9 _=>bE (fb e1) fun y e2=>bE (fc e2) fun z e3=>bO z.put fun pz=>bO (x.weak.get e3) fun p=>bO (y.weak.get e3) fun q=>bO (MV p q pz) fun b=>some (b,e3)
 |_=>none
theorem LQ {ta tb tc:TE} {fa fc:FE} (ha:Ref K ta fa) (hb:Ref K tb fb) (hc:Ref K tc fc):Ref K (J7 ta tb tc) (M0 fa fb fc):=by
 intro O M W L σ H e e' b Q o he hf q
 obtain⟨x,e1,f1,hf⟩:=aL hf
 obtain⟨p1,g0,hf⟩:=aF hf
 cases p1 with
 | a9 kvs1=>
  obtain⟨y,e2,f2,hf⟩:=aL hf
  obtain⟨z,e3,f3,hf⟩:=aL hf
  obtain⟨pz,gz,hf⟩:=aF hf
  obtain⟨p,g1,hf⟩:=aF hf
  obtain⟨p',g2,hf⟩:=aF hf
  obtain⟨c,g3,hf⟩:=aF hf
  cases hf
  refine ha O M W L σ H e e1 x _ o he f1 fun v1 H1 k1 r1 fr=>?_
  have o1:=o.keep k1.b9
  obtain⟨a1,ys1,e11,ha1,_,_⟩:=((r1.rv o1).red (r1.en o1) g0).rB
  refine⟨a1,e11,.inl ⟨ys1,ha1⟩,?_⟩
  refine hb O M W L σ H1 e1 _ y _ o1 (r1.en o1) f2 fun v2 H2 k2 r2 fr=>?_
  have o2:=o1.keep k2.b9
  refine hc O M W L σ H2 e2 _ z _ o2 (r2.en o2) f3 fun v3 H3 k3 r3 fr=>?_
  have o3:=o2.keep k3.b9
  obtain⟨en,rz⟩:=r3.put o3 gz
  have rp:=(((r1.rv o1).keep o1 k2).keep o2 k3).red en g1
  have rq:=((r2.rv o2).keep o2 k3).red en g2
  cases p with
  | a9 kvs=>
   obtain⟨key,g4,g3⟩:=aF g3
   cases g3
   obtain⟨a,ys,e3',ha',ek,r⟩:=rp.rB
   rw[e11]at e3'
   cases e3'
   refine⟨dX ys key,.inl ⟨ys,key,ha',rq.key g4,rfl⟩,?_⟩
   refine q _ H3 ((k1.trans k2).trans k3) ?_ ?_
   ·refine⟨en,?_⟩
    rcases dM.val key ⟨ek,r⟩with⟨h1,h2⟩|⟨p'',v',h1,h2,h3⟩
    ·rw[h1,h2];exact rz
    ·rw[h1,h2];exact h3
   ·trivial
  |_=>cases g3
 |_=>cases hf
theorem P8 {fa fc:FE}:M0 fa fb fc e=bE (fa e) fun x e1=>bO (x.weak.get e1) fun p1=>match p1 with
 | .a9 _=>bE (fb e1) fun y e2=>bE (fc e2) fun z e3=>bO z.put fun pz=>bO (x.weak.get e3) fun p=>bO (y.weak.get e3) fun q=>bO (MV p q pz) fun b=>some (b,e3)
 |_=>none:=rfl
theorem OO {f g:FX} {e:En} {d:DD} {Q:uJ->Prop}:Wp (ZJ f g e d) Q↔Wp (f e d) fun o=>match o with| .nx e1 d1=>Wp (g e1 d1) Q|o=>Q o:=by
 unfold ZJ
 cases f e d with
 |none=>simp[pL]
 |some o=>
  rw[bU]
  cases o<;>simp[bU]
theorem O8 {fb:FX}:Wp (NL fi fg fb e d) Q↔Wp (fi e) fun z=>Wp (m8 (fun x e d=>bO (fg x e) fun e2=>fb e2 d) z.1 z.2 d) Q:=by
 unfold NL
 rw[jW]
theorem Z9 {x:Nat} {f:FX} {e:En} {Q:Out->Prop}:Wp (sX x f e) Q↔x<e.length/\Wp (f (e.set x none) []) fun o=>match o with| .nx e' d=>Q (.rt (.new (.a9 (d.map fun kp=>(kp.1,.lst kp.2)))) e')| .ct _ _=>False:=by
 unfold sX
 rw[dC,decide_eq_true_eq]
 refine and_congr_right fun _=>?_
 cases f (e.set x none) []with
 |none=>simp[pL]
 |some o=>
  rw[bU]
  cases o<;>simp[bU,pL]
theorem P6:NB e d=some (.nx e d):=rfl
theorem RE:aa1 e d=some (.ct e d):=rfl
theorem aaW:xIf fc f g e d=bE (fc e) fun b e1=>bB b (f e1 d) (g e1 d):=rfl
theorem XE {f:FE}:ab2 f fg e d=bE (f e) fun b e1=>bO b.put fun p=>bO (fg p e1) fun e2=>some (.nx e2 d):=rfl
theorem Y4 {f:FE}:xIt f e=bE (f e) fun b e1=>match b with
 | .val (.tup ps)=>some (ps,e1)
 |_=>none:=rfl
theorem T9:TV fa e=bE (fa e) fun bs e1=>match bs with
 |[.val (.tup ps)]=>some (ps.zipIdx.map fun z=>.tup [.int (z.2:Int),z.1],e1)
 |_=>none:=rfl
theorem T6:TL fk fv e d=bE (fk e) fun kb e1=>bO (kb.weak.get e1) fun kp=>bO (keyOf kp) fun k=>bE (fv e1) fun b e2=>bO b.put fun p=>
 aN (decide (d.length<1000000) && d.all fun kp=>decide (kp.2.length<1000000)) (some (.nx e2 (m5 d k p))):=rfl
theorem z6 {body:PV->En->DD->Option uJ} (I:Nat->En->DD->Prop) {xs:List PV} (hs:∀(i:Nat) x e d,xs[i]? =some x->I i e d->Wp (body x e d) fun o=>match o with| .nx e1 d1=>I (i+1) e1 d1| .ct e1 d1=>I (i+1) e1 d1)
  (hd:∀e d,I xs.length e d->Q (.nx e d)) {e:En} {d:DD} (h0:I 0 e d):Wp (m8 body xs e d) Q:=by
 have key:∀(ys:List PV) (i:Nat) (e:En) (d:DD),i<=xs.length->xs.drop i=ys->I i e d->Wp (m8 body ys e d) Q:=by
  intro ys
  induction ys with
  | nil=>
   intro i e d hil hy hi
   unfold m8
   rw[bU]
   have hl:xs.length<=i:=by
    have:=congrArg List.length hy
    rw[length_drop]at this
    simp at this
    omega
   have h:i=xs.length:=by omega
   subst h
   exact hd e d hi
  | cons x ys ih=>
   intro i e d hil hy hi
   have hlt:i<xs.length:=by
    have:=congrArg List.length hy
    rw[length_drop,length_cons]at this
    omega
   rw[drop_eq_getElem_cons hlt]at hy
   have hx:xs[i]? =some x:=by rw[getElem?_eq_getElem hlt,(List.cons.inj hy).1]
   obtain⟨o,h1,h2⟩:=hs i x e d hx hi
   unfold m8
   rw[h1]
   cases o with
   |nx e1 d1=>exact ih (i+1) e1 d1 hlt (List.cons.inj hy).2 h2
   |ct e1 d1=>exact ih (i+1) e1 d1 hlt (List.cons.inj hy).2 h2
 exact key xs 0 e d (zero_le _) rfl h0
end
end Mr
namespace L2
open PySem
section
variable {prog:Program} {w:World} {A:Around} {R:Result->Shared->Prop} {s:Shared}
theorem GD {kx vx target iter:Expr} {ifs:List Expr} {scope:Scope} {pos:Pos} {it:Value} {D:Addr} {env:Env} (I:Nat->Shared->Prop)
  (turn:∀n s,I n s->wpAny (model prog w) A (pyNext it) (fun r s₁=>match r with
   |none=>R (.ok .next) s₁
   | some v=>wpAny (model prog w) A (letOwnedTupleGo target it v) (fun _ s₁'=>wpAny (model prog w) A (assign target env v) (fun _ s₂=>
     wpAny (model prog w) A (forIn ifs true fun c r=>if r=true then do let ok<-isTrue c env (eval c env);pure (ForInStep.yield ok)else pure (ForInStep.yield r)) (fun ok s₃=>
      if ok=true then wpAny (model prog w) A (eval kx env) (fun kv s₄=>wpAny (model prog w) A (eval vx env) (fun vv s₅=>
       wpAny (model prog w) A (dictSet D kv vv) (fun _ s₆=>∃m,m<n/\I m s₆) (fun _ _=>False) s₅) (fun _ _=>False) s₄) (fun _ _=>False) s₃
      else∃m,m<n/\I m s₃) (fun _ _=>False) s₂) (fun _ _=>False) s₁') (fun _ _=>False) s₁) (fun _ _=>False) s)
  (n:Nat) (h:I n s):
  codeAny (model prog w) A (.compLoop (.DictComp kx vx [⟨target,iter,ifs,0⟩] scope pos) 0 it (.ref D) env) R s:=by
 refine codeAny_loop rfl I (fun n s hI=>?_) n h
 show wpAny _ A ((compTurn (.DictComp kx vx [⟨target,iter,ifs,0⟩] scope pos) 0 it (.ref D) env).onRaise (fun x=>do noteFrame x env;theTreesLotGoes x)) _ _ s
 refine wpAny_noted ?_
 refine wpAny_mono (E:=fun _ _=>False) ?_ (fun _ _ q=>q) (fun _ _ z=>z.elim)
 rw[compTurn_dict]
 refine wpAny_bind (wpAny_standAt (wpAny_bind (wpAny_mono (turn n s hI) (fun r s₁ h₁=>?_) fun _ _ h'=>h')))
 cases r with
 |none=>exact wpAny_pure h₁
 | some v=>
  refine wpAny_bind (wpAny_mono h₁ (fun _ s₁' h₁'=>?_) fun _ _ h'=>h')
  refine wpAny_bind (wpAny_mono h₁' (fun _ s₂ h₂=>wpAny_bind (wpAny_mono h₂ (fun ok s₃ h₃=>?_) fun _ _ h'=>h')) fun _ _ h'=>h')
  cases ok with
  |false=>exact wpAny_pure ⟨rfl,h₃⟩
  |true=>
   exact wpAny_bind (wpAny_bind (wpAny_mono h₃ (fun kv s₄ h₄=>wpAny_bind (wpAny_holding (wpAny_mono h₄ (fun vv s₅ h₅=>wpAny_bind (wpAny_standAt (wpAny_holding (wpAny_mono h₅ (fun _ s₆ h₆=>wpAny_pure ⟨rfl,h₆⟩) fun _ _ h'=>h')))) fun _ _ h'=>h'))) fun _ _ h'=>h'))
end
noncomputable def aaT (J:It) (g:TG) (tt:TT) (tk te:TE) (l:Addr) (σ0:St) (H0:Hp) (Q:VK):Prop:=
 ∃W:Nat->Nat->St->Hp->Prop,(∃m,W 0 m σ0 H0)/\
   ∀i m σ' H2,W i m σ' H2->(J.stop i H2/\Q (.ref l) H2)\/ (J.go i H2/\∃N:St->Hp->Prop,(∀σ3 H3,N σ3 H3->∃m',m'<m/\W (i+1) m' σ3 H3)/\
    ∀x H3,J.YL i H2 x H3->g x σ' H3 fun σ4 H4=>tt σ4 H4 fun b H5=>if b=true then tk σ4 H5 fun kv H6=>te σ4 H6 fun y H7=>∃kvs key,sI H7 l kvs/\kv=kV key/\kvs.length<sizeLine/\∀ep,N σ4 (upd H7 l (.dK (putK kvs key y) ep))else N σ4 H5)
noncomputable def wI (wi:TI) (k:Nat) (cH:List Nat) (g:TG) (tt:TT) (tk te:TE):TE:=fun σ H Q=>wi σ H fun J H1=>∀l,H1 l=none->aaT J g tt tk te l (eM k cH σ) (upd H1 l (.dK [] 0)) Q
section
variable {X:Cx} {kx vx tg iter:Expr} {ifs:List Expr} {scope:Scope} {pos:Pos} {wi:TI} {g:TG} {tt:TT} {tk te:TE} {N:List Str} {k:Nat} {cH:List Nat}
theorem I0 {pins:List (Addr×Obj)} {σ:St} {H2:Hp} {s2:Shared} {cl:List (Str×Addr)} {C:Addr} {fp:List Addr} {h1:Heap} {tk:Nat} {m0:Str->Option Value} (S:fV X scope N k cH) (I2:Inv X pins σ H2 s2)
  (hcl1:∀y c,cl.lookup y=some c->X.env.cells.lookup y=some c) (hcl2:∀y,(y,NameKind.free)∈scope.names->(cl.lookup y).isSome=true) (hC:C=s2.heap.objs.size+1)
  (hf:∀b∈fp,pB X pins H2 b) (ho:∀b∈fp,b<s2.heap.objs.size) (hk:∀b o,s2.heap.get? b=some o->h1.get? b=some o) (hD:h1.get? s2.heap.objs.size=some {cls:=.type "dict",data:=.dict #[]}) (hns:h1.Ns C m0):
  Inv (bI X scope N ⟨cl,C,s2,H2,fp⟩) [] (eM k cH σ) (upd H2 s2.heap.objs.size (.dK [] 0)) {s2 with heap:=h1,toks:=tk}:=by
 have fr:H2 s2.heap.objs.size=none:=I2.bN.fresh (le_refl _)
 have hCf:H2 C=none:=I2.bN.fresh (hC▸le_succ _)
 refine⟨sQ S I2 hcl1 hcl2 (hC▸le_succ _) hf ho,rfl,I2.bare,Un.laid hk (le_refl _) fr,⟨m0,hns,fun i y v e1 e2 e3=>?_⟩,fun x c e=>?_,?_,fun x c e=>?_,fun p hp=>absurd (show p∈([]:List (Addr×Obj))from hp) (by simp),I2.bN.laid hk (le_refl _) ?_,?_⟩
 ·obtain⟨q,j,rfl,hj,hv⟩:=vY e2
  obtain⟨z,hz1,hz2,hz3⟩:=S.cH q j hj
  have e1':N[k+q]? =some y:=e1
  rw[hz1]at e1'
  cases e1'
  obtain⟨m,hn,hl⟩:=I2.loc
  have hfr:=S.free (y,.free) (PySem.mem_of_lookup hz3) rfl
  obtain⟨u,r,l⟩:=hl j y v hz2 hv (by rcases hfr with z|z;exact .inr (.inl z);exact .inr (.inr z))
  refine⟨u,r,.inr ⟨eF (env:=X.env) hz3,?_⟩⟩
  obtain⟨c,hc⟩:=isSome_iff_exists.mp (hcl2 y (PySem.mem_of_lookup hz3))
  rcases l with⟨hk',_⟩|⟨_,c',hc',hcell⟩
  ·rcases hfr with z|z<;>(rw[hk']at z;cases z)
  ·have e:=hcl1 y c hc
   rw[hc']at e
   cases e
   obtain⟨o,ho',hd⟩:=hcell
   exact⟨_,hc,o,hk _ _ ho',hd⟩
 ·obtain⟨v,o,ho',hd⟩:=I2.cell x c (hcl1 x c e)
  exact⟨v,o,hk _ _ ho',hd⟩
 ·show upd H2 s2.heap.objs.size (.dK [] 0) C=none
  rw[aS (ne_of_gt (hC▸lt_succ_self _))]
  exact hCf
 ·have e':=hcl1 x c e
  obtain⟨v,q⟩:=I2.cell x c e'
  rw[aS (ne_of_lt q.lt)]
  exact I2.mD x c e'
 ·exact⟨zero_le _,beq_eq_false_iff_ne.mpr (Ne.symm (ne_of_lt I2.big)),[],.nil,⟨_, #[],hD,⟨rfl,rfl,rfl⟩,rfl,(fun _ h=>absurd h (by simp)),.nil,nodup_nil⟩⟩
 ·show(eM k cH σ).length=N.length
  unfold eM
  rw[length_append,length_replicate,length_map,S.len]
theorem J0 (hc:X.calm=true) (S:fV X scope N k cH) (hi:PI X tg iter wi) (hg:∀c,PG (bI X scope N c) tg g) (ht:∀c,SA (bI X scope N c) ifs tt) (hk:∀c,PE (bI X scope N c) kx tk) (he:∀c,PE (bI X scope N c) vx te)
  (hs:∀x,foldedSetIterable iter X.env x=pure x:=by intro _;rfl):PE X (.DictComp kx vx [⟨tg,iter,ifs,0⟩] scope pos) (wI wi k cH g tt tk te):=by
 intro pins s σ H Q I h
 rw[arm_eval_DictComp]
 obtain⟨cl,hclos,hcl1,hcl2⟩:=jD (scope:=scope) (env:=X.env) (fun p hp hf=>I.ok.has p.1 (S.free p hp hf))
 refine wpAny_comprehension_free (use:=none) rfl hs hclos S.kind S.names (cM (hi pins s σ H _ I h) fun v s1 h1=>cM h1 fun itv s2 h2=>?_)
 obtain⟨it,fp,tn,J,H2,e,I2,T,st2,f2,q2⟩:=h2
 subst e
 obtain⟨W,⟨m0,w0⟩,turn⟩:=q2 s2.heap.objs.size (I2.bN.fresh (le_refl _))
 have hob:∀b∈fp,b<s2.heap.objs.size:=fun b hb=>let⟨o,e,_⟩:=T.obj _ _ st2 b hb;lt_size e
 refine wpAny_newObj_type (wpAny_newFunctionEnv S.cell (by intro y hy;simp at hy) (fun h₁ hns₁ hsb₁=>?_) S.kind)
 dsimp only at hns₁ hsb₁⊢
 generalize hHH:s2.heap.push {cls:=.type "dict",dict:=none,data:=.dict #[]}=HH at hns₁ hsb₁⊢
 have hCC:HH.objs.size=s2.heap.objs.size+1:=by rw[<-hHH,size_push]
 have old:∀b o,s2.heap.get? b=some o->h₁.get? b=some o:=fun b o e=>hsb₁.extBut b o (ne_of_lt (hCC▸lt_succ_of_lt (lt_size e))) (get?_push_of_some _ (hHH▸get?_push_of_some _ e))
 have hD:h₁.get? s2.heap.objs.size=some {cls:=.type "dict",data:=.dict #[]}:=hsb₁.extBut _ _ (ne_of_lt (hCC▸lt_succ_self _)) (get?_push_of_some _ (hHH▸get?_push_size _ rfl))
 have I4:=fun tk=>I0 (tk:=tk) S I2 hcl1 hcl2 hCC f2 hob old hD hns₁
 have X':=bI X scope N ⟨cl,HH.objs.size,s2,H2,fp⟩
 have stat:∀{H':Hp},(∀b∈fp,H' b=none)->∀b∈fp,pB (bI X scope N ⟨cl,HH.objs.size,s2,H2,fp⟩) [] H' b:=fun hn b hb=>
  ⟨hn b hb,ne_of_lt (hCC▸lt_succ_of_lt (hob b hb)),(sQ S I2 hcl1 hcl2 (hCC▸le_succ _) f2 hob).zR b hb,.inl hb,fun x c e=>(f2 b hb).2.2.2.2.1 x c (hcl1 x c e),fun p hp=>absurd (show p∈([]:List (Addr×Obj))from hp) (by simp)⟩
 have loop:∀s₃:Shared,s₃={s2 with heap:=h₁,toks:=s2.toks+([]:List (Str×Value)).length}->
   codeAny (model X.prog X.w) X.A (.compLoop (.DictComp kx vx [⟨tg,iter,ifs,0⟩] scope pos) 0 (.ref it) (.ref s2.heap.objs.size) (compEnvC scope cl HH.objs.size X.env))
    (compPost (model X.prog X.w) X.A X.xe none (EP X pins σ Q) (.ref s2.heap.objs.size) HH.objs.size) s₃:=by
  rintro s₃ rfl
  refine GD (fun n s'=>∃i σ' H',Inv (bI X scope N ⟨cl,HH.objs.size,s2,H2,fp⟩) [] σ' H' s'/\tn i s'.heap/\(∀b∈fp,H' b=none)/\W i n σ' H') ?_ m0
   ⟨0,eM k cH σ,_,I4 _,T.keep _ _ _ st2 fun b _ o e=>old b o e,fun b hb=>by rw[aS (ne_of_lt (hob b hb))];exact(f2 b hb).1,w0⟩
  rintro n s3 ⟨i,σ3,H3,I3,st3,fr3,w3⟩
  rcases turn i n σ3 H3 w3 with⟨stop,qn⟩|⟨go,NN,hN,step⟩
  ·refine cM (T.done (bI X scope N ⟨cl,HH.objs.size,s2,H2,fp⟩) rfl rfl rfl hc i [] s3 σ3 H3 _ I3 (stat fr3) st3 stop) fun r s4 ⟨hr,J4⟩=>?_
   subst hr
   obtain⟨m,hn,_⟩:=J4.loc
   refine⟨m,hn,fun h' hs'=>?_⟩
   have keepC:∀b o,b≠HH.objs.size->s4.heap.get? b=some o->h'.get? b=some o:=fun b o hb e=>hs'.extBut b o hb e
   have fP:∀b o,s2.heap.get? b=some o->b≠HH.objs.size:=fun b o e=>ne_of_lt (hCC▸lt_succ_of_lt (lt_size e))
   have u:=J4.base
   have u':Un (G2 X.stack) fp H2 H3 s2.heap h':=⟨fun b o q n hb hx=>keepC b o (fP b o q) (u.keep b o q n hb hx),fun b o q n hb hx=>by
     obtain⟨sl,e⟩:=u.slot b o q n hb hx
     exact⟨sl,keepC b _ (fP b o q) e⟩,u.free,fun b o q hx=>by
     obtain⟨o',e⟩:=u.there b o q hx
     exact⟨o',keepC b _ (fP b o q) e⟩,u.uU,u.sJ,u.uI⟩
   refine⟨.ref s2.heap.objs.size,H3,I2.LH (ch:=fp) J4.os u' (J4.bN.but J4.free keepC) J4.bare fun b hb=>?_,rfl,qn⟩
   obtain⟨_,f1,_,f3,f4,f5⟩:=f2 b hb
   exact⟨f3,f1,f4,f5⟩
  ·refine cM (T.item (bI X scope N ⟨cl,HH.objs.size,s2,H2,fp⟩) rfl rfl rfl hc i [] s3 σ3 H3 _ I3 (stat fr3) st3 go) fun r s4 ⟨u,hr,h4⟩=>?_
   subst hr
   refine cM h4 fun _ s5 ⟨x,H5,I5,r5,y5,st5,fr5⟩=>?_
   have I5':=I5.pinned (stat fr5) (T.obj _ _ st5)
   have again:∀{s7:Shared} {σ7:St} {H7:Hp},Inv (bI X scope N ⟨cl,HH.objs.size,s2,H2,fp⟩) ([]++nS fp s5.heap) σ7 H7 s7->NN σ7 H7->
     ∃m,m<n/\∃i σ' H',Inv (bI X scope N ⟨cl,HH.objs.size,s2,H2,fp⟩) [] σ' H' s7/\tn i s7.heap/\(∀b∈fp,H' b=none)/\W i m σ' H':=fun{s7 σ7 H7} I7 n7=>by
    obtain⟨m',hm,w7⟩:=hN σ7 H7 n7
    refine⟨m',hm,i+1,σ7,H7,I7.jZ,T.keep _ _ _ st5 fun b hb o e=>(I7.pin (b,o) (mem_append_right _ (mem_append_right _ (dP hb e)))).1,fun b hb=>?_,w7⟩
    obtain⟨o,e,d⟩:=T.obj _ _ st5 b hb
    exact(I7.pin (b,o) (mem_append_right _ (mem_append_right _ (dP hb e)))).2.1
   refine cM (hg _ _ s5 σ3 H5 x u _ I5' r5 (step x H5 y5)) fun _ s6 ⟨σ6,H6,I6,q6⟩=>?_
   refine cM (ht _ _ s6 σ6 H6 _ I6 q6) fun b s7 ⟨H7,I7,q7⟩=>?_
   cases b with
   |false=>exact again I7 q7
   |true=>
    refine cM (hk _ _ s7 σ6 H7 _ I7 q7) fun kv s8 ⟨kx',H8,I8,r8,q8⟩=>?_
    refine cM (he _ _ s8 σ6 H8 _ I8 q8) fun y s9 ⟨yv,H9,I9,r9,kvs,key,hl,ek,hz,n9⟩=>?_
    subst ek
    obtain⟨z,hd,vs,rel,dd⟩:=JP I9.bN hl
    have hz':vs.length<=sizeLine:=by rw[<-rel.length];exact z
    have hl':(putK kvs key yv).length<=sizeLine:=by have:=i4 kvs key yv;omega
    refine wpAny_dictSet_pairs (hsz:=hz') (pE r8) dd fun h' dd' hs'=>?_
    have hx':∃q,h'.get? s2.heap.objs.size=some q:=let⟨q,_,_,hq,_⟩:=dd';⟨q,hq⟩
    obtain⟨ep,da⟩:=dd'.dictAt
    exact again (rX I9 hl.mut hs' hx' (B0 hl' hd (rel.put key r9) da)) (n9 ep)
 exact codeAny_compStart_dict (loop _ rfl) (T.self X.A 0 _ _ _ (T.keep _ _ _ st2 fun b _ o e=>old b o e) (loop _ rfl))
theorem vE (N:List Str) (k:Nat) (cH:List Nat) (XN:List Str) (xs:Scope) (hc:X.calm=true) (hN:X.N=XN) (hx:X.env.scope=xs) (hi:PI X tg iter wi) (chk:o8 XN xs scope N k cH=true)
  (hg:∀c,PG (bI X scope N c) tg g) (ht:∀c,SA (bI X scope N c) ifs tt) (hk:∀c,PE (bI X scope N c) kx tk) (he:∀c,PE (bI X scope N c) vx te)
  (hs:∀x,foldedSetIterable iter X.env x=pure x:=by intro _;rfl):PE X (.DictComp kx vx [⟨tg,iter,ifs,0⟩] scope pos) (wI wi k cH g tt tk te):=J0 hc (kF hN hx chk) hi hg ht hk he hs
end
end L2
namespace Mr
open PySem L2
variable {fe fk:FE} {fg:FG} {fi:FI} {ft:FT} {cH:List Nat} {k:Nat} {te tk:TE} {wi:TI} {tt:TT}
noncomputable def kX (fg:FG) (ft:FT) (fk fe:FE):List PV->En->List (Key×PV)->Option (List (Key×PV)×En)
 |[],e,d=>some (d,e)
 |x::xs,e,d=>bO (fg x e) fun e1=>bE (ft e1) fun b e2=>match b with
  |false=>kX fg ft fk fe xs e2 d
  |true=>bE (fk e2) fun kb e3=>bE (fe e3) fun r e4=>bO (kb.weak.get e4) fun kp=>bO (keyOf kp) fun k=>bO r.put fun p=>kX fg ft fk fe xs e4 (fM d k p)
noncomputable def jI (fi:FI) (k:Nat) (cH:List Nat) (ms:List (Nat×Nat)) (fg:FG) (ft:FT) (fk fe:FE):FE:=fun e=>
 bE (fi (fun i=>!(ms.any fun z=>z.1==i)) e) fun items e1=>aN (decide (items.length<1000000)) (bE (kX fg ft fk fe items (nX k cH ms e1) []) fun ys ei=>bO (nH ei ms e1) fun e2=>some (.new (.a9 ys),e2))
section
variable {K:Frag}
theorem GQ {g:TG} (ms:List (Nat×Nat)) (hms:∀i j1 j2,(i,j1)∈ms->(i,j2)∈ms->j1=j2) (hms2:∀i1 i2 j,(i1,j)∈ms->(i2,j)∈ms->i1=i2) (hi:tE K wi fi) (hg:wM K g fg) (ht:jX K tt ft) (hk:Ref K tk fk) (he:Ref K te fe):Ref K (wI wi k cH g tt tk te) (jI fi k cH ms fg ft fk fe):=by
 intro O M W L σ H e e' b Q o hen hf q
 obtain⟨items,e1,f1,hf⟩:=aL hf
 obtain⟨hsz,hf⟩:=aK hf
 obtain⟨ys,ei,f2,hf⟩:=aL hf
 obtain⟨e2,f3,hf⟩:=aF hf
 cases hf
 have hsz:=of_decide_eq_true hsz
 refine hi (fun i=>!(ms.any fun z=>z.1==i)) O M W L σ H e e1 items _ o hen f1 fun J H1 k1 en it=>?_
 have o1:=o.keep k1.b9
 let W':WS:=⟨fun j a=>∃i s,(i,j)∈ms/\e1[i]? =some (some s)/\s.cU=true/\σ[i]? =some (some (.ref a)),fun a=>H1 a≠none⟩
 have whose:∀(i:Nat) s a,e1[i]? =some (some s)->s.cU=true->σ[i]? =some (some (.ref a))->(aw W a\/ L a)/\∃ob,H1 a=some ob/\∀xs,ob≠ .tup xs:=fun i s a hs hm ha=>by
  obtain⟨v,h1,h2⟩:=en.at' i s hs
  rw[ha]at h1
  cases h1
  cases s with
  |val p=>cases hm
  |bor p=>cases hm
  |own p=>obtain⟨b,e,w,c⟩:=h2;cases e;exact⟨.inl ⟨i,w⟩,c.there⟩
  |loc p=>obtain⟨b,e,w,c⟩:=h2;cases e;exact⟨.inr w,c.there⟩
 have wsub:∀a,aw W' a->(aw W a\/ L a)/\∃ob,H1 a=some ob/\∀xs,ob≠ .tup xs:=fun a ⟨j,i,s,hm,hs,hmine,ha⟩=>whose i s a hs hmine ha
 have it:=it (aw W') (fun a z=>(wsub a z).1) fun i a s hst hs hm ha ⟨j,i',s',hm',hs',hmine',ha'⟩=>by
  have ne:i'≠i:=fun z=>by
   subst z
   have:(ms.any fun z=>z.1==i')=true:=any_eq_true.mpr ⟨(i',j),hm',by simp⟩
   rw[this]at hst
   cases hst
  exact en.mY i' i s' s ne hs' hs hmine' hm (by rw[ha',ha])
 intro l hl
 have zl:∀a ob,H1 a=some ob->a≠l:=fun a ob h=>b8 h hl
 let M':aI:=aT M (aT L (one l))
 let O':aI:=fun a=>H1 a≠none\/ a=l
 have s0:aZ H1 (upd H1 l (.dK [] 0)):=aZ.upd hl
 have ML:∀a,(aw W a\/ L a)->aT M L a:=fun a z=>z.elim (fun⟨i,w⟩=>.inl (o.wm i a w)) .inr
 have k0:cT (aT M L) (aT M' cR) H1 (upd H1 l (.dK [] 0)):=⟨fun a xs h=>s0 _ _ h,fun a ob h n=>⟨s0 _ _ h,fun z=>by
  rcases z with(z|z|z)|z
  ·exact n (.inl z)
  ·exact n (.inr z)
  ·exact zl a ob h z
  ·exact z⟩⟩
 have okc0:∀H2,(∀a,H1 a≠none\/ a=l->H2 a≠none)->jK O' M' W' cR H2:=fun H2 d=>⟨d,fun a z=>by
   rcases z with z|z|z
   ·exact .inl (o1.old a (o1.mo a z))
   ·exact .inl (o1.loc a z).1
   ·exact .inr z,fun j a z=>by
   rcases ML a (wsub a ⟨j,z⟩).1 with z|z
   ·exact .inl z
   ·exact .inr (.inl z),fun a z=>z.elim⟩
 have lenS:(nX k cH ms e1).length=(eM k cH σ).length:=by
  unfold nX eM
  rw[length_append,length_append,uA,length_map,length_replicate,length_replicate]
 have en0:aO K (aT M' cR) W' cR (upd H1 l (.dK [] 0)) (eM k cH σ) (nX k cH ms e1):=by
  have lend:∀(i:Nat) s p a,e1[i]? =some (some s)->(s= .own p\/ s= .loc p)->σ[i]? =some (some (.ref a))->hV K (aT M L) H1 a p->¬(∃j,(i,j)∈ms)->rL K (aT M' cR) W' cR (upd H1 l (.dK [] 0)) a p:=fun i s p a hs hp ha c nm=>by
   have hm:s.cU=true:=by rcases hp with rfl|rfl<;>rfl
   have nw:¬aw W' a:=fun⟨j,i',s',hm',hs',hmine',ha'⟩=>by
    have ne:i'≠i:=fun z=>nm ⟨j,z▸hm'⟩
    exact en.mY i' i s' s ne hs' hs hmine' hm (by rw[ha',ha])
   have c':=c.aH k0 fun ob h=>s0 _ _ h
   cases c' with
   |lst h r=>exact .lst (.inl h) (by obtain⟨ob,h1,_⟩:=c.there;show H1 a≠none;rw[h1];exact fun z=>nomatch z) nw (fun z=>z) r
   |a9 h kk r=>exact .a9 (.inl h) (by obtain⟨ob,h1,_⟩:=c.there;show H1 a≠none;rw[h1];exact fun z=>nomatch z) nw (fun z=>z) kk r
  have bors:∀p a,rL K (aT M L) W L H1 a p->rL K (aT M' cR) W' cR (upd H1 l (.dK [] 0)) a p:=fun p a c=>by
   cases c with
   |lst h od n m r=>exact .lst (h.elim (fun h=>.inl (s0 _ _ h)) fun⟨u,h⟩=>.inr ⟨u,s0 _ _ h⟩) (fun z=>Rd.ne h z rfl) (fun z=>(wsub a z).1.elim n m) (fun z=>z) (r.aH k0)
   |dF h r=>exact .dF h (r.aH k0)
   |a9 h od n m kk r=>exact .a9 (h.elim (fun h=>.inl (s0 _ _ h)) fun⟨u,h⟩=>.inr ⟨u,s0 _ _ h⟩) (fun z=>Rd.ne h z rfl) (fun z=>(wsub a z).1.elim n m) (fun z=>z) kk (r.aH k0)
  have row:∀(i j:Nat) s,x6 e1 ms i j=some s->∃v,σ[i]? =some (some v)/\i9 K (aT M' cR) W' cR (upd H1 l (.dK [] 0)) j v s/\(s.cU=true->(i,j)∈ms/\∃s',e1[i]? =some (some s')/\s'.cU=true):=fun i j s h=>by
   unfold x6 at h
   have nc:∀{p:PV},ms.contains (i,j)=true->(i,j)∈ms:=fun z=>contains_iff_mem.mp z
   cases c:e1[i]? with
   |none=>rw[c]at h;cases h
   | some s'=>
    cases s' with
    |none=>rw[c]at h;cases h
    | some s'=>
     rw[c]at h
     obtain⟨v,h1,h2⟩:=en.at' i s' c
     refine⟨v,h1,?_⟩
     cases s' with
     |val p=>cases h;exact⟨Rep.aH k0 h2,fun z=>nomatch z⟩
     |bor p=>cases h;obtain⟨a,e,c⟩:=h2;exact⟨⟨a,e,bors p a c⟩,fun z=>nomatch z⟩
     | own p=>
      obtain⟨a,e,w,ct⟩:=h2
      subst e
      dsimp only at h
      cases d:ms.contains (i,j)with
      |true=>
       rw[d,if_pos rfl]at h
       cases h
       have hm:=contains_iff_mem.mp d
       exact⟨⟨a,rfl,⟨i,_,hm,c,rfl,h1⟩,ct.aH k0 fun ob h=>s0 _ _ h⟩,fun _=>⟨hm,_,rfl,rfl⟩⟩
      | false=>
       rw[d,if_neg Bool.false_ne_true]at h
       cases d2:ms.any (fun z=>z.1==i)with
       |true=>rw[d2,if_pos rfl]at h;cases h
       |false=>
        rw[d2,if_neg Bool.false_ne_true]at h
        cases h
        refine⟨⟨a,rfl,lend i _ p a c (.inl rfl) h1 ct fun⟨j',hm'⟩=>?_⟩,fun z=>nomatch z⟩
        have:(ms.any fun z=>z.1==i)=true:=any_eq_true.mpr ⟨(i,j'),hm',by simp⟩
        rw[d2]at this
        cases this
     | loc p=>
      obtain⟨a,e,w,ct⟩:=h2
      subst e
      dsimp only at h
      cases d:ms.contains (i,j)with
      |true=>
       rw[d,if_pos rfl]at h
       cases h
       have hm:=contains_iff_mem.mp d
       exact⟨⟨a,rfl,⟨i,_,hm,c,rfl,h1⟩,ct.aH k0 fun ob h=>s0 _ _ h⟩,fun _=>⟨hm,_,rfl,rfl⟩⟩
      | false=>
       rw[d,if_neg Bool.false_ne_true]at h
       cases d2:ms.any (fun z=>z.1==i)with
       |true=>rw[d2,if_pos rfl]at h;cases h
       |false=>
        rw[d2,if_neg Bool.false_ne_true]at h
        cases h
        refine⟨⟨a,rfl,lend i _ p a c (.inr rfl) h1 ct fun⟨j',hm'⟩=>?_⟩,fun z=>nomatch z⟩
        have:(ms.any fun z=>z.1==i)=true:=any_eq_true.mpr ⟨(i,j'),hm',by simp⟩
        rw[d2]at this
        cases this
  refine⟨lenS,fun j s hj=>?_,fun j1 j2 s t hn h1 h2 m1 m2=>?_⟩
  ·obtain⟨q,i,rfl,hc,hs⟩:=jV hj
   obtain⟨v,h1,h2,_⟩:=row i _ s hs
   exact⟨v,j9 hc h1,h2⟩
  ·obtain⟨q1,i1,rfl,c1,hs1⟩:=jV h1
   obtain⟨q2,i2,rfl,c2,hs2⟩:=jV h2
   obtain⟨v1,a1,_,b1⟩:=row i1 _ s hs1
   obtain⟨v2,a2,_,b2⟩:=row i2 _ t hs2
   obtain⟨w1,s1,d1,n1⟩:=b1 m1
   obtain⟨w2,s2,d2,n2⟩:=b2 m2
   rw[j9 c1 a1,j9 c2 a2]
   have ne:i1≠i2:=fun z=>by subst z;exact hn (hms _ _ _ w1 w2)
   have:=en.mY i1 i2 s1 s2 ne d1 d2 n1 n2
   rw[a1,a2]at this
   exact this
 have dl:∀a xs,H1 a=some (.tup xs)->a≠l:=fun a xs h=>zl a _ h
 let N:Nat->St->Hp->Prop:=fun i σ' H'=>∃ei' acc vs,bW W' (one l) (upd H1 l (.dK [] 0)) H'/\sI H' l vs/\dM K (aT M' cR) H' acc vs/\aO K (aT M' cR) W' cR H' σ' ei'/\acc.length<=i/\
  kX fg ft fk fe (items.drop i) ei' acc=some (ys,ei)
 have k0':∀H',bW W' (one l) (upd H1 l (.dK [] 0)) H'->∀a,H1 a≠none\/ a=l->H' a≠none:=fun H' kk a z=>kk.b9 a (by
  rcases z with z|z
  ·cases e:H1 a with
   |none=>exact absurd e z
   |some u=>rw[s0 _ _ e];exact fun z=>nomatch z
  ·rw[z,aW];exact fun z=>nomatch z)
 refine⟨fun i m σ' H'=>m=items.length - i/\i<=items.length/\N i σ' H',⟨items.length,by simp,zero_le _,nX k cH ms e1,[],[],.refl,⟨0,aW⟩,⟨rfl,.nil⟩,en0,le_refl _,by rw[drop_zero];exact f2⟩,?_⟩
 rintro i m σ2 H2 ⟨rfl,hil,ei2,acc,vs,kk,hl2,ra,en2,hacc,f4⟩
 have oki:=okc0 H2 (k0' H2 kk)
 obtain⟨itm,its⟩:=it (aT L (one l)) H2 (fun a ob h n=>kk.obj a ob (s0 _ _ h) n (zl a ob h)) (fun a xs h=>kk.tup a xs (s0 _ _ h)) (fun a z=>z.elim .inl fun z=>.inr (by rw[show a=l from z];exact hl))
 by_cases hlt:i<items.length
 ·refine .inr ?_
  obtain⟨go,yl⟩:=itm i items[i] (by simp[hlt])
  refine⟨go,N (i+1),fun σ' H' n=>⟨items.length - (i+1),by omega,rfl,hlt,n⟩,fun x H3 y=>?_⟩
  obtain⟨s3,rp⟩:=yl x H3 y
  rw[drop_eq_getElem_cons hlt]at f4
  obtain⟨e4,c1,f4⟩:=aF f4
  have oki3:=oki.keep (H':=H3) (bW.same (W:=W') (L:=cR) s3).b9
  have rp':Rep K (aT M' cR) H3 items[i] x:=rp.aH (.less fun a z=>z.elim id fun z=>z.elim)
  refine hg O' M' W' cR σ2 H3 ei2 e4 _ x _ oki3 (en2.same s3) rp' c1 fun σ3 en3=>?_
  obtain⟨b,e5,c2,f4⟩:=aL f4
  refine ht O' M' W' cR σ3 H3 e4 e5 b _ oki3 en3 c2 fun H4 k4 en4=>?_
  have oki4:=oki3.keep k4.b9
  have nlw:¬aw W' l:=fun z=>by obtain⟨_,ob,h,_⟩:=wsub l z;rw[hl]at h;cases h
  have kL:∀{A B:Hp},bW W' cR A B->bW W' (one l) A B:=fun k=>⟨fun a ob h n m=>k.obj a ob h n fun z=>z,k.tup,k.b9⟩
  have st:∀{A B:Hp},bW W' cR A B->jK O' M' W' cR A->cT (aT M' cR) (aT M' cR) A B:=fun k ok=>k.aH ok
  have k34:bW W' cR H2 H4:=(bW.same s3).trans k4
  cases b with
  |false=>
   rw[if_neg Bool.false_ne_true]
   exact⟨e5,acc,vs,kk.trans (kL k34),(let⟨ep,e⟩:=hl2;⟨ep,k34.obj l _ e nlw (fun z=>z)⟩),⟨ra.1,ra.2.aH (st k34 oki)⟩,en4,le_succ_of_le hacc,f4⟩
  | true=>
   rw[if_pos rfl]
   obtain⟨kb,e6,ck,f4⟩:=aL f4
   obtain⟨rv,e7,c3,f4⟩:=aL f4
   obtain⟨kp,cg,f4⟩:=aF f4
   obtain⟨key,cy,f4⟩:=aF f4
   obtain⟨p,c4,f4⟩:=aF f4
   refine hk O' M' W' cR σ3 H4 e5 e6 kb _ oki4 en4 ck fun kv H4' k4' rk frk=>?_
   have oki4':=oki4.keep k4'.b9
   refine he O' M' W' cR σ3 H4' e6 e7 rv _ oki4' (rk.en oki4') c3 fun v H5 k5 rb fr=>?_
   have oki5:=oki4'.keep k5.b9
   obtain⟨en5,rp5⟩:=rb.put oki5 c4
   have ek:kv=kV key:=(((rk.rv oki4').keep oki4' k5).red en5 cg).key cy
   have k35:bW W' cR H2 H5:=(k34.trans k4').trans k5
   obtain⟨ep0,hl20⟩:=hl2
   have hl5:=k35.obj l _ hl20 nlw (fun z=>z)
   have ra5:dM K (aT M' cR) H5 acc vs:=⟨ra.1,ra.2.aH (st k35 oki)⟩
   have lv:vs.length=acc.length:=by have:=congrArg List.length ra.1;rw[length_map,length_map]at this;exact this
   refine⟨vs,key,⟨_,hl5⟩,ek,by rw[sizeLine_eq];omega,fun ep=>?_⟩
   have stw:cT (aT M' cR) (aT M' cR) H5 (upd H5 l (.dK (putK vs key v) ep)):=.write (.inl (.inr (.inr rfl))) hl5 fun _ z=>nomatch z
   have kw:bW W' (one l) H5 (upd H5 l (.dK (putK vs key v) ep)):=.write (.inr rfl) hl5 fun _ z=>nomatch z
   have lp:(fM acc key p).length<=acc.length+1:=by
    unfold fM
    split
    ·rw[length_map];omega
    ·rw[length_append];exact le_refl _
   refine⟨e7,fM acc key p,putK vs key v,(kk.trans (kL k35)).trans kw,⟨ep,aW⟩,dM.put key ⟨ra5.1,ra5.2.aH stw⟩ (rp5.aH stw),?_,by omega,f4⟩
   refine⟨en5.len,fun j s hj=>?_,en5.mY⟩
   obtain⟨u,g1,g2⟩:=en5.at' j s hj
   refine⟨u,g1,?_⟩
   cases s with
   |val p=>exact Rep.aH stw g2
   |own p=>
    obtain⟨a,e,w,c⟩:=g2
    exact⟨a,e,w,c.aH stw fun ob h=>by rw[aS (fun z:a=l=>nlw (by rw[<-z];exact⟨j,w⟩))];exact h⟩
   |loc p=>obtain⟨a,e,w,c⟩:=g2;exact w.elim
   |bor p=>
    obtain⟨a,e,c⟩:=g2
    refine⟨a,e,?_⟩
    have ne:W'.old a->a≠l:=fun od z=>od (by rw[z];exact hl)
    cases c with
    |lst h od n m r=>exact .lst (h.elim (fun h=>.inl (by rw[aS (ne od)];exact h)) fun⟨u,h⟩=>.inr ⟨u,by rw[aS (ne od)];exact h⟩) od n m (r.aH stw)
    |dF h r=>exact .dF h (r.aH stw)
    |a9 h od n m kk r=>exact .a9 (h.elim (fun h=>.inl (by rw[aS (ne od)];exact h)) fun⟨u,h⟩=>.inr ⟨u,by rw[aS (ne od)];exact h⟩) od n m kk (r.aH stw)
 ·have e:i=items.length:=by omega
  subst e
  rw[drop_length]at f4
  cases f4
  have kout:bW W L H1 H2:=⟨fun a ob h n m=>kk.obj a ob (s0 _ _ h) (fun z=>(wsub a z).1.elim n m) (zl a ob h),fun a xs h=>kk.tup a xs (s0 _ _ h),fun a h=>k0' H2 kk a (.inl h)⟩
  have kf:cT (aT M L) (aT M (aT L (one l))) H1 H2:=⟨kout.tup,fun a ob h n=>⟨kk.obj a ob (s0 _ _ h) (fun z=>n (ML a (wsub a z).1)) (zl a ob h),fun z=>by
   rcases z with z|z|z
   ·exact n (.inl z)
   ·exact n (.inr z)
   ·exact zl a ob h z⟩⟩
  have pend:xF K (aT M (aT L (one l))) W (aT L (one l)) H2 σ (fun i=>∃j,(i,j)∈ms) e1:=by
   refine⟨en.len,fun i s hs=>?_,en.mY⟩
   obtain⟨v,h1,h2⟩:=en.at' i s hs
   have keepM:∀a,s.cU=true->¬(∃j,(i,j)∈ms)->v= .ref a->∀ob,H1 a=some ob->H2 a=some ob:=fun a hm nt ev ob h=>by
    subst ev
    refine kk.obj a ob (s0 _ _ h) (fun⟨j,i',s',hm',hs',hmine',ha'⟩=>?_) (zl a ob h)
    have ne:i'≠i:=fun z=>nt ⟨j,z▸hm'⟩
    exact en.mY i' i s' s ne hs' hs hmine' hm (by rw[ha',h1])
   refine⟨v,h1,fun z=>?_,fun hm=>?_⟩
   ·cases s with
    |val p=>exact Rep.aH kf h2
    |own p=>
     obtain⟨a,e,w,c⟩:=h2
     exact⟨a,e,w,c.aH kf fun ob h=>keepM a rfl (z.elim id fun z=>nomatch z) e ob h⟩
    |loc p=>
     obtain⟨a,e,w,c⟩:=h2
     exact⟨a,e,.inl w,c.aH kf fun ob h=>keepM a rfl (z.elim id fun z=>nomatch z) e ob h⟩
    |bor p=>
     obtain⟨a,e,c⟩:=h2
     refine⟨a,e,?_⟩
     cases c with
     |lst h od n m r=>exact .lst (h.elim (fun h=>.inl (kout.obj _ _ h n m)) fun⟨u,h⟩=>.inr ⟨u,kout.obj _ _ h n m⟩) od n (fun z=>z.elim m (Rd.ne h hl)) (r.aH kf)
     |dF h r=>exact .dF h (r.aH kf)
     |a9 h od n m kk r=>exact .a9 (h.elim (fun h=>.inl (kout.obj _ _ h n m)) fun⟨u,h⟩=>.inr ⟨u,kout.obj _ _ h n m⟩) od n (fun z=>z.elim m (Rd.ne h hl)) kk (r.aH kf)
   ·cases s with
    |val p=>cases hm
    |bor p=>cases hm
    |own p=>obtain⟨a,e,w,c⟩:=h2;exact⟨a,e,.inl ⟨p,rfl,w⟩⟩
    |loc p=>obtain⟨a,e,w,c⟩:=h2;exact⟨a,e,.inr ⟨p,rfl,.inl w⟩⟩
  have enf:aO K (aT M (aT L (one l))) W (aT L (one l)) H2 σ e':=lR pend (fun i j p a hm hp ha=>by
   rcases bQ hp with g|g
   ·obtain⟨v,h1,a',rfl,⟨i',s',hm',_,_,ha'⟩,c⟩:=en2.at' j _ g
    have ei:=hms2 i i' j hm hm'
    subst ei
    rw[ha]at ha'
    cases ha'
    exact c.aH (.less fun a z=>.inl z) fun _ h=>h
   ·obtain⟨v,h1,a',rfl,w,c⟩:=en2.at' j _ g
    exact w.elim) f3
  refine .inl ⟨its,q _ _ (k1.trans kout) ⟨l,rfl,fun z=>o1.old l z hl,fun z=>(o1.loc l z).1 hl,enf,fun i s hs hm e=>?_,.a9 hl2.choose_spec ra.1 (ra.2.aH (.less fun a z=>.inl z))⟩ (Fr.back (b:=.new (.a9 _)) k1.b9 fun a e=>by cases e;exact hl)⟩
  obtain⟨s',hs',hm'⟩:=kH f3 i s hs hm
  obtain⟨_,ob,h,_⟩:=whose i s' l hs' hm' e
  rw[hl]at h
  cases h
theorem CC {g:TG} (ms:List (Nat×Nat)) (hms:(ms.all fun z=>ms.all fun z'=>(z.1==z'.1)==(z.2==z'.2))=true) (hi:tE K wi fi) (hg:wM K g fg) (ht:jX K tt ft) (hk:Ref K tk fk) (he:Ref K te fe):Ref K (wI wi k cH g tt tk te) (jI fi k cH ms fg ft fk fe):=by
 have key:∀z∈ms,∀z'∈ms,(z.1==z'.1)=(z.2==z'.2):=fun z hz z' hz'=>by
  have:=all_eq_true.mp (all_eq_true.mp hms z hz) z' hz'
  simpa using this
 refine GQ ms (fun i j1 j2 h1 h2=>?_) (fun i1 i2 j h1 h2=>?_) hi hg ht hk he
 ·have:=key _ h1 _ h2
  simpa using this
 ·have:=key _ h1 _ h2
  simpa using this
end
theorem jR {fk fe:FE} (I:Nat->List (Key×PV)->En->Prop) {Q:List (Key×PV)×En->Prop} {xs:List PV}
  (hs:∀(i:Nat) x e d,xs[i]? =some x->I i d e->Wp (fg x e) fun e1=>Wp (ft e1) fun z=>match z.1 with|false=>I (i+1) d z.2|true=>Wp (fk z.2) fun kb=>Wp (fe kb.2) fun w=>Wp (kb.1.weak.get w.2) fun kp=>Wp (keyOf kp) fun k=>Wp w.1.put fun p=>I (i+1) (fM d k p) w.2)
  (hd:∀d e,I xs.length d e->Q (d,e)) {e:En} {d:List (Key×PV)} (h0:I 0 d e):Wp (kX fg ft fk fe xs e d) Q:=by
 have key:∀(ys:List PV) (i:Nat) (e:En) (d:List (Key×PV)),i<=xs.length->xs.drop i=ys->I i d e->Wp (kX fg ft fk fe ys e d) Q:=by
  intro ys
  induction ys with
  | nil=>
   intro i e d hil hy hi
   unfold kX
   rw[bU]
   have hl:xs.length<=i:=by
    have:=congrArg List.length hy
    rw[length_drop]at this
    simp at this
    omega
   have h:i=xs.length:=by omega
   subst h
   exact hd d e hi
  | cons x ys ih=>
   intro i e d hil hy hi
   have hlt:i<xs.length:=by
    have:=congrArg List.length hy
    rw[length_drop,length_cons]at this
    omega
   rw[drop_eq_getElem_cons hlt]at hy
   have hx:xs[i]? =some x:=by rw[getElem?_eq_getElem hlt,(List.cons.inj hy).1]
   obtain⟨e1,g1,⟨b,e2⟩,g2,h⟩:=hs i x e d hx hi
   unfold kX
   rw[g1,rA,g2,BP]
   cases b with
   |false=>exact ih (i+1) e2 d hlt (List.cons.inj hy).2 h
   |true=>
    obtain⟨⟨kb,e3⟩,g3,⟨r,e4⟩,g4,kp,g5,k,g6,p,g7,h⟩:=h
    dsimp only at g3 g4 g5 g6 g7 h⊢
    rw[g3,BP,g4,BP,g5,rA,g6,rA,g7,rA]
    exact ih (i+1) e4 _ hlt (List.cons.inj hy).2 h
 exact key xs 0 e d (zero_le _) rfl h0
theorem GS {ms:List (Nat×Nat)} {e:En} {Q:Bv×En->Prop}:
  Wp (jI fi k cH ms fg ft fk fe e) Q↔Wp (fi (fun i=>!(ms.any fun z=>z.1==i)) e) fun z=>z.1.length<1000000/\Wp (kX fg ft fk fe z.1 (nX k cH ms z.2) []) fun w=>Wp (nH w.2 ms z.2) fun e2=>Q (.new (.a9 w.1),e2):=by
 unfold jI
 constructor
 ·intro h
  obtain⟨z,h1,h⟩:=jW.mp h
  obtain⟨g,h⟩:=dC.mp h
  obtain⟨w,h2,h⟩:=jW.mp h
  obtain⟨e2,h3,h⟩:=jN.mp h
  exact⟨z,h1,of_decide_eq_true g,w,h2,e2,h3,bU.mp h⟩
 ·rintro⟨z,h1,g,w,h2,e2,h3,q⟩
  exact jW.mpr ⟨z,h1,dC.mpr ⟨decide_eq_true g,jW.mpr ⟨w,h2,jN.mpr ⟨e2,h3,bU.mpr q⟩⟩⟩⟩
end Mr
namespace L2
open PySem PyProof.Rows
section
variable {X:Cx}
noncomputable def wV (K:Frag):V->List V->Hp->VK->Prop:=fun x vs H Q=>∃(l:Addr) (zs:List Str) (y:Str),x= .ref l/\vs=[.str y]/\iR K H l (zs.map V.str)/\y∈zs/\zs.length<1000000/\Q (.int (zs.idxOf y:Nat)) H
theorem nR (k:Str):∀{vs:List Value} {ys:List Str},StrsAre vs ys->∀(j:Nat) (h1:j<vs.length) (h2:j<ys.length),isStrOf k vs[j]=(ys[j]==k)
 |_,_,.cons n t h,0,_,_=>rfl
 |_,_,.cons n t h,j+1,h1,h2=>nR k h j (by simpa using h1) (by simpa using h2)
theorem BE:∀{vs:List Value} {ys:List Str},StrsAre vs ys->vs.length=ys.length
 |_,_,.nil=>rfl
 |_,_,.cons n t h=>by rw[length_cons,length_cons,BE h]
theorem vD (K:Frag) (hK:X.K=K:=by rfl):YV X "list.index" (wV K):=by
 subst hK
 intro pins s σ H x vs v us Q I rx rv h
 obtain⟨l,zs,y,rfl,rfl,hq,hy,hz,q⟩:=h
 cases rx
 obtain⟨u,rfl,t,rfl⟩:=vals1 rv
 obtain⟨its,r,pl,_⟩:=I.list hq
 have hi:StrsAre its zs:=rT r
 have hl:=pl.isList
 obtain⟨⟨cls,dd,data,sl⟩,ho,hc,n,hd⟩:=id hl
 simp only at hc hd
 subst hc hd
 have hlen:=BE hi
 have hj:zs.idxOf y<zs.length:=List.idxOf_lt_length_iff.mpr hy
 refine call_meets slot_list_index ⟨_,ho,rfl⟩ PySem.F.entry_list_index (PySem.F.args_list_index_2 _ _)
  (SeqAt.list_indexAt l its.toArray n dd sl (.str y t) (isStrOf y) (zs.idxOf y) (by simpa [hlen]using hj) (by omega) ?_ ?_) ⟨ho,fun w hw=>(eq_isStrOf y t hi w (by simpa using hw)).at _ _,⟨.int (zs.idxOf y:Nat),H,I.tok _,⟨_,rfl⟩,q⟩⟩
 ·show isStrOf y its[zs.idxOf y]=true
  rw[nR y hi _ (by omega) hj]
  simpa using List.getElem_idxOf hj
 ·intro j hjs hlt
  show isStrOf y its[j]=false
  rw[nR y hi j (by simpa using hjs) (by omega)]
  have:=List.not_of_lt_findIdx (p:=(·==y)) (xs:=zs) (i:=j) hlt
  simpa using this
end
end L2
namespace Mr
open PySem L2
section
variable {K:Frag}
noncomputable def mT:PV->List PV->Option Bv
 | .lst ps,[.str y]=>bO (lO ps) fun zs=>aN (decide (y∈zs) && decide (zs.length<1000000)) (some (.val (.int (zs.idxOf y:Nat))))
 |_,_=>none
theorem HD:YJ K (wV K) mT:=by
 intro Z H x vs p ps b Q hp hps h k
 unfold mT at h
 split at h
 ·obtain⟨zs,g,h⟩:=aF h
  obtain⟨c,h⟩:=aK h
  cases h
  rw[and_eq_true]at c
  obtain⟨v,rfl,hv⟩:=hps.one
  obtain⟨a,ys,rfl,ha,ra⟩:=hp.m6
  rw[oR g]at ra
  rw[ra.strs]at ha
  exact⟨a,zs,_,rfl,by rw[hv.str],ha.sq,of_decide_eq_true c.1,of_decide_eq_true c.2,k _ H (aZ.refl _) (Rep.int _)⟩
 ·cases h
end
end Mr
namespace Mr
open PySem PySem.Spec L2
noncomputable def aa0 (gt:PV->PV->Option Bool):List PV->List PV->Option Bool
 |[],[]=>some false
 |[],_::_=>some false
 |_::_,[]=>some true
 |x::xs,y::ys=>if bJ x y=true then aa0 gt xs ys else gt x y
noncomputable def gtP:Nat->PV->PV->Option Bool
 |_,.str a,.str b=>some (decide (b.cps.toList<a.cps.toList))
 |_,.int a,.int b=>some (decide (b<a))
 |n+1,.tup xs,.tup ys=>aa0 (gtP n) xs ys
 |_,_,_=>none
section
variable {K:Frag}
noncomputable def ZD:PV->PV->Option Bv:=fun p q=>aN (gO 3 p && gO 3 q) (bO (gtP 3 p q) fun b=>some (.val (.bl b)))
noncomputable def ab6:PV->PV->Option Bv:=fun p q=>(YT p q).or (ZD p q)
end
end Mr
namespace Mr
open PySem L2
section
variable {K:Frag}
noncomputable def aaD (n:Nat) (f:FU):FG:=fun p e=>match p with
 | .tup ps=>aN (decide (ps.length=n)) (f ps e)
 | .lst ps=>aN (decide (ps.length=n)) (f ps e)
 |_=>none
theorem PH {n:Nat} {f:FU} {p:PV} {e:En}:aaD n f p e=match p with
 | .tup ps=>aN (decide (ps.length=n)) (f ps e)
 | .lst ps=>aN (decide (ps.length=n)) (f ps e)
 |_=>none:=rfl
end
end Mr
namespace L2
open PySem PySem.Spec PyProof.Rows
variable {l tg:Expr} {elts:List Expr} {P:Program} {K:Frag} {tl:TE} {w:World}
theorem Paired.UK {α β:Type} {F:α->β->Prop}:∀{l:List α} {m:List β} {i:Nat} {x:α},Paired F l m->l[i]? =some x->∃y,m[i]? =some y/\F x y
 |_,_,_,_,.nil,h=>by simp at h
 |_,_,0,_,.cons h _,e=>by simp at e;subst e;exact⟨_,rfl,h⟩
 |_,_,i+1,_,.cons _ r,e=>by
  obtain⟨y,h1,h2⟩:=Paired.UK (i:=i) r (by simpa using e)
  exact⟨y,by simpa using h1,h2⟩
theorem LY {k:Key} {v:Value} (e:mB k v=true):RelV (kV k) v:=by
 rcases cA e with⟨i,t,rfl,rfl⟩|⟨x,t,rfl,rfl⟩
 ·exact⟨t,rfl⟩
 ·exact⟨t,rfl⟩
noncomputable def Itk (a:Addr) (kvs:List (Key×V)) (ep:Nat):It:=
 ⟨fun i H=>Rd H a (.dK kvs ep)/\i<kvs.length,fun i H x H'=>H'=H/\∀kv,kvs[i]? =some kv->x=kV kv.1,fun i H=>Rd H a (.dK kvs ep)/\i=kvs.length⟩
theorem GR (a it:Addr) (kvs:List (Key×V)) (ep:Nat):Turn P w K tg (Itk a kvs ep) [it] it (fun i h=>h.IsKeyIter it a i kvs.length ep)where
 mem:=by simp
 obj:=fun i h st b hb=>by
  have e:b=it:=by simpa using hb
  subst e
  obtain⟨o,e,c,d⟩:=st
  exact⟨o,e,fun v z=>by rw[d]at z;cases z⟩
 keep:=fun i h h' st k=>st.at fun o e=>k it (by simp) o e
 item:=by
  intro X hP hw hK hc i pins s σ H E I hf st hg
  subst hP hw hK
  obtain⟨hr,hi⟩:=hg
  obtain⟨_,_,vs,rel,dd⟩:=sO I.bN hr
  have hl:kvs.length=vs.length:=Paired.length rel
  obtain⟨q,hq,rq⟩:=Paired.UK rel (getElem?_eq_getElem hi)
  rw[hl]at st
  obtain⟨f0,f1,f2,f3,f4,f5⟩:=hf it (by simp)
  refine wpAny_pyNext_dict_item st dd (k:=q.1) (v:=q.2) hq fun key h' hk st' sb=>?_
  have I1:Inv X pins σ H {s with heap:=h'}:=I.turned (t':=s.toks) (fun b o hb e=>(sb.2 b hb).trans e) f0 f1 f3 f4 f5
  obtain⟨o,e,c,d⟩:=id st'
  rw[<-hl]at st'
  refine⟨key,rfl,vG (s:={s with heap:=h'}) e c d (by decide) ⟨kV q.1,H,I1,LY hk,⟨rfl,fun kv hkv=>?_⟩,st',fun b hb=>(hf b hb).1⟩⟩
  rw[getElem?_eq_getElem hi]at hkv
  cases hkv
  rw[rq.1]
 done:=by
  intro X hP hw hK hc i pins s σ H E I hf st hg
  subst hP hw hK
  obtain⟨hr,hi⟩:=hg
  obtain⟨_,_,vs,rel,dd⟩:=sO I.bN hr
  have hl:kvs.length=vs.length:=Paired.length rel
  rw[hl]at st
  obtain⟨f0,f1,f2,f3,f4,f5⟩:=hf it (by simp)
  exact wpAny_pyNext_dict_end (I.ok.hd hc) st dd (List.getElem?_eq_none_iff.mpr (by omega)) fun h' eb=>⟨rfl,I.turned (t':=s.toks) (fun b o hb e=>eb b o hb e) f0 f1 f3 f4 f5⟩
 self:=fun _ _ _ _ _ st h=>wpAny_pyIter_keyiter st h
noncomputable def Iti (a:Addr) (kvs:List (Key×V)) (ep:Nat):It:=
 ⟨fun i H=>Rd H a (.dK kvs ep)/\i<kvs.length,fun i H v H'=>∃t,H t=none/\v= .ref t/\∀kv,kvs[i]? =some kv->H'=upd H t (.tup [kV kv.1,kv.2]),fun i H=>Rd H a (.dK kvs ep)/\i=kvs.length⟩
theorem C2 {x1} {pos:Pos} (a it:Addr) (kvs:List (Key×V)) (ep:Nat):Turn P w K (.Tuple elts x1 pos) (Iti a kvs ep) [it] it (fun i h=>∃ok ov,IsItemIter h it a i kvs.length ep ok ov)where
 mem:=by simp
 obj:=fun i h st b hb=>by
  have e:b=it:=by simpa using hb
  subst e
  obtain⟨_,_,e⟩:=st
  exact⟨_,e,fun v z=>by cases z⟩
 keep:=fun i h h' st k=>let⟨ok,ov,e⟩:=st;⟨ok,ov,k it (by simp) _ e⟩
 item:=by
  intro X hP hw hK hc i pins s σ H E I hf st hg
  subst hP hw hK
  obtain⟨hr,hi⟩:=hg
  obtain⟨ok,ov,st⟩:=st
  obtain⟨_,_,vs,rel,dd⟩:=sO I.bN hr
  have hl:kvs.length=vs.length:=Paired.length rel
  obtain⟨q,hq,rq⟩:=Paired.UK rel (getElem?_eq_getElem hi)
  rw[hl]at st
  refine wpAny_pyNext_items_item st dd (k:=q.1) (v:=q.2) hq fun key h' hk ho' htup hsz hkp=>?_
  refine⟨_,rfl,wpAny_letOwnedTupleGo_items (s:={s with heap:=h'}) ho' fun h2 he2 sb=>?_⟩
  have hT:s.heap.objs.size≠it:=fun z=>by
   have:=lt_size st;rw[<-z]at this;exact lt_irrefl _ this
  have hk2:∀b o,b∉[it]->s.heap.get? b=some o->h2.get? b=some o:=fun b o hb q=>
   sb.extBut b o (fun z=>hb (by simp[z])) (hkp b o (fun z=>hb (by simp[z])) q)
  have hfr:H s.heap.objs.size=none:=I.bN.fresh (le_refl _)
  have htup2:h2.get? s.heap.objs.size=some {cls:=.type "tuple",data:=.seq #[key,q.2]}:=sb.extBut _ _ hT htup
  have I2:Inv X pins σ (upd H s.heap.objs.size (.tup [kV q.1,kvs[i].2])) {s with heap:=h2,toks:=s.toks}:=by
   refine I.un2 hk2 hf hfr (by simp[hT]) ⟨by show 2<=sizeLine;decide,[key,q.2],.cons (LY hk) (.cons rq.2 .nil),pP.of htup2⟩ (fun b hb o q=>?_)
   have r:b=it:=by simpa using hb
   subst r;exact⟨_,he2⟩
  refine⟨.ref s.heap.objs.size,_,I2,rfl,⟨s.heap.objs.size,hfr,rfl,fun kv hkv=>?_⟩,⟨_,_,by rw[hl];exact he2⟩,fun b hb=>?_⟩
  ·rw[getElem?_eq_getElem hi]at hkv
   cases hkv
   rw[rq.1]
  ·have r:b=it:=by simpa using hb
   rw[aS (by rw[r];exact Ne.symm hT)]
   exact(hf b hb).1
 done:=by
  intro X hP hw hK hc i pins s σ H E I hf st hg
  subst hP hw hK
  obtain⟨hr,hi⟩:=hg
  obtain⟨ok,ov,st⟩:=st
  obtain⟨_,_,vs,rel,dd⟩:=sO I.bN hr
  have hl:kvs.length=vs.length:=Paired.length rel
  rw[hl]at st
  obtain⟨f0,f1,f2,f3,f4,f5⟩:=hf it (by simp)
  exact wpAny_pyNext_items_end (I.ok.hd hc) st dd (List.getElem?_eq_none_iff.mpr (by omega)) fun h' eb=>⟨rfl,I.turned (t':=s.toks) (fun b o hb e=>eb b o hb e) f0 f1 f3 f4 f5⟩
 self:=fun _ _ _ _ _ st h=>by
  obtain⟨_,_,e⟩:=st
  exact PySem.W.kcp_self e h
section
variable {X:Cx}
noncomputable def R5 (tl:TE):TI:=fun σ H R=>tl σ H fun x H1=>∃a kvs ep,x= .ref a/\Rd H1 a (.dK kvs ep)/\R (Itk a kvs ep) H1
theorem xH (hl:PE X l tl):PI X tg l (R5 tl):=by
 intro pins s σ H R I h
 refine cM (hl pins s σ H _ I h) fun v s1 ⟨x,H1,I1,r1,a,kvs,ep,e,hr,q⟩=>?_
 subst e
 cases r1
 obtain⟨_,hd,vs,rel,dd⟩:=sO I1.bN hr
 refine wpAny_pyIter_dict hd dd ?_
 refine⟨s1.heap.objs.size,[s1.heap.objs.size],_,_,H1,rfl,I1.kept (t':=s1.toks) fun b o e=>get?_push_of_some _ e,GR a _ kvs ep,⟨_,get?_push_size _ rfl,rfl,by rw[show kvs.length=vs.length from Paired.length rel];rfl⟩,fun b hb=>?_,q⟩
 have e:b=s1.heap.objs.size:=by simpa using hb
 subst e
 exact I1.rF (le_refl _) (I1.bN.fresh (le_refl _))
noncomputable def M7 (te:TE):TI:=fun σ H R=>te σ H fun x H1=>∃v a kvs ep,x= .ref v/\H1 v=some (NS v a)/\Rd H1 a (.dK kvs ep)/\R (Iti a kvs ep) H1
theorem NQ {x1} {tpos:Pos} (hl:PE X l tl):PI X (.Tuple elts x1 tpos) l (M7 tl):=by
 intro pins s σ H R I h
 refine cM (hl pins s σ H _ I h) fun v s1 ⟨x,H1,I1,r1,vw,a,kvs,ep,e,hv,hr,q⟩=>?_
 subst e
 cases r1
 obtain⟨_,hd,vs,rel,dd⟩:=sO I1.bN hr
 have vi:s1.heap.IsItemsView vw a:=(show c9 X.prog X.w H1 s1.heap vw (NS vw a)from I1.bN vw _ hv).1
 refine wpAny_pyIter_items vi dd ?_
 refine⟨s1.heap.objs.size,[s1.heap.objs.size],_,_,H1,rfl,I1.kept (t':=s1.toks) fun b o e=>get?_push_of_some _ e,C2 a _ kvs ep,⟨.none,.none,by rw[show kvs.length=vs.length from Paired.length rel];exact get?_push_size _ rfl⟩,fun b hb=>?_,q⟩
 have e:b=s1.heap.objs.size:=by simpa using hb
 subst e
 exact I1.rF (le_refl _) (I1.bN.fresh (le_refl _))
end
end L2
namespace Mr
open PySem PySem.Spec L2 PyProof.Rows
variable {f:FE} {H:Hp} {kvs:List (Key×PV)} {t:TE} {Z:aI}
section
variable {K:Frag}
noncomputable def A6:PV->Option (List (Key×PV))
 | .a9 kvs=>some kvs
 |_=>none
theorem mJ {p:PV} (h:A6 p=some kvs):p= .a9 kvs:=by
 cases p with
 |a9 k=>cases h;rfl
 |_=>cases h
noncomputable def wD (f:FE) (st:Nat->Bool) (e:En):Option (List (Key×PV)×En):=bE (f e) fun b e1=>match b with
 | .slot i=>match e1[i]? with
  |some (some (.bor p))=>bO (A6 p) fun ps=>some (ps,e1)
  |some (some (.own p))=>aN (st i) (bO (A6 p) fun ps=>some (ps,e1))
  |some (some (.loc p))=>aN (st i) (bO (A6 p) fun ps=>some (ps,e1))
  |_=>none
 | .val p=>bO (A6 p) fun ps=>some (ps,e1)
 | .new p=>bO (A6 p) fun ps=>some (ps,e1)
theorem BH (h:Ref K t f) {st:Nat->Bool} {O M L:aI} {W:WS} {σ:L2.St} {e e':En} {Q:VK} (o:jK O M W L H) (he:aO K (aT M L) W L H σ e) (hf:wD f st e=some (kvs,e'))
  (q:∀a ys ep H1,bW W L H H1->aO K (aT M L) W L H1 σ e'->Rd H1 a (.dK ys ep)->dM K (aT M L) H1 kvs ys->
   (∀Wr:aI,(∀a,Wr a->aw W a\/ L a)->(∀(i:Nat) a s,st i=true->e'[i]? =some (some s)->s.cU=true->σ[i]? =some (some (.ref a))->¬Wr a)->¬Wr a)->Q (.ref a) H1):t σ H Q:=by
 obtain⟨x,e1,f1,hf⟩:=aL hf
 refine h O M W L σ H e e1 x _ o he f1 fun v H1 k1 rb fr=>?_
 have o1:=o.keep k1.b9
 have en:=rb.en o1
 have vals:∀p,Rep K (aT M L) H1 p v->A6 p=some kvs->e1=e'->Q v H1:=fun p hp hi ee=>by
  subst ee
  have:=mJ hi
  subst this
  cases hp with
  |a9 ha n ek r=>exact q _ _ _ H1 k1 en ha ⟨ek,r⟩ fun Wr hw _ z=>n ((hw _ z).elim (fun⟨i,w⟩=>.inl (o.wm i _ w)) .inr)
 cases x with
 |val p=>
  obtain⟨ps',g,hf⟩:=aF hf
  cases hf
  exact vals p rb.2 g rfl
 |new p=>
  obtain⟨ps',g,hf⟩:=aF hf
  cases hf
  exact vals p (rb.weak o1).2 g rfl
 | slot i=>
  dsimp only at hf
  cases c:e1[i]? with
  |none=>rw[c]at hf;cases hf
  | some s=>
   cases s with
   |none=>rw[c]at hf;cases hf
   | some s=>
    rw[c]at hf
    obtain⟨u,hu,sr⟩:=rb.1.at' i s c
    have:=rb.2
    rw[hu]at this
    cases this
    cases s with
    |val p=>cases hf
    |bor p=>
     obtain⟨ps',g,hf⟩:=aF hf
     cases hf
     have:=mJ g
     subst this
     obtain⟨a,rfl,lt⟩:=sr
     cases lt with
     |a9 ha od n m ek r=>exact q _ _ _ H1 k1 en ha ⟨ek,r⟩ fun Wr hw _ z=>(hw _ z).elim n m
    |own p=>
     obtain⟨hst,hf⟩:=aK hf
     obtain⟨ps',g,hf⟩:=aF hf
     cases hf
     have:=mJ g
     subst this
     obtain⟨a,rfl,w,ct⟩:=sr
     cases ct with
     |a9 ha ek r=>exact q _ _ _ H1 k1 en (.inl ha) ⟨ek,r⟩ fun Wr hw hs=>hs i a _ hst c rfl hu
    |loc p=>
     obtain⟨hst,hf⟩:=aK hf
     obtain⟨ps',g,hf⟩:=aF hf
     cases hf
     have:=mJ g
     subst this
     obtain⟨a,rfl,w,ct⟩:=sr
     cases ct with
     |a9 ha ek r=>exact q _ _ _ H1 k1 en (.inl ha) ⟨ek,r⟩ fun Wr hw hs=>hs i a _ hst c rfl hu
theorem ES (k:Key):Rep K Z H (tQ k) (kV k):=by
 cases k with
 |inl i=>exact .int i
 |inr x=>exact .str x
theorem EI {H':Hp} {Wr:aI} {a:Addr} {u:HO} (h:Rd H a u) (k1:∀a o,H a=some o->¬Wr a->H' a=some o) (n:¬Wr a):Rd H' a u:=by
 rcases h with h|⟨o,h⟩
 ·exact .inl (k1 _ _ h n)
 ·exact .inr ⟨o,k1 _ _ h n⟩
theorem dM.at {ys:List (Key×V)} (r:dM K Z H kvs ys) {i:Nat} {z:Key×PV} (h:kvs[i]? =some z):∃y,ys[i]? =some y/\y.1=z.1/\Rep K Z H z.2 y.2:=by
 obtain⟨r1,r2⟩:=r
 obtain⟨v,hv,rv⟩:=r2.get (i:=i) (p:=z.2) (by rw[getElem?_map,h];rfl)
 rw[getElem?_map]at hv
 cases c:ys[i]? with
 |none=>rw[c]at hv;cases hv
 |some y=>
  rw[c]at hv
  cases hv
  have e:=congrArg (·[i]?) r1
  simp only[getElem?_map,c,h]at e
  exact⟨y,rfl,Option.some.inj e,rv⟩
theorem dM.len {ys:List (Key×V)} (r:dM K Z H kvs ys):kvs.length=ys.length:=by
 have:=congrArg List.length r.1
 simpa using this.symm
noncomputable def wF (f:FE):FI:=fun st e=>bO (wD f st e) fun z=>some (z.1.map fun kv=>tQ kv.1,z.2)
theorem J9 (h:Ref K t f):tE K (R5 t) (wF f):=by
 intro st O M W L σ H e e' ps R o he hf q
 obtain⟨⟨kvs,e1⟩,g1,hf⟩:=aF hf
 cases hf
 refine BH h o he g1 fun a ys ep H1 k1 en rd r nw=>⟨a,ys,ep,rfl,rd,q _ H1 k1 en fun Wr hw hs=>?_⟩
 intro L' H' c1 c2 c3
 have rd':=EI rd c1 (nw Wr hw hs)
 refine⟨fun k p hp=>?_,rd',by rw[length_map];exact r.len⟩
 rw[getElem?_map]at hp
 cases c:kvs[k]? with
 |none=>rw[c]at hp;cases hp
 |some z=>
  rw[c]at hp
  cases hp
  obtain⟨y,hy,ey,_⟩:=r.at c
  refine⟨⟨rd',(List.getElem?_eq_some_iff.mp hy).1⟩,fun x H3 yl=>?_⟩
  obtain⟨e,yl⟩:=yl
  subst e
  rw[yl y hy,ey]
  exact⟨aZ.refl _,ES _⟩
noncomputable def CK (f:FE):FI:=fun st e=>bO (wD f st e) fun z=>some (bD z.1,z.2)
theorem HQ (h:Ref K t f):tE K (M7 (CW t)) (CK f):=by
 intro st O M W L σ H e e' ps R o he hf q
 obtain⟨⟨kvs,e1⟩,g1,hf⟩:=aF hf
 cases hf
 refine BH h o he g1 fun a ys ep H1 k1 en rd r nw=>⟨a,ys,rfl,⟨ep,rd⟩,fun v hv=>?_⟩
 have s1:aZ H1 (upd H1 v (NS v a)):=aZ.upd hv
 have k2:=k1.trans (.same s1)
 have o2:=o.keep k2.b9
 refine⟨v,a,ys,ep,rfl,aW,Rd.upd rd hv,q _ _ k2 (en.same s1) fun Wr hw hs=>?_⟩
 intro L' H' c1 c2 c3
 have rd':=EI (Rd.upd rd hv) c1 (nw Wr hw hs)
 have st:=tW o2 hw c1 c2 c3
 have lp:(bD kvs).length=ys.length:=by unfold bD;rw[length_map];exact r.len
 refine⟨fun k p hp=>?_,rd',lp⟩
 unfold bD at hp
 rw[getElem?_map]at hp
 cases c:kvs[k]? with
 |none=>rw[c]at hp;cases hp
 |some z=>
  rw[c]at hp
  cases hp
  obtain⟨y,hy,ey,ry⟩:=r.at c
  refine⟨⟨rd',(List.getElem?_eq_some_iff.mp hy).1⟩,fun x H3 yl=>?_⟩
  obtain⟨t',ht,rfl,yl⟩:=yl
  have e3:=yl y hy
  subst e3
  have s3:=aZ.upd (o:=.tup [kV y.1,y.2]) ht
  exact⟨s3,.tup (.inl aW) (.cons (by rw[ey];exact ES _) (.cons (((ry.aH (.same s1)).aH st).aH (.same s3)) .nil))⟩
end
end Mr
namespace Mr
open PySem L2
variable {ta tb:TE}
section
variable {K:Frag}
noncomputable def oX (fa fb:FE):FE:=fun e=>bE (fa e) fun x e1=>bO (x.weak.get e1) fun p1=>match p1 with
 | .lst _=>bE (fb e1) fun y e2=>bO (x.weak.get e2) fun p=>bO (y.weak.get e2) fun q=>bO (mT p [q]) fun b=>some (b,e2)
 |_=>none
theorem C3 {fa fb:FE} (ha:Ref K ta fa) (hb:Ref K tb fb):Ref K (YN K "list" (wV K) ta (eN tb p9)) (oX fa fb):=by
 intro O M W L σ H e e' b Q o he hf q
 obtain⟨x,e1,f1,hf⟩:=aL hf
 obtain⟨p1,g0,hf⟩:=aF hf
 cases p1 with
 |lst ps1=>
  obtain⟨y,e2,f2,hf⟩:=aL hf
  obtain⟨p,g1,hf⟩:=aF hf
  obtain⟨p',g2,hf⟩:=aF hf
  obtain⟨c,g3,hf⟩:=aF hf
  cases hf
  refine ha O M W L σ H e e1 x _ o he f1 fun v1 H1 k1 r1 fr=>?_
  have o1:=o.keep k1.b9
  obtain⟨a1,ys1,e11,ha1,_⟩:=((r1.rv o1).red (r1.en o1) g0).m6
  refine⟨by rw[e11];exact .inl ⟨rfl,ys1,ha1.sq⟩,?_⟩
  refine hb O M W L σ H1 e1 _ y _ o1 (r1.en o1) f2 fun v2 H2 k2 r2 fr=>?_
  have o2:=o1.keep k2.b9
  have en:=r2.en o2
  have rp:=((r1.rv o1).keep o1 k2).red en g1
  have rq:=(r2.rv o2).red en g2
  refine HD _ H2 v1 [v2] p [p'] _ Q rp (.cons rq .nil) g3 fun v H' s rn=>?_
  exact q v H' ((k1.trans k2).trans (.same s)) (rn.rb o2 en s) (rn.fr (k1.trans k2).b9)
 |_=>cases hf
end
section
variable {K:Frag}
noncomputable def Ind (t:TE):Prop:=∀(σ σ':L2.St) (H:Hp) (Q Q':VK),(∀v H',Q v H'->Q' v H')->t σ H Q->t σ' H Q'
theorem zJ:Ind yH:=fun _ _ _ _ _ k h p hp=>k _ _ (h p hp)
theorem M9 {i j:Nat} {fa fb:FS} (ia:Ind ta) (ib:Ind tb) (ha:gH K (tH ta (lY i)) fa) (hb:gH K (tH tb (lY j)) fb):gH K (aaS i j (eN ta (eN tb p9))) (aV fa fb):=by
 intro O M W L σ H e r D o he hf q
 have k:=ER ha hb O M W L σ H e r D o he hf q
 exact ia _ σ _ _ _ (fun x H1 k1=>ib _ σ _ _ _ (fun y H2 k2=>⟨_,_,rfl,k2⟩) k1) k
end
end Mr
namespace L2
open PySem PySem.Spec PyProof.Rows PySem.W
section
variable {prog:Program} {w:World} {A:Around}
theorem LZ {E:Value->Shared->Prop} {s0:Shared} {x y:Value} {Q:Value->Shared->Prop} {ok:Heap->Prop} (bt:Nat->Nat->Bool) (hh:A.handled=none)
  (bN:∀h',(∀b o,s0.heap.get? b=some o->h'.get? b=some o)->ok h') (okk:∀h h':Heap,ok h->(∀b o,b<s0.heap.objs.size->h.get? b=some o->h'.get? b=some o)->ok h') (hcmp:NI prog w A.in1 ok (fun i v=>[x,y][i]? =some v) bt)
  (hq:∀v h' tk,[x,y][argBest bt ([x,y].length - 1)]? =some v->(∀b o,s0.heap.get? b=some o->h'.get? b=some o)->Q v {s0 with heap:=h',toks:=tk}):wpAny (model prog w) A (call (.builtin "min") [x,y]) Q E s0:=by
 refine call_function_tree F.kind_min F.plain_min F.entry_min (F.args_min2 _ _) ?_
 refine wpAny_bind (m:=Builtin.Builtins.bindParams "min" ["key","default"] 0 ⟨[],[]⟩) (wpAny_of_eq (show Builtin.Builtins.bindParams "min" ["key","default"] 0 ⟨[],[]⟩=pure [none,none]from rfl) ?_)
 show wpAny _ A.in1 (newTuple [x,y]>>=_) _ _ s0
 refine wpAny_bind (wpAny_newObj_type ?_)
 let s:Shared:={s0 with heap:=s0.heap.push {cls:=.type "tuple",data:=.seq #[x,y]}}
 let l:Addr:=s0.heap.objs.size
 let vs:List Value:=[x,y]
 have lS0:s0.heap.objs.size<(s0.heap.push {cls:=.type "tuple",data:=.seq #[x,y]}).objs.size:=by rw[size_push];exact lt_succ_self _
 have hl:s.heap.IsTuple l vs.toArray:=⟨_,get?_push_size _ rfl,rfl,0,rfl⟩
 have hn:0<vs.length:=by show 0<2;decide
 have hsz:s0.heap.objs.size<s.heap.objs.size:=lS0
 have lS:l<s.heap.objs.size:=let⟨_,e,_⟩:=hl;lt_size e
 have k0:∀b o,s0.heap.get? b=some o->s.heap.get? b=some o:=fun b o e=>get?_push_of_some _ e
 refine wpAny_bind (wpAny_pyIter_tuple (s:=s) hl ?_)
 refine wpAny_bind (wpAny_newObj_type ?_)
 rw[qJ]
 generalize hX:(s.heap.push {cls:=.type "tuple_iterator",data:=.fields #[.ref l,.int 0 0]})=h1
 have z1:h1.objs.size=s.heap.objs.size+1:=by rw[<-hX];exact size_push ..
 have k1:∀b o,s.heap.get? b=some o->h1.get? b=some o:=fun b o e=>by rw[<-hX];exact get?_push_of_some _ e
 have e1:h1.get? s.heap.objs.size=some {cls:=.type "tuple_iterator",data:=.fields #[.ref l,.int 0 0]}:=by rw[<-hX];exact get?_push_size _ rfl
 have nI:l≠s.heap.objs.size:=ne_of_lt lS
 have W:=Walks.tuple (prog:=prog) (w:=w) (A:=A.in1) (by exact hh) s.heap.objs.size l nI vs.toArray
 have gS:(h1.push {cls:=.type "list",data:=.seq ([]:List Value).toArray}).get? h1.objs.size=some {cls:=.type "list",dict:=none,data:=.seq #[] 0,slots:= #[]}:=get?_push_size _ rfl
 have nf:h1.objs.size∉[s.heap.objs.size,l]:=by
  rw[z1]
  simp only[mem_cons,not_mem_nil,or_false,not_or]
  exact⟨ne_of_gt (lt_succ_self _),ne_of_gt (lt_succ_of_lt lS)⟩
 have nw:h1.objs.size∉[s.heap.objs.size]:=fun z=>nf (by simp at z⊢;exact .inl z)
 have st0:(h1.push {cls:=.type "list",data:=.seq ([]:List Value).toArray}).IsTupleIter s.heap.objs.size l 0/\(h1.push {cls:=.type "list",data:=.seq ([]:List Value).toArray}).IsTuple l vs.toArray:=by
  refine⟨⟨_,get?_push_of_some _ e1,rfl,rfl⟩,?_⟩
  obtain⟨o,e,r⟩:=hl
  exact⟨o,get?_push_of_some _ (k1 _ _ e),r⟩
 refine wpAny_pure ⟨plainId_quiet F.plain_min_loop _,?_⟩
 refine codeAny_builtin F.entry_min_loop ?_
 rw[Around.under_plainId F.plain_min_loop _]
 refine wpAny_bind (m:=seqItems? (.ref h1.objs.size)) (wpAny_seqItems gS rfl ?_)
 refine wpAny_bind (m:=tryCatch (pyNext (.ref s.heap.objs.size)) _) (wpAny_tryCatch (W.item 0 {s with heap:=h1.push {cls:=.type "list",data:=.seq ([]:List Value).toArray}} _ _ (by simpa using hn) st0 fun v h' tk hP st' kp=>?_))
 have gS':=kp h1.objs.size _ nw gS
 refine wpAny_bind (m:=updateSeq h1.objs.size (fun _=> #[v,v])) (wpAny_updateSeq gS' rfl ?_)
 rw[qJ]
 have ne:∀{b:Addr} {o:Obj},b≠h1.objs.size->h'.get? b=some o->(h'.update h1.objs.size (Obj.mapSeq fun _=> #[v,v])).get? b=some o:=fun h q=>(get?_update_other _ _ (Ne.symm h)).trans q
 have ltS:∀{b:Addr} {o:Obj},s.heap.get? b=some o->b∉[s.heap.objs.size]/\b≠h1.objs.size:=fun e=>by
  have:=lt_size e
  rw[z1]
  exact⟨by simp;exact ne_of_lt this,ne_of_lt (lt_succ_of_lt this)⟩
 have kq:∀b o,s.heap.get? b=some o->(h'.update h1.objs.size (Obj.mapSeq fun _=> #[v,v])).get? b=some o:=fun b o e=>ne (ltS e).2 (kp b o (ltS e).1 (get?_push_of_some _ (k1 b o e)))
 refine wpAny_pure ⟨plainId_quiet F.plain_min_loop _,zD (ok:=ok) W bt (fun i j vi vj s Q E h1 h2 h3 h4=>hcmp i j vi vj s Q E h1 (by simpa using h2) (by simpa using h3) h4) h1.objs.size nf (fun h h2 o k=>okk h h2 o fun b u hb q=>k b u (by simp;exact ne_of_lt (lt_trans hb hsz)) (by rw[z1];exact ne_of_lt (lt_succ_of_lt (lt_trans hb hsz))) q) _ 0 _ v _ rfl (by simp;omega) (bN _ fun b o e=>kq b o (k0 b o e)) (W.frame _ _ _ st' fun b hbf o q=>ne (fun z=>nf (by rw[<-z];exact hbf)) q) (by simpa [argBest]using hP) (get?_update_self _ gS' rfl) fun v' h2 tk2 hP' kp2=>?_⟩
 exact hq v' h2 tk2 (by have h9:vs[argBest bt (vs.length - 1)]? =some v':=(by simpa using hP');exact h9) fun b o e=>kp2 b o (ltS (k0 b o e)).1 (ltS (k0 b o e)).2 (kq b o (k0 b o e))
end
section
variable {X:Cx} {k:Nat}
open Mr
noncomputable def L3 (K:Frag):List V->Hp->VK->Prop:=fun xs H Q=>∃x y p q,xs=[x,y]/\bG K cR H [p,q] [x,y]/\cP 3 [p,q]=true/\Q (if q5 [p,q] 1 0=true then y else x) H
theorem Z5 (K:Frag) (hr:dB k X.A) (hK:X.K=K:=by rfl) (hc:X.calm=true:=by rfl):cD X (.builtin "min") (L3 K):=by
 subst hK
 intro pins s σ H xs us Q I r ⟨x,y,p,q,e,rp,cmp,qq⟩
 subst e
 obtain⟨u,v,rfl,rx,ry⟩:=vals2 r
 have rv:Vals [x,y] [u,v]:=.cons rx (.cons ry .nil)
 have ok:∀z∈[p,q],gO 3 z=true:=fun z hz=>by
  have:=all_eq_true.mp cmp z hz
  rw[and_eq_true]at this
  exact sU this.1
 refine LZ (ok:=fun h=>∀b o,s.heap.get? b=some o->h.get? b=some o) (q5 [p,q]) (by exact I.ok.hd hc) (fun h' kp=>kp) (fun h h' o kk b u e=>kk b u (lt_size e) (o b u e)) (fun i j vi vj s' Q E bN h1 h2 hQ=>?_) fun w h' tk hv kp=>?_
 ·have hL:bR s'.heap [p,q] [u,v]:=bG.lies (I.kept (t':=s.toks) bN) (n:=3) (all_eq_true.mpr ok) rp rv
  obtain⟨p1,e1,l1⟩:=hL.get h1
  obtain⟨p2,e2,l2⟩:=hL.get h2
  have m1:=mem_of_getElem? e1
  have m2:=mem_of_getElem? e2
  refine C6 (s:=s') 3 X.A.in1 (by have:=hr.un;show X.A.units+1+3<_;omega) (ok p1 m1) (ok p2 m2) l1 l2 (kY cmp m1 m2) _ _ _ _ ?_
  have hQ:Q (.bool (fP (code 3 ([p,q].getD i .aY)) (code 3 ([p,q].getD j .aY)))) s':=hQ
  rw[getD_eq_getElem?_getD,e1,getD_eq_getElem?_getD,e2]at hQ
  exact hQ
 ·have hv:[u,v][if q5 [p,q] 1 0 then 1 else 0]? =some w:=hv
  refine⟨if q5 [p,q] 1 0=true then y else x,H,I.kept (t':=tk) kp,?_,qq⟩
  by_cases hb:q5 [p,q] 1 0=true
  ·rw[if_pos hb]at hv⊢
   cases hv
   exact ry
  ·rw[if_neg hb]at hv⊢
   cases hv
   exact rx
end
end L2
namespace Mr
open PySem L2
section
variable {K:Frag}
noncomputable def xP:List PV->Option Bv
 |[p,q]=>aN (cP 3 [p,q]) (some (.val (if q5 [p,q] 1 0=true then q else p)))
 |_=>none
theorem AU:fX K (L3 K) xP:=by
 intro Z H vs qs b Q hp h kk
 unfold xP at h
 split at h
 ·rename_i p q
  obtain⟨c,h⟩:=aK h
  cases h
  cases hp with
  | cons h1 hp=>
   cases hp with
   | cons h2 hp=>
    cases hp
    have pl:∀z∈[p,q],nC 3 z=true:=fun z hz=>by
     have:=all_eq_true.mp c z hz
     rw[and_eq_true]at this
     exact this.1
    have rep:∀{z:PV} {v:V},nC 3 z=true->Red K Z H z v->Rep K Z H z v:=fun{z v} hz h=>by
     cases h with
     |rep h=>exact h
     |lst _ _=>cases hz
     |a9 _ _ _=>cases hz
    have r1:=rep (pl p (by simp)) h1
    have r2:=rep (pl q (by simp)) h2
    refine⟨_,_,p,q,rfl,.cons (r1.aH (.less fun _ z=>z.elim)) (.cons (r2.aH (.less fun _ z=>z.elim)) .nil),c,?_⟩
    by_cases hb:q5 [p,q] 1 0=true
    ·rw[if_pos hb]at*
     exact kk _ H (aZ.refl _) r2
    ·rw[if_neg hb]at*
     exact kk _ H (aZ.refl _) r1
 ·cases h
end
end Mr
namespace L2
open PySem PySem.Spec PyProof.Rows PySem.W
section
variable {prog:Program} {w:World} {A:Around} {E:Value->Shared->Prop} {s:Shared}
theorem uO {v:Value} {Ok:List Value->Shared->Prop} {R:List Value->Array Nat->Prop} {Q:Value->Shared->Prop}
  (hcol:∀(E':Value->Shared->Prop) (Q':List Value->Shared->Prop),(∀vs s1,Ok vs s1->Q' vs s1)->wpAny (model prog w) A.in1 (collect v) Q' E' s) (h64:∀vs s1,Ok vs s1->vs.length<64)
  (hk:∀vs s1,Ok vs s1->2<=vs.length->∀h':Heap,(∀b o,s1.heap.get? b=some o->h'.get? b=some o)->xC prog w A.in1.in1 vs (R vs) {s1 with heap:=h'}) (hR:∀vs s1,Ok vs s1->vs.length<2->R vs (List.range vs.length).toArray)
  (hq:∀(a:Addr) s1 s2 (out:Array Value) c vs (p:Array Nat),Ok vs s1->kQ s1 s2->s1.heap.objs.size<=a->s2.heap.get? a=some (seqObj "list" out c)->m7 vs.length p->R vs p->out.toList=p.toList.map (fun i=>vs.getD i Value.none)->Q (.ref a) s2):
  wpAny (model prog w) A (call (.builtin "sorted") [v]) Q E s:=by
 refine Calls.call_function_entry kind_sorted plain_sorted entry_sorted (args_sorted1 _) ?_
 unfold Builtin.«sorted»
 refine wpAny_bind (m:=checkCount "sorted" 1 1 _) (wpAny_pure (wpAny_bind (hcol _ _ fun vs s1 ok=>?_)))
 have hl:=h64 vs s1 ok
 refine wpAny_bind (wpAny_newList ?_ (by simp only[sizeLine_eq];omega))
 have e1:(s1.heap.push (seqObj "list" vs.toArray 0)).get? s1.heap.objs.size=some (seqObj "list" vs.toArray 0):=get?_push_size _ rfl
 refine wpAny_bind (wpAny_holding (wpAny_call_entry slot_list_sort ⟨_,e1,rfl⟩ entry_list_sort ?bd (args_list_sort _)))
 case bd=>
  refine pW e1 hl (fun l2 h' kp=>hk vs s1 ok l2 h' fun b o gb=>kp b o (ne_of_lt (lt_size gb)) (get?_push_of_some _ gb)) (hR vs s1 ok) fun out p p1 p2 p3=>⟨_,rfl,wpAny_pure ⟨_,rfl,?_⟩⟩
  obtain⟨c,hc⟩:=sortedHeap_at (out:=out) e1
  refine hq s1.heap.objs.size s1 _ out c vs p ok ?_ (le_refl _) hc p1 p2 p3
  refine⟨_,s1.toks,s1.drawn,rfl,le_of_lt (lt_size hc),fun b o e=>?_⟩
  have hb:=lt_size e
  rw[sortedHeap_old (ne_of_lt hb) (by rw[size_push'];exact lt_succ_of_lt hb)]
  exact get?_push_of_some _ e
end
end L2
namespace Mr
open PySem PySem.Spec L2 PyProof.Rows PySem.W
section
variable {X:Cx} {k:Nat}
noncomputable def DO (K:Frag):List V->Hp->VK->Prop:=fun xs H Q=>∃p ys ps b,xs=[.ref p]/\nD K H p ys/\bG K cR H ps ys/\ys.length<64/\(∀x∈ps,j5 b x=true)/\cP 3 ps=true/\
 ∀l (ix:List Nat),ix.Perm (List.range ps.length)->(ix.map fun i=>ps.getD i .aY).Pairwise (fun a b=>kK 3 a b=true)->H l=none->Q (.ref l) (upd H l (.lst (ix.map fun i=>ys.getD i .aY)))
theorem W6 (K:Frag) (hr:dB k X.A) (hK:X.K=K:=by rfl):cD X (.builtin "sorted") (DO K):=by
 subst hK
 intro pins s σ H xs us Q I r ⟨p,ys,ps,b,e,hq,rp,h64,led,cmp,q⟩
 subst e
 obtain⟨u,rfl,rx⟩:=vals1 r
 cases rx
 obtain⟨vs,rv,pl,hz⟩:=I.tuple hq
 have hlen:=rv.length
 have hpl:=rp.length
 have ok:∀x∈ps,gO 3 x=true:=fun x hx=>by
  have:=all_eq_true.mp cmp x hx
  rw[and_eq_true]at this
  exact sU this.1
 refine uO (s:=s) (Ok:=fun ws s1=>ws=vs/\Inv X pins σ H s1) (R:=fun ws p=>lE lG (fun i=>code 3 (ps.getD i .aY)) p ws.length) (fun E' Q' kk=>?_) ?_ ?_ ?_ ?_
 ·obtain⟨o,ho,hc,n,hd⟩:=pl
  refine wpAny_collect_seq (hsz:=by show vs.toArray.size<=sizeLine;rw[size_toArray,<-hlen];exact hz) p (.inr rfl) ho hc hd fun h' kp=>?_
  exact kk _ _ ⟨by simp,I.kept (t':=s.toks) kp⟩
 ·rintro ws s1 ⟨rfl,_⟩
  omega
 ·rintro ws s1 ⟨rfl,I1⟩ l2 h' kp
  have I':Inv X pins σ H {s1 with heap:=h'}:=I1.kept (t':=s1.toks) kp
  have hL:bR h' ps ws:=bG.lies I' (n:=3) (all_eq_true.mpr ok) rp rv
  obtain⟨fs,k1,k2,k3⟩:=mK (s:={s1 with heap:=h'}) hL led
  refine⟨tuples' (Value.type (LI b) !=Value.type "tuple"),fun Q E q=>kat_kind k1 (by omega) (fun v hv=>?_) (by cases b<;>decide) q,fun G hG=>oW.run (n:=ws.length) (ans:=BS lG (fun i=>code 3 (ps.getD i .aY))) (fun i j C hi hj hC=>?_) (fun p h1 h2=>hG p h1 h2) (yC (by omega)) (DI (by omega))⟩
  ·rcases k3 v hv with⟨x,t,rfl,rfl⟩|⟨x,t,rfl,rfl⟩
   ·exact Looks.of_pure rfl
   ·exact Looks.of_pure rfl
  ·have e1:ps[i]? =some ps[i]:=getElem?_eq_getElem (by omega)
   have e2:ps[j]? =some ps[j]:=getElem?_eq_getElem (by omega)
   refine WO (s:={s1 with heap:=h'}) (n:=2) hL (by have:=hr.un;show X.A.units+1+1+2<_;omega) led ok e1 e2 (kY cmp (getElem_mem _) (getElem_mem _)) ?_
   have hC:C (lG.blt (code 3 (ps.getD i .aY)) (code 3 (ps.getD j .aY))) _:=hC
   rw[getD_eq_getElem?_getD,e1,getD_eq_getElem?_getD,e2]at hC
   exact hC
 ·rintro ws s1 ⟨rfl,_⟩ h2 i j a b
  rw[show i=j by omega];exact KeyOrd.kle_refl _
 ·rintro l s1 s2 out c ws p ⟨rfl,I1⟩ g2 hla hat h1 h2 h3
  have hp:p.toList.Perm (List.range ws.length):=by simpa using perm_iff_toList_perm.mp h1
  have hlt:∀i∈p.toList,i<ws.length:=fun i hi=>mem_range.mp (hp.mem_iff.mp hi)
  have z2:=nZ rv p.toList hlt
  rw[<-h3]at z2
  have hpz:p.toList.length=ws.length:=by rw[hp.length_eq,length_range]
  refine⟨.ref l,_,I1.SR (H':=upd H l (.lst (p.toList.map fun i=>ys.getD i .aY))) g2 (fun x hx=>?_) (fun x o hx e=>?_),rfl,q _ _ (by rw[hpl,hlen];exact hp) ?_ (I1.bN.fresh hla)⟩
  ·unfold upd
   rw[if_neg (fun z:x=l=>absurd (by rw[<-z];exact hx) (Nat.not_lt.mpr hla))]
  ·by_cases hxl:x=l
   ·subst hxl
    unfold upd at e
    rw[if_pos rfl]at e
    cases e
    exact⟨by rw[length_map,hpz,<-hlen];exact hz,out.toList,c,z2,hat⟩
   ·unfold upd at e
    rw[if_neg hxl]at e
    exact absurd (I1.bN.lt e) (Nat.not_lt.mpr hx)
  ·rw[pairwise_iff_getElem]
   intro i j hi hj hij
   rw[length_map]at hi hj
   have h:=h2 i j (by omega) (by omega)
   rw[getElem_map,getElem_map]
   have ky:∀(i:Nat) (hi:i<p.toList.length),Ky lG (fun i=>code 3 (ps.getD i .aY)) p i=code 3 (ps.getD p.toList[i] .aY):=fun i hi=>by
    unfold Ky
    rw[getD_eq_getD_getElem?,<-getElem?_toList,getElem?_eq_getElem hi]
    rfl
   rw[ky i hi,ky j hj]at h
   show(!fP _ _)=true
   rw[not_eq_true']
   exact h
end
section
variable {K:Frag}
noncomputable def wZ:List PV->Option Bv
 |[.tup ps]=>aN (decide (ps.length<64) && ((ps.all (j5 true)||ps.all (j5 false)) && cP 3 ps)) (some (.new (.lst (lI 3 ps))))
 |_=>none
theorem NO:fX K (DO K) wZ:=by
 intro Z H vs qs b Q hp h kk
 unfold wZ at h
 split at h
 ·rename_i ps
  obtain⟨c,h⟩:=aK h
  cases h
  rw[and_eq_true,and_eq_true]at c
  obtain⟨c1,c2,c3⟩:=c
  obtain⟨v,rfl,hv⟩:=hp.one
  obtain⟨a,ys,rfl,ha,ra⟩:=hv.tup
  have led:∃b,∀x∈ps,j5 b x=true:=by
   rcases Bool.or_eq_true_iff.mp c2 with z|z
   ·exact⟨true,fun x hx=>all_eq_true.mp z x hx⟩
   ·exact⟨false,fun x hx=>all_eq_true.mp z x hx⟩
  obtain⟨b,led⟩:=led
  refine⟨a,ys,ps,b,rfl,ha.sq,ra.aH (.less fun _ z=>z.elim),by rw[<-ra.length];exact of_decide_eq_true c1,led,c3,fun l ix h1 h2 hl=>?_⟩
  have hix:∀i∈ix,i<ps.length:=fun i hi=>mem_range.mp (h1.mem_iff.mp hi)
  have pm:(ix.map fun i=>ps.getD i .aY).Perm ps:=by
   have:=h1.map fun i=>ps.getD i PV.aY
   have e:(List.range ps.length).map (fun i=>ps.getD i PV.aY)=ps:=by
    apply ext_getElem
    ·simp
    ·intro i a1 a2
     simp[getElem?_eq_getElem a2]
   rw[e]at this
   exact this
  have es:lI 3 ps=ix.map fun i=>ps.getD i .aY:=
   gM (dY 3 ps) h2 ((cF 3 ps).trans pm.symm) fun x hx y hy=>lV c3 ((cF 3 ps).mem_iff.mp hx) ((cF 3 ps).mem_iff.mp hy)
  rw[es]at kk
  exact kk _ _ (aZ.upd hl) (yF hl (qB ra hix))
 ·cases h
noncomputable def LW (K:Frag):List V->Hp->VK->Prop:=fun xs H Q=>CJ K xs H Q\/ DO K xs H Q
theorem KA {X:Cx} {k:Nat} (K:Frag) (hr:dB k X.A) (hK:X.K=K:=by rfl) (hc:X.calm=true:=by rfl):cD X (.builtin "sorted") (LW K):=cD.or (E9 K hr hK hc) (W6 K hr hK)
noncomputable def lK:List PV->Option Bv:=fun p=>(fS p).or (wZ p)
theorem zL:fX K (LW K) lK:=fX.or uE NO
end
end Mr
namespace Mr
open PySem PySem.Spec L2 PyProof.Rows
variable {f:Addr} {K:Frag} {a b c:Str}
structure oN (K:Frag) (x:Str) (st:Stmt) (f:Addr):Prop where
 a:nsIn K mainGlobals x=some (some (.ref f))
 F:∃fd,YB K x x st f fd
theorem cG {x:Str} {st:Stmt} {oc:Value} {od an:Option Addr} {osl:Array (Option Value)} {kV doc pm cdv ct:Value} (a:nsIn K mainGlobals x=some (some (.ref f)))
  (l:K.lookup f=some ⟨oc,od,.func (fnOf x x (fY st) (eU st) (aX st) .none kV doc pm an cdv ct),osl⟩) (c:codeIn K cdv x=true) (k:keepIn K (.ref f)=true):oN K x st f:=⟨a,_,VL l c k⟩
section
variable {P:Program} {w:World} {K:Frag} {mg:Str->Option Value} {base h:Heap} {x:Str} {st:Stmt} {ps N:List Str} {k nl:Nat} {ks:List Kd} {fr:Bool} {g:FS}
noncomputable def YQ (x:Str) (st:Stmt) (ps:List Str):Prop:=∀(kV doc pm:Value) (an:Option Addr) (cdv ct:Value) (us:List Value),us.length=ps.length->bindArgs (fnOf x x (fY st) (eU st) (aX st) .none kV doc pm an cdv ct) ⟨us,[]⟩=pure (ps.zip us)
noncomputable def Dx (K:Frag) (mg:Str->Option Value) (x:Str) (st:Stmt) (ps:List Str):Prop:=∃f fd,Def K mg x st ps f fd
theorem oN.dx (H:oN K x st f) (X:K.In h) (G:h.Ns mainGlobals mg) (b:YQ x st ps):Dx K mg x st ps:=let⟨fd,F⟩:=H.F;⟨f,fd,F,mg_of X G H.a,F.binds b⟩
structure Cn (P:Program) (w:World) (K:Frag) (mg:Str->Option Value) (base:Heap) (x:Str) (st:Stmt) (ps:List Str) (k:Nat) (ks:List Kd) (fr:Bool) (fn:FN):Prop where
 e:∃f fd,Def K mg x st ps f fd/\pM P w K mg base NT k f fd ps (RY K ks fr fn)
theorem cW (D:Dx K mg x st ps) (S:oV N ps (aX st)) (hN:N.length=ks.length+nl) (hp:ks.length=ps.length)
  (hb:oV N ps (aX st)->∀(f:Addr) (cdv:Value) (A:Around) (outer:List Env) (s:Shared) (H:Hp) (E:XK),dB k (A.deeper (envOfC x (aX st) s.heap.objs.size f cdv))->∃t,EL (CB NT P w K mg base N x (aX st) f cdv A outer s H E).ZC (eU st) t/\gH K t g):Cn P w K mg base x st ps (k+1) ks fr (nQ ks nl fr g):=by
 obtain⟨f,fd,D⟩:=D
 refine⟨f,fd,D,D.F.ok S (fun vs H Q E h=>?_) (fun cdv A outer s H vs Q E hr h=>?_)⟩
 ·obtain⟨_,_,_,_,_,hl,_⟩:=h
  exact hl.trans hp
 ·obtain⟨t,h1,h2⟩:=hb S f cdv A outer s H E hr
  exact⟨t,h1,VY h2 hN h⟩
theorem uH {x:Str} {st:Stmt} (h:∀(kV doc pm:Value) (an:Option Addr) (cdv ct v:Value),bindArgs (fnOf x x (fY st) (eU st) (aX st) .none kV doc pm an cdv ct) ⟨[v],[]⟩=pure [(a,v)]):YQ x st [a]:=fun _ _ _ _ _ _ us hl=>match us,hl with|[_],_=>h _ _ _ _ _ _ _
theorem uF {x:Str} {st:Stmt} (h:∀(kV doc pm:Value) (an:Option Addr) (cdv ct v1 v2:Value),bindArgs (fnOf x x (fY st) (eU st) (aX st) .none kV doc pm an cdv ct) ⟨[v1,v2],[]⟩=pure [(a,v1),(b,v2)]):YQ x st [a,b]:=fun _ _ _ _ _ _ us hl=>match us,hl with|[_,_],_=>h _ _ _ _ _ _ _ _
theorem G6 {x:Str} {st:Stmt} (h:∀(kV doc pm:Value) (an:Option Addr) (cdv ct v1 v2 v3:Value),bindArgs (fnOf x x (fY st) (eU st) (aX st) .none kV doc pm an cdv ct) ⟨[v1,v2,v3],[]⟩=pure [(a,v1),(b,v2),(c,v3)]):YQ x st [a,b,c]:=fun _ _ _ _ _ _ us hl=>match us,hl with|[_,_,_],_=>h _ _ _ _ _ _ _ _ _
theorem abZ {d:Str} {x:Str} {st:Stmt} (h:∀(kV doc pm:Value) (an:Option Addr) (cdv ct v1 v2 v3 v4:Value),bindArgs (fnOf x x (fY st) (eU st) (aX st) .none kV doc pm an cdv ct) ⟨[v1,v2,v3,v4],[]⟩=pure [(a,v1),(b,v2),(c,v3),(d,v4)]):YQ x st [a,b,c,d]:=fun _ _ _ _ _ _ us hl=>match us,hl with|[_,_,_,_],_=>h _ _ _ _ _ _ _ _ _ _
end
section
variable {X:Cx} {x:Str} {st:Stmt} {ps:List Str} {j k:Nat} {ks:List Kd} {fr:Bool} {fn:FN} {e:Expr} {es:List Expr} {t:TA} {p pos:Pos}
theorem a8 (C:Cn X.prog X.w K X.mg X.base x st ps j ks fr fn) (hr:dB k X.A) (hjk:j<=k) (hg:Gl X x) (ha:PA X (e::es) t) (hK:X.K=K:=by rfl) (hdb:(x==("__debug__":Str))=false:=by decide)
  (he:starEach (e::es) X.env=(false,eval e X.env)::starEach es X.env:=by rfl) (hpl:(backTo pos (starEach es X.env)).any (·.1)=false:=by rfl):PE X (.Call (.Name x p) (e::es) [] pos) (z7 (RY K ks fr fn) [] E0 t):=by
 subst hK
 obtain⟨f,fd,D,G⟩:=C.e
 exact Z8 D G hr hjk hg ha hdb he hpl
end
theorem TU {P:Program} {w:World} {mg:Str->Option Value} {st:Stmt} {k:Nat} {fn:FN} {fa:Addr} (hm:mg "law"=some (.ref fa)) (D:Dx K mg "law" st [a]) (hb:YQ "law" st [a])
  (C:∀base,Cn P w K mg base "law" st [a] k [.b] false fn) (hl:∀ns:List Int,ns.length<=63->fn [.lst (ns.map PV.int)]=some (.bl true,[])):
  ∃fd:FuncData,(∀(s:Shared) (v:Value),BindsTo s fd ⟨[v],[]⟩ [(a,v)])/\∀base:Heap,K.In base->base.Ns mainGlobals mg->pM P w K mg base NT k fa fd [a] (z4 K):=by
 obtain⟨f,fd,D⟩:=D
 have e1:=D.m
 rw[hm]at e1
 cases e1
 refine⟨fd,fun s v=>?_,fun base _ _=>?_⟩
 ·obtain⟨oc,od,kV,doc,pm,an,cdv,ct,osl,rfl,lk,hcd⟩:=D.F.ex
  exact .of_eq (hb kV doc pm an cdv ct [v] rfl)
 ·obtain⟨f',fd',D',ok⟩:=(C base).e
  have e2:=D'.m
  rw[hm]at e2
  cases e2
  obtain⟨oc,od,kV,doc,pm,an,cdv,ct,osl,h1,lk,hcd⟩:=D.F.ex
  obtain⟨oc',od',kV',doc',pm',an',cdv',ct',osl',h1',lk',hcd'⟩:=D'.F.ex
  rw[lk]at lk'
  have e3:fd=fd':=by
   have:=congrArg Obj.data (Option.some.inj lk')
   exact Data.func.inj this
  subst e3
  exact ok.imp fun vs H Q E h=>P2 hl h
end Mr
namespace My
open PySem L2 Mr
variable {e:En} {ab hs ks:Hl} {a at' b c d k m:Int} {claimed held rows:List (Key×PV)} {F Rs:List (List Str)} {ls qs:List Let} {xs:List PV} {N R ns ss:List Str} {ts:List iT} {i j n:Nat} {o:Option Str} {p:PV} {Q:PV×List PV->Prop} {l:PySem.W.OpenLaw} {x y:Str} {f v v':Str->PV} {N0 N1:Str->Prop} {α β:Type} {t:iT}
noncomputable def t8:FS:=(aV (bX 1 (bC dG (aC 0) (fC (.int 0))))
  (aV (bX 2 (bC dG (aC 0) (fC (.int 3))))
  (cX (kA nK (aB (fN (EJ (aB (aC 2) aM)) 2 [1,2] [] (j6 2 (cJ (aR 0) (cJ (aR 1) j7))) (uS (bK (bC UD (aC 1) (aC 2))) (bK (bC (vN true) (aC 1) (IM KD (aC 3) (l4 (bC iM (aC 0) (fC (.int 1)))) fH)))) (aC 1)) aM)))))
noncomputable def iB:FN:=nQ [.b] 2 false t8
noncomputable def oD:FS:=(aV (fO 1 nE)
  (aV (iJ (sT (aC 0)) (aR 2) (rO (bK (bC (vN true) (bC dG (aC 2) (fC (.int 0))) (aC 1))) (eZ 1 (bC dG (aC 2) (fC (.int 0))) (aC 2)) dA))
  (cX (C1 (aC 1)))))
noncomputable def dU:FN:=nQ [.b] 2 false oD
noncomputable def jM:FS:=(aV (rO (bK (bC (vN false) (aC 3) (aC 0))) (cX (eV (aB (bC dG (aC 0) (aC 3)) (aB (eV (aB (fC (.str "hand")) aM)) aM)))) dA)
  (aV (rO (bK (bC (vN false) (aC 3) (aC 1))) (aV (bX 4 (bC dG (aC 1) (aC 3)))
  (cX (SD (NW (aC 4)) (eV (aB (bC dG (aC 4) (fUn QM (fC (.int 1)))) (aB (eV (aB (fC (.str "own")) aM)) aM))) (eV (aB (fC .aY) (aB (eV (aB (fC (.str "first")) aM)) aM)))))) dA)
  (aV (rO (bK (bC (vN false) (aC 3) (aC 2))) (aV (S5 (kA vW (aB (bC dG (aC 2) (aC 3)) aM)) (j6 3 (cJ (aR 5) (cJ (aR 6) (cJ (aR 7) j7)))))
  (cX (eV (aB (bC dG (bC dG (aC 1) (aC 6)) (bC Mr.uM (aC 7) (fC (.int 1)))) (aB (eV (aB (fC (.str "told")) (aB (aC 6) (aB (aC 7) aM)))) aM))))) dA)
  (cX (eV (aB (fC .aY) (aB (eV (aB (fC (.str "first")) aM)) aM)))))))
noncomputable def cQ:FN:=nQ [.b,.b,.b,.b] 4 false jM
noncomputable def nM:FS:=(aV (fO 1 nE)
  (aV (fO 2 (gY aM))
  (aV (iJ (wF (aC 0)) (aR 3) (aV (fO 4 (gY aM))
  (aV (bX 5 (aC 3))
  (aV (l3 (uS (bK (bC (IL true) (aC 5) (fC .aY))) (bK (bC (vN true) (aC 5) (aC 1)))) (aV (eZ 1 (aC 5) (aC 3))
  (aV (wO 4 (aC 5))
  (bX 5 (BM (aC 0) (aC 5))))) 1000)
  (rO (uS (bK (bC (IL true) (aC 5) (fC .aY))) (bK (bC E4 (bC dG (aC 1) (aC 5)) (aC 3)))) (wO 2 (IM KD (aC 4) (l4 (oX (aC 4) (aC 5))) fH)) dA)))))
  (cX (aC 2)))))
noncomputable def i6:FN:=nQ [.b] 5 false nM
noncomputable def pX:FS:=(aV (bX 3 (fN (sT (aC 0)) 1 [1] [] (aR 0) (bK (bC (vN true) (aC 0) (aC 1))) (aC 0)))
  (aV (bX 4 (fN (sT (aC 3)) 1 [2] [] (aR 0) (bK (bC (vN true) (aC 0) (aC 1))) (aC 0)))
  (aV (rO (NW (aC 4)) (cX (kA vW (aB (aC 4) aM))) dA)
  (cX (bC dG (kA vW (aB (fN (sT (aC 3)) 1 [2] [] (aR 0) eR (eV (aB (bC dG (aC 1) (aC 0)) (aB (aC 0) aM)))) aM)) (fC (.int 1)))))))
noncomputable def k6:FN:=nQ [.b,.b,.b] 2 false pX
noncomputable def kD:FS:=(aV (bX 2 (oX (aC 0) (aC 1)))
  (cX (kA nK (aB (bC iM (IM KD (aC 0) (l4 (aC 2)) fH) (IM KD (aC 0) fH (l4 (aC 2)))) aM))))
noncomputable def gD:FN:=nQ [.b,.b] 1 false kD
noncomputable def oB:FS:=(aV (bX 2 (SD (bK (bC gLt (aC 1) (kA pS (aB (aC 0) aM)))) (bC dG (aC 0) (aC 1)) (fC (.int 0))))
  (aV (bX 3 (SD (bK (bC gGe (aC 2) (bC rH (fC (.int 10)) (fC (.int 18))))) (bC mW (aC 2) (bC qL (bC qL (bC qL (bC rH (fC (.int 10)) (fC (.int 60))) (bC rH (fC (.int 10)) (fC (.int 60)))) (bC rH (fC (.int 10)) (fC (.int 60)))) (bC rH (fC (.int 10)) (fC (.int 60))))) (fC (.int 0))))
  (cX (gY (aB (aC 3) (aB (bC mW (bC qC (bC iM (bC iM (bC mW (aC 2) (fC (.int 2305843009213693951))) (bC qC (bC qC (fC (.int 7919)) (aC 1)) (aC 1))) (fC (.int 3))) (fC (.int 48271))) (fC (.int 2305843009213693921))) (aB (fC (.int 0)) aM)))))))
noncomputable def gF:FN:=nQ [.b,.b] 2 true oB
noncomputable def n6:FS:=(aV (rO (bK (bC YT (bC dG (aC 0) (fC (.int 0))) (fC (.int 0)))) (aV (bX 2 (bC mW (bC dG (aC 0) (fC (.int 0))) (aC 1)))
  (aV (xE 0 (fC (.int 0)) (bC L9 (bC dG (aC 0) (fC (.int 0))) (aC 1)))
  (cX (aC 2)))) dA)
  (aV (xE 0 (fC (.int 2)) (bC iM (bC dG (aC 0) (fC (.int 2))) (fC (.int 1))))
  (aV (bX 3 (bC mW (bC qC (bC iM (bC iM (bC dG (aC 0) (fC (.int 1))) (bC qC (bC qC (fC (.int 65537)) (bC dG (aC 0) (fC (.int 2)))) (bC dG (aC 0) (fC (.int 2))))) (fC (.int 11))) (fC (.int 48271))) (fC (.int 2305843009213693921))))
  (aV (bX 3 (bC mW (bC qC (aC 3) (bC iM (bC mW (aC 3) (fC (.int 1000003))) (bC qC (fC (.int 99991)) (bC dG (aC 0) (fC (.int 2)))))) (fC (.int 2305843009213693907))))
  (cX (bC mW (bC iM (bC L9 (aC 3) (fC (.int 97))) (bC L9 (aC 3) (fC (.int 1000033)))) (aC 1)))))))
noncomputable def aQ:FN:=nQ [.m,.b] 2 false n6
noncomputable def oH:FS:=(aV (fO 2 (gY aM))
  (aV (iJ (sT (aC 0)) (j6 4 (cJ (aR 3) (cJ (aR 4) (cJ (aR 5) (cJ (aR 6) j7))))) (aV (bX 7 (eV (aB (bC dG (aC 1) (aC 3)) (aB (aC 4) (aB (aC 5) (aB (kA nK (aB (fN (sT (aC 6)) 1 [1] [] (aR 0) eR (bC dG (aC 1) (aC 0))) aM)) aM))))))
  (rO (bK (bC (vN true) (aC 7) (aC 2))) (wO 2 (aC 7)) dA)))
  (cX (kA nK (aB (kA fS (aB (aC 2) aM)) aM)))))
noncomputable def iZ:FN:=nQ [.b,.b] 6 false oH
noncomputable def k8:FS:=(aV (iJ (qF (aB (bC iM (kA EU (aB (aC 0) aM)) (fC (.int 1))) aM)) (aR 3) (aV (rO (VD (bK (bC (IL false) (aC 1) (fC .aY))) (bK (bC E4 (aC 1) (aC 2)))) (cX (bC E4 (aC 1) (aC 2))) dA)
  (bX 1 (BM (aC 0) (aC 1)))))
  (cX (fC (.bl false))))
noncomputable def fZ:FN:=nQ [.b,.b,.b] 1 false k8
noncomputable def p5:FS:=(aV (bX 1 (bC dG (aC 0) (fC (.int 3))))
  (cX (fN (qF (aB (kA pS (aB (aC 1) aM)) aM)) 1 [1,0] [] (aR 0) (uS (bK (bC UD (bC dG (aC 1) (aC 0)) (bC dG (aC 2) (fC (.int 0))))) (bK (bC (vN true) (bC dG (aC 1) (aC 0)) (IM KD (aC 1) (l4 (bC iM (aC 0) (fC (.int 1)))) fH)))) (bC dG (aC 1) (aC 0)))))
noncomputable def iP:FN:=nQ [.b] 1 false p5
noncomputable def iF:FS:=(aV (fO 1 nE)
  (aV (iJ (sT (aC 0)) (aR 2) (rO (bK (bC (vN true) (bC dG (aC 2) (fC (.int 0))) (aC 1))) (eZ 1 (bC dG (aC 2) (fC (.int 0))) (aC 2)) dA))
  (cX (C4 (aC 1)))))
noncomputable def eT:FN:=nQ [.b] 2 false iF
noncomputable def fQ:FS:=(aV (bX 2 (bC dG (bC dG (aC 0) (aC 1)) (fC (.int 0))))
  (aV (iJ (qF (aB (kA EU (aB (aC 0) aM)) aM)) (aR 3) (aV (rO (VD (bK (bC (IL false) (aC 2) (fC .aY))) (bK (bC E4 (aC 2) (aC 1)))) (cX (bC E4 (aC 2) (aC 1))) dA)
  (bX 2 (bC dG (bC dG (aC 0) (aC 2)) (fC (.int 0))))))
  (cX (fC (.bl false)))))
noncomputable def dH:FN:=nQ [.b,.b] 2 false fQ
noncomputable def pR:FS:=(cX (jI (sT (bF [.b] false dU (aB (aC 0) aM))) 1 [] [] (aR 0) eR (bC dG (aC 0) (fC (.int 0))) (bC dG (aC 0) (fC (.int 1)))))
noncomputable def kM:FN:=nQ [.b] 0 false pR
noncomputable def qH:FS:=(cX (jI (sT (bF [.b] false dU (aB (aC 0) aM))) 1 [] [] (aR 0) eR (bC dG (aC 0) (fC (.int 0))) (bF [.b] false iB (aB (aC 0) aM))))
noncomputable def kR:FN:=nQ [.b] 0 false qH
noncomputable def lM:FS:=(sX 1 (NL (xIt (bF [.b] false dU (aB (aC 0) aM))) (aR 2) (NL (TV (aB (bF [.b] false iB (aB (aC 2) aM)) aM)) (j6 2 (cJ (aR 3) (cJ (aR 4) j7))) (xIf (bK (bC YT (aC 3) (fC (.int 0)))) (TL (aC 4) (eV (aB (bC dG (aC 2) (fC (.int 1))) (aB (bC dG (aC 2) (fC (.int 0))) (aB (aC 3) aM))))) NB))))
noncomputable def hW:FN:=nQ [.b] 4 false lM
noncomputable def tI:FS:=(aV (fO 2 nE)
  (aV (iJ (sT (bF [.b] false dU (aB (aC 0) aM))) (aR 3) (aV (eZ 2 (bC dG (aC 3) (fC (.int 0))) (fC (.bl true)))
  (iJ (sT (bF [.b] false iB (aB (aC 3) aM))) (aR 4) (eZ 2 (aC 4) (fC (.bl true))))))
  (aV (iJ (sT (aC 1)) (j6 2 (cJ (aR 4) (cJ (aR 5) j7))) (aV (eZ 2 (aC 4) (fC (.bl true)))
  (rO (bK (bC (IL true) (aC 5) (fC .aY))) (eZ 2 (aC 5) (fC (.bl true))) dA)))
  (cX (kA nK (aB (kA fS (aB (aC 2) aM)) aM))))))
noncomputable def mH:FN:=nQ [.b,.b] 4 false tI
noncomputable def l7:FS:=(aV (fO 2 (gY aM))
  (aV (iJ (qF (aB (aC 1) aM)) (aR 3) (aV (bX 4 (bC dG (gY (aB (fC (.int 1)) (aB (fC (.int 1)) (aB (fC (.int 2)) (aB (fC (.int 3)) (aB (fC (.int 12)) (aB (bC iM (fC (.int 1)) (bC mW (aC 3) (fC (.int 12)))) aM))))))) (bF [.m,.b] false aQ (aB (aC 0) (aB (fC (.int 6)) aM)))))
  (aV (bX 5 (fBM AX (fC (.str "")) (aB (fN (qF (aB (aC 4) aM)) 1 [0] [(0,1)] (aR 0) eR (bC dG (fC (.str "abcdefghijklmnopqrstuvwxyz0123456789")) (bF [.m,.b] false aQ (aB (aC 1) (aB (fC (.int 36)) aM))))) aM)))
  (aV (rO (bK (bC (vN false) (aC 5) (aC 2))) (bX 5 (bC dG (fN (qF (aB (bC iM (kA pS (aB (aC 2) aM)) (fC (.int 1))) aM)) 1 [2] [] (aR 0) (bK (bC (vN true) (kA zG (aB (aC 0) aM)) (aC 1))) (kA zG (aB (aC 0) aM))) (fC (.int 0)))) dA)
  (wO 2 (aC 5))))))
  (cX (aC 2))))
noncomputable def gZ:FN:=nQ [.m,.b] 4 false l7
noncomputable def kS:FS:=(aV (bX 2 (bF [.m,.b] false aQ (aB (aC 0) (aB (aC 1) aM))))
  (aV (bX 3 (bF [.m,.b] false aQ (aB (aC 0) (aB (fC (.int 4)) aM))))
  (aV (bX 4 (bF [.m,.b] false aQ (aB (aC 0) (aB (bC dG (gY (aB (fC (.int 1)) (aB (fC (.int 3)) (aB (fC (.int 2)) (aB (fC (.int 100000000)) aM))))) (aC 3)) aM))))
  (aV (bX 5 (fN (qF (aB (bC dG (gY (aB (fC (.int 0)) (aB (fC (.int 1)) (aB (fC (.int 1)) (aB (fC (.int 2)) (aB (fC (.int 3)) (aB (fC (.int 9)) aM))))))) (bF [.m,.b] false aQ (aB (aC 0) (aB (fC (.int 6)) aM)))) aM)) 1 [0,1] [(0,1)] (aR 0) eR (bF [.m,.b] false aQ (aB (aC 1) (aB (aC 2) aM)))))
  (aV (rO (bK (bC E4 (bF [.m,.b] false aQ (aB (aC 0) (aB (fC (.int 4)) aM))) (fC (.int 0)))) (bX 5 (bC iM (IM KD (aC 5) fH (l4 (fC (.int 8)))) (gY (aB (bC mW (bC iM (aC 2) (fC (.int 1))) (aC 1)) aM)))) dA)
  (cX (eV (aB (aC 2) (aB (bC dG (gY (aB (aC 4) (aB (bC Mr.uM (fC (.int 99999999)) (aC 4)) aM))) (kA AG (aB (bC E4 (aC 3) (fC (.int 2))) aM))) (aB (bC dG (gY (aB (fC (.str "")) (aB (fC (.str "walls")) (aB (fC (.str "Re: walls")) aM)))) (bF [.m,.b] false aQ (aB (aC 0) (aB (fC (.int 3)) aM)))) (aB (aC 5) aM)))))))))))
noncomputable def dD:FN:=nQ [.m,.b] 4 false kS
noncomputable def l6:FS:=(aV (fO 3 nE)
  (aV (iJ (qF (aB (aC 2) aM)) (aR 4) (aV (bX 5 (bC dG (aC 1) (bF [.m,.b] false aQ (aB (aC 0) (aB (kA pS (aB (aC 1) aM)) aM)))))
  (aV (bX 6 (bC dG (aC 1) (bF [.m,.b] false aQ (aB (aC 0) (aB (kA pS (aB (aC 1) aM)) aM)))))
  (aV (rO (bK (bC E4 (bF [.m,.b] false aQ (aB (aC 0) (aB (fC (.int 3)) aM))) (fC (.int 0)))) (bX 6 (fC .aY)) dA)
  (rO (uS (bK (bC (vN true) (aC 5) (aC 3))) (GY (bK (bF [.b,.b,.b] false fZ (aB (aC 3) (aB (aC 6) (aB (aC 5) aM))))))) (eZ 3 (aC 5) (aC 6)) dA)))))
  (cX (kA nK (aB (B8 (aC 3)) aM)))))
noncomputable def hZ:FN:=nQ [.m,.b,.b] 4 false l6
noncomputable def mC:FS:=(aV (aV (fO 2 nE) (fO 3 nE))
  (aV (bX 4 (bF [.b] false eT (aB (aC 0) aM)))
  (aV (iJ (sT (aC 4)) (aR 5) (aV (bX 6 (bF [.b] false iP (aB (aC 5) aM)))
  (iJ (EJ (aB (aC 6) aM)) (j6 2 (cJ (aR 7) (cJ (aR 8) j7))) (aV (eZ 3 (aC 8) (eV (aB (fC .aY) (aB (eV (aB (fC (.str "first")) aM)) aM))))
  (rO (bK (bC YT (aC 7) (fC (.int 0)))) (aV (bX 9 (eV (aB (bC dG (aC 5) (fC (.int 1))) (aB (bC dG (aC 5) (fC (.int 0))) (aB (aC 7) (aB (bC dG (aC 6) (bC Mr.uM (aC 7) (fC (.int 1)))) aM))))))
  (eZ 2 (aC 8) (kA xP (aB (M0 (aC 2) (aC 8) (aC 9)) (aB (aC 9) aM))))) dA)))))
  (aV (UC 2 (iJ (CK (aC 2)) (j6 2 (cJ (aR 8) (cJ (aR 9) j7))) (eZ 3 (aC 8) (eV (aB (bC dG (aC 9) (fC (.int 3))) (aB (eV (aB (fC (.str "told")) (aB (bC dG (aC 9) (fC (.int 1))) (aB (bC dG (aC 9) (fC (.int 2))) aM)))) aM))))))
  (aV (iJ (sT (aC 4)) (aR 5) (aV (bX 6 (bF [.b] false iP (aB (aC 5) aM)))
  (eZ 3 (bC dG (aC 5) (fC (.int 0))) (SD (bK (bC UD (aC 6) (gY aM))) (eV (aB (bC dG (aC 6) (fUn QM (fC (.int 1)))) (aB (eV (aB (fC (.str "own")) aM)) aM))) (eV (aB (fC .aY) (aB (eV (aB (fC (.str "first")) aM)) aM)))))))
  (aV (iJ (sT (aC 1)) (j6 2 (cJ (aR 8) (cJ (aR 10) j7))) (aV (eZ 3 (aC 8) (eV (aB (aC 10) (aB (eV (aB (fC (.str "hand")) aM)) aM))))
  (rO (uS (bK (bC (IL true) (aC 10) (fC .aY))) (bK (bC (vN true) (aC 10) (aC 3)))) (eZ 3 (aC 10) (eV (aB (fC .aY) (aB (eV (aB (fC (.str "first")) aM)) aM)))) dA)))
  (cX (aC 3))))))))
noncomputable def gX:FN:=nQ [.b,.b] 9 false mC
noncomputable def p4:FS:=(aV (bX 3 (jI (sT (aC 1)) 2 [] [] (j6 2 (cJ (aR 0) (cJ (aR 1) j7))) eR (aC 0) (aC 1)))
  (aV (bX 4 (bF [.b] false kR (aB (aC 0) aM)))
  (aV (bX 5 (bF [.b] false hW (aB (aC 0) aM)))
  (cX (jI (sT (aC 2)) 1 [3,4,5] [] (aR 0) eR (aC 0) (bF [.b,.b,.b,.b] false cQ (aB (aC 1) (aB (aC 2) (aB (aC 3) (aB (aC 0) aM))))))))))
noncomputable def kC:FN:=nQ [.b,.b,.b] 3 false p4
noncomputable def l9:FS:=(aV (bX 3 (jI (sT (aC 1)) 2 [] [] (j6 2 (cJ (aR 0) (cJ (aR 1) j7))) eR (aC 0) (fC (.bl true))))
  (aV (bX 4 (bF [.b] false kM (aB (aC 0) aM)))
  (aV (bX 5 (bF [.b] false i6 (aB (jI (wF (aC 2)) 1 [2] [] (aR 0) eR (aC 0) (bC dG (bC dG (aC 1) (aC 0)) (fC (.int 0)))) aM)))
  (cX (kA nK (aB (kA fS (aB (fN (sT (aC 5)) 1 [3,4] [] (aR 0) eR (bF [.b,.b] false gD (aB (aC 0) (aB (bF [.b,.b,.b] false k6 (aB (aC 0) (aB (aC 1) (aB (aC 2) aM)))) aM)))) aM)) aM))))))
noncomputable def gW:FN:=nQ [.b,.b,.b] 3 false l9
noncomputable def jG:FS:=(aV (fO 3 (fN (qF (aB (bF [.m,.b] false aQ (aB (aC 1) (aB (fC (.int 13)) aM))) aM)) 1 [1,2] [(1,1)] (aR 0) eR (bF [.m,.b] false dD (aB (aC 1) (aB (aC 2) aM)))))
  (aV (iJ (UA (aB (fC (.int 1)) (aB (kA DV (aB (kA pS (aB (aC 0) aM)) (aB (fC (.int 40)) aM))) aM))) (aR 4) (wO 3 (CF dD (bF [.b,.b] true gF (aB (aC 0) (aB (aC 4) aM))) 2)))
  (cX (aC 3))))
noncomputable def fL:FN:=nQ [.b,.m,.b] 2 false jG
noncomputable def w8:FS:=(cX (bF [.b,.b,.b] false gW (aB (aC 0) (aB (aC 1) (aB (bF [.b,.b,.b] false kC (aB (aC 0) (aB (aC 1) (aB (bF [.b,.b] false mH (aB (aC 0) (aB (aC 1) aM))) aM)))) aM)))))
noncomputable def tS:FN:=nQ [.b,.b] 0 false w8
noncomputable def lQ:FS:=(aV (bX 2 (bF [.b,.b] false gX (aB (aC 0) (aB (aC 1) aM))))
  (aV (bX 3 (bF [.b,.b] false tS (aB (aC 0) (aB (aC 1) aM))))
  (aV (rO (VD (GY (bK (kA y6 (aB (aC 3) (aB (fC (.ty "tuple")) aM))))) (bK (bC UD (kA sS (aB (aC 3) aM)) (kA lK (aB (aC 3) aM))))) (cX (fC (.bl false))) dA)
  (aV (bX 4 (gY aM))
  (aV (iJ (sT (aC 3)) (aR 5) (aV (rO (VD (GY (bK (kA y6 (aB (aC 5) (aB (fC (.ty "tuple")) aM))))) (VD (bK (bC gLt (kA pS (aB (aC 5) aM)) (fC (.int 2)))) (GY (bK (kA PJ (aB (fN (sT (aC 5)) 1 [2] [] (aR 0) eR (bC (vN false) (aC 0) (aC 1))) aM)))))) (cX (fC (.bl false))) dA)
  (aV (iJ (qF (aB (kA pS (aB (aC 5) aM)) aM)) (aR 6) (rO (bK (bC UD (bC dG (bC dG (aC 2) (bC dG (aC 5) (bC Mr.uM (aC 6) (fC (.int 1))))) (fC (.int 0))) (bC dG (aC 5) (aC 6)))) (cX (fC (.bl false))) dA))
  (bX 4 (bC iM (aC 4) (kA sS (aB (aC 5) aM)))))))
  (cX (bC E4 (kA lK (aB (aC 4) aM)) (kA lK (aB (fN (wF (aC 2)) 1 [2] [] (aR 0) (bK (bF [.b,.b] false dH (aB (aC 1) (aB (aC 0) aM)))) (aC 0)) aM)))))))))
noncomputable def c8:FN:=nQ [.b,.b] 5 false lQ
noncomputable def JB:FS:=(aV (fO 1 (bF [.b,.b] true gF (aB (aC 0) (aB (fC (.int 0)) aM))))
  (aV (bX 2 (bC iM (fC (.int 1)) (bF [.m,.b] false aQ (aB (aC 1) (aB (bC dG (gY (aB (fC (.int 4)) (aB (fC (.int 12)) (aB (fC (.int 40)) aM)))) (bF [.m,.b] false aQ (aB (aC 1) (aB (fC (.int 3)) aM)))) aM)))))
  (aV (bX 3 (bF [.m,.b] false aQ (aB (aC 1) (aB (fC (.int 9)) aM))))
  (aV (bX 4 (bF [.b,.m,.b] false fL (aB (aC 0) (aB (aC 1) (aB (aC 2) aM)))))
  (aV (bX 5 (bF [.m,.b] false gZ (aB (aC 1) (aB (aC 2) aM))))
  (aV (bX 6 (bF [.b,.b] false iZ (aB (aC 4) (aB (aC 5) aM))))
  (aV (bX 7 (bF [.m,.b,.b] false hZ (aB (aC 1) (aB (aC 5) (aB (aC 3) aM)))))
  (cX (AL (bF [.b,.b] false c8 (aB (aC 6) (aB (aC 7) aM))) (AL (bF [.b,.b] false c8 (aB (aC 6) (aB (eV aM) aM))) (AL (bF [.b,.b] false c8 (aB (IM KD (aC 6) (l4 (fC (.int 1))) fH) (aB (aC 7) aM))) (bF [.b,.b] false c8 (aB (aC 6) (aB (aC 7) aM))))))))))))))
noncomputable def yG:FN:=nQ [.b] 7 false JB
noncomputable def top (i:Nat):Stmt:=PySem.Challenge.pw_answertrees_k19_rings.main.body.getD i (.Pass ⟨0,0,0,0⟩)
noncomputable abbrev lT:Stmt:=top 1
noncomputable abbrev kE:Stmt:=top 2
noncomputable abbrev jU:Stmt:=top 3
noncomputable abbrev jP:Stmt:=top 5
noncomputable abbrev jB:Stmt:=top 6
noncomputable abbrev pG:Stmt:=top 7
noncomputable abbrev iA:Stmt:=top 8
noncomputable abbrev kP:Stmt:=top 10
noncomputable abbrev pO:Stmt:=top 12
noncomputable abbrev fU:Stmt:=top 13
noncomputable abbrev g9:Stmt:=top 14
noncomputable abbrev dS:Stmt:=top 15
noncomputable abbrev r6:Stmt:=top 16
noncomputable abbrev kZ:Stmt:=top 18
noncomputable abbrev kW:Stmt:=top 19
noncomputable abbrev fB:Stmt:=top 20
noncomputable abbrev fE:Stmt:=top 21
noncomputable abbrev eO:Stmt:=top 22
noncomputable abbrev iL:Stmt:=top 23
noncomputable abbrev g8:Stmt:=top 24
noncomputable abbrev iY:Stmt:=top 25
noncomputable abbrev jT:Stmt:=top 26
noncomputable abbrev fG:Stmt:=top 27
noncomputable abbrev jA:Stmt:=top 28
noncomputable abbrev eA:Stmt:=top 29
noncomputable abbrev fD:Stmt:=top 30
noncomputable abbrev DU:Stmt:=top 31
structure Txt (K:Frag) (mg:Str->Option Value):Prop where
 dQ:mg "enumerate"=none
 dJ:mg "tuple"=none
 oU:mg "min"=none
 i7:mg "len"=none
 dR:mg "sorted"=none
 cZ:mg "range"=none
 oE:mg "list"=none
 vZ:mg "str"=none
 AV:mg "int"=none
 dZ:mg "isinstance"=none
 zE:mg "all"=none
section
variable (P:Program) (w:World) (K:Frag) (mg:Str->Option Value) (base:Heap)
noncomputable abbrev oS:Prop:=Cn P w K mg base "elders" lT ["letter"] 1 [.b] false iB
noncomputable abbrev iI:Prop:=Cn P w K mg base "standing" kE ["pack"] 1 [.b] false dU
noncomputable abbrev z3:Prop:=Cn P w K mg base "choice" pG ["held","rows","claimed","name"] 1 [.b,.b,.b,.b] false cQ
noncomputable abbrev sL:Prop:=Cn P w K mg base "rings_in" kP ["above"] 1 [.b] false i6
noncomputable abbrev vC:Prop:=Cn P w K mg base "cut_one" fU ["ring","held","days"] 1 [.b,.b,.b] false k6
noncomputable abbrev oQ:Prop:=Cn P w K mg base "begun_with" g9 ["ring","name"] 1 [.b,.b] false gD
noncomputable abbrev oA:Prop:=Cn P w K mg base "_law_hand" kZ ["_law_script","_law_k"] 1 [.b,.b] true gF
noncomputable abbrev fW:Prop:=Cn P w K mg base "_law_take" kW ["_law_hand_here","_law_many"] 1 [.m,.b] false aQ
noncomputable abbrev sG:Prop:=Cn P w K mg base "_law_pack" iL ["_law_letters_here","_law_names_here"] 1 [.b,.b] false iZ
noncomputable abbrev o9:Prop:=Cn P w K mg base "_law_climbs" g8 ["_law_held","_law_here","_law_name"] 1 [.b,.b,.b] false fZ
noncomputable abbrev vB:Prop:=Cn P w K mg base "_law_row" jT ["_law_letter_here"] 1 [.b] false iP
noncomputable abbrev mE:Prop:=Cn P w K mg base "_law_standing" fG ["_law_pack_here"] 1 [.b] false eT
noncomputable abbrev j4:Prop:=Cn P w K mg base "_law_comes_back" eA ["_law_table_here","_law_name"] 1 [.b,.b] false dH
noncomputable abbrev vX:Prop:=Cn P w K mg base "days_of" jU ["pack"] 2 [.b] false kM
noncomputable abbrev vS:Prop:=Cn P w K mg base "rows_of" jP ["pack"] 2 [.b] false kR
noncomputable abbrev qU:Prop:=Cn P w K mg base "claims_of" jB ["pack"] 2 [.b] false hW
noncomputable abbrev zI:Prop:=Cn P w K mg base "places" pO ["pack","marks"] 2 [.b,.b] false mH
noncomputable abbrev qY:Prop:=Cn P w K mg base "_law_names" fB ["_law_hand_here","_law_many"] 2 [.m,.b] false gZ
noncomputable abbrev pC:Prop:=Cn P w K mg base "_law_letter" fE ["_law_hand_here","_law_m"] 2 [.m,.b] false dD
noncomputable abbrev qZ:Prop:=Cn P w K mg base "_law_marks" iY ["_law_hand_here","_law_names_here","_law_many"] 2 [.m,.b,.b] false hZ
noncomputable abbrev qK:Prop:=Cn P w K mg base "_law_table" jA ["_law_pack_here","_law_marks_here"] 2 [.b,.b] false gX
noncomputable abbrev wC:Prop:=Cn P w K mg base "choices" iA ["pack","marks","names"] 3 [.b,.b,.b] false kC
noncomputable abbrev qS:Prop:=Cn P w K mg base "cut_rings" dS ["pack","marks","ties"] 3 [.b,.b,.b] false gW
noncomputable abbrev nA:Prop:=Cn P w K mg base "_law_letters" eO ["_law_script","_law_hand_here","_law_m"] 3 [.b,.m,.b] false fL
noncomputable abbrev FP:Prop:=Cn P w K mg base "rings" r6 ["pack","marks"] 4 [.b,.b] false tS
noncomputable abbrev qV:Prop:=Cn P w K mg base "_law_right" fD ["_law_pack_here","_law_marks_here"] 5 [.b,.b] false c8
noncomputable abbrev ZR:Prop:=Cn P w K mg base "law" DU ["_law_script"] 6 [.b] false yG
end
section
variable {P:Program} {w:World} {K:Frag} {mg:Str->Option Value} {base:Heap}
local macro_rules | `(tactic| walk_at "rf") => `(tactic| repeat' (first | with_reducible first | apply ER | apply OR | apply VR | apply RL | apply QX | apply P5 | apply XM | apply MQ | apply F6 | apply LM | apply QS | apply NM | apply F8 | apply HK | apply LB | apply OM | apply zP | apply U2 | apply MU | apply CL | apply LV | apply NC | apply PF | apply WT | apply O6 | apply MO | apply MF | apply GA | apply OD | apply RG | apply VS | apply O5 | apply T5 | apply O7 | apply PN | apply RM | apply J9 | apply GP | apply O2 | apply M3 | apply C3 | apply JL | apply GG | apply OB | apply VP | apply TJ | apply ID | apply CC | apply KQ | apply CN | apply KH | apply OW | apply DH | apply LR | apply HY | apply CH | apply HM | apply K7 | apply JN | apply GC | apply VB | apply QW | apply WJ | apply GJ | apply M9 | apply LQ | apply QP | apply HQ | apply QL | apply F5 | apply UL | apply JG | apply SU | apply E5 | apply R9 | apply SE | apply S0 | apply MT | apply JA | apply EO | apply MH | apply AM | apply SK | apply RP | apply CP | apply SN | apply KR | apply J3 | apply ED | apply NA | apply RQ | apply JM | apply uE | apply EZ | apply SG | apply EH | apply D5 | apply FK | apply zJ | apply AU | apply FV | apply KS | apply z9 | apply zL | apply JC | first | exact SU | exact E5 | exact R9 | exact SE | exact S0 | exact MT | exact JA | exact EO | exact MH | exact AM | exact SK | exact RP | exact CP | exact SN | exact KR | exact J3 | exact ED | exact NA | exact RQ | exact JM | exact uE | exact EZ | exact SG | exact EH | exact D5 | exact FK | exact zJ | exact AU | exact FV | exact KS | exact z9 | exact zL | exact JC | rfl | decide))
theorem IC (T:Txt K mg) (D:Dx K mg "elders" lT ["letter"]):oS P w K mg base:=cW D (N:=["letter","own","row"]) ⟨rfl,rfl,rfl,by decide+kernel,rfl,by decide+kernel,by decide+kernel⟩ rfl rfl fun S f cdv A outer s H E hr=>
 ⟨_,(aE (aU (i:=1) S.nd rfl (Or.inr rfl) (bA (eK K hr) (pv 0) aG (fun _ _=>rfl)))
   (aE (aU (i:=2) S.nd rfl (Or.inr rfl) (bA (eK K hr) (pv 0) aG (fun _ _=>rfl)))
   (aJ (bP (cK (DA K) (by rfl) T.dJ eL (aA (oZ ["at","name","own","row"] 2 [1,2] ["letter","own","row"] (aX lT) rfl rfl rfl (xT K rfl T.dQ (aA (pv 2) aD)) (by decide+kernel) (fun _=>(gC (n:=2) K rfl (bS (aP (i:=0) (show(["at","name","own","row"]:List Str).Nodup by decide+kernel) rfl (Or.inl rfl)) (bS (aP (i:=1) (show(["at","name","own","row"]:List Str).Nodup by decide+kernel) rfl (Or.inl rfl)) gB)))) (fun _=>(mO (PW.pt (qA (bH (KO K hr) (pv 1) (pv 2) (cI _)) (mL (bH (iD K hr) (pv 1) (iC (X0 K) (pv 3) (kJ (bM (l5 K) (pv 0) aG)) kG) (by rfl))))))) (fun _=>(pv 1))) aD)))))),by unfold t8;walk_at "rf"⟩
theorem BF (T:Txt K mg) (D:Dx K mg "standing" kE ["pack"]):iI P w K mg base:=cW D (N:=["pack","first","letter"]) ⟨rfl,rfl,rfl,by decide+kernel,rfl,by decide+kernel,by decide+kernel⟩ rfl rfl fun S f cdv A outer s H E hr=>
 ⟨_,(aE (aU (i:=1) S.nd rfl (Or.inl rfl) gG)
   (aE (cS PassesOwn.never rfl (cN K (pv 0)) (aP (i:=2) S.nd rfl (Or.inl rfl)) (aJ (eD (bH (iD K hr) (bA (eK K hr) (pv 2) aG (fun _ _=>rfl)) (pv 1) (by rfl)) (aJ (dI (gN hr) (pv 1) (bA (eK K hr) (pv 2) aG (fun _ _=>rfl)) (pv 2) rfl)) cC)))
   (aJ (bP (cK ac7 (by rfl) T.dJ eL (aA (FZ (pv 1)) aD)))))),by unfold oD;walk_at "rf"⟩
theorem HP (T:Txt K mg) (D:Dx K mg "choice" pG ["held","rows","claimed","name"]):z3 P w K mg base:=cW D (N:=["held","rows","claimed","name","row","day","one","at"]) ⟨rfl,rfl,rfl,by decide+kernel,rfl,by decide+kernel,by decide+kernel⟩ rfl rfl fun S f cdv A outer s H E hr=>
 ⟨_,(aE (eD (bH (ZK K hr) (pv 3) (pv 0) (by rfl)) (aJ (bP (cB (aA (bA (eK K hr) (pv 0) (pv 3) (fun _ _=>rfl)) (aA (cB (aA eG aD)) aD))))) cC)
   (aE (eD (bH (ZK K hr) (pv 3) (pv 1) (by rfl)) (aE (aU (i:=4) S.nd rfl (Or.inl rfl) (bA (eK K hr) (pv 1) (pv 3) (fun _ _=>rfl)))
   (aJ (bP (oT (u4 K (pv 4) (fun _=>rfl)) (cB (aA (bA (eK K hr) (pv 4) (RX K2 aG) (fun _ _=>rfl)) (aA (cB (aA eG aD)) aD))) (cB (aA gR (aA (cB (aA eG aD)) aD))))))) cC)
   (aE (eD (bH (ZK K hr) (pv 3) (pv 2) (by rfl)) (aE (DR (bL (TK K hr) (by rfl) T.oU sR (aA (bA (eK K hr) (pv 2) (pv 3) (fun _ _=>rfl)) aD)) (gC (n:=3) K rfl (bS (aP (i:=5) S.nd rfl (Or.inl rfl)) (bS (aP (i:=6) S.nd rfl (Or.inl rfl)) (bS (aP (i:=7) S.nd rfl (Or.inl rfl)) gB)))))
   (aJ (bP (cB (aA (bA (eK K hr) (bA (eK K hr) (pv 1) (pv 6) (fun _ _=>rfl)) (bM xO (pv 7) aG) (fun _ _=>rfl)) (aA (cB (aA eG (aA (pv 6) (aA (pv 7) aD)))) aD)))))) cC)
   (aJ (bP (cB (aA gR (aA (cB (aA eG aD)) aD)))))))),by unfold jM;walk_at "rf"⟩
theorem A4 (T:Txt K mg) (D:Dx K mg "rings_in" kP ["above"]):sL P w K mg base:=cW D (N:=["above","met","found","start","climbed","name"]) ⟨rfl,rfl,rfl,by decide+kernel,rfl,by decide+kernel,by decide+kernel⟩ rfl rfl fun S f cdv A outer s H E hr=>
 ⟨_,(aE (aU (i:=1) S.nd rfl (Or.inl rfl) gG)
   (aE (aU (i:=2) S.nd rfl (Or.inl rfl) (eX aD))
   (aE (cS PassesOwn.never rfl (xH (pv 0)) (aP (i:=3) S.nd rfl (Or.inl rfl)) (aE (aU (i:=4) S.nd rfl (Or.inl rfl) (eX aD))
   (aE (aU (i:=5) S.nd rfl (Or.inl rfl) (pv 3))
   (aE (J1 PassesOwn.never (PW.pt (qA (bH rV (pv 5) gR (cI _)) (mL (bH (iD K hr) (pv 5) (pv 1) (by rfl))))) (aE (dI (gN hr) (pv 1) (pv 5) (pv 3) rfl)
   (aE (mR (kB K plainAttrs_list PySem.F.slot_list_append PySem.F.type_list_append e9 (pv 4) (aA (pv 5) aD)))
   (aJ (aU (i:=5) S.nd rfl (Or.inl rfl) (A5 (gN hr) (pv 0) (pv 5) ⟨rfl,by rfl,rfl,rfl⟩))))))
   (aJ (eD (PW.pt (qA (bH rV (pv 5) gR (cI _)) (mL (bH (yY K hr) (bA (eK K hr) (pv 1) (pv 5) (fun _ _=>rfl)) (pv 3) (cI _))))) (aJ (mR (kB K plainAttrs_list PySem.F.slot_list_append PySem.F.type_list_append e9 (pv 2) (aA (iC (X0 K) (pv 4) (kJ (kB K plainAttrs_list slot_list_index PySem.F.type_list_index (vD K) (pv 4) (aA (pv 5) aD))) kG) aD)))) cC))))))
   (aJ (bP (pv 2)))))),by unfold nM;walk_at "rf"⟩
theorem C7 (T:Txt K mg) (D:Dx K mg "cut_one" fU ["ring","held","days"]):vC P w K mg base:=cW D (N:=["ring","held","days","free","empty"]) ⟨rfl,rfl,rfl,by decide+kernel,rfl,by decide+kernel,by decide+kernel⟩ rfl rfl fun S f cdv A outer s H E hr=>
 ⟨_,(aE (pI (i:=3) ["name","held"] 1 [1] ["ring","held","days","free","empty"] (aX fU) rfl rfl rfl S.nd rfl rfl (cN K (pv 0)) (by decide+kernel) (fun _=>(aP (i:=0) (show(["name","held"]:List Str).Nodup by decide+kernel) rfl (Or.inl rfl))) (fun _=>(mO (bH (iD K hr) (pv 0) (pv 1) (by rfl)))) (fun _=>(pv 0)))
   (aE (pI (i:=4) ["name","days"] 1 [2] ["ring","held","days","free","empty"] (aX fU) rfl rfl rfl S.nd rfl rfl (cN K (pv 3)) (by decide+kernel) (fun _=>(aP (i:=0) (show(["name","days"]:List Str).Nodup by decide+kernel) rfl (Or.inl rfl))) (fun _=>(mO (bH (iD K hr) (pv 0) (pv 1) (by rfl)))) (fun _=>(pv 0)))
   (aE (eD (u4 K (pv 4) (fun _=>rfl)) (aJ (bP (bL (TK K hr) (by rfl) T.oU sR (aA (pv 4) aD)))) cC)
   (aJ (bP (bA (eK K hr) (bL (TK K hr) (by rfl) T.oU sR (aA (oZ ["name","days"] 1 [2] ["ring","held","days","free","empty"] (aX fU) rfl rfl rfl (cN K (pv 3)) (by decide+kernel) (fun _=>(aP (i:=0) (show(["name","days"]:List Str).Nodup by decide+kernel) rfl (Or.inl rfl))) (fun _=>eC) (fun _=>(cB (aA (bA (eK K hr) (pv 1) (pv 0) (fun _ _=>rfl)) (aA (pv 0) aD))))) aD)) aG (fun _ _=>rfl))))))),by unfold pX;walk_at "rf"⟩
theorem uP (T:Txt K mg) (D:Dx K mg "begun_with" g9 ["ring","name"]):oQ P w K mg base:=cW D (N:=["ring","name","at"]) ⟨rfl,rfl,rfl,by decide+kernel,rfl,by decide+kernel,by decide+kernel⟩ rfl rfl fun S f cdv A outer s H E hr=>
 ⟨_,(aE (aU (i:=2) S.nd rfl (Or.inl rfl) (kB K plainAttrs_list slot_list_index PySem.F.type_list_index (vD K) (pv 0) (aA (pv 1) aD)))
   (aJ (bP (cK (DA K) (by rfl) T.dJ eL (aA (bM (l5 K) (iC (X0 K) (pv 0) (kJ (pv 2)) kG) (iC (X0 K) (pv 0) kG (kJ (pv 2)))) aD))))),by unfold kD;walk_at "rf"⟩
theorem A1 (T:Txt K mg) (D:Dx K mg "_law_hand" kZ ["_law_script","_law_k"]):oA P w K mg base:=cW D (N:=["_law_script","_law_k","_law_cell","_law_great"]) ⟨rfl,rfl,rfl,by decide+kernel,rfl,by decide+kernel,by decide+kernel⟩ rfl rfl fun S f cdv A outer s H E hr=>
 ⟨_,(aE (aU (i:=2) S.nd rfl (Or.inl rfl) (oT (bH ltX (pv 1) (bL (xM K) (by rfl) T.i7 jE (aA (pv 0) aD)) (cI _)) (bA (eK K hr) (pv 0) (pv 1) (fun _ _=>rfl)) aG))
   (aE (aU (i:=3) S.nd rfl (Or.inl rfl) (oT (bH aaM (pv 2) (bM o6 aG aG) (cI _)) (bM jC (pv 2) (bM x3 (bM x3 (bM x3 (bM o6 aG aG) (bM o6 aG aG)) (bM o6 aG aG)) (bM o6 aG aG))) aG))
   (aJ (bP (RA.h (acZ (XO (ew (pv 3)) (ab9 (ew (bM jC (bM l0 (bM (l5 K) (bM (l5 K) (bM jC (pv 2) aG) (bM l0 (bM l0 aG (pv 1)) (pv 1))) aG) aG) aG)) (acM (ew aG) M5))))))))),by unfold oB;walk_at "rf"⟩
theorem AW (T:Txt K mg) (D:Dx K mg "_law_take" kW ["_law_hand_here","_law_many"]):fW P w K mg base:=cW D (N:=["_law_hand_here","_law_many","_law_digit","_law_blent"]) ⟨rfl,rfl,rfl,by decide+kernel,rfl,by decide+kernel,by decide+kernel⟩ rfl rfl fun S f cdv A outer s H E hr=>
 ⟨_,(aE (eD (bH JI (bA (eK K hr) (pv 0) aG (fun _ _=>rfl)) aG (cI _)) (aE (aU (i:=2) S.nd rfl (Or.inl rfl) (bM jC (bA (eK K hr) (pv 0) aG (fun _ _=>rfl)) (pv 1)))
   (aE (DR (bM tX (bA (eK K hr) (pv 0) aG (fun _ _=>rfl)) (pv 1)) (MS (pv 0) aG set_list))
   (aJ (bP (pv 2))))) cC)
   (aE (DR (bM (l5 K) (bA (eK K hr) (pv 0) aG (fun _ _=>rfl)) aG) (MS (pv 0) aG set_list))
   (aE (aU (i:=3) S.nd rfl (Or.inl rfl) (bM jC (bM l0 (bM (l5 K) (bM (l5 K) (bA (eK K hr) (pv 0) aG (fun _ _=>rfl)) (bM l0 (bM l0 aG (bA (eK K hr) (pv 0) aG (fun _ _=>rfl))) (bA (eK K hr) (pv 0) aG (fun _ _=>rfl)))) aG) aG) aG))
   (aE (aU (i:=3) S.nd rfl (Or.inl rfl) (bM jC (bM l0 (pv 3) (bM (l5 K) (bM jC (pv 3) aG) (bM l0 aG (bA (eK K hr) (pv 0) aG (fun _ _=>rfl))))) aG))
   (aJ (bP (bM jC (bM (l5 K) (bM tX (pv 3) aG) (bM tX (pv 3) aG)) (pv 1)))))))),by unfold n6;walk_at "rf"⟩
theorem z8 (T:Txt K mg) (D:Dx K mg "_law_pack" iL ["_law_letters_here","_law_names_here"]):sG P w K mg base:=cW D (N:=["_law_letters_here","_law_names_here","_law_pack_here","_law_at","_law_day","_law_head","_law_row_here","_law_letter_here"]) ⟨rfl,rfl,rfl,by decide+kernel,rfl,by decide+kernel,by decide+kernel⟩ rfl rfl fun S f cdv A outer s H E hr=>
 ⟨_,(aE (aU (i:=2) S.nd rfl (Or.inl rfl) (eX aD))
   (aE (cS PassesOwn.never rfl (cN K (pv 0)) (gC (n:=4) K rfl (bS (aP (i:=3) S.nd rfl (Or.inl rfl)) (bS (aP (i:=4) S.nd rfl (Or.inl rfl)) (bS (aP (i:=5) S.nd rfl (Or.inl rfl)) (bS (aP (i:=6) S.nd rfl (Or.inl rfl)) gB))))) (aE (aU (i:=7) S.nd rfl (Or.inl rfl) (cB (aA (bA (eK K hr) (pv 1) (pv 3) (fun _ _=>rfl)) (aA (pv 4) (aA (pv 5) (aA (cK (DA K) (by rfl) T.dJ eL (aA (oZ ["_law_n","_law_names_here"] 1 [1] ["_law_letters_here","_law_names_here","_law_pack_here","_law_at","_law_day","_law_head","_law_row_here","_law_letter_here"] (aX iL) rfl rfl rfl (cN K (pv 6)) (by decide+kernel) (fun _=>(aP (i:=0) (show(["_law_n","_law_names_here"]:List Str).Nodup by decide+kernel) rfl (Or.inl rfl))) (fun _=>eC) (fun _=>(bA (eK K hr) (pv 1) (pv 0) (fun _ _=>rfl)))) aD)) aD))))))
   (aJ (eD (bH (iD K hr) (pv 7) (pv 2) (by rfl)) (aJ (mR (kB K plainAttrs_list PySem.F.slot_list_append PySem.F.type_list_append e9 (pv 2) (aA (pv 7) aD)))) cC))))
   (aJ (bP (cK (DA K) (by rfl) T.dJ eL (aA (bL (E9 K hr) (by rfl) T.dR fT (aA (pv 2) aD)) aD)))))),by unfold oH;walk_at "rf"⟩
theorem uR (T:Txt K mg) (D:Dx K mg "_law_climbs" g8 ["_law_held","_law_here","_law_name"]):o9 P w K mg base:=cW D (N:=["_law_held","_law_here","_law_name","_law_n"]) ⟨rfl,rfl,rfl,by decide+kernel,rfl,by decide+kernel,by decide+kernel⟩ rfl rfl fun S f cdv A outer s H E hr=>
 ⟨_,(aE (cS PassesOwn.never rfl (dE rfl T.cZ (aA (bM (l5 K) (bL (aaE K) (by rfl) T.i7 jE (aA (pv 0) aD)) aG) aD)) (aP (i:=3) S.nd rfl (Or.inl rfl)) (aE (eD (PW.pt (A9 (bH JV (pv 1) gR (cI _)) (yA (bH (yY K hr) (pv 1) (pv 2) (cI _))))) (aJ (bP (pA (yY K hr) (pv 1) (pv 2) (cI _)))) cC)
   (aJ (aU (i:=1) S.nd rfl (Or.inl rfl) (A5 (gN hr) (pv 0) (pv 1) ⟨rfl,by rfl,rfl,rfl⟩)))))
   (aJ (bP nG))),by unfold k8;walk_at "rf"⟩
theorem CV (T:Txt K mg) (D:Dx K mg "_law_row" jT ["_law_letter_here"]):vB P w K mg base:=cW D (N:=["_law_letter_here","_law_row_here"]) ⟨rfl,rfl,rfl,by decide+kernel,rfl,by decide+kernel,by decide+kernel⟩ rfl rfl fun S f cdv A outer s H E hr=>
 ⟨_,(aE (aU (i:=1) S.nd rfl (Or.inr rfl) (bA (eK K hr) (pv 0) aG (fun _ _=>rfl)))
   (aJ (bP (oZ ["_law_n","_law_row_here","_law_letter_here"] 1 [1,0] ["_law_letter_here","_law_row_here"] (aX jT) rfl rfl rfl (dE rfl T.cZ (aA (bL (xM K) (by rfl) T.i7 jE (aA (pv 1) aD)) aD)) (by decide+kernel) (fun _=>(aP (i:=0) (show(["_law_n","_law_row_here","_law_letter_here"]:List Str).Nodup by decide+kernel) rfl (Or.inl rfl))) (fun _=>(mO (PW.pt (qA (bH (KO K hr) (bA (eK K hr) (pv 1) (pv 0) (fun _ _=>rfl)) (bA (eK K hr) (pv 2) aG (fun _ _=>rfl)) (cI _)) (mL (bH (iD K hr) (bA (eK K hr) (pv 1) (pv 0) (fun _ _=>rfl)) (iC (X0 K) (pv 1) (kJ (bM (l5 K) (pv 0) aG)) kG) (by rfl))))))) (fun _=>(bA (eK K hr) (pv 1) (pv 0) (fun _ _=>rfl))))))),by unfold p5;walk_at "rf"⟩
theorem rD (T:Txt K mg) (D:Dx K mg "_law_standing" fG ["_law_pack_here"]):mE P w K mg base:=cW D (N:=["_law_pack_here","_law_found","_law_letter_here"]) ⟨rfl,rfl,rfl,by decide+kernel,rfl,by decide+kernel,by decide+kernel⟩ rfl rfl fun S f cdv A outer s H E hr=>
 ⟨_,(aE (aU (i:=1) S.nd rfl (Or.inl rfl) gG)
   (aE (cS PassesOwn.never rfl (cN K (pv 0)) (aP (i:=2) S.nd rfl (Or.inl rfl)) (aJ (eD (bH (iD K hr) (bA (eK K hr) (pv 2) aG (fun _ _=>rfl)) (pv 1) (by rfl)) (aJ (dI (gN hr) (pv 1) (bA (eK K hr) (pv 2) aG (fun _ _=>rfl)) (pv 2) rfl)) cC)))
   (aJ (bP (cK abU (by rfl) T.oE wN (aA (FZ (pv 1)) aD)))))),by unfold iF;walk_at "rf"⟩
theorem o4 (T:Txt K mg) (D:Dx K mg "_law_comes_back" eA ["_law_table_here","_law_name"]):j4 P w K mg base:=cW D (N:=["_law_table_here","_law_name","_law_here","_law_n"]) ⟨rfl,rfl,rfl,by decide+kernel,rfl,by decide+kernel,by decide+kernel⟩ rfl rfl fun S f cdv A outer s H E hr=>
 ⟨_,(aE (aU (i:=2) S.nd rfl (Or.inl rfl) (bA (eK K hr) (bA (eK K hr) (pv 0) (pv 1) (fun _ _=>rfl)) aG (fun _ _=>rfl)))
   (aE (cS PassesOwn.never rfl (dE rfl T.cZ (aA (bL (aaE K) (by rfl) T.i7 jE (aA (pv 0) aD)) aD)) (aP (i:=3) S.nd rfl (Or.inl rfl)) (aE (eD (PW.pt (A9 (bH JV (pv 2) gR (cI _)) (yA (bH (yY K hr) (pv 2) (pv 1) (cI _))))) (aJ (bP (pA (yY K hr) (pv 2) (pv 1) (cI _)))) cC)
   (aJ (aU (i:=2) S.nd rfl (Or.inl rfl) (bA (eK K hr) (bA (eK K hr) (pv 0) (pv 2) (fun _ _=>rfl)) aG (fun _ _=>rfl))))))
   (aJ (bP nG)))),by unfold fQ;walk_at "rf"⟩
theorem DS (T:Txt K mg) (D:Dx K mg "days_of" jU ["pack"]) (G_standing:iI P w K mg base):vX P w K mg base:=cW D (N:=["pack"]) ⟨rfl,rfl,rfl,by decide+kernel,rfl,by decide+kernel,by decide+kernel⟩ rfl rfl fun S f cdv A outer s H E hr=>
 ⟨_,(aJ (bP (vE ["letter"] 1 [] ["pack"] (aX jU) rfl rfl rfl (cN K (a8 G_standing hr (by decide) rfl (aA (pv 0) aD))) (by decide+kernel) (fun _=>(aP (i:=0) (show(["letter"]:List Str).Nodup by decide+kernel) rfl (Or.inl rfl))) (fun _=>eC) (fun _=>(bA (eK K hr) (pv 0) aG (fun _ _=>rfl))) (fun _=>(bA (eK K hr) (pv 0) aG (fun _ _=>rfl)))))),by unfold pR;walk_at "rf"⟩
theorem B3 (T:Txt K mg) (D:Dx K mg "rows_of" jP ["pack"]) (G_elders:oS P w K mg base) (G_standing:iI P w K mg base):vS P w K mg base:=cW D (N:=["pack"]) ⟨rfl,rfl,rfl,by decide+kernel,rfl,by decide+kernel,by decide+kernel⟩ rfl rfl fun S f cdv A outer s H E hr=>
 ⟨_,(aJ (bP (vE ["letter"] 1 [] ["pack"] (aX jP) rfl rfl rfl (cN K (a8 G_standing hr (by decide) rfl (aA (pv 0) aD))) (by decide+kernel) (fun _=>(aP (i:=0) (show(["letter"]:List Str).Nodup by decide+kernel) rfl (Or.inl rfl))) (fun _=>eC) (fun _=>(bA (eK K hr) (pv 0) aG (fun _ _=>rfl))) (fun _=>(a8 G_elders hr (by decide) rfl (aA (pv 0) aD)))))),by unfold qH;walk_at "rf"⟩
theorem yQ (T:Txt K mg) (D:Dx K mg "claims_of" jB ["pack"]) (G_standing:iI P w K mg base) (G_elders:oS P w K mg base):qU P w K mg base:=cW D (N:=["pack","found","letter","at","name"]) ⟨rfl,rfl,rfl,by decide+kernel,rfl,by decide+kernel,by decide+kernel⟩ rfl rfl fun S f cdv A outer s H E hr=>
 ⟨_,(aE (aU (i:=1) S.nd rfl (Or.inl rfl) gG)
   (aE (cS PassesOwn.never rfl (cN K (a8 G_standing hr (by decide) rfl (aA (pv 0) aD))) (aP (i:=2) S.nd rfl (Or.inl rfl)) (aJ (cS PassesOwn.never rfl (xT K rfl T.dQ (aA (a8 G_elders hr (by decide) rfl (aA (pv 2) aD)) aD)) (gC (n:=2) K rfl (bS (aP (i:=3) S.nd rfl (Or.inl rfl)) (bS (aP (i:=4) S.nd rfl (Or.inl rfl)) gB))) (aJ (eD (bH JI (pv 3) aG (cI _)) (aJ (mR (kB K plainAttrs_list PySem.F.slot_list_append PySem.F.type_list_append e9 (B5 (pv 1) (pv 4) (eX aD) ⟨rfl,by rfl,rfl,rfl⟩) (aA (cB (aA (bA (eK K hr) (pv 2) aG (fun _ _=>rfl)) (aA (bA (eK K hr) (pv 2) aG (fun _ _=>rfl)) (aA (pv 3) aD)))) aD)))) cC)))))
   (aJ (bP (pv 1))))),by unfold lM;walk_at "rf"⟩
theorem GW (T:Txt K mg) (D:Dx K mg "places" pO ["pack","marks"]) (G_standing:iI P w K mg base) (G_elders:oS P w K mg base):zI P w K mg base:=cW D (N:=["pack","marks","known","letter","name","elder"]) ⟨rfl,rfl,rfl,by decide+kernel,rfl,by decide+kernel,by decide+kernel⟩ rfl rfl fun S f cdv A outer s H E hr=>
 ⟨_,(aE (aU (i:=2) S.nd rfl (Or.inl rfl) gG)
   (aE (cS PassesOwn.never rfl (cN K (a8 G_standing hr (by decide) rfl (aA (pv 0) aD))) (aP (i:=3) S.nd rfl (Or.inl rfl)) (aE (dI (gN hr) (pv 2) (bA (eK K hr) (pv 3) aG (fun _ _=>rfl)) nG rfl)
   (aJ (cS PassesOwn.never rfl (cN K (a8 G_elders hr (by decide) rfl (aA (pv 3) aD))) (aP (i:=4) S.nd rfl (Or.inl rfl)) (aJ (dI (gN hr) (pv 2) (pv 4) nG rfl))))))
   (aE (cS PassesOwn.never rfl (cN K (pv 1)) (gC (n:=2) K rfl (bS (aP (i:=4) S.nd rfl (Or.inl rfl)) (bS (aP (i:=5) S.nd rfl (Or.inl rfl)) gB))) (aE (dI (gN hr) (pv 2) (pv 4) nG rfl)
   (aJ (eD (bH rV (pv 5) gR (cI _)) (aJ (dI (gN hr) (pv 2) (pv 5) nG rfl)) cC))))
   (aJ (bP (cK (DA K) (by rfl) T.dJ eL (aA (bL (E9 K hr) (by rfl) T.dR fT (aA (pv 2) aD)) aD))))))),by unfold tI;walk_at "rf"⟩
theorem yS (T:Txt K mg) (D:Dx K mg "_law_names" fB ["_law_hand_here","_law_many"]) (G_law_take:fW P w K mg base):qY P w K mg base:=cW D (N:=["_law_hand_here","_law_many","_law_found","_law_k","_law_size","_law_name"]) ⟨rfl,rfl,rfl,by decide+kernel,rfl,by decide+kernel,by decide+kernel⟩ rfl rfl fun S f cdv A outer s H E hr=>
 ⟨_,(aE (aU (i:=2) S.nd rfl (Or.inr rfl) (eX aD))
   (aE (cS PassesOwn.never rfl (dE rfl T.cZ (aA (pv 1) aD)) (aP (i:=3) S.nd rfl (Or.inl rfl)) (aE (aU (i:=4) S.nd rfl (Or.inl rfl) (bA (eK K hr) (eX (aA aG (aA aG (aA aG (aA aG (aA aG (aA (bM (l5 K) aG (bM jC (pv 3) aG)) aD))))))) (a8 G_law_take hr (by decide) rfl (aA (pv 0) (aA aG aD))) (fun _ _=>rfl)))
   (aE (aU (i:=5) S.nd rfl (Or.inl rfl) (kB K PySem.F.plainAttrs_str PySem.F.slot_str_join PySem.F.type_str_join (aaA K) eG (aA (oZ ["_law_n","_law_hand_here"] 1 [0] ["_law_hand_here","_law_many","_law_found","_law_k","_law_size","_law_name"] (aX fB) rfl rfl rfl (dE rfl T.cZ (aA (pv 4) aD)) (by decide+kernel) (fun _=>(aP (i:=0) (show(["_law_n","_law_hand_here"]:List Str).Nodup by decide+kernel) rfl (Or.inl rfl))) (fun _=>eC) (fun _=>(bA (eK K hr) eG (a8 G_law_take hr (by decide) rfl (aA (pv 1) (aA aG aD))) (fun _ _=>rfl)))) aD)))
   (aE (eD (bH (ZK K hr) (pv 5) (pv 2) (by rfl)) (aJ (aU (i:=5) S.nd rfl (Or.inl rfl) (bA (eK K hr) (oZ ["_law_n","_law_found"] 1 [2] ["_law_hand_here","_law_many","_law_found","_law_k","_law_size","_law_name"] (aX fB) rfl rfl rfl (dE rfl T.cZ (aA (bM (l5 K) (bL (xM K) (by rfl) T.i7 jE (aA (pv 2) aD)) aG) aD)) (by decide+kernel) (fun _=>(aP (i:=0) (show(["_law_n","_law_found"]:List Str).Nodup by decide+kernel) rfl (Or.inl rfl))) (fun _=>(mO (bH (iD K hr) (cK oY (by rfl) T.vZ NF (aA (pv 0) aD)) (pv 1) (by rfl)))) (fun _=>(cK oY (by rfl) T.vZ NF (aA (pv 0) aD)))) aG (fun _ _=>rfl)))) cC)
   (aJ (mR (kB K plainAttrs_list PySem.F.slot_list_append PySem.F.type_list_append e9 (pv 2) (aA (pv 5) aD))))))))
   (aJ (bP (pv 2))))),by unfold l7;walk_at "rf"⟩
theorem uN (T:Txt K mg) (D:Dx K mg "_law_letter" fE ["_law_hand_here","_law_m"]) (G_law_take:fW P w K mg base):pC P w K mg base:=cW D (N:=["_law_hand_here","_law_m","_law_at","_law_kind","_law_day","_law_row_here"]) ⟨rfl,rfl,rfl,by decide+kernel,rfl,by decide+kernel,by decide+kernel⟩ rfl rfl fun S f cdv A outer s H E hr=>
 ⟨_,(aE (aU (i:=2) S.nd rfl (Or.inl rfl) (a8 G_law_take hr (by decide) rfl (aA (pv 0) (aA (pv 1) aD))))
   (aE (aU (i:=3) S.nd rfl (Or.inl rfl) (a8 G_law_take hr (by decide) rfl (aA (pv 0) (aA aG aD))))
   (aE (aU (i:=4) S.nd rfl (Or.inl rfl) (a8 G_law_take hr (by decide) rfl (aA (pv 0) (aA (bA (eK K hr) (eX (aA aG (aA aG (aA aG (aA aG aD))))) (pv 3) (fun _ _=>rfl)) aD))))
   (aE (pI (i:=5) ["_law_n","_law_hand_here","_law_m"] 1 [0,1] ["_law_hand_here","_law_m","_law_at","_law_kind","_law_day","_law_row_here"] (aX fE) rfl rfl rfl S.nd rfl rfl (dE rfl T.cZ (aA (bA (eK K hr) (eX (aA aG (aA aG (aA aG (aA aG (aA aG (aA aG aD))))))) (a8 G_law_take hr (by decide) rfl (aA (pv 0) (aA aG aD))) (fun _ _=>rfl)) aD)) (by decide+kernel) (fun _=>(aP (i:=0) (show(["_law_n","_law_hand_here","_law_m"]:List Str).Nodup by decide+kernel) rfl (Or.inl rfl))) (fun _=>eC) (fun _=>(a8 G_law_take hr (by decide) rfl (aA (pv 1) (aA (pv 2) aD)))))
   (aE (eD (bH (yY K hr) (a8 G_law_take hr (by decide) rfl (aA (pv 0) (aA aG aD))) aG (cI _)) (aJ (aU (i:=5) S.nd rfl (Or.inl rfl) (bM (l5 K) (iC (X0 K) (pv 5) kG (kJ aG)) (eX (aA (bM jC (bM (l5 K) (pv 2) aG) (pv 1)) aD))))) cC)
   (aJ (bP (RA.h (ac4 (XO (ew (pv 2)) (Z4 (ew (bA (eK K hr) (eX (aA (pv 4) (aA (bM xO aG (pv 4)) aD))) (cK GL (by rfl) T.AV UM (aA (pA (yY K hr) (pv 3) aG (cI _)) aD)) (fun _ _=>rfl))) (Z4 (ew (bA (eK K hr) (eX (aA eG (aA eG (aA eG aD)))) (a8 G_law_take hr (by decide) rfl (aA (pv 0) (aA aG aD))) (fun _ _=>rfl))) (XO (ew (pv 5)) M5))))))))))))),by unfold kS;walk_at "rf"⟩
theorem yD (T:Txt K mg) (D:Dx K mg "_law_marks" iY ["_law_hand_here","_law_names_here","_law_many"]) (G_law_take:fW P w K mg base) (G_law_climbs:o9 P w K mg base):qZ P w K mg base:=cW D (N:=["_law_hand_here","_law_names_here","_law_many","_law_held","_law_n","_law_name","_law_elder"]) ⟨rfl,rfl,rfl,by decide+kernel,rfl,by decide+kernel,by decide+kernel⟩ rfl rfl fun S f cdv A outer s H E hr=>
 ⟨_,(aE (aU (i:=3) S.nd rfl (Or.inl rfl) gG)
   (aE (cS PassesOwn.never rfl (dE rfl T.cZ (aA (pv 2) aD)) (aP (i:=4) S.nd rfl (Or.inl rfl)) (aE (aU (i:=5) S.nd rfl (Or.inl rfl) (bA (eK K hr) (pv 1) (a8 G_law_take hr (by decide) rfl (aA (pv 0) (aA (bL (xM K) (by rfl) T.i7 jE (aA (pv 1) aD)) aD))) (fun _ _=>rfl)))
   (aE (aU (i:=6) S.nd rfl (Or.inl rfl) (bA (eK K hr) (pv 1) (a8 G_law_take hr (by decide) rfl (aA (pv 0) (aA (bL (xM K) (by rfl) T.i7 jE (aA (pv 1) aD)) aD))) (fun _ _=>rfl)))
   (aE (eD (bH (yY K hr) (a8 G_law_take hr (by decide) rfl (aA (pv 0) (aA aG aD))) aG (cI _)) (aJ (aU (i:=6) S.nd rfl (Or.inl rfl) gR)) cC)
   (aJ (eD (PW.pt (qA (bH (iD K hr) (pv 5) (pv 3) (by rfl)) (mL (wW (uB (a8 G_law_climbs hr (by decide) rfl (aA (pv 3) (aA (pv 6) (aA (pv 5) aD))))))))) (aJ (dI (gN hr) (pv 3) (pv 5) (pv 6) rfl)) cC))))))
   (aJ (bP (cK (DA K) (by rfl) T.dJ eL (aA (bL (sortI K hr) (by rfl) T.dR fT (aA (AS (pv 3)) aD)) aD)))))),by unfold l6;walk_at "rf"⟩
theorem w9 (T:Txt K mg) (D:Dx K mg "_law_table" jA ["_law_pack_here","_law_marks_here"]) (G_law_standing:mE P w K mg base) (G_law_row:vB P w K mg base):qK P w K mg base:=cW D (N:=["_law_pack_here","_law_marks_here","_law_told","_law_found","_law_letters_here","_law_letter_here","_law_row_here","_law_at","_law_name","_law_claim","_law_elder"]) ⟨rfl,rfl,rfl,by decide+kernel,rfl,by decide+kernel,by decide+kernel⟩ rfl rfl fun S f cdv A outer s H E hr=>
 ⟨_,(aE (W8 (i:=2) (j:=3) rfl S.nd rfl rfl (by decide) rfl rfl (aA gG (aA gG aD)) rfl)
   (aE (aU (i:=4) S.nd rfl (Or.inl rfl) (a8 G_law_standing hr (by decide) rfl (aA (pv 0) aD)))
   (aE (cS PassesOwn.never rfl (cN K (pv 4)) (aP (i:=5) S.nd rfl (Or.inl rfl)) (aE (aU (i:=6) S.nd rfl (Or.inl rfl) (a8 G_law_row hr (by decide) rfl (aA (pv 5) aD)))
   (aJ (cS PassesOwn.never rfl (xT K rfl T.dQ (aA (pv 6) aD)) (gC (n:=2) K rfl (bS (aP (i:=7) S.nd rfl (Or.inl rfl)) (bS (aP (i:=8) S.nd rfl (Or.inl rfl)) gB))) (aE (dI (gN hr) (pv 3) (pv 8) (cB (aA gR (aA (cB (aA eG aD)) aD))) rfl)
   (aJ (eD (bH JI (pv 7) aG (cI _)) (aE (aU (i:=9) S.nd rfl (Or.inl rfl) (cB (aA (bA (eK K hr) (pv 5) aG (fun _ _=>rfl)) (aA (bA (eK K hr) (pv 5) aG (fun _ _=>rfl)) (aA (pv 7) (aA (bA (eK K hr) (pv 6) (bM xO (pv 7) aG) (fun _ _=>rfl)) aD))))))
   (aJ (dI (gN hr) (pv 2) (pv 8) (bL (Z5 K hr) (by rfl) T.oU sR (aA (JY (gN hr) (pv 2) (pv 8) (pv 9) ⟨rfl,by rfl,rfl,rfl⟩) (aA (pv 9) aD))) rfl))) cC)))))))
   (aE (cS PassesOwn.never rfl (NQ (AS (pv 2))) (gC (n:=2) K rfl (bS (aP (i:=8) S.nd rfl (Or.inl rfl)) (bS (aP (i:=9) S.nd rfl (Or.inl rfl)) gB))) (aJ (dI (gN hr) (pv 3) (pv 8) (cB (aA (bA (eK K hr) (pv 9) aG (fun _ _=>rfl)) (aA (cB (aA eG (aA (bA (eK K hr) (pv 9) aG (fun _ _=>rfl)) (aA (bA (eK K hr) (pv 9) aG (fun _ _=>rfl)) aD)))) aD))) rfl)))
   (aE (cS PassesOwn.never rfl (cN K (pv 4)) (aP (i:=5) S.nd rfl (Or.inl rfl)) (aE (aU (i:=6) S.nd rfl (Or.inl rfl) (a8 G_law_row hr (by decide) rfl (aA (pv 5) aD)))
   (aJ (dI (gN hr) (pv 3) (bA (eK K hr) (pv 5) aG (fun _ _=>rfl)) (oT (bH (KO K hr) (pv 6) (eX aD) (cI _)) (cB (aA (bA (eK K hr) (pv 6) (RX K2 aG) (fun _ _=>rfl)) (aA (cB (aA eG aD)) aD))) (cB (aA gR (aA (cB (aA eG aD)) aD)))) rfl))))
   (aE (cS PassesOwn.never rfl (cN K (pv 1)) (gC (n:=2) K rfl (bS (aP (i:=8) S.nd rfl (Or.inl rfl)) (bS (aP (i:=10) S.nd rfl (Or.inl rfl)) gB))) (aE (dI (gN hr) (pv 3) (pv 8) (cB (aA (pv 10) (aA (cB (aA eG aD)) aD))) rfl)
   (aJ (eD (PW.pt (qA (bH rV (pv 10) gR (cI _)) (mL (bH (iD K hr) (pv 10) (pv 3) (by rfl))))) (aJ (dI (gN hr) (pv 3) (pv 10) (cB (aA gR (aA (cB (aA eG aD)) aD))) rfl)) cC))))
   (aJ (bP (pv 3))))))))),by unfold mC;walk_at "rf"⟩
theorem DK (T:Txt K mg) (D:Dx K mg "choices" iA ["pack","marks","names"]) (G_rows_of:vS P w K mg base) (G_claims_of:qU P w K mg base) (G_choice:z3 P w K mg base):wC P w K mg base:=cW D (N:=["pack","marks","names","held","rows","claimed"]) ⟨rfl,rfl,rfl,by decide+kernel,rfl,by decide+kernel,by decide+kernel⟩ rfl rfl fun S f cdv A outer s H E hr=>
 ⟨_,(aE (aU (i:=3) S.nd rfl (Or.inr rfl) (vE ["name","elder"] 2 [] ["pack","marks","names","held","rows","claimed"] (aX iA) rfl rfl rfl (cN K (pv 1)) (by decide+kernel) (fun _=>(gC (n:=2) K rfl (bS (aP (i:=0) (show(["name","elder"]:List Str).Nodup by decide+kernel) rfl (Or.inl rfl)) (bS (aP (i:=1) (show(["name","elder"]:List Str).Nodup by decide+kernel) rfl (Or.inl rfl)) gB)))) (fun _=>eC) (fun _=>(pv 0)) (fun _=>(pv 1))))
   (aE (aU (i:=4) S.nd rfl (Or.inr rfl) (a8 G_rows_of hr (by decide) rfl (aA (pv 0) aD)))
   (aE (aU (i:=5) S.nd rfl (Or.inr rfl) (a8 G_claims_of hr (by decide) rfl (aA (pv 0) aD)))
   (aJ (bP (vE ["name","held","rows","claimed"] 1 [3,4,5] ["pack","marks","names","held","rows","claimed"] (aX iA) rfl rfl rfl (cN K (pv 2)) (by decide+kernel) (fun _=>(aP (i:=0) (show(["name","held","rows","claimed"]:List Str).Nodup by decide+kernel) rfl (Or.inl rfl))) (fun _=>eC) (fun _=>(pv 0)) (fun _=>(a8 G_choice hr (by decide) rfl (aA (pv 1) (aA (pv 2) (aA (pv 3) (aA (pv 0) aD)))))))))))),by unfold p4;walk_at "rf"⟩
theorem xD (T:Txt K mg) (D:Dx K mg "cut_rings" dS ["pack","marks","ties"]) (G_days_of:vX P w K mg base) (G_rings_in:sL P w K mg base) (G_begun_with:oQ P w K mg base) (G_cut_one:vC P w K mg base):qS P w K mg base:=cW D (N:=["pack","marks","ties","held","days","round_about"]) ⟨rfl,rfl,rfl,by decide+kernel,rfl,by decide+kernel,by decide+kernel⟩ rfl rfl fun S f cdv A outer s H E hr=>
 ⟨_,(aE (aU (i:=3) S.nd rfl (Or.inr rfl) (vE ["name","elder"] 2 [] ["pack","marks","ties","held","days","round_about"] (aX dS) rfl rfl rfl (cN K (pv 1)) (by decide+kernel) (fun _=>(gC (n:=2) K rfl (bS (aP (i:=0) (show(["name","elder"]:List Str).Nodup by decide+kernel) rfl (Or.inl rfl)) (bS (aP (i:=1) (show(["name","elder"]:List Str).Nodup by decide+kernel) rfl (Or.inl rfl)) gB)))) (fun _=>eC) (fun _=>(pv 0)) (fun _=>nG)))
   (aE (aU (i:=4) S.nd rfl (Or.inr rfl) (a8 G_days_of hr (by decide) rfl (aA (pv 0) aD)))
   (aE (aU (i:=5) S.nd rfl (Or.inl rfl) (a8 G_rings_in hr (by decide) rfl (aA (vE ["name","ties"] 1 [2] ["pack","marks","ties","held","days","round_about"] (aX dS) rfl rfl rfl (xH (pv 2)) (by decide+kernel) (fun _=>(aP (i:=0) (show(["name","ties"]:List Str).Nodup by decide+kernel) rfl (Or.inl rfl))) (fun _=>eC) (fun _=>(pv 0)) (fun _=>(bA (eK K hr) (bA (eK K hr) (pv 1) (pv 0) (fun _ _=>rfl)) aG (fun _ _=>rfl)))) aD)))
   (aJ (bP (cK (DA K) (by rfl) T.dJ eL (aA (bL (E9 K hr) (by rfl) T.dR fT (aA (oZ ["ring","held","days"] 1 [3,4] ["pack","marks","ties","held","days","round_about"] (aX dS) rfl rfl rfl (cN K (pv 5)) (by decide+kernel) (fun _=>(aP (i:=0) (show(["ring","held","days"]:List Str).Nodup by decide+kernel) rfl (Or.inl rfl))) (fun _=>eC) (fun _=>(a8 G_begun_with hr (by decide) rfl (aA (pv 0) (aA (a8 G_cut_one hr (by decide) rfl (aA (pv 0) (aA (pv 1) (aA (pv 2) aD)))) aD))))) aD)) aD))))))),by unfold l9;walk_at "rf"⟩
theorem sW (T:Txt K mg) (D:Dx K mg "_law_letters" eO ["_law_script","_law_hand_here","_law_m"]) (G_law_letter:pC P w K mg base) (G_law_take:fW P w K mg base) (G_law_hand:oA P w K mg base):nA P w K mg base:=cW D (N:=["_law_script","_law_hand_here","_law_m","_law_found","_law_k"]) ⟨rfl,rfl,rfl,by decide+kernel,rfl,by decide+kernel,by decide+kernel⟩ rfl rfl fun S f cdv A outer s H E hr=>
 ⟨_,(aE (pI (i:=3) ["_law_n","_law_hand_here","_law_m"] 1 [1,2] ["_law_script","_law_hand_here","_law_m","_law_found","_law_k"] (aX eO) rfl rfl rfl S.nd rfl rfl (dE rfl T.cZ (aA (a8 G_law_take hr (by decide) rfl (aA (pv 1) (aA aG aD))) aD)) (by decide+kernel) (fun _=>(aP (i:=0) (show(["_law_n","_law_hand_here","_law_m"]:List Str).Nodup by decide+kernel) rfl (Or.inl rfl))) (fun _=>eC) (fun _=>(a8 G_law_letter hr (by decide) rfl (aA (pv 1) (aA (pv 2) aD)))))
   (aE (cS PassesOwn.never rfl (GN rfl T.cZ (aA aG (aA (bL (HJ rfl) (by rfl) T.oU sR (aA (bL (xM K) (by rfl) T.i7 jE (aA (pv 0) aD)) (aA aG aD))) aD))) (aP (i:=4) S.nd rfl (Or.inl rfl)) (aJ (mR (kB K plainAttrs_list PySem.F.slot_list_append PySem.F.type_list_append e9 (pv 3) (aA (a8 G_law_letter hr (by decide) rfl (aA (a8 G_law_hand hr (by decide) rfl (aA (pv 0) (aA (pv 4) aD))) (aA (pv 2) aD))) aD)))))
   (aJ (bP (pv 3))))),by unfold jG;walk_at "rf"⟩
theorem KZ (T:Txt K mg) (D:Dx K mg "rings" r6 ["pack","marks"]) (G_cut_rings:qS P w K mg base) (G_choices:wC P w K mg base) (G_places:zI P w K mg base):FP P w K mg base:=cW D (N:=["pack","marks"]) ⟨rfl,rfl,rfl,by decide+kernel,rfl,by decide+kernel,by decide+kernel⟩ rfl rfl fun S f cdv A outer s H E hr=>
 ⟨_,(aJ (bP (a8 G_cut_rings hr (by decide) rfl (aA (pv 0) (aA (pv 1) (aA (a8 G_choices hr (by decide) rfl (aA (pv 0) (aA (pv 1) (aA (a8 G_places hr (by decide) rfl (aA (pv 0) (aA (pv 1) aD))) aD)))) aD)))))),by unfold w8;walk_at "rf"⟩
theorem xI (T:Txt K mg) (D:Dx K mg "_law_right" fD ["_law_pack_here","_law_marks_here"]) (G_law_table:qK P w K mg base) (G_rings:FP P w K mg base) (G_law_comes_back:j4 P w K mg base):qV P w K mg base:=cW D (N:=["_law_pack_here","_law_marks_here","_law_table_here","_law_found","_law_met","_law_ring","_law_at"]) ⟨rfl,rfl,rfl,by decide+kernel,rfl,by decide+kernel,by decide+kernel⟩ rfl rfl fun S f cdv A outer s H E hr=>
 ⟨_,(aE (aU (i:=2) S.nd rfl (Or.inr rfl) (a8 G_law_table hr (by decide) rfl (aA (pv 0) (aA (pv 1) aD))))
   (aE (aU (i:=3) S.nd rfl (Or.inl rfl) (a8 G_rings hr (by decide) rfl (aA (pv 0) (aA (pv 1) aD))))
   (aE (eD (PW.pt (A9 (wW (uB (bL (ZH K) (by rfl) T.dZ nJ (aA (pv 3) (aA (FL (v:=.ty "tuple") rfl T.dJ eL rfl) aD))))) (yA (bH (KO K hr) (cK (SO K) (by rfl) T.oE wN (aA (pv 3) aD)) (bL (KA K hr) (by rfl) T.dR fT (aA (pv 3) aD)) (cI _))))) (aJ (bP nG)) cC)
   (aE (aU (i:=4) S.nd rfl (Or.inl rfl) (eX aD))
   (aE (cS PassesOwn.never rfl (cN K (pv 3)) (aP (i:=5) S.nd rfl (Or.inl rfl)) (aE (eD (PW.pt (A9 (wW (uB (bL (ZH K) (by rfl) T.dZ nJ (aA (pv 5) (aA (FL (v:=.ty "tuple") rfl T.dJ eL rfl) aD))))) (A9 (bH ltX (bL (xM K) (by rfl) T.i7 jE (aA (pv 5) aD)) aG (cI _)) (yA (wW (uB (bL (acF K rfl) (by rfl) T.zE T2 (aA (oZ ["_law_name","_law_table_here"] 1 [2] ["_law_pack_here","_law_marks_here","_law_table_here","_law_found","_law_met","_law_ring","_law_at"] (aX fD) rfl rfl rfl (cN K (pv 5)) (by decide+kernel) (fun _=>(aP (i:=0) (show(["_law_name","_law_table_here"]:List Str).Nodup by decide+kernel) rfl (Or.inl rfl))) (fun _=>eC) (fun _=>(pA (ZK K hr) (pv 0) (pv 1) (by rfl)))) aD)))))))) (aJ (bP nG)) cC)
   (aE (cS PassesOwn.never rfl (dE rfl T.cZ (aA (bL (xM K) (by rfl) T.i7 jE (aA (pv 5) aD)) aD)) (aP (i:=6) S.nd rfl (Or.inl rfl)) (aJ (eD (bH (KO K hr) (bA (eK K hr) (bA (eK K hr) (pv 2) (bA (eK K hr) (pv 5) (bM xO (pv 6) aG) (fun _ _=>rfl)) (fun _ _=>rfl)) aG (fun _ _=>rfl)) (bA (eK K hr) (pv 5) (pv 6) (fun _ _=>rfl)) (cI _)) (aJ (bP nG)) cC)))
   (aJ (aU (i:=4) S.nd rfl (Or.inl rfl) (bM (l5 K) (pv 4) (cK (SO K) (by rfl) T.oE wN (aA (pv 5) aD))))))))
   (aJ (bP (pA (yY K hr) (bL (KA K hr) (by rfl) T.dR fT (aA (pv 4) aD)) (bL (KA K hr) (by rfl) T.dR fT (aA (oZ ["_law_name","_law_table_here"] 1 [2] ["_law_pack_here","_law_marks_here","_law_table_here","_law_found","_law_met","_law_ring","_law_at"] (aX fD) rfl rfl rfl (xH (pv 2)) (by decide+kernel) (fun _=>(aP (i:=0) (show(["_law_name","_law_table_here"]:List Str).Nodup by decide+kernel) rfl (Or.inl rfl))) (fun _=>(mO (uB (a8 G_law_comes_back hr (by decide) rfl (aA (pv 1) (aA (pv 0) aD)))))) (fun _=>(pv 0))) aD)) (cI _))))))))),by unfold lQ;walk_at "rf"⟩
theorem U4 (T:Txt K mg) (D:Dx K mg "law" DU ["_law_script"]) (G_law_hand:oA P w K mg base) (G_law_take:fW P w K mg base) (G_law_letters:nA P w K mg base) (G_law_names:qY P w K mg base) (G_law_pack:sG P w K mg base) (G_law_marks:qZ P w K mg base) (G_law_right:qV P w K mg base):ZR P w K mg base:=cW D (N:=["_law_script","_law_hand_here","_law_m","_law_many","_law_letters_here","_law_names_here","_law_pack_here","_law_marks_here"]) ⟨rfl,rfl,rfl,by decide+kernel,rfl,by decide+kernel,by decide+kernel⟩ rfl rfl fun S f cdv A outer s H E hr=>
 ⟨_,(aE (aU (i:=1) S.nd rfl (Or.inl rfl) (a8 G_law_hand hr (by decide) rfl (aA (pv 0) (aA aG aD))))
   (aE (aU (i:=2) S.nd rfl (Or.inl rfl) (bM (l5 K) aG (a8 G_law_take hr (by decide) rfl (aA (pv 1) (aA (bA (eK K hr) (eX (aA aG (aA aG (aA aG aD)))) (a8 G_law_take hr (by decide) rfl (aA (pv 1) (aA aG aD))) (fun _ _=>rfl)) aD)))))
   (aE (aU (i:=3) S.nd rfl (Or.inl rfl) (a8 G_law_take hr (by decide) rfl (aA (pv 1) (aA aG aD))))
   (aE (aU (i:=4) S.nd rfl (Or.inl rfl) (a8 G_law_letters hr (by decide) rfl (aA (pv 0) (aA (pv 1) (aA (pv 2) aD)))))
   (aE (aU (i:=5) S.nd rfl (Or.inl rfl) (a8 G_law_names hr (by decide) rfl (aA (pv 1) (aA (pv 2) aD))))
   (aE (aU (i:=6) S.nd rfl (Or.inl rfl) (a8 G_law_pack hr (by decide) rfl (aA (pv 4) (aA (pv 5) aD))))
   (aE (aU (i:=7) S.nd rfl (Or.inl rfl) (a8 G_law_marks hr (by decide) rfl (aA (pv 1) (aA (pv 5) (aA (pv 3) aD)))))
   (aJ (bP (CI (a8 G_law_right hr (by decide) rfl (aA (pv 6) (aA (pv 7) aD))) (CI (a8 G_law_right hr (by decide) rfl (aA (pv 6) (aA (cB aD) aD))) (CI (a8 G_law_right hr (by decide) rfl (aA (iC (X0 K) (pv 6) (kJ aG) kG) (aA (pv 7) aD))) (TC (a8 G_law_right hr (by decide) rfl (aA (pv 6) (aA (pv 7) aD)))))))))))))))),by unfold JB;walk_at "rf"⟩
end
namespace Rg
variable {α:Type}
noncomputable def cY (up:α->Option α):Nat->α->Option α
 |0,x=>some x
 |n+1,x=>(up x).bind (cY up n)
noncomputable def BQ (up:α->Option α) (x:α):Prop:=∃n,cY up (n+1) x=some x
noncomputable def Path (up:α->Option α):List α->Option α->Prop
 |[],_=>True
 |[x],e=>up x=e
 |x::y::l,e=>up x=some y/\Path up (y::l) e
structure Ring (up:α->Option α) (l:List α):Prop where
 ne:l≠[]
 nd:l.Nodup
 path:Path up l l.head?
noncomputable def xV (up:α->Option α) (T:α->Prop):Prop:=∀x y,T x->up x=some y->T y
variable {up:α->Option α}
theorem gT:∀(m n:Nat) (x:α),cY up (m+n) x=(cY up m x).bind (cY up n)
 |0,n,x=>by rw[zero_add];rfl
 |m+1,n,x=>by
  rw[Nat.add_right_comm]
  show(up x).bind (cY up (m+n))=((up x).bind (cY up m)).bind (cY up n)
  cases up x with
  |none=>rfl
  |some y=>exact gT m n y
theorem xV.walk {T:α->Prop} (h:xV up T):∀(n:Nat) {x y:α},T x->cY up n x=some y->T y
 |0,_,_,hx,e=>by cases e;exact hx
 |n+1,x,y,hx,e=>by
  cases c:up x with
  |none=>rw[cY,c]at e;cases e
  |some z=>rw[cY,c]at e;exact h.walk n (h x z hx c) e
theorem D0 {x:α} (h:cY up n x=some x):∀k,cY up (k*n) x=some x
 |0=>by rw[Nat.zero_mul];rfl
 |k+1=>by rw[Nat.succ_mul,gT,D0 h k];exact h
theorem BQ.back {x:α} (h:BQ up x) (m:Nat):∃y j,cY up m x=some y/\cY up j y=some x:=by
 obtain⟨n,h⟩:=h
 have k:=D0 h m
 have e:m*(n+1)=m+m*n:=by rw[Nat.mul_succ,Nat.add_comm]
 rw[e,gT]at k
 cases c:cY up m x with
 |none=>rw[c]at k;cases k
 |some y=>rw[c]at k;exact⟨y,_,rfl,k⟩
theorem Path.BK:∀{l:List α} {e:Option α} {i:Nat} {x:α},Path up l e->l[i]? =some x->cY up (l.length - i) x=e
 |[],_,_,_,_,h=>by simp at h
 |[a],e,0,x,p,h=>by
  cases h
  show(up a).bind (cY up 0)=e
  rw[show up a=e from p]
  cases e<;>rfl
 |[a],e,i+1,x,p,h=>by simp at h
 |a::b::l,e,0,x,p,h=>by
  cases h
  show(up a).bind (cY up (b::l).length)=e
  rw[p.1]
  exact Path.BK (l:=b::l) (i:=0) p.2 rfl
 |a::b::l,e,i+1,x,p,h=>by
  have:=Path.BK (l:=b::l) (i:=i) p.2 (by simpa using h)
  simpa using this
theorem Path.drop:∀{l:List α} {e:Option α} (n:Nat),Path up l e->Path up (l.drop n) e
 |_,_,0,p=>p
 |[],_,_+1,p=>p
 |[a],_,n+1,p=>by simp[Path]
 |a::b::l,e,n+1,p=>by
  rw[List.drop_succ_cons]
  exact Path.drop n p.2
theorem Path.snoc:∀{l:List α} {x:α} {e:Option α},Path up l (some x)->up x=e->Path up (l++[x]) e
 |[],x,e,_,h=>h
 |[a],x,e,p,h=>⟨p,h⟩
 |a::b::l,x,e,p,h=>⟨p.1,Path.snoc (l:=b::l) p.2 h⟩
theorem Path.step:∀{l:List α} {e:Option α} {x:α},Path up l e->x∈l->(∃y∈l,up x=some y)\/ up x=e
 |[],_,_,_,h=>by simp at h
 |[a],e,x,p,h=>by
  rw[mem_singleton.mp h]
  exact .inr p
 | a::b::l,e,x,p,h=>by
  rcases mem_cons.mp h with rfl|h
  ·exact .inl ⟨b,by simp,p.1⟩
  ·rcases Path.step (l:=b::l) p.2 h with⟨y,hy,e⟩|e
   ·exact .inl ⟨y,mem_cons_of_mem _ hy,e⟩
   ·exact .inr e
theorem Path.no {l:List α} {e:Option α} {x:α} (p:Path up l e) (hx:x∈l) (h:∀y,e=some y->∀j,cY up j y≠some x):¬BQ up x:=fun c=>by
 obtain⟨i,hi⟩:=getElem?_of_mem hx
 obtain⟨y,j,h1,h2⟩:=c.back (l.length - i)
 rw[p.BK hi]at h1
 exact h y h1 j h2
theorem Ring.closed {l:List α} (r:Ring up l):xV up fun x=>x∈l:=fun x y hx e=>by
 rcases r.path.step hx with⟨z,hz,e'⟩|e'
 ·rw[e]at e';cases e';exact hz
 ·rw[e]at e'
  cases l with
  |nil=>exact absurd rfl r.ne
  |cons a l=>cases e';simp
theorem Ring.turn {l:List α} (r:Ring up l) {x:α} (hx:x∈l):cY up l.length x=some x:=by
 cases l with
 |nil=>exact absurd rfl r.ne
 | cons a l=>
  obtain⟨i,hi⟩:=getElem?_of_mem hx
  have hl:i<(a::l).length:=(List.getElem?_eq_some_iff.mp hi).1
  have h1:=r.path.BK hi
  have h0:=r.path.BK (l:=a::l) (i:=0) (x:=a) rfl
  have ha:∀j,j<=(a::l).length->∀z,(a::l)[j]? =some z->cY up j a=some z:=by
   intro j
   induction j with
   |zero=>intro _ z hz;cases hz;rfl
   |succ j ih=>
    intro hj z hz
    have hj':j<(a::l).length:=by omega
    have e1:=ih (by omega) _ (getElem?_eq_getElem hj')
    rw[gT j 1,e1]
    have e2:=r.path.BK (getElem?_eq_getElem hj')
    have e3:=r.path.BK hz
    have hlt:j+1<(a::l).length:=(List.getElem?_eq_some_iff.mp hz).1
    have:Path up ((a::l).drop j) (a::l).head?:=r.path.drop j
    rw[drop_eq_getElem_cons hj',drop_eq_getElem_cons hlt]at this
    show(up _).bind (cY up 0)=_
    rw[this.1]
    rw[getElem?_eq_getElem hlt]at hz
    cases hz
    rfl
  have e2:=ha i (by omega) x hi
  have e3:cY up ((a::l).length - i+i) x=some x:=by
   rw[gT,h1]
   exact e2
  have:(a::l).length - i+i=(a::l).length:=by omega
  rw[this]at e3
  exact e3
theorem Ring.BQ {l:List α} (r:Ring up l) {x:α} (hx:x∈l):BQ up x:=by
 refine⟨l.length - 1,?_⟩
 have:0<l.length:=length_pos_of_mem hx
 rw[show l.length - 1+1=l.length by omega]
 exact r.turn hx
structure Found (up:α->Option α) (S:List α) (F:List (List α)):Prop where
 cl:xV up fun x=>x∈S
 ring:∀R∈F,Ring up R
 sub:∀R∈F,∀x∈R,x∈S
 nd:F.flatten.Nodup
 all:∀x∈S,BQ up x->x∈F.flatten
theorem Found.nil:Found up [] []:=⟨fun x y h=>by simp at h,by simp,by simp,by simp,by simp⟩
theorem Found.out {S:List α} {F:List (List α)} {l:List α} {e:Option α} (f:Found up S F) (p:Path up l e) (hd:∀x∈l,x∉S) (h:∀y,e=some y->y∈S):Found up (S++l) F where
 cl:=fun x y hx u=>by
  rcases mem_append.mp hx with hx|hx
  ·exact mem_append_left _ (f.cl x y hx u)
  ·rcases p.step hx with⟨z,hz,e'⟩|e'
   ·rw[u]at e';cases e';exact mem_append_right _ hz
   ·rw[u]at e';exact mem_append_left _ (h y e'.symm)
 ring:=f.ring
 sub:=fun R hR x hx=>mem_append_left _ (f.sub R hR x hx)
 nd:=f.nd
 all:=fun x hx c=>by
  rcases mem_append.mp hx with hx|hx
  ·exact f.all x hx c
  ·exact absurd c (p.no hx fun y ey j ej=>hd x hx (f.cl.walk j (h y ey) ej))
theorem Found.Z7 {S:List α} {F:List (List α)} {p r:List α} (f:Found up S F) (hr:r≠[]) (hp:Path up (p++r) r.head?) (nd:(p++r).Nodup) (hd:∀x∈p++r,x∉S):Found up (S++(p++r)) (F++[r]):=by
 obtain⟨nd1,nd2,nd3⟩:=nodup_append.mp nd
 have R:Ring up r:=⟨hr,nd2,by have:=hp.drop p.length;rwa[List.drop_left]at this⟩
 refine⟨fun x y hx u=>?_,fun Q hQ=>?_,fun Q hQ x hx=>?_,?_,fun x hx c=>?_⟩
 ·rcases mem_append.mp hx with hx|hx
  ·exact mem_append_left _ (f.cl x y hx u)
  ·rcases hp.step hx with⟨z,hz,e'⟩|e'
   ·rw[u]at e';cases e';exact mem_append_right _ hz
   ·rw[u]at e'
    cases r with
    |nil=>exact absurd rfl hr
    |cons a r=>cases e';exact mem_append_right _ (mem_append_right _ (by simp))
 ·rcases mem_append.mp hQ with h|h
  ·exact f.ring Q h
  ·rw[mem_singleton.mp h];exact R
 ·rcases mem_append.mp hQ with h|h
  ·exact mem_append_left _ (f.sub Q h x hx)
  ·rw[mem_singleton.mp h]at hx
   exact mem_append_right _ (mem_append_right _ hx)
 ·rw[flatten_append]
  refine nodup_append.mpr ⟨f.nd,by simpa using nd2,fun x hx y hy e=>?_⟩
  subst e
  obtain⟨Q,hQ,hx⟩:=mem_flatten.mp hx
  exact hd x (mem_append_right _ (by simpa using hy)) (f.sub Q hQ x hx)
 ·rw[flatten_append]
  rcases mem_append.mp hx with hx|hx
  ·exact mem_append_left _ (f.all x hx c)
  ·rcases mem_append.mp hx with hx|hx
   ·refine absurd c (Path.no (l:=p++r) hp (mem_append_left _ hx) fun y ey j ej=>?_)
    have hy:y∈r:=by
     cases r with
     |nil=>cases ey
     |cons a r=>cases ey;simp
    exact nd3 x hx x (R.closed.walk j hy ej) rfl
   ·exact mem_append_right _ (by simpa using hx)
end Rg
namespace Rg
variable {α:Type} {up:α->Option α}
theorem sub_len [DecidableEq α]:∀{l m:List α},l.Nodup->(∀x∈l,x∈m)->l.length<=m.length
 |[],m,_,_=>zero_le _
 |x::l,m,hn,h=>by
  have hx:=h x mem_cons_self
  obtain⟨h1,h2⟩:=nodup_cons.mp hn
  have:=sub_len (l:=l) (m:=m.erase x) h2 fun y hy=>(List.mem_erase_of_ne (fun(e:y=x)=>h1 (by rw[<-e];exact hy))).mpr (h y (mem_cons_of_mem _ hy))
  rw[List.length_erase_of_mem hx]at this
  have h0:0<m.length:=length_pos_of_mem hx
  rw[length_cons]
  omega
theorem lW {y x:α} (h:cY up j y=some x):∀i,i<=j->∃z,cY up i y=some z/\cY up (j - i) z=some x:=fun i hi=>by
 have e:j=i+(j - i):=by omega
 rw[e,gT]at h
 cases c:cY up i y with
 |none=>rw[c]at h;cases h
 |some z=>rw[c]at h;exact⟨z,rfl,h⟩
theorem OH {K:List α} (hK:∀z w,up z=some w->z∈K) {y x:α} (h:cY up j y=some x) {i:Nat} (hi:i<j) {z:α} (hz:cY up i y=some z):z∈K:=by
 obtain⟨z',h1,h2⟩:=lW h i (by omega)
 rw[hz]at h1
 cases h1
 rw[show j - i=(j - i - 1)+1 by omega,cY]at h2
 cases c:up z with
 |none=>rw[c]at h2;cases h2
 |some w=>exact hK z w c
theorem zN [DecidableEq α] {K:List α} (hK:∀z w,up z=some w->z∈K) {y x:α}:∀(j:Nat),cY up j y=some x->∃i,i<=K.length/\cY up i y=some x:=by
 intro j
 induction j using Nat.strongRecOn with
 | _ j ih=>
  intro h
  by_cases hj:j<=K.length
  ·exact⟨j,hj,h⟩
  ·have hex:∃a b,a<b/\b<j/\cY up a y=cY up b y:=by
    apply Classical.byContradiction
    intro hno
    have nd:((List.range j).map fun i=>(cY up i y).getD y).Nodup:=by
     unfold List.Nodup
     rw[pairwise_iff_getElem]
     intro a b ha hb hab e
     rw[length_map,length_range]at ha hb
     rw[getElem_map,getElem_map,getElem_range,getElem_range]at e
     obtain⟨za,h1,_⟩:=lW h a (by omega)
     obtain⟨zb,h2,_⟩:=lW h b (by omega)
     rw[h1,h2]at e
     exact hno ⟨a,b,hab,hb,by rw[h1,h2];exact congrArg some e⟩
    have:=sub_len nd (m:=K) fun z hz=>by
     obtain⟨i,hi,rfl⟩:=mem_map.mp hz
     have hi:=mem_range.mp hi
     obtain⟨zi,h1,_⟩:=lW h i (by omega)
     rw[h1]
     exact OH hK h hi h1
    rw[length_map,length_range]at this
    omega
   obtain⟨a,b,hab,hb,e⟩:=hex
   obtain⟨zb,h1,h2⟩:=lW h b (by omega)
   refine ih (a+(j - b)) (by omega) ?_
   rw[gT,e,h1]
   exact h2
theorem AJ {up':α->Option α} {x:α} (hs:∀z,z≠x->up' z=up z) {y:α}:∀(j:Nat) {w:α},(∀i,i<j->cY up' i y≠some x)->cY up' j y=some w->cY up j y=some w:=by
 intro j
 induction j with
 |zero=>intro w _ h;exact h
 | succ j ih=>
  intro w hn h
  obtain⟨z,h1,h2⟩:=lW h j (by omega)
  have hz:=ih (fun i hi=>hn i (by omega)) h1
  have hzx:z≠x:=fun e=>hn j (by omega) (by rw[h1,e])
  rw[show j+1 - j=1 by omega]at h2
  rw[gT j 1,hz]
  show cY up 1 z=some w
  have e2:cY up' 1 z=cY up 1 z:=by
   show(up' z).bind (cY up' 0)=(up z).bind (cY up 0)
   rw[hs z hzx]
   cases up z<;>rfl
  rw[<-e2]
  exact h2
theorem LO {up':α->Option α} {x:α} (hs:∀z,z≠x->up' z=up z) (hx:up x=none) (hno:∀y,¬BQ up y) (o:Option α) (ho:up' x=o) (hr:∀y,o=some y->∀j,cY up j y≠some x):∀y,¬BQ up' y:=by
 have hxn:¬BQ up' x:=fun⟨n,h⟩=>by
  rw[cY,ho]at h
  cases o with
  |none=>cases h
  | some y=>
   have h:cY up' n y=some x:=h
   have hex:∃m,cY up' m y=some x/\∀i,i<m->cY up' i y≠some x:=by
    clear hr ho
    induction n using Nat.strongRecOn with
    | _ n ih=>
     by_cases hc:∃i,i<n/\cY up' i y=some x
     ·obtain⟨i,hi,e⟩:=hc
      exact ih i hi e e
     ·exact⟨n,h,fun i hi e=>hc ⟨i,hi,e⟩⟩
   obtain⟨m,h1,h2⟩:=hex
   exact hr y rfl m (AJ hs m h2 h1)
 intro y hc
 by_cases hp:∃i,cY up' i y=some x
 ·obtain⟨i,hi⟩:=hp
  obtain⟨z,j,h1,h2⟩:=hc.back i
  rw[hi]at h1
  cases h1
  refine hxn ?_
  obtain⟨n,hn⟩:=hc
  have h3:cY up' (j+(n+1)+i) x=some x:=by
   rw[gT,gT,h2]
   show((cY up' (n+1) y).bind (cY up' i))=some x
   rw[hn]
   exact hi
  exact⟨j+n+i,by rw[show j+n+i+1=j+(n+1)+i by omega];exact h3⟩
 ·obtain⟨n,hn⟩:=hc
  exact hno y ⟨n,AJ hs (n+1) (fun i _ e=>hp ⟨i,e⟩) hn⟩
end Rg
namespace Rg
variable {α:Type} {up up':α->Option α}
inductive F2 {α β:Type} (R:α->β->Prop):List α->List β->Prop
 |nil:F2 R [] []
 |cons {a:α} {b:β} {l:List α} {m:List β}:R a b->F2 R l m->F2 R (a::l) (b::m)
theorem Path.app:∀{A B:List α} {e:Option α},B≠[]->(Path up (A++B) e↔Path up A B.head?/\Path up B e)
 |[],B,e,h=>⟨fun p=>⟨trivial,p⟩,fun p=>p.2⟩
 |[a],b::B,e,h=>⟨fun p=>⟨p.1,p.2⟩,fun p=>⟨p.1,p.2⟩⟩
 | a::c::A,B,e,h=>by
  have ih:=Path.app (A:=c::A) (B:=B) (e:=e) h
  constructor
  ·intro p
   obtain⟨h1,h2⟩:=ih.mp p.2
   exact⟨⟨p.1,h1⟩,h2⟩
  ·intro p
   exact⟨p.1.1,ih.mpr ⟨p.1.2,p.2⟩⟩
theorem Path.congr:∀{l:List α} {e:Option α},Path up l e->(∀x∈l,up x=up' x)->Path up' l e
 |[],_,_,_=>trivial
 |[a],e,p,h=>by
  show up' a=e
  rw[<-h a (by simp)]
  exact p
 |a::b::l,e,p,h=>⟨by rw[<-h a (by simp)];exact p.1,Path.congr (l:=b::l) p.2 fun x hx=>h x (mem_cons_of_mem _ hx)⟩
theorem Ring.congr {l:List α} (r:Ring up l) (h:∀x∈l,up x=up' x):Ring up' l:=⟨r.ne,r.nd,r.path.congr h⟩
theorem tK {A B:List α} (h:A≠[]):(A++B).head? =A.head?:=by
 cases A with
 |nil=>exact absurd rfl h
 |cons a A=>rfl
theorem Ring.rot {l:List α} (r:Ring up l) (i:Nat) (hi:i<l.length):Ring up (l.drop i++l.take i):=by
 have hB:l.drop i≠[]:=fun e=>by have:=congrArg List.length e;rw[length_drop,length_nil]at this;omega
 refine⟨fun e=>hB (List.append_eq_nil_iff.mp e).1,?_,?_⟩
 ·exact(List.perm_append_comm.nodup_iff.trans (by rw[take_append_drop])).mpr r.nd
 ·by_cases hA:l.take i=[]
  ·have e:=take_append_drop i l
   rw[hA,nil_append]at e
   rw[hA,append_nil,e]
   exact r.path
  ·have h:=r.path
   rw[<-take_append_drop i l]at h
   have h:=(Path.app hB).mp h
   rw[tK hA]at h
   rw[tK hB]
   exact(Path.app hA).mpr ⟨h.2,h.1⟩
theorem tL (l:List α) (i:Nat):(l.drop i++l.take i).Perm l:=List.perm_append_comm.trans (by rw[take_append_drop])
theorem Ring.prev {l:List α} (r:Ring up l) {x:α} (h:l[i]? =some x):∃w,(if i=0 then l.getLast? else l[i - 1]?)=some w/\up w=some x:=by
 have hl:=(List.getElem?_eq_some_iff.mp h).1
 by_cases h0:i=0
 ·subst h0
  rw[if_pos rfl]
  have hne:=r.ne
  refine⟨l.getLast hne,List.getLast?_eq_getLast hne,?_⟩
  have h1:l[l.length - 1]? =some (l.getLast hne):=by rw[List.getLast_eq_getElem];exact getElem?_eq_getElem _
  have:=r.path.BK h1
  rw[show l.length - (l.length - 1)=1 by omega,List.head?_eq_getElem?,h]at this
  have e:cY up 1 (l.getLast hne)=up (l.getLast hne):=by
   show(up _).bind (cY up 0)=_
   cases up (l.getLast hne)<;>rfl
  rw[<-e];exact this
 ·rw[if_neg h0]
  have hp:i - 1<l.length:=by omega
  refine⟨l[i - 1],getElem?_eq_getElem hp,?_⟩
  have hd:=r.path.drop (i - 1)
  rw[drop_eq_getElem_cons hp,show i - 1+1=i by omega,drop_eq_getElem_cons hl]at hd
  rw[hd.1]
  rw[getElem?_eq_getElem hl]at h
  exact h
theorem Ring.two {l:List α} (r:Ring up l) (h:∀x,up x≠some x):2<=l.length:=by
 match l,r with
 |[],r=>exact absurd rfl r.ne
 |[a],r=>exact absurd r.path (h a)
 |_::_::_,_=>simp
end Rg
section
open PySem L2 Mr
theorem OY {f:FE} {st:Nat->Bool}:wF f st e=bO (wD f st e) fun z=>some (z.1.map fun kv=>tQ kv.1,z.2):=rfl
theorem LG {f:FE} {st:Nat->Bool}:CK f st e=bO (wD f st e) fun z=>some (bD z.1,z.2):=rfl
theorem G4 {fa fb:FE}:oX fa fb e=bE (fa e) fun x e1=>bO (x.weak.get e1) fun p1=>match p1 with
 | .lst _=>bE (fb e1) fun y e2=>bO (x.weak.get e2) fun p=>bO (y.weak.get e2) fun q=>bO (mT p [q]) fun b=>some (b,e2)
 |_=>none:=rfl
end
local macro_rules | `(tactic| walk_at "wp") => `(tactic| simp only [VO, jW, jN, bU, pL, dC, wp_seq, wp_call, MB, N5, ab7, acP, OV, V9, ac6, ZX, aa7, S4, N4, ZP, ZZ, UP, UJ, VM, QE, W5, ZM, WG, QB, P9, U0, Q8, ZG, HC, RK, Z0, NZ, JO, QQ, VX, O4, OX, Y0, XB, OK, WZ, V6, MY, PC, ME, QU, K9, O3, T4, TQ, ZF, UZ, WY, VH, O9, MZ, XD, OC, BP, rA, wQ, mZ, B4, List.replicate, cons_append, nil_append, rel, gP, putL, getL, HS, CT, bY, nU, Mr.resB, nH, nX, yL, x6, Bv.weak, Bv.get, Bv.put, rd, Sl.pv, ownAt, bZ, U8, ZU, qT, ac1, adC, acA, acX, ab8, ac2, acY, abX, ab1, abO, at0, at1, at2, at3, dG, Mr.uM, qC, ZY, VT, L9, mW, rH, QM, iM, NH, JQ, KN, gI, R0, E4, UD, vN, XR, VC, gLt, gLe, YT, gGe, EF, IL, isNone, KD, pS, nK, sS, acN, aaN, DV, AG, zG, y6, kdOf, IP, XF, TZ, RO, Z6, WB, PU, Y3, Q0, PJ, acL, UI, gO, W2, WD, U7, WX, W3, X8, VJ, WR, YH, VW, TY, WW, TR, VN, VF, S1, VQ, YA, UH, X2, WI, wK, XC, YG, W4, VU, WE, S3, XH, V0, TN, V8, TF, U1, TX, YF, N8, QN, OF, NX, B9, List.getElem?_cons_zero, List.getElem?_cons_succ, List.set_cons_zero, List.set_cons_succ, List.zipIdx_cons, List.zipIdx_nil, map_cons, map_nil, all_nil, all_cons, List.contains_nil, List.contains_cons, List.any_nil, any_cons, nodup_cons, nodup_nil, not_mem_nil, mem_cons, not_false_eq_true, and_true, true_and, decide_true, decide_false, Bool.and_self, Bool.and_true, Bool.true_and, Bool.not_true, Bool.not_false, if_true, if_false, ite_true, ite_false, Option.or_some, none_or, Option.some_or, or_none, decide_eq_true_eq, decide_eq_false_iff_not, and_eq_true, reduceCtorEq, false_eq_true, length_cons, length_nil, Nat.reduceAdd, Nat.reduceLT, Int.reduceLT, Int.reduceLE, PV.int.injEq, PV.str.injEq, PV.bl.injEq, Option.some.injEq, M6, beq_self_eq_true, Bool.or_false, Bool.or_true, Bool.true_or, Bool.false_or, Bool.false_and, Bool.and_false, Nat.reduceBEq, length_map, length_range, Int.reduceToNat, and_self, true_implies, forall_const, Int.reduceAdd, Int.reduceNeg, KJ, IJ, DL, qL, S7, keyOf, IG, getD_none, Option.getD_some, QC, N7, K3, AZ, QH, J8, EU, E1, X9, vW, OO, O8, Z9, P6, RE, aaW, XE, Y4, T9, T6, P8, MV, GS, mT, ab6, ZD, PH, OY, wD, A6, LG, G4, mT, xP])
section
open PySem L2 Mr
noncomputable abbrev hd (a b c:Int):PV:=.lst [.int a,.int b,.int c]
structure Hand (a b c:Int) (n:Nat):Prop where
 a0:0<=a
 b0:0<=b
 b1:b<2305843009213693921
 c0:0<=c
 c1:c<=n
theorem Hand.mono {m:Nat} (h:Hand a b c n) (l:n<=m):Hand a b c m:=⟨h.a0,h.b0,h.b1,h.c0,by have:=h.c1;omega⟩
theorem N2 {i j:Int} (h0:0<=i) (h1:i<18446744073709551616):vF i j=true:=decide_eq_true (.inl ⟨by omega,h1⟩)
theorem mulR {i j:Int} (h0:0<=j) (h1:j<18446744073709551616):vF i j=true:=decide_eq_true (.inr ⟨by omega,h1⟩)
theorem cV (h:Hand a b c n) (hn:n<1000000) (m0:0<m) (m1:m<1073741824) (q:∀d a' b' c',0<=d->d<m->Hand a' b' c' (n+1)->Q (.int d,[hd a' b' c'])):Wp (aQ [hd a b c,.int m]) Q:=by
 unfold aQ n6
 have a0:=h.a0
 have b0:=h.b0
 have b1:=h.b1
 have c0:=h.c0
 have c1:=h.c1
 walk_at "wp"
 refine⟨fun ha=>⟨m0,⟨m0,by omega⟩,q _ _ _ _ (emod_nonneg _ (by omega)) (emod_lt_of_pos _ m0) ⟨Int.ediv_nonneg a0 (by omega),b0,b1,c0,by omega⟩⟩,fun ha=>⟨N2 (by decide) (by decide),mulR (by omega) (by omega),mulR (by decide) (by decide),N2 (by decide) (by decide),N2 (emod_nonneg _ (by decide)) ?_,m0,q _ _ _ _ (emod_nonneg _ (by omega)) (emod_lt_of_pos _ m0) ⟨a0,b0,b1,by omega,by omega⟩⟩⟩
 have:=emod_lt_of_pos ((b+65537*(c+1)*(c+1)+11)*48271) (show(0:Int)<2305843009213693921 by decide)
 omega
theorem fJ {Q:PV->Prop} (h0:0<=k) (h1:k<(xs.length:Int)) (q:∀x∈xs,Q x):Wp (nF xs k) Q:=by
 obtain⟨c,hc,e⟩:=QJ h0 h1
 exact⟨c,e,q c hc⟩
noncomputable def kN:FS:=(aV (bX 3 (SD (bK (bC gGe (aC 2) (bC rH (fC (.int 10)) (fC (.int 18))))) (bC mW (aC 2) (bC qL (bC qL (bC qL (bC rH (fC (.int 10)) (fC (.int 60))) (bC rH (fC (.int 10)) (fC (.int 60)))) (bC rH (fC (.int 10)) (fC (.int 60)))) (bC rH (fC (.int 10)) (fC (.int 60))))) (fC (.int 0))))
  (cX (gY (aB (aC 3) (aB (bC mW (bC qC (bC iM (bC iM (bC mW (aC 2) (fC (.int 2305843009213693951))) (bC qC (bC qC (fC (.int 7919)) (aC 1)) (aC 1))) (fC (.int 3))) (fC (.int 48271))) (fC (.int 2305843009213693921))) (aB (fC (.int 0)) aM))))))
theorem w4:oB=(aV (bX 2 (SD (bK (bC gLt (aC 1) (kA pS (aB (aC 0) aM)))) (bC dG (aC 0) (aC 1)) (fC (.int 0))))
  kN):=rfl
theorem vH {x:Int} {v0 v3:Option Sl} {Q:Out->Prop} (k0:0<=k) (k1:k<1000) (q:∀a b v0 v1 v2 v3,Hand a b 0 0->Q (.rt (.new (hd a b 0)) [v0,v1,v2,v3])):Wp (kN [v0,some (.val (.int k)),some (.val (.int x)),v3]) Q:=by
 unfold kN
 walk_at "wp"
 have r0:0<=x % 2305843009213693951:=emod_nonneg _ (by decide)
 have r1:x % 2305843009213693951<2305843009213693951:=emod_lt_of_pos _ (by decide)
 have kk:0<=7919*k*k:=Int.mul_nonneg (by omega) k0
 have m1:vF 7919 k=true:=N2 (by decide) (by decide)
 have m2:vF (7919*k) k=true:=mulR k0 (by omega)
 have m3:vF (x % 2305843009213693951+7919*k*k+3) 48271=true:=mulR (by decide) (by decide)
 have b0:0<=(x % 2305843009213693951+7919*k*k+3)*48271 % 2305843009213693921:=emod_nonneg _ (by decide)
 have b1:(x % 2305843009213693951+7919*k*k+3)*48271 % 2305843009213693921<2305843009213693921:=emod_lt_of_pos _ (by decide)
 refine⟨by decide+kernel,fun hx=>⟨by decide+kernel,by decide+kernel,by decide+kernel,by decide+kernel,by decide+kernel,by decide+kernel,by decide+kernel,by decide+kernel,m1,m2,m3,q _ _ _ _ _ _ ⟨emod_nonneg _ (by decide+kernel),b0,b1,by decide,by decide⟩⟩,fun hx=>⟨m1,m2,m3,q _ _ _ _ _ _ ⟨by decide,b0,b1,by decide,by decide⟩⟩⟩
theorem E7 {ns:List Int} (k0:0<=k) (k1:k<1000) (hn:ns.length<=63) (q:∀a b,Hand a b 0 0->Q (hd a b 0,[])):Wp (gF [.lst (ns.map PV.int),.int k]) Q:=by
 unfold gF
 rw[w4]
 walk_at "wp"
 refine⟨fun g=>?_,fun g=>?_⟩
 ·refine fJ k0 (by rw[length_map];exact g) fun p hp=>?_
  obtain⟨c,_,rfl⟩:=mem_map.mp hp
  walk_at "wp"
  refine vH k0 k1 fun a b v0 v1 v2 v3 h=>?_
  walk_at "wp"
  exact q a b h
 ·refine vH k0 k1 fun a b v0 v1 v2 v3 h=>?_
  walk_at "wp"
  exact q a b h
end
section
open PySem L2 Mr
noncomputable def sg:Str:="abcdefghijklmnopqrstuvwxyz0123456789"
theorem atS {Z:Str} {Q:Nat->Prop} (h0:0<=d) (h:d<(Z.length:Int)) (q:∀c∈Z.cps.toList,Q c):Wp (nF Z.cps.toList d) Q:=by
 obtain⟨c,hc,e⟩:=ND h0 h
 exact⟨c,e,q c hc⟩
theorem JJ {a b c:Int} {s:Option Sl} {Q:List PV×En->Prop} (hp:Hand a b c n) (hn:n+xs.length<1000000)
  (q:∀(zs:List Str) s' a' b' c',zs.length=xs.length->(∀z∈zs,∃k∈sg.cps.toList,z=⟨#[k]⟩)->Hand a' b' c' (n+xs.length)->Q (zs.map PV.str,[s',some (.own (hd a' b' c'))])):
  Wp (iX (aR 0) eR (bC dG (fC (.str "abcdefghijklmnopqrstuvwxyz0123456789")) (bF [.m,.b] false aQ (aB (aC 1) (aB (fC (.int 36)) aM)))) xs [s,some (.own (hd a b c))]) Q:=by
 refine fF (fun i acc e=>∃(zs:List Str) (s:Option Sl) (a b c:Int),acc=zs.map PV.str/\zs.length=i/\(∀z∈zs,∃k∈sg.cps.toList,z=⟨#[k]⟩)/\e=[s,some (.own (hd a b c))]/\Hand a b c (n+i)) ?_ ?_ ⟨[],s,a,b,c,rfl,rfl,fun _ h=>(nomatch h),rfl,hp⟩
 ·rintro i x e acc hx ⟨zs,s,a,b,c,rfl,hl',hz,rfl,hp⟩
  have hi:=(List.getElem?_eq_some_iff.mp hx).1
  walk_at "wp"
  refine cV hp (by omega) (by decide) (by decide) fun d a' b' c' d0 d1 hp'=>?_
  walk_at "wp"
  refine⟨by decide+kernel,?_⟩
  refine atS d0 (Int.lt_of_lt_of_le d1 (by decide+kernel)) fun k hk=>?_
  walk_at "wp"
  exact⟨zs++[⟨#[k]⟩],_,a',b',c',by rw[map_append];rfl,by rw[length_append,hl'];rfl,fun z hz'=>(mem_append.mp hz').elim (hz z) fun h=>⟨k,hk,mem_singleton.mp h⟩,rfl,hp'⟩
 ·rintro acc e ⟨zs,s,a,b,c,rfl,hl',hz,rfl,hp⟩
  exact q zs s a b c hl' hz hp
theorem RH {zs:List Str} (h:∀z∈zs,∃k∈sg.cps.toList,z=⟨#[k]⟩):(zs.map (·.length)).sum=zs.length:=by
 induction zs with
 |nil=>rfl
 |cons z zs ih=>
  obtain⟨k,_,rfl⟩:=h z mem_cons_self
  rw[map_cons,List.sum_cons,length_cons,ih fun w hw=>h w (mem_cons_of_mem _ hw)]
  show 1+_=_
  omega
theorem e0:(Str.ofString "").length=0:=by decide+kernel
theorem OQ {zs:List Str} {Q:Bv->Prop} (h:∀z∈zs,∃k∈sg.cps.toList,z=⟨#[k]⟩) (hs:zs.length<1000) (q:∀x:Str,x.length<=zs.length->Q (.val (.str x))):
  Wp (AX (.str (Str.ofString "")) [.lst (zs.map PV.str)]) Q:=by
 have l1:=RH h
 have l2:(Txt.join (Str.ofString "") zs).length<=(zs.map (·.length)).sum:=joined
 unfold AX
 simp only[mM,jN,bU,dC,decide_eq_true_eq,e0]
 exact⟨by omega,q _ (by omega)⟩
theorem eE [DecidableEq α]:∀{l m:List α},l.Nodup->(∀x∈l,x∈m)->l.length<=m.length
 |[],m,_,_=>zero_le _
 |x::l,m,hn,h=>by
  have hx:=h x mem_cons_self
  rw[nodup_cons]at hn
  have:=eE (l:=l) (m:=m.erase x) hn.2 fun y hy=>(List.mem_erase_of_ne (fun e:y=x=>hn.1 (by rw[<-e];exact hy))).mpr (h y (mem_cons_of_mem _ hy))
  rw[List.length_erase_of_mem hx]at this
  have:0<m.length:=length_pos_of_mem hx
  rw[length_cons]
  omega
noncomputable abbrev sN (k:Nat):Str:=toString (0+(k:Int))
theorem J5:((List.range 64).map sN).Nodup:=by decide+kernel
theorem OU (h:ss.length<63):∃k∈List.range (ss.length+1),sN k∉ss:=by
 refine Classical.byContradiction fun no=>?_
 have all:∀x∈(List.range (ss.length+1)).map sN,x∈ss:=fun x hx=>by
  obtain⟨k,hk,rfl⟩:=mem_map.mp hx
  exact Classical.byContradiction fun z=>no ⟨k,hk,z⟩
 have nd:((List.range (ss.length+1)).map sN).Nodup:=by
  have e:List.range (ss.length+1)=(List.range 64).take (ss.length+1):=by rw[List.take_range];congr 1;omega
  rw[e,map_take]
  exact J5.sublist (List.take_sublist _ _)
 have:=eE nd all
 rw[length_map,length_range]at this
 omega
theorem TM:∀k∈List.range 64,(sN k).length<=2:=by decide+kernel
end
section
open PySem L2 Mr
theorem wL:((ss.map PV.str).any fun z=>bJ z (PV.str x))=decide (x∈ss):=by
 rw[Bool.eq_iff_iff,any_eq_true,decide_eq_true_eq]
 constructor
 ·rintro⟨p,hp,e⟩
  obtain⟨y,hy,rfl⟩:=mem_map.mp hp
  rw[wK]at e
  rw[<-eq_of_beq e]
  exact hy
 ·intro h
  exact⟨.str x,mem_map.mpr ⟨x,h,rfl⟩,by rw[wK];exact beq_self_eq_true x⟩
theorem vK (h:j<64):(0+(j:Int)).natAbs.log2<1920:=by
 rw[Int.zero_add,Int.natAbs_natCast]
 exact Nat.lt_of_le_of_lt (Nat.log2_le_self j) (by omega)
theorem IH {a b c:Int} (h:Hand a b c n) (m0:0<=m) (m1:m<=60) (hn:n<100000)
  (q:∀(ss:List Str) a' b' c',(ss.length:Int)=m->(∀x∈ss,x.length<=12)->Hand a' b' c' (n+13*60)->Q (.lst (ss.map PV.str),[hd a' b' c'])):Wp (gZ [hd a b c,.int m]) Q:=by
 unfold gZ l7
 walk_at "wp"
 refine⟨gQ (by omega) (by omega),?_⟩
 refine cL (fun i e=>∃(ss:List Str) (a b c:Int) (v3 v4 v5:Option Sl),ss.length=i/\(∀x∈ss,x.length<=12)/\Hand a b c (n+13*i)/\e=[some (.own (hd a b c)),some (.val (.int m)),some (.loc (.lst (ss.map PV.str))),v3,v4,v5]) ?_ ?_ ⟨[],a,b,c,_,_,_,rfl,fun _ h=>(nomatch h),h,rfl⟩
 ·rintro i x e hx ⟨ss,a,b,c,v3,v4,v5,hl,hs,hp,rfl⟩
  rw[getElem?_map]at hx
  obtain⟨k,hk,rfl⟩:=map_eq_some_iff.mp hx
  have hi:=(List.getElem?_eq_some_iff.mp hk).1
  rw[length_range]at hi
  walk_at "wp"
  refine cV hp (by omega) (by decide) (by decide) fun d a1 b1 c1 d0 d1 hp=>?_
  walk_at "wp"
  refine fJ d0 d1 fun p hp'=>?_
  obtain⟨z,rfl,z0,z1⟩:∃z:Int,p= .int z/\1<=z/\z<=12:=by
   have r0:=emod_nonneg (0+(k:Int)) (show(12:Int)≠0 by decide)
   have r1:=emod_lt_of_pos (0+(k:Int)) (show(0:Int)<12 by decide)
   simp only[mem_cons,not_mem_nil,or_false]at hp'
   rcases hp' with rfl|rfl|rfl|rfl|rfl|rfl
   ·exact⟨_,rfl,by decide,by decide⟩
   ·exact⟨_,rfl,by decide,by decide⟩
   ·exact⟨_,rfl,by decide,by decide⟩
   ·exact⟨_,rfl,by decide,by decide⟩
   ·exact⟨_,rfl,by decide,by decide⟩
   ·exact⟨_,rfl,by omega,by omega⟩
  walk_at "wp"
  refine⟨gQ (by omega) (by omega),by omega,?_⟩
  refine JJ hp (by rw[length_map,length_range];omega) fun zs s' a2 b2 c2 zl hz hp=>?_
  rw[length_map,length_range]at zl hp
  walk_at "wp"
  refine OQ hz (by omega) fun x hx=>?_
  walk_at "wp"
  have ok8:(ss.map PV.str).all (gO 8)=true:=all_eq_true.mpr fun p hp=>by obtain⟨y,_,rfl⟩:=mem_map.mp hp;rfl
  have done:∀y:Str,y.length<=12->∃(ss':List Str) (a b c:Int) (v3 v4 v5:Option Sl),ss'.length=i+1/\(∀x∈ss',x.length<=12)/\Hand a b c (n+13*(i+1))/\[some (Sl.own (hd a2 b2 c2)),some (Sl.val (PV.int m)),some (Sl.loc (PV.lst (ss.map PV.str++[PV.str y]))),some (Sl.val (PV.int (0+(k:Int)))),some (Sl.val (PV.int z)),some (Sl.val (PV.str y))]=[some (.own (hd a b c)),some (.val (.int m)),some (.loc (.lst (ss'.map PV.str))),v3,v4,v5]:=fun y hy=>
   ⟨ss++[y],a2,b2,c2,_,_,_,by rw[length_append,hl];rfl,fun w hw=>(mem_append.mp hw).elim (hs w) fun e=>by rw[mem_singleton.mp e];exact hy,hp.mono (by omega),by rw[map_append];rfl⟩
  refine⟨ok8,fun g=>⟨gQ (by omega) (by omega),by omega,?_⟩,fun g=>⟨by omega,done x (by omega)⟩⟩
  rw[show((ss.length:Int)+1).toNat=ss.length+1 by omega]
  refine fF (fun j acc e=>acc=(((List.range j).filter fun k=>decide (sN k∉ss)).map fun k=>PV.str (sN k))/\∃s,e=[s,some (Sl.bor (PV.lst (ss.map PV.str)))]) ?_ ?_ ⟨rfl,_,rfl⟩
  ·rintro j y e acc hy ⟨rfl,s1,rfl⟩
   rw[getElem?_map]at hy
   obtain⟨k',hk',rfl⟩:=map_eq_some_iff.mp hy
   have hj:=(List.getElem?_eq_some_iff.mp hk').1
   have ej:=(List.getElem?_eq_some_iff.mp hk').2
   rw[length_range]at hj
   rw[getElem_range]at ej
   subst ej
   walk_at "wp"
   refine⟨vK (by omega),ok8,?_⟩
   rw[wL]
   have er:(List.range (j+1)).filter (fun k=>decide (sN k∉ss))=(List.range j).filter (fun k=>decide (sN k∉ss))++(if sN j∉ss then [j]else []):=by
    rw[List.range_succ,List.filter_append]
    congr 1
    by_cases hm:sN j∉ss
    ·rw[if_pos hm];simp[hm]
    ·rw[if_neg hm];simp at hm;simp[hm]
   by_cases hm:sN j∈ss
   ·rw[show decide (Str.ofString (toString (0+(j:Int)))∈ss)=true from decide_eq_true hm]
    refine⟨?_,_,rfl⟩
    rw[er,if_neg (fun z=>z hm),append_nil]
   ·rw[show decide (Str.ofString (toString (0+(j:Int)))∈ss)=false from decide_eq_false hm]
    refine⟨vK (by omega),?_,_,rfl⟩
    rw[er,if_pos hm,map_append]
    rfl
  ·rintro acc e ⟨rfl,s1,rfl⟩
   rw[length_map,length_range]
   obtain⟨k0,hk0,hf⟩:=OU (ss:=ss) (by omega)
   have hm:k0∈(List.range (ss.length+1)).filter fun k=>decide (sN k∉ss):=mem_filter.mpr ⟨hk0,decide_eq_true hf⟩
   have sub:∀k∈(List.range (ss.length+1)).filter fun k=>decide (sN k∉ss),(sN k).length<=12:=fun k hk=>by
    have:=mem_range.mp (mem_filter.mp hk).1
    have:=TM k (mem_range.mpr (by omega))
    omega
   cases ef:(List.range (ss.length+1)).filter fun k=>decide (sN k∉ss)with
   |nil=>rw[ef]at hm;cases hm
   |cons k1 r=>
    have:=sub k1 (by rw[ef];exact mem_cons_self)
    walk_at "wp"
    exact⟨by omega,done _ this⟩
 ·rintro e ⟨ss,a,b,c,v3,v4,v5,hl,hs,hp,rfl⟩
  walk_at "wp"
  rw[length_map,length_range]at hl
  rw[length_map,length_range]at hp
  exact q ss a b c (by omega) hs (hp.mono (by omega))
end
section
open PySem L2 Mr
structure C8 where
 at':Int
 day:Int
 head:Str
 row:List Int
noncomputable def QK (l:C8):PV:=.tup [.int l.at',.int l.day,.str l.head,.lst (l.row.map PV.int)]
structure XQ (m:Int) (l:C8):Prop where
 a0:0<=l.at'
 a1:l.at'<m
 r:∀x∈l.row,0<=x/\x<m
 n:l.row.length<=9
theorem OT {a b c:Int} {s:Option Sl} {Q:List PV×En->Prop} (hp:Hand a b c n) (m0:0<m) (m1:m<=64) (hn:n+xs.length<1000000)
  (q:∀(zs:List Int) s' a' b' c',zs.length=xs.length->(∀z∈zs,0<=z/\z<m)->Hand a' b' c' (n+xs.length)->Q (zs.map PV.int,[s',some (.own (hd a' b' c')),some (.val (.int m))])):
  Wp (iX (aR 0) eR (bF [.m,.b] false aQ (aB (aC 1) (aB (aC 2) aM))) xs [s,some (.own (hd a b c)),some (.val (.int m))]) Q:=by
 refine fF (fun i acc e=>∃(zs:List Int) (s:Option Sl) (a b c:Int),acc=zs.map PV.int/\zs.length=i/\(∀z∈zs,0<=z/\z<m)/\e=[s,some (.own (hd a b c)),some (.val (.int m))]/\Hand a b c (n+i)) ?_ ?_ ⟨[],s,a,b,c,rfl,rfl,fun _ h=>(nomatch h),rfl,hp⟩
 ·rintro i x e acc hx ⟨zs,s,a,b,c,rfl,hl',hz,rfl,hp⟩
  have hi:=(List.getElem?_eq_some_iff.mp hx).1
  walk_at "wp"
  refine cV hp (by omega) m0 (by omega) fun d a' b' c' d0 d1 hp'=>?_
  walk_at "wp"
  exact⟨zs++[d],_,a',b',c',by rw[map_append];rfl,by rw[length_append,hl'];rfl,fun z hz'=>(mem_append.mp hz').elim (hz z) fun h=>by rw[mem_singleton.mp h];exact⟨d0,d1⟩,rfl,hp'⟩
 ·rintro acc e ⟨zs,s,a,b,c,rfl,hl',hz,rfl,hp⟩
  exact q zs s a b c hl' hz hp
noncomputable def iO:FS:=(cX (eV (aB (aC 2) (aB (bC dG (gY (aB (aC 4) (aB (bC Mr.uM (fC (.int 99999999)) (aC 4)) aM))) (kA AG (aB (bC E4 (aC 3) (fC (.int 2))) aM))) (aB (bC dG (gY (aB (fC (.str "")) (aB (fC (.str "walls")) (aB (fC (.str "Re: walls")) aM)))) (bF [.m,.b] false aQ (aB (aC 0) (aB (fC (.int 3)) aM)))) (aB (aC 5) aM))))))
theorem tV:kS=(aV (bX 2 (bF [.m,.b] false aQ (aB (aC 0) (aB (aC 1) aM))))
  (aV (bX 3 (bF [.m,.b] false aQ (aB (aC 0) (aB (fC (.int 4)) aM))))
  (aV (bX 4 (bF [.m,.b] false aQ (aB (aC 0) (aB (bC dG (gY (aB (fC (.int 1)) (aB (fC (.int 3)) (aB (fC (.int 2)) (aB (fC (.int 100000000)) aM))))) (aC 3)) aM))))
  (aV (bX 5 (fN (qF (aB (bC dG (gY (aB (fC (.int 0)) (aB (fC (.int 1)) (aB (fC (.int 1)) (aB (fC (.int 2)) (aB (fC (.int 3)) (aB (fC (.int 9)) aM))))))) (bF [.m,.b] false aQ (aB (aC 0) (aB (fC (.int 6)) aM)))) aM)) 1 [0,1] [(0,1)] (aR 0) eR (bF [.m,.b] false aQ (aB (aC 1) (aB (aC 2) aM)))))
  (aV (rO (bK (bC E4 (bF [.m,.b] false aQ (aB (aC 0) (aB (fC (.int 4)) aM))) (fC (.int 0)))) (bX 5 (bC iM (IM KD (aC 5) fH (l4 (fC (.int 8)))) (gY (aB (bC mW (bC iM (aC 2) (fC (.int 1))) (aC 1)) aM)))) dA)
  iO))))):=rfl
theorem A8 (xs:List PV) (k:Nat):yE xs none (some (k:Int))=xs.take k:=by
 unfold yE
 rw[HT.zO,HT.EA,drop_zero,Nat.sub_zero]
 by_cases h:k<=xs.length
 ·rw[Nat.min_eq_left h]
 ·rw[Nat.min_eq_right (by omega),take_of_length_le (le_refl _),take_of_length_le (by omega)]
theorem mG (xs:List PV) (k:Nat):yE xs (some (k:Int)) none=xs.drop k:=by
 unfold yE
 rw[HT.zO,HT.EA]
 by_cases h:k<=xs.length
 ·rw[Nat.min_eq_left h,take_of_length_le (by rw[length_drop];exact le_refl _)]
 ·rw[Nat.min_eq_right (by omega),List.drop_of_length_le (le_refl _),List.drop_of_length_le (by omega),List.take_nil]
theorem acJ (zs:List Int):yE (zs.map PV.int) none (some 8)=(zs.take 8).map PV.int:=by
 have:=A8 (zs.map PV.int) 8
 rw[map_take]
 exact this
theorem qR {kind day:Int} {zs:List Int} {Q:Out->Prop} (h:Hand a b c n) (hn:n<100100) (a0:0<=at') (a1:at'<m) (hz:∀z∈zs,0<=z/\z<m) (zl:zs.length<=9)
  (q:∀l a' b' c' v1 v2 v3 v4 v5,XQ m l->Hand a' b' c' (n+1)->Q (.rt (.val (QK l)) [some (.own (hd a' b' c')),v1,v2,v3,v4,v5])):
  Wp (iO [some (.own (hd a b c)),some (.val (.int m)),some (.val (.int at')),some (.val (.int kind)),some (.val (.int day)),some (.val (.lst (zs.map PV.int)))]) Q:=by
 unfold iO
 walk_at "wp"
 refine fJ (by split<;>decide) (by simp only[length_cons,length_nil];split<;>decide) fun p hp'=>?_
 obtain⟨z,rfl⟩:∃z:Int,p= .int z:=by
  simp only[mem_cons,not_mem_nil,or_false]at hp'
  rcases hp' with rfl|rfl<;>exact⟨_,rfl⟩
 walk_at "wp"
 refine cV h (by omega) (by decide) (by decide) fun e a6 b6 c6 e0 e1 hp=>?_
 walk_at "wp"
 refine fJ e0 e1 fun p hp'=>?_
 obtain⟨x,rfl⟩:∃z:Str,p= .str z:=by
  simp only[mem_cons,not_mem_nil,or_false]at hp'
  rcases hp' with rfl|rfl|rfl<;>exact⟨_,rfl⟩
 walk_at "wp"
 exact q ⟨at',z,x,zs⟩ _ _ _ _ _ _ _ _ ⟨a0,a1,hz,zl⟩ hp
theorem vO (h:Hand a b c n) (m0:0<m) (m1:m<=64) (hn:n<100000)
  (q:∀l a' b' c',XQ m l->Hand a' b' c' (n+20)->Q (QK l,[hd a' b' c'])):Wp (dD [hd a b c,.int m]) Q:=by
 unfold dD
 rw[tV]
 walk_at "wp"
 refine cV h (by omega) m0 (by omega) fun at' a1 b1 c1 at0 at1 hp=>?_
 walk_at "wp"
 refine cV hp (by omega) (by decide) (by decide) fun kind a2 b2 c2 k0 k1 hp=>?_
 walk_at "wp"
 refine fJ k0 k1 fun p hp'=>?_
 obtain⟨z,rfl,z0,z1⟩:∃z:Int,p= .int z/\0<z/\z<=100000000:=by
  simp only[mem_cons,not_mem_nil,or_false]at hp'
  rcases hp' with rfl|rfl|rfl|rfl<;>exact⟨_,rfl,by decide,by decide⟩
 walk_at "wp"
 refine cV hp (by omega) z0 (by omega) fun day a3 b3 c3 dy0 dy1 hp=>?_
 walk_at "wp"
 refine cV hp (by omega) (by decide) (by decide) fun d a4 b4 c4 d0 d1 hp=>?_
 walk_at "wp"
 refine fJ d0 d1 fun p hp'=>?_
 obtain⟨w,rfl,w0,w1⟩:∃z:Int,p= .int z/\0<=z/\z<=9:=by
  simp only[mem_cons,not_mem_nil,or_false]at hp'
  rcases hp' with rfl|rfl|rfl|rfl|rfl|rfl<;>exact⟨_,rfl,by decide,by decide⟩
 walk_at "wp"
 refine⟨gQ (by omega) (by omega),by omega,?_⟩
 refine OT hp m0 m1 (by rw[length_map,length_range];omega) fun zs s' a5 b5 c5 zl hz hp=>?_
 rw[length_map,length_range]at zl hp
 walk_at "wp"
 refine cV hp (by omega) (by decide) (by decide) fun e a6 b6 c6 e0 e1 hp=>?_
 walk_at "wp"
 have r0:=emod_nonneg (at'+1) (show m≠0 by omega)
 have r1:=emod_lt_of_pos (at'+1) m0
 rw[acJ]
 have l8:(zs.take 8).length<=8:=by rw[length_take];omega
 refine⟨fun _=>⟨m0,by rw[length_map];omega,?_⟩,fun _=>?_⟩
 ·have ee:(zs.take 8).map PV.int++[PV.int ((at'+1) % m)]=((zs.take 8)++[(at'+1) % m]).map PV.int:=by rw[map_append];rfl
  rw[ee]
  refine qR hp (by omega) at0 at1 (fun z hz'=>?_) (by rw[length_append];simp;omega) fun l a' b' c' v1 v2 v3 v4 v5 hl hp=>?_
  ·rcases mem_append.mp hz' with g|g
   ·exact hz z (mem_of_mem_take g)
   ·rw[mem_singleton.mp g];exact⟨r0,r1⟩
  ·walk_at "wp"
   exact q l a' b' c' hl (hp.mono (by omega))
 ·refine qR hp (by omega) at0 at1 hz (by omega) fun l a' b' c' v1 v2 v3 v4 v5 hl hp=>?_
  walk_at "wp"
  exact q l a' b' c' hl (hp.mono (by omega))
end
section
open PySem L2 Mr
theorem OE {a b c:Int} {s:Option Sl} {Q:List PV×En->Prop} (hp:Hand a b c n) (m0:0<m) (m1:m<=64) (hn:n+20*xs.length<100000)
  (q:∀(zs:List C8) s' a' b' c',zs.length=xs.length->(∀z∈zs,XQ m z)->Hand a' b' c' (n+20*xs.length)->Q (zs.map QK,[s',some (.own (hd a' b' c')),some (.val (.int m))])):
  Wp (iX (aR 0) eR (bF [.m,.b] false dD (aB (aC 1) (aB (aC 2) aM))) xs [s,some (.own (hd a b c)),some (.val (.int m))]) Q:=by
 refine fF (fun i acc e=>∃(zs:List C8) (s:Option Sl) (a b c:Int),acc=zs.map QK/\zs.length=i/\(∀z∈zs,XQ m z)/\e=[s,some (.own (hd a b c)),some (.val (.int m))]/\Hand a b c (n+20*i)) ?_ ?_ ⟨[],s,a,b,c,rfl,rfl,fun _ h=>(nomatch h),rfl,hp⟩
 ·rintro i x e acc hx ⟨zs,s,a,b,c,rfl,hl',hz,rfl,hp⟩
  have hi:=(List.getElem?_eq_some_iff.mp hx).1
  walk_at "wp"
  refine vO hp m0 m1 (by omega) fun l a' b' c' hl hp'=>?_
  walk_at "wp"
  exact⟨zs++[l],_,a',b',c',by rw[map_append];rfl,by rw[length_append,hl'];rfl,fun z hz'=>(mem_append.mp hz').elim (hz z) fun h=>by rw[mem_singleton.mp h];exact hl,rfl,hp'.mono (by omega)⟩
 ·rintro acc e ⟨zs,s,a,b,c,rfl,hl',hz,rfl,hp⟩
  exact q zs s a b c hl' hz hp
theorem BY {ns:List Int} (hns:ns.length<=63) (h:Hand a b c n) (m0:0<m) (m1:m<=64) (hn:n<50000)
  (q:∀(zs:List C8) a' b' c',zs.length<=51->(∀z∈zs,XQ m z)->Hand a' b' c' (n+300)->Q (.lst (zs.map QK),[hd a' b' c'])):Wp (fL [.lst (ns.map PV.int),hd a b c,.int m]) Q:=by
 unfold fL jG
 walk_at "wp"
 refine cV h (by omega) (by decide) (by decide) fun d a1 b1 c1 d0 d1 hp=>?_
 walk_at "wp"
 refine⟨gQ (by omega) (by omega),by omega,?_⟩
 refine OE hp m0 m1 (by rw[length_map,length_range];omega) fun zs s' a2 b2 c2 zl hz hp=>?_
 rw[length_map,length_range]at zl hp
 walk_at "wp"
 have hm1:(if(40:Int)<(ns.length:Int)then(40:Int)else(ns.length:Int))<=40:=by split<;>omega
 have hm0:0<=(if(40:Int)<(ns.length:Int)then(40:Int)else(ns.length:Int)):=by split<;>omega
 refine⟨⟨gQ (by decide) (by decide),gQ (by omega) (by omega)⟩,?_⟩
 generalize(if(40:Int)<(ns.length:Int)then(40:Int)else(ns.length:Int))=N at hm0 hm1
 refine cL (fun i e=>∃(ys:List C8) (v4:Option Sl),ys.length=zs.length+i/\(∀z∈ys,XQ m z)/\e=[some (Sl.bor (PV.lst (ns.map PV.int))),some (Sl.own (hd a2 b2 c2)),some (Sl.val (PV.int m)),some (Sl.loc (PV.lst (ys.map QK))),v4]) ?_ ?_ ⟨zs,_,rfl,hz,rfl⟩
 ·rintro i x e hx ⟨ys,v4,yl,hy,rfl⟩
  rw[getElem?_map]at hx
  obtain⟨k,hk,rfl⟩:=map_eq_some_iff.mp hx
  have hi:=(List.getElem?_eq_some_iff.mp hk).1
  have ek:=(List.getElem?_eq_some_iff.mp hk).2
  rw[length_range]at hi
  rw[getElem_range]at ek
  walk_at "wp"
  refine E7 (by omega) (by omega) hns fun a3 b3 hh=>?_
  walk_at "wp"
  refine vO hh m0 m1 (by omega) fun l a' b' c' hl _=>?_
  walk_at "wp"
  refine⟨by omega,ys++[l],_,by rw[length_append,yl];simp;omega,fun z hz'=>(mem_append.mp hz').elim (hy z) fun h=>by rw[mem_singleton.mp h];exact hl,by rw[map_append];rfl⟩
 ·rintro e ⟨ys,v4,yl,hy,rfl⟩
  rw[length_map,length_range]at yl
  walk_at "wp"
  exact q ys _ _ _ (by omega) hy (hp.mono (by omega))
end
section
open PySem L2 Mr
structure Let where
 name:Str
 day:Int
 head:Str
 row:List Str
 deriving DecidableEq
noncomputable def lP (l:Let):PV:=.tup [.str l.name,.int l.day,.str l.head,.tup (l.row.map PV.str)]
theorem iH (ss:List Str) (n:Nat):(ss.map PV.str).all (gO n)=true:=all_eq_true.mpr fun p hp=>by obtain⟨y,_,rfl⟩:=mem_map.mp hp;cases n<;>rfl
theorem x4 (ss:List Str) (n:Nat):(ss.map PV.str).all (nC n)=true:=all_eq_true.mpr fun p hp=>by obtain⟨y,_,rfl⟩:=mem_map.mp hp;cases n<;>rfl
theorem aaU (l:Let):gO 8 (lP l)=true:=by
 show([PV.str l.name,PV.int l.day,PV.str l.head,PV.tup (l.row.map PV.str)].all (gO 7))=true
 simp only[all_cons,all_nil,gO,iH,Bool.and_true]
theorem Z3 (l:Let):nC 3 (lP l)=true:=by
 show([PV.str l.name,PV.int l.day,PV.str l.head,PV.tup (l.row.map PV.str)].all (nC 2))=true
 simp only[all_cons,all_nil,nC,x4,Bool.and_true]
theorem jF (n:Nat):∀xs ys:List Str,(dO (oO n) (xs.map PV.str) (ys.map PV.str)).isSome=true
 |[],[]=>rfl
 |[],_::_=>rfl
 |_::_,[]=>rfl
 |x::xs,y::ys=>by
  rw[map_cons,map_cons]
  unfold dO
  split
  ·exact jF n xs ys
  ·cases n<;>rfl
theorem aaJ (l k:Let):(oO 3 (lP l) (lP k)).isSome=true:=by
 show(dO (oO 2) [PV.str l.name,PV.int l.day,PV.str l.head,PV.tup (l.row.map PV.str)] [PV.str k.name,PV.int k.day,PV.str k.head,PV.tup (k.row.map PV.str)]).isSome=true
 unfold dO
 split
 ·unfold dO
  split
  ·unfold dO
   split
   ·unfold dO
    split
    ·rfl
    ·exact jF 1 _ _
   ·rfl
  ·rfl
 ·rfl
theorem JW (ls:List Let):cP 3 (ls.map lP)=true:=all_eq_true.mpr fun p hp=>by
 obtain⟨l,_,rfl⟩:=mem_map.mp hp
 rw[and_eq_true]
 refine⟨Z3 l,all_eq_true.mpr fun q hq=>?_⟩
 obtain⟨k,_,rfl⟩:=mem_map.mp hq
 exact aaJ l k
theorem LK (ls:List Let):(ls.map lP).all (j5 true)=true:=all_eq_true.mpr fun p hp=>by obtain⟨l,_,rfl⟩:=mem_map.mp hp;rfl
theorem zZ {ps:List PV} (h:ps.Perm (ls.map lP)):∃ks:List Let,ks.Perm ls/\ps=ks.map lP:=by
 have key:∀(ps:List PV) (ls:List Let),ps.Perm (ls.map lP)->∃ks:List Let,ks.Perm ls/\ps=ks.map lP:=by
  intro ps
  induction ps with
  |nil=>intro ls h;have:=h.nil_eq;rw[List.eq_nil_of_map_eq_nil this.symm];exact⟨[],.refl _,rfl⟩
  |cons p ps ih=>
   intro ls h
   obtain⟨l,hl,e⟩:=mem_map.mp (h.mem_iff.mp mem_cons_self)
   subst e
   have h2:(lP l::ps).Perm ((l::ls.erase l).map lP):=h.trans ((perm_cons_erase hl).map lP)
   obtain⟨ks,k1,k2⟩:=ih _ (h2.cons_inv)
   exact⟨l::ks,(k1.cons l).trans (perm_cons_erase hl).symm,by rw[k2];rfl⟩
 exact key ps ls h
theorem GU {ls:List Let} {Q:Bv->Prop} (h:ls.length<64) (q:∀ks:List Let,ks.Perm ls->(ks.map lP).Pairwise (fun a b=>kK 3 a b=true)->Q (.new (.lst (ks.map lP)))):Wp (fS [.lst (ls.map lP)]) Q:=by
 cases ls with
 |nil=>exact⟨_,rfl,by rw[show dW []=[] by unfold dW;simp];exact q [] (.refl _) .nil⟩
 | cons l ls=>
  have e1:oM [.lst ((l::ls).map lP)]=none:=rfl
  have e2:qD [.lst ((l::ls).map lP)]=none:=rfl
  unfold fS
  rw[e1,e2,none_or,none_or]
  unfold uD
  simp only[dC,bU]
  refine⟨?_,?_⟩
  ·rw[LK,JW,length_map,decide_eq_true h];rfl
  ·obtain⟨ks,k1,k2⟩:=zZ (cF 3 ((l::ls).map lP))
   have:=dY 3 ((l::ls).map lP)
   rw[k2]at this⊢
   exact q ks k1 this
end
section
open PySem L2 Mr
theorem L0 {rs:List Int} {s:Option Sl} {Q:List PV×En->Prop} (hm:(ss.length:Int)=m) (hr:∀x∈rs,0<=x/\x<m)
  (q:∀(zs:List Str) s',zs.length=rs.length->(∀z∈zs,z∈ss)->Q (zs.map PV.str,[s',some (Sl.bor (PV.lst (ss.map PV.str)))])):
  Wp (iX (aR 0) eR (bC dG (aC 1) (aC 0)) (rs.map PV.int) [s,some (Sl.bor (PV.lst (ss.map PV.str)))]) Q:=by
 refine fF (fun i acc e=>∃(zs:List Str) (s:Option Sl),acc=zs.map PV.str/\zs.length=i/\(∀z∈zs,z∈ss)/\e=[s,some (Sl.bor (PV.lst (ss.map PV.str)))]) ?_ ?_ ⟨[],s,rfl,rfl,fun _ h=>(nomatch h),rfl⟩
 ·rintro i x e acc hx ⟨zs,s,rfl,hl,hz,rfl⟩
  rw[getElem?_map]at hx
  obtain⟨k,hk,rfl⟩:=map_eq_some_iff.mp hx
  obtain⟨k0,k1⟩:=hr k (mem_of_getElem? hk)
  walk_at "wp"
  refine fJ k0 (by rw[length_map];omega) fun p hp=>?_
  obtain⟨y,hy,rfl⟩:=mem_map.mp hp
  walk_at "wp"
  exact⟨zs++[y],_,by rw[map_append];rfl,by rw[length_append,hl];rfl,fun z hz'=>(mem_append.mp hz').elim (hz z) fun h=>by rw[mem_singleton.mp h];exact hy,rfl⟩
 ·rintro acc e ⟨zs,s,rfl,hl,hz,rfl⟩
  rw[length_map]at hl
  exact q zs s hl hz
theorem QD {zs:List C8} (hm:(ss.length:Int)=m) (hz:∀z∈zs,XQ m z) (hl:zs.length<=60)
  (q:∀ls:List Let,ls.length<=zs.length->(ls.map lP).Pairwise (fun a b=>kK 3 a b=true)->(∀l∈ls,l.row.length<=9/\l.name∈ss/\∀x∈l.row,x∈ss)->Q (.tup (ls.map lP),[])):Wp (iZ [.lst (zs.map QK),.lst (ss.map PV.str)]) Q:=by
 unfold iZ oH
 walk_at "wp"
 refine cL (fun i e=>∃(ls:List Let) (v3 v4 v5 v6 v7:Option Sl),ls.length<=i/\(∀l∈ls,l.row.length<=9/\l.name∈ss/\∀x∈l.row,x∈ss)/\e=[some (Sl.bor (PV.lst (zs.map QK))),some (Sl.bor (PV.lst (ss.map PV.str))),some (Sl.loc (PV.lst (ls.map lP))),v3,v4,v5,v6,v7]) ?_ ?_ ⟨[],_,_,_,_,_,le_refl _,fun _ h=>(nomatch h),rfl⟩
 ·rintro i x e hx ⟨ls,v3,v4,v5,v6,v7,ll,hls,rfl⟩
  rw[getElem?_map]at hx
  obtain⟨z,hk,rfl⟩:=map_eq_some_iff.mp hx
  have hi:=(List.getElem?_eq_some_iff.mp hk).1
  have ok:=hz z (mem_of_getElem? hk)
  rw[show QK z=PV.tup [PV.int z.at',PV.int z.day,PV.str z.head,PV.lst (z.row.map PV.int)]from rfl]
  walk_at "wp"
  refine fJ ok.a0 (by rw[length_map,hm];exact ok.a1) fun p hp=>?_
  obtain⟨y,hy,rfl⟩:=mem_map.mp hp
  walk_at "wp"
  have hn:=ok.n
  refine⟨by omega,L0 hm ok.r fun xs s' xl hxs=>?_⟩
  walk_at "wp"
  have hnew:Let:=⟨y,z.day,z.head,xs⟩
  refine⟨⟨iH xs 6,all_eq_true.mpr fun p hp=>by obtain⟨l,_,rfl⟩:=mem_map.mp hp;exact aaU l⟩,fun _=>⟨by omega,ls++[⟨y,z.day,z.head,xs⟩],_,_,_,_,_,by rw[length_append];simp;omega,fun l hl'=>?_,by rw[map_append];rfl⟩,fun _=>⟨ls,_,_,_,_,_,by omega,hls,rfl⟩⟩
  rcases mem_append.mp hl' with g|g
  ·exact hls l g
  ·rw[mem_singleton.mp g];exact⟨by rw[show(Let.mk y z.day z.head xs).row=xs from rfl,xl];exact hn,hy,hxs⟩
 ·rintro e ⟨ls,v3,v4,v5,v6,v7,ll,hls,rfl⟩
  rw[length_map]at ll
  walk_at "wp"
  refine GU (by omega) fun ks k1 k2=>?_
  walk_at "wp"
  exact q ks (by rw[k1.length_eq];exact ll) k2 fun l h=>hls l (k1.mem_iff.mp h)
end
section
open PySem L2 Mr
noncomputable def lB (acc:List Let) (l:Let):List Let:=if(acc.any fun k=>decide (k.name=l.name))=true then acc else acc++[l]
noncomputable def st (qs:List Let):List Let:=qs.foldl lB []
noncomputable def F7 (acc:List Let):List (Key×PV):=acc.map fun l=>(Sum.inr l.name,lP l)
theorem FF (acc:List Let) (x:Str):(cE (F7 acc) (Sum.inr x)).isSome=acc.any fun k=>decide (k.name=x):=by
 unfold cE F7
 induction acc with
 |nil=>rfl
 | cons l acc ih=>
  rw[map_cons,find?_cons,any_cons]
  by_cases h:l.name=x
  ·subst h;simp
  ·have h':¬(Sum.inr l.name:Key)=Sum.inr x:=fun z=>h (Sum.inr.inj z)
   rw[decide_eq_false h',decide_eq_false h,Bool.false_or]
   exact ih
theorem E2 {acc:List Let} {l:Let} (h:(acc.any fun k=>decide (k.name=l.name))=false):fM (F7 acc) (Sum.inr l.name) (lP l)=F7 (acc++[l]):=by
 unfold fM
 have e:((F7 acc).any fun kv=>decide (kv.1=Sum.inr l.name))=false:=by
  rw[<-h]
  unfold F7
  rw[any_map]
  congr 1
  funext k
  simp
 rw[e,if_neg Bool.false_ne_true]
 unfold F7
 rw[map_append];rfl
theorem D2 (qs:List Let) (i:Nat) (l:Let) (h:qs[i]? =some l):st (qs.take (i+1))=lB (st (qs.take i)) l:=by
 unfold st
 rw[take_succ,h,toList_some,foldl_append];rfl
theorem t7 (qs:List Let):(st qs).length<=qs.length:=by
 have key:∀(l k:List Let),(l.foldl lB k).length<=k.length+l.length:=by
  intro l
  induction l with
  |nil=>intro k;exact le_refl _
  | cons x l ih=>
   intro k
   have:=ih (lB k x)
   have h:(lB k x).length<=k.length+1:=by
    unfold lB;split
    ·omega
    ·rw[length_append];exact le_refl _
   rw[foldl_cons,length_cons];omega
 have:=key qs []
 simpa [st]using this
theorem nP {l:Let} (h:l∈st qs):l∈qs:=by
 have key:∀(xs k:List Let),l∈xs.foldl lB k->l∈k\/ l∈xs:=by
  intro xs
  induction xs with
  |nil=>intro k h;exact .inl h
  | cons x xs ih=>
   intro k h
   rcases ih _ h with g|g
   ·unfold lB at g
    split at g
    ·exact .inl g
    ·rcases mem_append.mp g with g|g
     ·exact .inl g
     ·exact .inr (by rw[mem_singleton.mp g];exact mem_cons_self)
   ·exact .inr (mem_cons_of_mem _ g)
 exact(key qs [] h).resolve_left (fun z=>nomatch z)
theorem AI (acc:List Let):(F7 acc).map (·.2)=acc.map lP:=by unfold F7;rw[map_map];rfl
theorem i8 {qs:List Let} (hl:qs.length<=100) (q:Q (.tup ((st qs).map lP),[])):Wp (dU [.tup (qs.map lP)]) Q:=by
 unfold dU oD
 walk_at "wp"
 refine cL (fun i e=>∃v2,e=[some (Sl.val (PV.tup (qs.map lP))),some (Sl.loc (PV.a9 (F7 (st (qs.take i))))),v2]) ?_ ?_ ⟨_,rfl⟩
 ·rintro i x e hx ⟨v2,rfl⟩
  rw[getElem?_map]at hx
  obtain⟨l,hk,rfl⟩:=map_eq_some_iff.mp hx
  have hi:=(List.getElem?_eq_some_iff.mp hk).1
  have hs:=D2 qs i l hk
  have hlen:=t7 (qs.take i)
  rw[length_take]at hlen
  rw[show lP l=PV.tup [PV.str l.name,PV.int l.day,PV.str l.head,PV.tup (l.row.map PV.str)]from rfl]
  walk_at "wp"
  rw[FF]
  rw[hs]
  unfold lB
  cases g:(st (qs.take i)).any fun k=>decide (k.name=l.name)with
  |true=>exact⟨fun z=>(by cases z),fun _=>⟨_,by rw[if_pos rfl]⟩⟩
  |false=>
   refine⟨fun _=>⟨by unfold F7;rw[length_map];omega,some (Sl.val (lP l)),?_⟩,fun z=>(by cases z)⟩
   rw[if_neg Bool.false_ne_true]
   have:=E2 g
   rw[<-this];rfl
 ·rintro e ⟨v2,rfl⟩
  rw[length_map,take_length]
  walk_at "wp"
  rw[AI]
  exact q
theorem yK {qs:List Let} (hl:qs.length<=100) (q:Q (.lst ((st qs).map lP),[])):Wp (eT [.tup (qs.map lP)]) Q:=by
 unfold eT iF
 walk_at "wp"
 refine cL (fun i e=>∃v2,e=[some (Sl.val (PV.tup (qs.map lP))),some (Sl.loc (PV.a9 (F7 (st (qs.take i))))),v2]) ?_ ?_ ⟨_,rfl⟩
 ·rintro i x e hx ⟨v2,rfl⟩
  rw[getElem?_map]at hx
  obtain⟨l,hk,rfl⟩:=map_eq_some_iff.mp hx
  have hi:=(List.getElem?_eq_some_iff.mp hk).1
  have hs:=D2 qs i l hk
  have hlen:=t7 (qs.take i)
  rw[length_take]at hlen
  rw[show lP l=PV.tup [PV.str l.name,PV.int l.day,PV.str l.head,PV.tup (l.row.map PV.str)]from rfl]
  walk_at "wp"
  rw[FF]
  rw[hs]
  unfold lB
  cases g:(st (qs.take i)).any fun k=>decide (k.name=l.name)with
  |true=>exact⟨fun z=>(by cases z),fun _=>⟨_,by rw[if_pos rfl]⟩⟩
  |false=>
   refine⟨fun _=>⟨by unfold F7;rw[length_map];omega,some (Sl.val (lP l)),?_⟩,fun z=>(by cases z)⟩
   rw[if_neg Bool.false_ne_true]
   have:=E2 g
   rw[<-this];rfl
 ·rintro e ⟨v2,rfl⟩
  rw[length_map,take_length]
  walk_at "wp"
  rw[AI]
  exact q
noncomputable def FR (own:Str) (row:List Str) (k:Nat):List Str:=(List.range k).filterMap fun i=>(row[i]?).bind fun x=>if x≠own/\x∉row.drop (i+1)then some x else none
noncomputable def el (l:Let):List Str:=FR l.name l.row l.row.length
theorem sY {own:Str} {row:List Str} (h:row[i]? =some x):FR own row (i+1)=FR own row i++(if x≠own/\x∉row.drop (i+1)then [x]else []):=by
 unfold FR
 rw[List.range_succ,List.filterMap_append]
 congr 1
 rw[filterMap_cons,h,bind_some]
 split
 ·rename_i e;split at e
  ·cases e
  ·rename_i g;rw[if_neg g];rfl
 ·rename_i e;split at e
  ·rename_i g;cases e;rw[if_pos g];rfl
  ·cases e
theorem pZ {l:Let} (hl:l.row.length<=9) (q:Q (.tup ((el l).map PV.str),[])):Wp (iB [lP l]) Q:=by
 unfold iB t8
 rw[show lP l=PV.tup [PV.str l.name,PV.int l.day,PV.str l.head,PV.tup (l.row.map PV.str)]from rfl]
 walk_at "wp"
 refine⟨by rw[length_zipIdx,length_map];omega,?_⟩
 refine fF (fun i acc e=>acc=(FR l.name l.row i).map PV.str/\∃v0 v1,e=[v0,v1,some (Sl.val (PV.str l.name)),some (Sl.val (PV.tup (l.row.map PV.str)))]) ?_ ?_ ⟨rfl,_,_,rfl⟩
 ·rintro i x e acc hx ⟨rfl,v0,v1,rfl⟩
  rw[getElem?_map,getElem?_zipIdx,getElem?_map,Option.map_map,Option.map_map]at hx
  obtain⟨y,hy,rfl⟩:=map_eq_some_iff.mp hx
  have hi:=(List.getElem?_eq_some_iff.mp hy).1
  have hs:=sY (own:=l.name) hy
  simp only[Function.comp_apply]
  walk_at "wp"
  rw[show(((0+i:Nat):Int)+1)=((i+1:Nat):Int) by omega,mG,<-map_drop,wL,hs]
  have ok8:=iH (l.row.drop (i+1)) 8
  by_cases h1:y=l.name
  ·refine⟨fun z=>absurd z (by simp[h1]),fun _=>⟨?_,_,_,rfl⟩⟩
   rw[if_neg (fun z=>z.1 h1),append_nil]
  ·refine⟨fun _=>⟨ok8,?_⟩,fun z=>absurd z (by simp[h1])⟩
   by_cases h2:y∈l.row.drop (i+1)
   ·rw[decide_eq_true h2]
    refine⟨?_,_,_,rfl⟩
    rw[if_neg (fun z=>z.2 h2),append_nil]
   ·rw[decide_eq_false h2]
    refine⟨?_,_,_,rfl⟩
    rw[if_pos ⟨h1,h2⟩,map_append];rfl
 ·rintro acc e ⟨rfl,v0,v1,rfl⟩
  rw[length_map,length_zipIdx,length_map]
  walk_at "wp"
  exact q
theorem FQ {l:Let} (hl:l.row.length<=9) (q:Q (.lst ((el l).map PV.str),[])):Wp (iP [lP l]) Q:=by
 unfold iP p5
 rw[show lP l=PV.tup [PV.str l.name,PV.int l.day,PV.str l.head,PV.tup (l.row.map PV.str)]from rfl]
 walk_at "wp"
 refine⟨gQ (by omega) (by omega),by omega,?_⟩
 rw[toNat_natCast]
 refine fF (fun i acc e=>acc=(FR l.name l.row i).map PV.str/\∃v0,e=[v0,some (Sl.val (PV.tup (l.row.map PV.str))),some (Sl.val (PV.tup [PV.str l.name,PV.int l.day,PV.str l.head,PV.tup (l.row.map PV.str)]))]) ?_ ?_ ⟨rfl,_,rfl⟩
 ·rintro i x e acc hx ⟨rfl,v0,rfl⟩
  rw[getElem?_map]at hx
  obtain⟨k,hk,rfl⟩:=map_eq_some_iff.mp hx
  have hi:=(List.getElem?_eq_some_iff.mp hk).1
  have ek:=(List.getElem?_eq_some_iff.mp hk).2
  rw[length_range]at hi
  rw[getElem_range]at ek
  subst ek
  have hy:l.row[i]? =some l.row[i]:=getElem?_eq_getElem hi
  have hs:=sY (own:=l.name) hy
  generalize l.row[i]=y at hy hs
  have ea:nF (l.row.map PV.str) (0+(i:Int))=some (.str y):=by rw[Int.zero_add];exact gA (by rw[getElem?_map,hy];rfl)
  walk_at "wp"
  rw[ea]
  walk_at "wp"
  have ok8:=iH (l.row.drop (i+1)) 8
  by_cases h1:y=l.name
  ·refine⟨fun z=>absurd z (by simp[h1]),fun _=>⟨?_,_,rfl⟩⟩
   rw[hs,if_neg (fun z=>z.1 h1),append_nil]
  ·refine⟨fun _=>?_,fun z=>absurd z (by simp[h1])⟩
   rw[ea]
   walk_at "wp"
   rw[show(0+(i:Int)+1)=((i+1:Nat):Int) by omega,mG,<-map_drop,wL,hs]
   refine⟨ok8,?_⟩
   by_cases h2:y∈l.row.drop (i+1)
   ·rw[decide_eq_true h2]
    refine⟨?_,_,rfl⟩
    rw[if_neg (fun z=>z.2 h2),append_nil]
   ·rw[decide_eq_false h2]
    simp only[Bool.not_false]
    rw[ea]
    walk_at "wp"
    refine⟨?_,_,rfl⟩
    rw[if_pos ⟨h1,h2⟩,map_append];rfl
 ·rintro acc e ⟨rfl,v0,rfl⟩
  rw[length_map,length_range]
  walk_at "wp"
  exact q
end
section
open PySem L2 Mr
noncomputable def oP:Option Str->PV
 |none=>.aY
 |some x=>.str x
noncomputable abbrev Hl:=List (Str×Option Str)
noncomputable def kO (hs:Hl):List (Key×PV):=hs.map fun z=>(Sum.inr z.1,oP z.2)
theorem x5 (hs:Hl) (x:Str):(cE (kO hs) (Sum.inr x)=none/\x∉hs.map (·.1))\/ ∃o,cE (kO hs) (Sum.inr x)=some (oP o)/\(x,o)∈hs:=by
 unfold cE kO
 induction hs with
 |nil=>exact .inl ⟨rfl,fun h=>nomatch h⟩
 | cons z hs ih=>
  rw[map_cons,find?_cons]
  by_cases h:z.1=x
  ·right
   subst h
   exact⟨z.2,by simp,mem_cons_self⟩
  ·have h':¬(Sum.inr z.1:Key)=Sum.inr x:=fun e=>h (Sum.inr.inj e)
   rw[decide_eq_false h']
   rcases ih with⟨a,b⟩|⟨o,a,b⟩
   ·exact .inl ⟨a,fun e=>by rcases mem_cons.mp e with e|e;exact h e.symm;exact b e⟩
   ·exact .inr ⟨o,a,mem_cons_of_mem _ b⟩
theorem xR (h:x∉hs.map (·.1)):fM (kO hs) (Sum.inr x) (oP o)=kO (hs++[(x,o)]):=by
 unfold fM
 have e:((kO hs).any fun kv=>decide (kv.1=Sum.inr x))=false:=by
  unfold kO
  rw[any_map,any_eq_false]
  intro z hz
  have:z.1≠x:=fun e=>h (mem_map.mpr ⟨z,hz,e⟩)
  simp[this]
 rw[e,if_neg Bool.false_ne_true]
 unfold kO
 rw[map_append];rfl
structure MOk (ss:List Str) (hs:Hl):Prop where
 nd:(hs.map (·.1)).Nodup
 nm:∀z∈hs,z.1∈ss/\∀y,z.2=some y->y∈ss
noncomputable def mP (hs:Hl):List PV:=hs.map fun z=>.tup [.str z.1,oP z.2]
theorem GZ (hs:Hl):bD (kO hs)=mP hs:=by unfold bD kO mP;rw[map_map];rfl
theorem aaH (z:Str×Option Str):nC 3 (.tup [.str z.1,oP z.2])=true:=by
 show([PV.str z.1,oP z.2].all (nC 2))=true
 cases z.2<;>rfl
theorem US (h:(hs.map (·.1)).Nodup):cP 3 (mP hs)=true:=all_eq_true.mpr fun p hp=>by
 obtain⟨z,hz,rfl⟩:=mem_map.mp hp
 rw[and_eq_true]
 refine⟨aaH z,all_eq_true.mpr fun q hq=>?_⟩
 obtain⟨w,hw,rfl⟩:=mem_map.mp hq
 show(dO (oO 2) [PV.str z.1,oP z.2] [PV.str w.1,oP w.2]).isSome=true
 unfold dO
 split
 ·rename_i e
  rw[wK]at e
  have e1:z.1=w.1:=eq_of_beq e
  have e2:z=w:=by
   have key:∀(l:Hl),(l.map (·.1)).Nodup->∀a∈l,∀b∈l,a.1=b.1->a=b:=by
    intro l
    induction l with
    |nil=>intro _ a ha;cases ha
    | cons c l ih=>
     intro hn a ha b hb hab
     rw[map_cons,nodup_cons]at hn
     rcases mem_cons.mp ha with rfl|ha
     ·rcases mem_cons.mp hb with rfl|hb
      ·rfl
      ·exact absurd (mem_map.mpr ⟨b,hb,hab.symm⟩) hn.1
     ·rcases mem_cons.mp hb with e|hb
      ·exact absurd (mem_map.mpr ⟨a,ha,by rw[hab,e]⟩) hn.1
      ·exact ih hn.2 a ha b hb hab
   exact key hs h z hz w hw e1
  subst e2
  unfold dO
  rw[if_pos (pF (n:=0) (by cases z.2<;>rfl))]
  rfl
 ·rfl
theorem UB (hs:Hl):(mP hs).all (j5 true)=true:=all_eq_true.mpr fun p hp=>by obtain⟨z,_,rfl⟩:=mem_map.mp hp;rfl
theorem PQ {ps:List PV} (h:ps.Perm (mP hs)):∃ks:Hl,ks.Perm hs/\ps=mP ks:=by
 have key:∀(ps:List PV) (ls:Hl),ps.Perm (mP ls)->∃ks:Hl,ks.Perm ls/\ps=mP ks:=by
  intro ps
  induction ps with
  |nil=>intro ls h;have:=h.nil_eq;unfold mP at this;rw[List.eq_nil_of_map_eq_nil this.symm];exact⟨[],.refl _,rfl⟩
  |cons p ps ih=>
   intro ls h
   obtain⟨l,hl,e⟩:=mem_map.mp (h.mem_iff.mp mem_cons_self)
   subst e
   have h2:(PV.tup [.str l.1,oP l.2]::ps).Perm (mP (l::ls.erase l)):=h.trans ((perm_cons_erase hl).map _)
   obtain⟨ks,k1,k2⟩:=ih _ (h2.cons_inv)
   exact⟨l::ks,(k1.cons l).trans (perm_cons_erase hl).symm,by rw[k2];rfl⟩
 exact key ps hs h
end
section
open PySem L2 Mr
structure iT where
 key:Str
 day:Int
 name:Str
 at':Int
noncomputable def tP (t:iT):PV:=.tup [.int t.day,.str t.name,.int t.at']
noncomputable def ZL (l:Let) (z:Str×Nat):Option iT:=if 0<z.2 then some ⟨z.1,l.day,l.name,(z.2:Int)⟩else none
noncomputable def m4 (l:Let) (j:Nat):List iT:=((el l).zipIdx.take j).filterMap (ZL l)
noncomputable def zM (l:Let):List iT:=(el l).zipIdx.filterMap (ZL l)
noncomputable def iU (qs:List Let):List iT:=(st qs).flatMap zM
noncomputable def lH (x:Str) (ts:List iT):List iT:=ts.filter fun t=>decide (t.key=x)
noncomputable def EK (ts:List iT):DD:=ts.foldl (fun d t=>m5 d (Sum.inr t.key) (tP t)) []
theorem NR (ts:List iT) (t:iT):EK (ts++[t])=m5 (EK ts) (Sum.inr t.key) (tP t):=by unfold EK;rw[foldl_append];rfl
theorem u9 {l:Let} {n:Str} (h:(el l)[j]? =some n):m4 l (j+1)=m4 l j++(if 0<j then [⟨n,l.day,l.name,(j:Int)⟩]else []):=by
 unfold m4
 have e:(el l).zipIdx[j]? =some (n,j):=by rw[getElem?_zipIdx,h];simp
 rw[take_succ,e,toList_some,List.filterMap_append]
 congr 1
 rw[filterMap_cons,show ZL l (n,j)=if 0<j then some ⟨n,l.day,l.name,(j:Int)⟩else none from rfl]
 by_cases g:0<j
 ·rw[if_pos g,if_pos g];rfl
 ·rw[if_neg g,if_neg g];rfl
theorem sV (l:Let):m4 l (el l).length=zM l:=by
 unfold m4 zM
 rw[take_of_length_le (by rw[length_zipIdx];exact le_refl _)]
theorem sP {f:α->List β} {xs:List α} {x:α} (h:xs[i]? =some x):(xs.take (i+1)).flatMap f=(xs.take i).flatMap f++f x:=by
 rw[take_succ,h,toList_some,List.flatMap_append]
 simp
theorem E8 {f:α->List β} {k:Nat}:∀{xs:List α},(∀x∈xs,(f x).length<=k)->(xs.flatMap f).length<=k*xs.length
 |[],_=>by simp
 |x::xs,h=>by
  have:=E8 (f:=f) (k:=k) (xs:=xs) fun y hy=>h y (mem_cons_of_mem _ hy)
  have:=h x mem_cons_self
  rw[List.flatMap_cons,length_append,length_cons,Nat.mul_succ]
  omega
theorem NP (l:Let):(el l).length<=l.row.length:=by
 unfold el FR
 have:=List.length_filterMap_le (fun i=>(l.row[i]?).bind fun x=>if x≠l.name/\x∉l.row.drop (i+1)then some x else none) (List.range l.row.length)
 rw[length_range]at this
 exact this
theorem AR (l:Let) (j:Nat):(m4 l j).length<=(el l).length:=by
 unfold m4
 refine le_trans (List.length_filterMap_le _ _) ?_
 rw[length_take,length_zipIdx]
 omega
theorem Q9 (l:Let):(zM l).length<=(el l).length:=by rw[<-sV];exact AR l _
noncomputable def lk (d:DD) (k:Key):List PV:=((d.find? fun kp=>decide (kp.1=k)).map (·.2)).getD []
theorem XX (d:DD) (k k':Key) (p:PV):lk (m5 d k p) k'=if k=k' then lk d k'++[p]else lk d k':=by
 unfold m5
 cases c:d.any fun kp=>decide (kp.1=k)with
 | true=>
  rw[if_pos rfl]
  have key:∀d:DD,(d.map fun kp=>if kp.1=k then(kp.1,kp.2++[p])else kp).find? (fun kp=>decide (kp.1=k'))=(d.find? fun kp=>decide (kp.1=k')).map fun kp=>if kp.1=k then(kp.1,kp.2++[p])else kp:=by
   intro d
   induction d with
   |nil=>rfl
   |cons z d ih=>
    have e1:(if z.1=k then(z.1,z.2++[p])else z).1=z.1:=by split<;>rfl
    rw[map_cons,find?_cons,find?_cons,e1]
    cases decide (z.1=k')with
    |true=>rfl
    |false=>exact ih
  unfold lk
  rw[key]
  by_cases hk:k=k'
  ·subst hk
   rw[if_pos rfl]
   cases f:d.find? fun kp=>decide (kp.1=k)with
   |none=>
    have:=find?_eq_none.mp f
    obtain⟨z,hz,e⟩:=any_eq_true.mp c
    exact absurd e (by simpa using this z hz)
   |some z=>
    have hz:z.1=k:=by have:=find?_some f;simpa using this
    simp[hz]
  ·rw[if_neg hk]
   cases f:d.find? fun kp=>decide (kp.1=k')with
   |none=>rfl
   |some z=>
    have hz:z.1=k':=by have:=find?_some f;simpa using this
    have:¬z.1=k:=fun e=>hk (e.symm.trans hz)
    simp[this]
 | false=>
  rw[if_neg Bool.false_ne_true]
  unfold lk
  rw[find?_append]
  by_cases hk:k=k'
  ·subst hk
   rw[if_pos rfl]
   have f:(d.find? fun kp=>decide (kp.1=k))=none:=find?_eq_none.mpr fun z hz=>by
    have:=any_eq_false.mp c z hz
    simpa using this
   rw[f]
   simp
  ·rw[if_neg hk]
   have f:([(k,[p])]:DD).find? (fun kp=>decide (kp.1=k'))=none:=by simp[hk]
   rw[f,or_none]
theorem JU (ts:List iT) (x:Str):lk (EK ts) (Sum.inr x)=(lH x ts).map tP:=by
 have key:∀(ts:List iT) (d:DD),lk (ts.foldl (fun d t=>m5 d (Sum.inr t.key) (tP t)) d) (Sum.inr x)=lk d (Sum.inr x)++(lH x ts).map tP:=by
  intro ts
  induction ts with
  |nil=>intro d;simp[lH]
  |cons t ts ih=>
   intro d
   rw[foldl_cons,ih,XX]
   unfold lH
   by_cases h:t.key=x
   ·rw[if_pos (by rw[h]),List.filter_cons_of_pos (by simpa using h),map_cons,append_assoc];rfl
   ·rw[if_neg (fun e=>h (Sum.inr.inj e)),List.filter_cons_of_neg (by simpa using h)]
 have:=key ts []
 simpa [EK,lk]using this
theorem J6 (d:DD) (k:Key):(cE (d.map fun kp=>(kp.1,PV.lst kp.2)) k).getD (.lst [])= .lst (lk d k):=by
 unfold cE lk
 induction d with
 |nil=>rfl
 |cons z d ih=>
  rw[map_cons,find?_cons,find?_cons]
  cases decide (z.1=k)with
  |true=>rfl
  |false=>exact ih
theorem N3 (d:DD) (k:Key) (p:PV) {m:Nat} (h1:d.length<=m) (h2:∀kp∈d,kp.2.length<=m):(m5 d k p).length<=m+1/\∀kp∈m5 d k p,kp.2.length<=m+1:=by
 unfold m5
 split
 ·refine⟨by rw[length_map];omega,fun kp hk=>?_⟩
  obtain⟨z,hz,rfl⟩:=mem_map.mp hk
  have:=h2 z hz
  split
  ·rw[length_append];simp only[length_cons,length_nil];omega
  ·omega
 ·refine⟨by rw[length_append];simp only[length_cons,length_nil];omega,fun kp hk=>?_⟩
  rcases mem_append.mp hk with h|h
  ·have:=h2 kp h;omega
  ·rw[mem_singleton.mp h];simp
theorem ON (ts:List iT):(EK ts).length<=ts.length/\∀kp∈EK ts,kp.2.length<=ts.length:=by
 have key:∀(ts:List iT) (d:DD) (m:Nat),d.length<=m->(∀kp∈d,kp.2.length<=m)->(ts.foldl (fun d t=>m5 d (Sum.inr t.key) (tP t)) d).length<=m+ts.length/\∀kp∈ts.foldl (fun d t=>m5 d (Sum.inr t.key) (tP t)) d,kp.2.length<=m+ts.length:=by
  intro ts
  induction ts with
  |nil=>intro d m h1 h2;exact⟨h1,h2⟩
  |cons t ts ih=>
   intro d m h1 h2
   obtain⟨g1,g2⟩:=N3 d (Sum.inr t.key) (tP t) h1 h2
   have:=ih _ (m+1) g1 g2
   rw[foldl_cons,length_cons]
   rw[show m+(ts.length+1)=m+1+ts.length by omega]
   exact this
 have:=key ts [] 0 (le_refl _) (fun _ h=>(nomatch h))
 rw[zero_add]at this
 exact this
theorem uW {own:Str} {row:List Str}:∀k,k<=row.length->(FR own row k).Nodup/\∀x∈FR own row k,∃i,i<k/\row[i]? =some x/\x∉row.drop (i+1)
 |0,_=>⟨by unfold FR;simp,fun x h=>by unfold FR at h;simp at h⟩
 | k+1,hk=>by
  obtain⟨h1,h2⟩:=uW (own:=own) (row:=row) k (by omega)
  have hx:row[k]? =some row[k]:=getElem?_eq_getElem (by omega)
  rw[sY hx]
  split
  ·rename_i g
   refine⟨nodup_append.mpr ⟨h1,by simp,fun u hu v hv e=>?_⟩,fun x h=>?_⟩
   ·have hv':v=row[k]:=by simpa using hv
    obtain⟨i,i1,i2,i3⟩:=h2 u hu
    refine i3 ?_
    rw[e,hv']
    have:row[k]? =(row.drop (i+1))[k - (i+1)]?:=by rw[List.getElem?_drop];congr 1;omega
    exact mem_of_getElem? (this.symm.trans hx)
   ·rcases mem_append.mp h with h|h
    ·obtain⟨i,i1,i2,i3⟩:=h2 x h
     exact⟨i,by omega,i2,i3⟩
    ·have:x=row[k]:=by simpa using h
     exact⟨k,by omega,by rw[this];exact hx,by rw[this];exact g.2⟩
  ·refine⟨by rw[append_nil];exact h1,fun x h=>?_⟩
   rw[append_nil]at h
   obtain⟨i,i1,i2,i3⟩:=h2 x h
   exact⟨i,by omega,i2,i3⟩
theorem zS (l:Let):(el l).Nodup:=(uW _ (le_refl _)).1
end
section
open PySem L2 Mr
theorem aaZ (t:iT):nC 3 (tP t)=true:=rfl
theorem ZO (l k:iT):(oO 3 (tP l) (tP k)).isSome=true:=by
 show(dO (oO 2) [PV.int l.day,PV.str l.name,PV.int l.at'] [PV.int k.day,PV.str k.name,PV.int k.at']).isSome=true
 unfold dO
 split
 ·unfold dO
  split
  ·unfold dO
   split
   ·rfl
   ·rfl
  ·rfl
 ·rfl
theorem ET (ls:List iT):cP 3 (ls.map tP)=true:=all_eq_true.mpr fun p hp=>by
 obtain⟨l,_,rfl⟩:=mem_map.mp hp
 rw[and_eq_true]
 refine⟨aaZ l,all_eq_true.mpr fun q hq=>?_⟩
 obtain⟨k,_,rfl⟩:=mem_map.mp hq
 exact ZO l k
noncomputable abbrev srt (ts:List iT):List PV:=lI 3 (ts.map tP)
theorem JT (hr:∀l∈qs,l.row.length<=9) (hl:qs.length<=100) (i:Nat):(((st qs).take i).flatMap zM).length<=900:=by
 have:=E8 (f:=zM) (k:=9) (xs:=(st qs).take i) fun l h=>by
  have:=hr l (nP (mem_of_mem_take h))
  have:=NP l
  have:=Q9 l
  omega
 rw[length_take]at this
 have:=t7 qs
 omega
theorem x8 (hr:∀l∈qs,l.row.length<=9) (hl:qs.length<=100) (q:Q (.a9 ((EK (iU qs)).map fun kp=>(kp.1,PV.lst kp.2)),[])):Wp (hW [.tup (qs.map lP)]) Q:=by
 unfold hW lM
 walk_at "wp"
 refine i8 hl ?_
 walk_at "wp"
 refine z6 (fun i e d=>d=EK (((st qs).take i).flatMap zM)/\∃v2 v3 v4,e=[some (Sl.val (PV.tup (qs.map lP))),none,v2,v3,v4]) ?_ ?_ ⟨rfl,_,_,_,rfl⟩
 ·rintro i p e d hx ⟨rfl,v2,v3,v4,rfl⟩
  rw[getElem?_map]at hx
  obtain⟨l,hk,rfl⟩:=map_eq_some_iff.mp hx
  have hrow:=hr l (nP (mem_of_getElem? hk))
  have b1:=JT hr hl i
  walk_at "wp"
  refine pZ (l:=l) hrow ?_
  walk_at "wp"
  refine z6 (fun j e d=>d=EK (((st qs).take i).flatMap zM++m4 l j)/\∃v3 v4,e=[some (Sl.val (PV.tup (qs.map lP))),none,some (Sl.val (lP l)),v3,v4]) ?_ ?_ ⟨by rw[show m4 l 0=[]from rfl,append_nil],_,_,rfl⟩
  ·rintro j p e d hx ⟨rfl,v3,v4,rfl⟩
   rw[getElem?_map,getElem?_zipIdx,getElem?_map]at hx
   cases hn:(el l)[j]? with
   |none=>rw[hn]at hx;cases hx
   | some n=>
    rw[hn]at hx
    cases hx
    have hs:=u9 hn
    have b2:=AR l j
    have b3:=NP l
    have g:=ON (((st qs).take i).flatMap zM++m4 l j)
    rw[length_append]at g
    rw[show lP l=PV.tup [PV.str l.name,PV.int l.day,PV.str l.head,PV.tup (l.row.map PV.str)]from rfl]
    walk_at "wp"
    rw[hs,zero_add]
    refine⟨fun hj=>?_,fun hj=>?_⟩
    ·have hj':0<j:=by omega
     refine⟨⟨by omega,all_eq_true.mpr fun kp hkp=>decide_eq_true (by have:=g.2 kp hkp;omega)⟩,?_,_,_,rfl⟩
     rw[if_pos hj',<-append_assoc,NR];rfl
    ·have hj':¬0<j:=by omega
     refine⟨?_,_,_,rfl⟩
     rw[if_neg hj',append_nil]
  ·rintro e d ⟨rfl,v3,v4,rfl⟩
   walk_at "wp"
   rw[length_zipIdx,length_map,sV,sP hk]
   exact⟨rfl,_,_,_,rfl⟩
 ·rintro e d ⟨rfl,v2,v3,v4,rfl⟩
  rw[length_map,take_length]
  walk_at "wp"
  exact q
end
section
open PySem L2 Mr
theorem lZ {ks:List Str}:y∈iV ks x↔y∈ks\/ y=x:=by
 unfold iV
 split
 ·rename_i h
  exact⟨.inl,fun z=>z.elim id fun e=>by rw[e];exact h⟩
 ·rw[mem_append,mem_singleton]
theorem oK {xs:List Str}:y∈bV xs↔y∈xs:=by
 have key:∀(l k:List Str),y∈l.foldl iV k↔y∈k\/ y∈l:=by
  intro l
  induction l with
  |nil=>intro k;simp
  |cons x l ih=>
   intro k
   rw[foldl_cons,ih,lZ,mem_cons,or_assoc]
 have:=key xs []
 simpa [bV]using this
theorem pY (xs:List Str):(bV xs).Nodup:=by
 have key:∀(l k:List Str),k.Nodup->(l.foldl iV k).Nodup:=by
  intro l
  induction l with
  |nil=>intro k h;exact h
  | cons x l ih=>
   intro k h
   rw[foldl_cons]
   refine ih _ ?_
   unfold iV
   split
   ·exact h
   ·rename_i hx
    refine nodup_append.mpr ⟨h,by simp,fun u hu v hv e=>?_⟩
    have:v=x:=by simpa using hv
    rw[e,this]at hu
    exact hx hu
 exact key xs [] nodup_nil
theorem LX (qs:List Let):(st qs).map (·.name)=bV (qs.map (·.name)):=by
 have key:∀(xs k:List Let),(xs.foldl lB k).map (·.name)=(xs.map (·.name)).foldl iV (k.map (·.name)):=by
  intro xs
  induction xs with
  |nil=>intro k;rfl
  | cons x xs ih=>
   intro k
   rw[foldl_cons,ih,map_cons,foldl_cons]
   congr 1
   unfold lB iV
   by_cases h:x.name∈k.map (·.name)
   ·have:(k.any fun y=>decide (y.name=x.name))=true:=by
     obtain⟨y,hy,e⟩:=mem_map.mp h
     exact any_eq_true.mpr ⟨y,hy,decide_eq_true e⟩
    rw[if_pos this,if_pos h]
   ·have:¬(k.any fun y=>decide (y.name=x.name))=true:=fun z=>by
     obtain⟨y,hy,e⟩:=any_eq_true.mp z
     exact h (mem_map.mpr ⟨y,hy,of_decide_eq_true e⟩)
    rw[if_neg this,if_neg h,map_append];rfl
 exact key qs []
theorem FY (qs:List Let):((st qs).map (·.name)).Nodup:=by rw[LX];exact pY _
noncomputable def HW (ls:List Let):List (Key×PV):=ls.map fun l=>(Sum.inr l.name,PV.tup ((el l).map PV.str))
theorem Q2 {l:Let} (h:l.name∉ls.map (·.name)):fM (HW ls) (Sum.inr l.name) (PV.tup ((el l).map PV.str))=HW (ls++[l]):=by
 unfold fM
 have e:((HW ls).any fun kv=>decide (kv.1=Sum.inr l.name))=false:=by
  unfold HW
  rw[any_map,any_eq_false]
  intro k hk
  have:k.name≠l.name:=fun z=>h (mem_map.mpr ⟨k,hk,z⟩)
  simp[this]
 rw[e,if_neg Bool.false_ne_true]
 unfold HW
 rw[map_append];rfl
theorem xN (ls:List Let) (x:Str):cE (HW ls) (Sum.inr x)=(ls.find? fun l=>decide (l.name=x)).map fun l=>PV.tup ((el l).map PV.str):=by
 unfold cE HW
 induction ls with
 |nil=>rfl
 | cons l ls ih=>
  rw[map_cons,find?_cons,find?_cons]
  by_cases h:l.name=x
  ·subst h;simp
  ·have h':¬(Sum.inr l.name:Key)=Sum.inr x:=fun z=>h (Sum.inr.inj z)
   rw[decide_eq_false h',decide_eq_false h]
   exact ih
theorem QR (hr:∀l∈qs,l.row.length<=9) (hl:qs.length<=100) (q:Q (.a9 (HW (st qs)),[])):Wp (kR [.tup (qs.map lP)]) Q:=by
 unfold kR qH
 walk_at "wp"
 refine i8 hl ?_
 walk_at "wp"
 have sl:=t7 qs
 refine⟨by omega,?_⟩
 refine jR (fun i d e=>d=HW ((st qs).take i)/\∃s,e=[s]) ?_ ?_ ⟨rfl,_,rfl⟩
 ·rintro i x e d hx ⟨rfl,s,rfl⟩
  rw[getElem?_map]at hx
  obtain⟨l,hk,rfl⟩:=map_eq_some_iff.mp hx
  have hrow:=hr l (nP (mem_of_getElem? hk))
  have ok:=pZ (l:=l) (Q:=fun w=>w=(PV.tup ((el l).map PV.str),[])) hrow rfl
  rw[show lP l=PV.tup [PV.str l.name,PV.int l.day,PV.str l.head,PV.tup (l.row.map PV.str)]from rfl]at ok⊢
  walk_at "wp"
  refine ok.mono fun w hw=>?_
  subst hw
  walk_at "wp"
  refine⟨?_,_,rfl⟩
  have nd:=FY qs
  have hn:l.name∉((st qs).take i).map (·.name):=fun z=>by
   obtain⟨k,hk2,e⟩:=mem_map.mp z
   obtain⟨j,hj⟩:=List.mem_iff_getElem?.mp hk2
   rw[getElem?_take]at hj
   have hji:j<i:=Classical.byContradiction fun z=>by rw[if_neg z]at hj;cases hj
   rw[if_pos hji]at hj
   have e1:((st qs).map (·.name))[j]? =some l.name:=by rw[getElem?_map,hj];simp[e]
   have e2:((st qs).map (·.name))[i]? =some l.name:=by rw[getElem?_map,hk];rfl
   have hlt:j<((st qs).map (·.name)).length:=(List.getElem?_eq_some_iff.mp e1).1
   have:=(getElem?_inj hlt nd).mp (e1.trans e2.symm)
   omega
  rw[Q2 hn,take_succ,hk];rfl
 ·rintro d e ⟨rfl,s,rfl⟩
  rw[length_map,take_length]
  walk_at "wp"
  exact q
end
section
open PySem L2 Mr
theorem zC {v:PV} (h:cE held (Sum.inr x)=some v) (q:Q (.tup [v,.tup [.str (Str.ofString "hand")]],[])):Wp (cQ [.a9 held,.a9 rows,.a9 claimed,.str x]) Q:=by
 unfold cQ jM
 walk_at "wp"
 rw[h]
 walk_at "wp"
 exact⟨fun _=>q,fun z=>(by cases z)⟩
noncomputable def W9 (ps:List PV):PV:=match ps.getLast? with
 |some p=>.tup [p,.tup [.str (Str.ofString "own")]]
 |none=>.tup [.aY,.tup [.str (Str.ofString "first")]]
theorem yM {ps:List PV} (h:ps.getLast? =some p):nF ps (-1)=some p:=by
 have hne:ps≠[]:=fun z=>by rw[z]at h;cases h
 have hl:0<ps.length:=length_pos_iff.mpr hne
 rw[List.getLast?_eq_getElem?]at h
 unfold nF
 have e:rY ps.length (-1)=some (ps.length - 1):=by
  unfold rY
  rw[if_neg (by decide),if_pos (by omega)]
  congr 1
  omega
 rw[e]
 exact h
theorem CQ {ps:List PV} (h:cE held (Sum.inr x)=none) (hr:cE rows (Sum.inr x)=some (.tup ps)) (q:Q (W9 ps,[])):Wp (cQ [.a9 held,.a9 rows,.a9 claimed,.str x]) Q:=by
 unfold cQ jM
 walk_at "wp"
 rw[h,hr]
 refine⟨fun z=>(by cases z),fun _=>⟨fun _=>?_,fun z=>(by cases z)⟩⟩
 walk_at "wp"
 cases e:ps.getLast? with
 |none=>
  have hn:ps=[]:=List.getLast?_eq_none_iff.mp e
  subst hn
  exact⟨fun z=>(by cases z),fun _=>q⟩
 |some p=>
  have hn:ps.isEmpty=false:=by cases ps with|nil=>cases e|cons a r=>rfl
  unfold W9 at q
  rw[e]at q
  refine⟨fun _=>?_,fun z=>by rw[hn]at z;cases z⟩
  rw[yM e]
  walk_at "wp"
  exact q
theorem zB {one:Str} {ts r:List PV} {e:PV} (h:cE held (Sum.inr x)=none) (hr:cE rows (Sum.inr x)=none) (hc:cE claimed (Sum.inr x)=some (.lst ts)) (h0:0<ts.length) (ok:cP 3 ts=true)
  (hm:wH ts= .tup [.int d,.str one,.int at']) (ho:cE rows (Sum.inr one)=some (.tup r)) (he:nF r (at' - 1)=some e) (q:Q (.tup [e,.tup [.str (Str.ofString "told"),.str one,.int at']],[])):Wp (cQ [.a9 held,.a9 rows,.a9 claimed,.str x]) Q:=by
 unfold cQ jM
 walk_at "wp"
 rw[h,hr,hc]
 refine⟨fun z=>(by cases z),fun _=>⟨fun z=>(by cases z),fun _=>⟨fun _=>?_,fun z=>(by cases z)⟩⟩⟩
 walk_at "wp"
 rw[hm]
 refine⟨⟨h0,ok⟩,?_⟩
 walk_at "wp"
 rw[ho]
 walk_at "wp"
 rw[he]
 walk_at "wp"
 exact q
end
section
open PySem L2 Mr
theorem EX (d:List (Key×PV)) (k k':Key) (v:PV):cE (fM d k v) k'=if k=k' then some v else cE d k':=by
 unfold fM
 cases c:d.any fun kv=>decide (kv.1=k)with
 | true=>
  rw[if_pos rfl]
  have key:∀d:List (Key×PV),(d.map fun kv=>if kv.1=k then(kv.1,v)else kv).find? (fun kp=>decide (kp.1=k'))=(d.find? fun kp=>decide (kp.1=k')).map fun kv=>if kv.1=k then(kv.1,v)else kv:=by
   intro d
   induction d with
   |nil=>rfl
   |cons z d ih=>
    have e1:(if z.1=k then(z.1,v)else z).1=z.1:=by split<;>rfl
    rw[map_cons,find?_cons,find?_cons,e1]
    cases decide (z.1=k')with
    |true=>rfl
    |false=>exact ih
  unfold cE
  rw[key]
  by_cases hk:k=k'
  ·subst hk
   rw[if_pos rfl]
   cases f:d.find? fun kp=>decide (kp.1=k)with
   |none=>
    have:=find?_eq_none.mp f
    obtain⟨z,hz,e⟩:=any_eq_true.mp c
    exact absurd e (by simpa using this z hz)
   |some z=>
    have hz:z.1=k:=by have:=find?_some f;simpa using this
    simp[hz]
  ·rw[if_neg hk]
   cases f:d.find? fun kp=>decide (kp.1=k')with
   |none=>rfl
   |some z=>
    have hz:z.1=k':=by have:=find?_some f;simpa using this
    have:¬z.1=k:=fun e=>hk (e.symm.trans hz)
    simp[this]
 | false=>
  rw[if_neg Bool.false_ne_true]
  unfold cE
  rw[find?_append]
  by_cases hk:k=k'
  ·subst hk
   rw[if_pos rfl]
   have f:(d.find? fun kp=>decide (kp.1=k))=none:=find?_eq_none.mpr fun z hz=>by
    have:=any_eq_false.mp c z hz
    simpa using this
   rw[f]
   simp
  ·rw[if_neg hk]
   have f:([(k,v)]:List (Key×PV)).find? (fun kp=>decide (kp.1=k'))=none:=by simp[hk]
   rw[f,or_none]
noncomputable def heldOf (ks:Hl):List (Key×PV):=ks.foldl (fun d z=>fM d (Sum.inr z.1) (oP z.2)) []
theorem xA:∀(ks:Hl) (d:List (Key×PV)),(∀z∈ks,z.1≠x)->cE (ks.foldl (fun d z=>fM d (Sum.inr z.1) (oP z.2)) d) (Sum.inr x)=cE d (Sum.inr x)
 |[],d,_=>rfl
 |z::ks,d,h=>by
  rw[foldl_cons,xA ks _ fun y hy=>h y (mem_cons_of_mem _ hy),EX,if_neg fun e=>h z mem_cons_self (Sum.inr.inj e)]
theorem HB (h:∀z∈ks,z.1≠x):cE (heldOf ks) (Sum.inr x)=none:=xA ks [] h
theorem FD:∀(ks:Hl) (d:List (Key×PV)),(∀z∈ks,z.1=x->z.2=o)->(x,o)∈ks->cE (ks.foldl (fun d z=>fM d (Sum.inr z.1) (oP z.2)) d) (Sum.inr x)=some (oP o)
 | z::ks,d,h,hm=>by
  rw[foldl_cons]
  by_cases hin:(x,o)∈ks
  ·exact FD ks _ (fun y hy=>h y (mem_cons_of_mem _ hy)) hin
  ·have hz:z=(x,o):=((mem_cons.mp hm).resolve_right hin).symm
   rw[xA ks _ fun y hy e=>hin (by have:=h y (mem_cons_of_mem _ hy) e;rw[<-e,<-this];exact hy),EX,hz,if_pos rfl]
theorem HL (h:∀z∈ks,z.1=x->z.2=o) (hm:(x,o)∈ks):cE (heldOf ks) (Sum.inr x)=some (oP o):=FD ks [] h hm
end
section
open PySem L2 Mr
noncomputable def gE (ab:Hl) (x:Str):Option Str:=(ab.find? fun z=>decide (z.1=x)).bind (·.2)
theorem D8 (ab:Hl) (x:Str):(cE (kO ab) (Sum.inr x)).getD .aY=oP (gE ab x):=by
 unfold cE kO gE
 induction ab with
 |nil=>rfl
 | cons z ab ih=>
  rw[map_cons,find?_cons,find?_cons]
  by_cases h:z.1=x
  ·have e1:decide ((Sum.inr z.1:Key)=Sum.inr x)=true:=decide_eq_true (by rw[h])
   have e2:decide (z.1=x)=true:=decide_eq_true h
   simp only[e1,e2]
   rfl
  ·have e1:decide ((Sum.inr z.1:Key)=Sum.inr x)=false:=decide_eq_false fun e=>h (Sum.inr.inj e)
   have e2:decide (z.1=x)=false:=decide_eq_false h
   simp only[e1,e2]
   exact ih
theorem JD (ab:Hl):((kO ab).map fun kv=>tQ kv.1)=(ab.map (·.1)).map PV.str:=by
 unfold kO
 rw[map_map,map_map]
 rfl
theorem UN (ab:Hl) (x:Str):(cE (kO ab) (Sum.inr x)).isSome=decide (x∈ab.map (·.1)):=by
 rcases x5 ab x with⟨h1,h2⟩|⟨o,h1,h2⟩
 ·rw[h1,decide_eq_false h2];rfl
 ·rw[h1,decide_eq_true (mem_map.mpr ⟨_,h2,rfl⟩)];rfl
noncomputable abbrev rP (r:List Str):PV:=.lst (r.map PV.str)
noncomputable def fK (ab:Hl):List Str:=ab.map (·.1)++ab.filterMap (·.2)
theorem oF (ab:Hl):(fK ab).length<=2*ab.length:=by
 unfold fK
 rw[length_append,length_map]
 have:=List.length_filterMap_le (·.2:Str×Option Str->Option Str) ab
 omega
theorem U3 {ab:Hl} {x:Str} (h:gE ab x=some y):y∈fK ab:=by
 unfold gE at h
 cases c:ab.find? fun z=>decide (z.1=x)with
 |none=>rw[c]at h;cases h
 |some z=>
  rw[c]at h
  exact mem_append_right _ (mem_filterMap.mpr ⟨z,mem_of_find?_eq_some c,h⟩)
structure Clm (ab:Hl) (ms:Hl) (start:Str) (l:List Str) (nm:Option Str):Prop where
 path:Rg.Path (gE ab) l nm
 nil:l=[]->nm=some start
 nd:(ms.map (·.1)++l).Nodup
 sub:∀x∈l,x∈fK ab
 nms:∀x,nm=some x->x∈fK ab
 st:l≠[]->start∈l
noncomputable def nV (ms:Hl) (start:Str) (l:List Str):Hl:=ms++l.map fun x=>(x,some start)
theorem eW (ms:Hl) (start:Str) (l:List Str):(nV ms start l).map (·.1)=ms.map (·.1)++l:=by
 unfold nV
 rw[map_append,map_map]
 congr 1
 exact map_id' _
noncomputable def wY:FS:=(l3 (uS (bK (bC (IL true) (aC 5) (fC .aY))) (bK (bC (vN true) (aC 5) (aC 1)))) (aV (eZ 1 (aC 5) (aC 3))
  (aV (wO 4 (aC 5))
  (bX 5 (BM (aC 0) (aC 5))))) 1000)
noncomputable def CZ:FS:=(rO (uS (bK (bC (IL true) (aC 5) (fC .aY))) (bK (bC E4 (bC dG (aC 1) (aC 5)) (aC 3)))) (wO 2 (IM KD (aC 4) (l4 (oX (aC 4) (aC 5))) fH)) dA)
theorem CY:nM=(aV (fO 1 nE)
  (aV (fO 2 (gY aM))
  (aV (iJ (wF (aC 0)) (aR 3) (aV (fO 4 (gY aM))
  (aV (bX 5 (aC 3))
  (aV wY CZ))))
  (cX (aC 2))))):=rfl
noncomputable abbrev tO (ab met:Hl) (F:List (List Str)) (start:Str) (l:List Str) (nm:Option Str):En:=
 [some (.bor (.a9 (kO ab))),some (.loc (.a9 (kO met))),some (.loc (.lst (F.map rP))),some (.val (.str start)),some (.loc (.lst (l.map PV.str))),some (.val (oP nm))]
noncomputable def VV (e:En):Nat:=match e[4]? with
 |some (some (Sl.loc (PV.lst ps)))=>ps.length
 |_=>0
theorem IU {ms:Hl} {start:Str} {Q:Out->Prop} (hl:ab.length<=400) (hm:ms.length<=2*ab.length) (hms:∀x∈ms.map (·.1),x∈fK ab) (hs:start∈fK ab) (hnd:(ms.map (·.1)).Nodup)
  (q:∀l nm,Clm ab ms start l nm->(∀x,nm=some x->x∈ms.map (·.1)++l)->Q (.nx (tO ab (nV ms start l) F start l nm))):
  Wp (wY (tO ab ms F start [] (some start))) Q:=by
 unfold wY
 have len:∀{l:List Str} {nm:Option Str},Clm ab ms start l nm->ms.length+l.length<=2*ab.length:=fun{l nm} c=>by
  have h1:=eE c.nd (m:=fK ab) fun x hx=>(mem_append.mp hx).elim (hms x) (c.sub x)
  rw[length_append,length_map]at h1
  have:=oF ab
  omega
 refine tY (fun e=>∃l nm,Clm ab ms start l nm/\e=tO ab (nV ms start l) F start l nm) (fun e=>2*ab.length+1 - VV e) ?_ ?_ ⟨[],some start,⟨trivial,fun _=>rfl,by rw[append_nil];exact hnd,(fun _ h=>nomatch h),(fun x e=>by cases e;exact hs),fun h=>absurd rfl h⟩,by unfold nV;rw[map_nil,append_nil]⟩
 ·rintro e ⟨l,nm,c,rfl⟩
  have hle:=len c
  cases nm with
  |none=>
   have eo:oP none=PV.aY:=rfl
   have:=q l none c (fun _ e=>nomatch e)
   unfold tO at this⊢
   rw[eo]at this⊢
   walk_at "wp"
   exact this
  | some x=>
   have eo:oP (some x)=PV.str x:=rfl
   unfold tO
   rw[eo]
   walk_at "wp"
   rw[UN,eW]
   by_cases hx:x∈ms.map (·.1)++l
   ·rw[decide_eq_true hx]
    exact q l (some x) c fun y e=>by cases e;exact hx
   ·rw[decide_eq_false hx]
    have hxl:x∉l:=fun h=>hx (mem_append_right _ h)
    have pt:fM (kO (nV ms start l)) (Sum.inr x) (PV.str start)=kO (nV ms start (l++[x])):=by
     have:=xR (hs:=nV ms start l) (x:=x) (o:=some start) (by rw[eW];exact hx)
     rw[show oP (some start)=PV.str start from rfl]at this
     rw[this]
     unfold nV
     rw[map_append,append_assoc]
     rfl
    have kl:(kO (nV ms start l)).length=ms.length+l.length:=by unfold kO nV;rw[length_map,length_append,length_map]
    refine⟨by rw[kl];omega,by omega,⟨l++[x],gE ab x,⟨c.path.snoc rfl,fun h=>absurd h (by simp),?_,?_,fun y e=>U3 e,fun _=>?_⟩,?_⟩,?_⟩
    ·rw[<-append_assoc]
     refine nodup_append.mpr ⟨c.nd,by simp,fun u hu w hw e=>?_⟩
     rw[mem_singleton.mp hw]at e
     rw[e]at hu
     exact hx hu
    ·intro y hy
     rcases mem_append.mp hy with hy|hy
     ·exact c.sub y hy
     ·rw[mem_singleton.mp hy];exact c.nms x rfl
    ·by_cases h:l=[]
     ·have:=c.nil h
      cases this
      simp
     ·exact mem_append_left _ (c.st h)
    ·rw[pt,D8,map_append]
     rfl
    ·show 2*ab.length+1 - (l.map PV.str++[PV.str x]).length<2*ab.length+1 - (l.map PV.str).length
     rw[length_append,length_map]
     simp only[length_cons,length_nil]
     omega
 ·show 2*ab.length+1 - 0<1000
  omega
theorem OI {ms:Hl} {start:Str} {l:List Str} {nm:Option Str} {Q:Out->Prop} (c:Clm ab ms start l nm) (hn:∀x,nm=some x->x∈ms.map (·.1)++l) (hst:∀z∈ms,z.2≠some start) (hsm:∀z∈ms,∃y,z.2=some y)
  (hl:l.length<1000) (hF:F.length<1000) (f:Rg.Found (gE ab) (ms.map (·.1)) F) (q:∀G,Rg.Found (gE ab) (ms.map (·.1)++l) G->G.length<=F.length+1->Q (.nx (tO ab (nV ms start l) G start l nm))):
  Wp (CZ (tO ab (nV ms start l) F start l nm)) Q:=by
 unfold CZ
 have dj:∀x∈l,x∉ms.map (·.1):=fun x hx h=>(nodup_append.mp c.nd).2.2 x h x hx rfl
 cases nm with
 |none=>
  have:=q F (f.out c.path dj fun y e=>nomatch e) (by omega)
  have eo:oP none=PV.aY:=rfl
  unfold tO at this⊢
  rw[eo]at this⊢
  walk_at "wp"
  exact this
 | some x=>
  have eo:oP (some x)=PV.str x:=rfl
  have hx:=hn x rfl
  unfold tO
  rw[eo]
  walk_at "wp"
  rcases x5 (nV ms start l) x with⟨_,h2⟩|⟨o,h1,h2⟩
  ·rw[eW]at h2
   exact absurd hx h2
  ·rw[h1]
   rcases mem_append.mp h2 with h2|h2
   ·obtain⟨y,hy⟩:=hsm _ h2
    have hy:o=some y:=hy
    have hne:y≠start:=fun e=>hst _ h2 (by rw[<-e];exact hy)
    have:=q F (f.out c.path dj fun w e=>by cases e;exact mem_map.mpr ⟨_,h2,rfl⟩) (by omega)
    unfold tO at this
    rw[eo]at this
    subst hy
    rw[show oP (some y)=PV.str y from rfl]
    walk_at "wp"
    refine⟨fun h=>absurd (eq_of_beq h) hne,fun _=>this⟩
   ·obtain⟨w,hw,ew⟩:=mem_map.mp h2
    cases ew
    rw[show oP (some start)=PV.str start from rfl]
    walk_at "wp"
    rw[mM]
    walk_at "wp"
    refine⟨⟨hw,by omega⟩,by omega,?_⟩
    have hi:l.idxOf x<l.length:=List.idxOf_lt_length_iff.mpr hw
    have hh:(l.drop (l.idxOf x)).head? =some x:=by
     rw[List.head?_drop,getElem?_eq_getElem hi,List.getElem_idxOf]
    have hf:=f.Z7 (p:=l.take (l.idxOf x)) (r:=l.drop (l.idxOf x)) (fun e=>by rw[e]at hh;cases hh) (by rw[hh,take_append_drop];exact c.path) (by rw[take_append_drop];exact(nodup_append.mp c.nd).2.1) (by rw[take_append_drop];exact dj)
    rw[take_append_drop]at hf
    have:=q _ hf (by rw[length_append];exact le_refl _)
    unfold tO at this
    rw[eo,map_append]at this
    rw[mG,<-map_drop]
    exact this
theorem BG (hl:ab.length<=400) (hk:(ab.map (·.1)).Nodup) (q:∀(S:List Str) (F:List (List Str)),Rg.Found (gE ab) S F->(∀x∈ab.map (·.1),x∈S)->(∀x∈S,x∈fK ab)->Q (.lst (F.map rP),[])):Wp (i6 [.a9 (kO ab)]) Q:=by
 unfold i6
 rw[CY]
 walk_at "wp"
 rw[JD]
 refine cL (fun i e=>∃(ms:Hl) (F:List (List Str)) (v3 v4 v5:Option Sl),e=[some (.bor (.a9 (kO ab))),some (.loc (.a9 (kO ms))),some (.loc (.lst (F.map rP))),v3,v4,v5]/\Rg.Found (gE ab) (ms.map (·.1)) F/\F.length<=i/\(ms.map (·.1)).Nodup/\
  (∀x∈ms.map (·.1),x∈fK ab)/\(∀z∈ms,∃(j:Nat) (y:Str),j<i/\z.2=some y/\(ab.map (·.1))[j]? =some y)/\∀(j:Nat) (x:Str),j<i->(ab.map (·.1))[j]? =some x->x∈ms.map (·.1)) ?_ ?_ ⟨[],[],none,none,none,rfl,Rg.Found.nil,le_refl _,nodup_nil,(fun _ h=>nomatch h),(fun _ h=>nomatch h),fun j _ h=>absurd h (not_lt_zero _)⟩
 ·rintro i p e hp ⟨ms,F,v3,v4,v5,rfl,hf,hF,hnd,hsub,hst,hdone⟩
  rw[getElem?_map]at hp
  obtain⟨start,hs,rfl⟩:=map_eq_some_iff.mp hp
  have hil:i<ab.length:=by have:=(List.getElem?_eq_some_iff.mp hs).1;rwa[length_map]at this
  have hsA:start∈fK ab:=mem_append_left _ (mem_of_getElem? hs)
  have hml:ms.length<=2*ab.length:=by
   have h1:=eE hnd (m:=fK ab) hsub
   rw[length_map]at h1
   have:=oF ab
   omega
  walk_at "wp"
  refine IU (F:=F) hl hml hsub hsA hnd fun l nm c hn=>?_
  have hll:l.length<=2*ab.length:=by
   have h1:=eE (nodup_append.mp c.nd).2.1 (m:=fK ab) c.sub
   have:=oF ab
   omega
  refine OI c hn (fun z hz e=>?_) (fun z hz=>let⟨_,y,_,h,_⟩:=hst z hz;⟨y,h⟩) (by omega) (by omega) hf fun G hG hGl=>?_
  ·obtain⟨j,y,hj,h1,h2⟩:=hst z hz
   rw[e]at h1
   cases h1
   have e1:=(getElem?_inj (by rw[length_map];omega) hk).mp (h2.trans hs.symm)
   omega
  ·refine⟨nV ms start l,G,_,_,_,rfl,by rw[eW];exact hG,by omega,by rw[eW];exact c.nd,fun x hx=>?_,fun z hz=>?_,fun j x hj hx=>?_⟩
   ·rw[eW]at hx
    exact(mem_append.mp hx).elim (hsub x) (c.sub x)
   ·rcases mem_append.mp hz with hz|hz
    ·obtain⟨j,y,h1,h2⟩:=hst z hz
     exact⟨j,y,by omega,h2⟩
    ·obtain⟨w,_,rfl⟩:=mem_map.mp hz
     exact⟨i,start,by omega,rfl,hs⟩
   ·rw[eW]
    by_cases hj':j=i
    ·subst hj'
     rw[hs]at hx
     cases hx
     by_cases h:l=[]
     ·have h1:=hn start (by rw[c.nil h])
      exact h1
     ·exact mem_append_right _ (c.st h)
    ·exact mem_append_left _ (hdone j x (by omega) hx)
 ·rintro e ⟨ms,F,v3,v4,v5,rfl,hf,hF,hnd,hsub,hst,hdone⟩
  walk_at "wp"
  refine q _ F hf (fun x hx=>?_) hsub
  obtain⟨j,hj⟩:=getElem?_of_mem hx
  have:=(List.getElem?_eq_some_iff.mp hj).1
  exact hdone j x (by rw[length_map];exact this) hj
end
section
open PySem L2 Mr
noncomputable abbrev SH (qs:List Let):List (Key×PV):=(EK (iU qs)).map fun kp=>(kp.1,PV.lst kp.2)
noncomputable def gJ (f:Str->PV) (ns:List Str):List (Key×PV):=ns.map fun x=>(Sum.inr x,f x)
theorem EC (h:x∉ns):fM (gJ f ns) (Sum.inr x) (f x)=gJ f (ns++[x]):=by
 unfold fM
 have e:((gJ f ns).any fun kv=>decide (kv.1=Sum.inr x))=false:=by
  unfold gJ
  rw[any_map,any_eq_false]
  intro z hz
  simp only[Function.comp,decide_eq_true_eq]
  intro e
  rw[Sum.inr.inj e]at hz
  exact h hz
 rw[if_neg (by rw[e];exact Bool.false_ne_true)]
 unfold gJ
 rw[map_append]
 rfl
theorem DB (hr:∀l∈qs,l.row.length<=9) (hl:qs.length<=100) (hk:ks.length<=100) (hn:ns.Nodup) (hnl:ns.length<=200)
  (hc:∀x∈ns,∀R:PV×List PV->Prop,R (f x,[])->Wp (cQ [.a9 (heldOf ks),.a9 (HW (st qs)),.a9 (SH qs),.str x]) R) (q:Q (.a9 (gJ f ns),[])):Wp (kC [.tup (qs.map lP),.tup (mP ks),.tup (ns.map PV.str)]) Q:=by
 unfold kC p4
 walk_at "wp"
 refine⟨by unfold mP;rw[length_map];omega,?_⟩
 refine jR (fun i d e=>d=heldOf (ks.take i)/\∃s t,e=[s,t]) ?_ ?_ ⟨rfl,_,_,rfl⟩
 ·rintro i p e d hx ⟨rfl,s,t,rfl⟩
  unfold mP at hx
  rw[getElem?_map]at hx
  obtain⟨z,hz,rfl⟩:=map_eq_some_iff.mp hx
  walk_at "wp"
  refine⟨?_,_,_,rfl⟩
  unfold heldOf
  rw[take_succ,hz,toList_some,foldl_append];rfl
 ·rintro d e ⟨rfl,s,t,rfl⟩
  rw[show(mP ks).length=ks.length by unfold mP;rw[length_map],take_length]
  walk_at "wp"
  refine QR hr hl ?_
  walk_at "wp"
  refine x8 hr hl ?_
  walk_at "wp"
  refine⟨by omega,?_⟩
  refine jR (fun i d e=>d=gJ f (ns.take i)/\∃s,e=[s,some (Sl.val (.a9 (heldOf ks))),some (Sl.val (.a9 (HW (st qs)))),some (Sl.val (.a9 (SH qs)))]) ?_ ?_ ⟨rfl,_,rfl⟩
  ·rintro i p e d hx ⟨rfl,s,rfl⟩
   rw[getElem?_map]at hx
   obtain⟨x,hxe,rfl⟩:=map_eq_some_iff.mp hx
   have hi:=(List.getElem?_eq_some_iff.mp hxe).1
   have nx:x∉ns.take i:=fun h=>by
    obtain⟨j,hj⟩:=getElem?_of_mem h
    rw[getElem?_take]at hj
    split at hj
    ·have:=(getElem?_inj (by omega) hn).mp (hj.trans hxe.symm)
     omega
    ·cases hj
   walk_at "wp"
   refine hc x (mem_of_getElem? hxe) _ ?_
   walk_at "wp"
   exact⟨by rw[EC nx,take_add_one,hxe];rfl,_,rfl⟩
  ·rintro d e ⟨rfl,s,rfl⟩
   rw[length_map,take_length]
   walk_at "wp"
   exact q
end
section
open PySem L2 Mr
structure Ch where
 e:Option Str
 r:PV
noncomputable def C5 (ts:List iT):Option iT:=ts[argBest (q5 (ts.map tP)) (ts.length - 1)]?
noncomputable def rM (qs:List Let) (t:iT):Option Str:=((st qs).find? fun l=>decide (l.name=t.name)).bind fun l=>(el l)[(t.at' - 1).toNat]?
noncomputable abbrev D4:PV:=.tup [.str (Str.ofString "hand")]
noncomputable abbrev UT:PV:=.tup [.str (Str.ofString "own")]
noncomputable abbrev tN:PV:=.tup [.str (Str.ofString "first")]
noncomputable def BR (qs:List Let) (ks:Hl) (x:Str):Ch:=match ks.find? fun z=>decide (z.1=x)with
 |some z=>⟨z.2,D4⟩
 | none=>match(st qs).find? fun l=>decide (l.name=x)with
  |some l=>(match(el l).getLast? with
   |some y=>⟨some y,UT⟩
   |none=>⟨none,tN⟩)
  |none=>match C5 (lH x (iU qs))with
   |some t=>⟨rM qs t,.tup [.str (Str.ofString "told"),.str t.name,.int t.at']⟩
   |none=>⟨none,tN⟩
noncomputable def sZ (qs:List Let) (ks:Hl) (x:Str):PV:=.tup [oP (BR qs ks x).e,(BR qs ks x).r]
theorem y3 {l:Let} (h:t∈zM l):t.name=l.name/\t.day=l.day/\∃i:Nat,t.at'=(i:Int)/\0<i/\(el l)[i]? =some t.key:=by
 unfold zM at h
 obtain⟨z,hz,e⟩:=mem_filterMap.mp h
 unfold ZL at e
 split at e
 ·rename_i h0
  cases e
  obtain⟨i,hi⟩:=getElem?_of_mem hz
  rw[getElem?_zipIdx]at hi
  cases c:(el l)[i]? with
  |none=>rw[c]at hi;cases hi
  |some y=>
   rw[c]at hi
   cases hi
   exact⟨rfl,rfl,0+i,rfl,h0,by rw[zero_add];exact c⟩
 ·cases e
theorem pV (h:t∈lH x (iU qs)):t.key=x/\∃l∈st qs,t∈zM l:=by
 unfold lH at h
 obtain⟨h1,h2⟩:=mem_filter.mp h
 unfold iU at h1
 obtain⟨l,hl,ht⟩:=mem_flatMap.mp h1
 exact⟨of_decide_eq_true h2,l,hl,ht⟩
theorem mV {l:Let} (h:l∈st qs):(st qs).find? (fun k=>decide (k.name=l.name))=some l:=by
 have nd:=FY qs
 revert h nd
 generalize st qs=ls
 intro h nd
 induction ls with
 |nil=>cases h
 | cons k ls ih=>
  rw[map_cons,nodup_cons]at nd
  rw[find?_cons]
  rcases mem_cons.mp h with rfl|h
  ·rw[decide_eq_true rfl]
  ·have hne:k.name≠l.name:=fun e=>nd.1 (mem_map.mpr ⟨l,h,e.symm⟩)
   rw[decide_eq_false hne]
   exact ih h nd.2
theorem vM (h:ts≠[]):∃t∈ts,C5 ts=some t/\wH (ts.map tP)=tP t:=by
 have h0:0<ts.length:=length_pos_iff.mpr h
 have hlt:argBest (q5 (ts.map tP)) (ts.length - 1)<ts.length:=by have:=k7 (q5 (ts.map tP)) (ts.length - 1);omega
 refine⟨ts[argBest (q5 (ts.map tP)) (ts.length - 1)],getElem_mem hlt,getElem?_eq_getElem hlt,?_⟩
 unfold wH
 rw[length_map,getD_eq_getElem?_getD,getElem?_map,getElem?_eq_getElem hlt]
 rfl
theorem UW (ts:List iT):∀kp∈EK ts,kp.2≠[]:=by
 have key:∀(ts:List iT) (d:DD),(∀kp∈d,kp.2≠[])->∀kp∈ts.foldl (fun d t=>m5 d (Sum.inr t.key) (tP t)) d,kp.2≠[]:=by
  intro ts
  induction ts with
  |nil=>intro d h;exact h
  | cons t ts ih=>
   intro d h
   rw[foldl_cons]
   refine ih _ fun kp hkp=>?_
   unfold m5 at hkp
   split at hkp
   ·obtain⟨k,hk,rfl⟩:=mem_map.mp hkp
    split
    ·simp
    ·exact h k hk
   ·rcases mem_append.mp hkp with h1|h1
    ·exact h kp h1
    ·rw[mem_singleton.mp h1];simp
 exact key ts [] (fun _ h=>nomatch h)
theorem QY {qs:List Let} {x:Str} (h:lH x (iU qs)≠[]):cE (SH qs) (Sum.inr x)=some (.lst ((lH x (iU qs)).map tP)):=by
 have v:=J6 (EK (iU qs)) (Sum.inr x)
 rw[JU]at v
 cases c:cE (SH qs) (Sum.inr x)with
 |none=>
  rw[c]at v
  have e:=PV.lst.inj v
  exact absurd (List.eq_nil_of_map_eq_nil e.symm) h
 |some p=>rw[c]at v;exact congrArg some v
theorem QI {qs:List Let} {x:Str} (h:lH x (iU qs)=[]):cE (SH qs) (Sum.inr x)=none:=by
 have v:=J6 (EK (iU qs)) (Sum.inr x)
 rw[JU,h]at v
 cases c:cE (SH qs) (Sum.inr x)with
 |none=>rfl
 |some p=>
  rw[c]at v
  have e:p= .lst []:=v
  unfold cE SH at c
  obtain⟨kv,h1,h2⟩:=map_eq_some_iff.mp c
  have h3:=mem_of_find?_eq_some h1
  obtain⟨kp,h4,rfl⟩:=mem_map.mp h3
  rw[e]at h2
  exact absurd (PV.lst.inj h2) (UW _ kp h4)
theorem xS (h:cE held (Sum.inr x)=none) (hr:cE rows (Sum.inr x)=none) (hc:cE claimed (Sum.inr x)=none) (q:Q (.tup [.aY,tN],[])):Wp (cQ [.a9 held,.a9 rows,.a9 claimed,.str x]) Q:=by
 unfold cQ jM
 walk_at "wp"
 rw[h,hr,hc]
 refine⟨fun z=>(by cases z),fun _=>⟨fun z=>(by cases z),fun _=>⟨fun z=>(by cases z),fun _=>?_⟩⟩⟩
 exact q
theorem BW {qs:List Let} {ks:Hl} {x:Str} {R:PV×List PV->Prop} (hk:(ks.map (·.1)).Nodup) (r:R (sZ qs ks x,[])):Wp (cQ [.a9 (heldOf ks),.a9 (HW (st qs)),.a9 (SH qs),.str x]) R:=by
 unfold sZ BR at r
 cases e1:ks.find? fun z=>decide (z.1=x)with
 | some z=>
  rw[e1]at r
  have hz:=mem_of_find?_eq_some e1
  have hzx:z.1=x:=of_decide_eq_true (by have:=find?_some e1;exact this)
  refine zC (HL (o:=z.2) (fun w hw ew=>?_) (by rw[<-hzx];exact hz)) r
  have key:∀(l:Hl),(l.map (·.1)).Nodup->∀a∈l,∀b∈l,a.1=b.1->a=b:=by
   intro l
   induction l with
   |nil=>intro _ a ha;cases ha
   | cons c l ih=>
    intro hn a ha b hb hab
    rw[map_cons,nodup_cons]at hn
    rcases mem_cons.mp ha with rfl|ha
    ·rcases mem_cons.mp hb with rfl|hb
     ·rfl
     ·exact absurd (mem_map.mpr ⟨b,hb,hab.symm⟩) hn.1
    ·rcases mem_cons.mp hb with e|hb
     ·exact absurd (mem_map.mpr ⟨a,ha,by rw[hab,e]⟩) hn.1
     ·exact ih hn.2 a ha b hb hab
  rw[key ks hk w hw z hz (ew.trans hzx.symm)]
 | none=>
  rw[e1]at r
  have hnone:∀z∈ks,z.1≠x:=fun z hz e=>by
   have:=find?_eq_none.mp e1 z hz
   exact this (decide_eq_true e)
  have hh:=HB hnone
  cases e2:(st qs).find? fun l=>decide (l.name=x)with
  |some l=>
   rw[e2]at r
   refine CQ (ps:=(el l).map PV.str) hh (by rw[xN,e2];rfl) ?_
   unfold W9
   rw[getLast?_map]
   dsimp only at r
   cases e3:(el l).getLast? with
   |none=>rw[e3]at r;exact r
   |some y=>rw[e3]at r;exact r
  | none=>
   rw[e2]at r
   have hrow:cE (HW (st qs)) (Sum.inr x)=none:=by rw[xN,e2];rfl
   by_cases hf:lH x (iU qs)=[]
   ·refine xS hh hrow (QI hf) ?_
    rw[hf]at r
    exact r
   ·obtain⟨t,ht,em,emP⟩:=vM hf
    rw[em]at r
    obtain⟨hkey,l,hl,htl⟩:=pV ht
    obtain⟨hn1,_,i,hi,hi0,hel⟩:=y3 htl
    have hil:i<(el l).length:=(List.getElem?_eq_some_iff.mp hel).1
    have hfind:(st qs).find? (fun k=>decide (k.name=t.name))=some l:=by rw[hn1];exact mV hl
    have hat:(t.at' - 1).toNat=i - 1:=by rw[hi];omega
    have hpre:(el l)[i - 1]? =some (el l)[i - 1]:=getElem?_eq_getElem (by omega)
    have hE:rM qs t=some (el l)[i - 1]:=by unfold rM;rw[hfind,hat];exact hpre
    dsimp only at r
    rw[hE]at r
    refine zB (one:=t.name) (at':=t.at') (d:=t.day) (r:=(el l).map PV.str) (e:=.str (el l)[i - 1]) hh hrow (QY hf) (by rw[length_map];exact length_pos_iff.mpr hf) (ET _) emP (by rw[xN,hfind];rfl) ?_ r
    rw[hi,show((i:Int) - 1)=((i - 1:Nat):Int) by omega]
    refine gA ?_
    rw[getElem?_map,hpre]
    rfl
end
section
open PySem L2 Mr
theorem jL {xs:List Str} (h:∀x∈xs,x∈ss):(bV xs).length<=ss.length:=eE (pY xs) fun x hx=>h x (oK.mp hx)
noncomputable def kT (ks:List Str):List (Key×PV):=ks.map fun x=>(Sum.inr x,PV.bl true)
theorem tU (ks:List Str):(kT ks).length=ks.length:=by unfold kT;rw[length_map]
theorem p8 (ks:List Str) (x:Str):fM (kT ks) (Sum.inr x) (.bl true)=kT (iV ks x):=by
 unfold fM iV
 by_cases h:x∈ks
 ·have e:((kT ks).any fun kv=>decide (kv.1=Sum.inr x))=true:=by
   unfold kT
   rw[any_map,any_eq_true]
   exact⟨x,h,by simp⟩
  rw[e,if_pos rfl,if_pos h]
  unfold kT
  rw[map_map]
  refine map_congr_left fun y hy=>?_
  simp only[Function.comp_apply]
  split<;>rfl
 ·have e:((kT ks).any fun kv=>decide (kv.1=Sum.inr x))=false:=by
   unfold kT
   rw[any_map,any_eq_false]
   intro y hy
   have:y≠x:=fun e=>h (e▸hy)
   simp[this]
  rw[e,if_neg Bool.false_ne_true,if_neg h]
  unfold kT
  rw[map_append];rfl
theorem A7:∀ks:List Str,uY (kT ks)=some ks
 |[]=>rfl
 |x::ks=>by
  show bO (uY (kT ks)) (fun ss=>some (x::ss))=_
  rw[A7 ks];rfl
noncomputable def sA (l:Let):List Str:=l.name::el l
noncomputable def pQ (z:Str×Option Str):List Str:=z.1::z.2.toList
theorem wJ {f:α->List Str} {xs:List α} {x:α} (h:xs[i]? =some x):(xs.take (i+1)).flatMap f=(xs.take i).flatMap f++f x:=by
 rw[take_succ,h,toList_some,List.flatMap_append]
 simp
theorem P0 {own:Str} {row:List Str} {k:Nat} (h:x∈FR own row k):x∈row:=by
 unfold FR at h
 obtain⟨i,_,hi⟩:=mem_filterMap.mp h
 cases c:row[i]? with
 |none=>rw[c]at hi;cases hi
 |some y=>
  rw[c,bind_some]at hi
  split at hi
  ·cases hi;exact mem_of_getElem? c
  ·cases hi
noncomputable def Good (ss:List Str) (qs:List Let) (hs:Hl):Prop:=(∀l∈qs,l.row.length<=9/\l.name∈ss/\∀x∈l.row,x∈ss)/\∀z∈hs,z.1∈ss/\∀y,z.2=some y->y∈ss
theorem lX (g:Good ss qs hs) {l:Let} (h:l∈st qs):∀x∈sA l,x∈ss:=fun x hx=>by
 obtain⟨_,h2,h3⟩:=g.1 l (nP h)
 rcases mem_cons.mp hx with rfl|hx
 ·exact h2
 ·exact h3 x (P0 hx)
theorem yZ (g:Good ss qs hs) {z:Str×Option Str} (h:z∈hs):∀x∈pQ z,x∈ss:=fun x hx=>by
  obtain⟨h2,h3⟩:=g.2 z h
  rcases mem_cons.mp hx with rfl|hx
  ·exact h2
  · cases e:z.2 with
    |none=>rw[e]at hx;cases hx
    | some y => rw[e]at hx;have:x=y:=by simpa using hx
                rw[this];exact h3 y e
noncomputable def j8 (qs:List Let) (hs:Hl):List Str:=(st qs).flatMap sA++hs.flatMap pQ
theorem G0 (g:Good ss qs hs) (hl:qs.length<=100) (h60:ss.length<=62) (q:Q (.tup ((dW (bV (j8 qs hs))).map PV.str),[])):Wp (mH [.tup (qs.map lP),.tup (mP hs)]) Q:=by
 unfold mH tI
 walk_at "wp"
 refine i8 hl ?_
 walk_at "wp"
 refine cL (fun i e=>∃v3 v4 v5,e=[some (Sl.val (PV.tup (qs.map lP))),some (Sl.val (PV.tup (mP hs))),some (Sl.loc (PV.a9 (kT (bV (((st qs).take i).flatMap sA))))),v3,v4,v5]) ?_ ?_ ⟨_,_,_,rfl⟩
 ·rintro i p e hx ⟨v3,v4,v5,rfl⟩
  rw[getElem?_map]at hx
  obtain⟨l,hk,rfl⟩:=map_eq_some_iff.mp hx
  have hm:=mem_of_getElem? hk
  have hrow:=(g.1 l (nP hm)).1
  have sub:∀k,∀x∈((st qs).take k).flatMap sA,x∈ss:=fun k x hx=>by
   obtain⟨l',h1,h2⟩:=mem_flatMap.mp hx
   exact lX g (mem_of_mem_take h1) x h2
  have b1:=jL (sub i)
  rw[show lP l=PV.tup [PV.str l.name,PV.int l.day,PV.str l.head,PV.tup (l.row.map PV.str)]from rfl]
  walk_at "wp"
  rw[p8,tU]
  refine⟨by omega,pZ (l:=l) hrow ?_⟩
  walk_at "wp"
  rw[<-fA]
  refine cL (fun j e=>∃v4,e=[some (Sl.val (PV.tup (qs.map lP))),some (Sl.val (PV.tup (mP hs))),some (Sl.loc (PV.a9 (kT (bV (((st qs).take i).flatMap sA++l.name::(el l).take j))))),some (Sl.val (PV.tup [PV.str l.name,PV.int l.day,PV.str l.head,PV.tup (l.row.map PV.str)])),v4,v5]) ?_ ?_ ⟨_,rfl⟩
  ·rintro j p e hx ⟨v4,rfl⟩
   rw[getElem?_map]at hx
   obtain⟨x,hk2,rfl⟩:=map_eq_some_iff.mp hx
   walk_at "wp"
   rw[p8,tU,<-fA]
   refine⟨?_,some (.val (.str x)),?_⟩
   ·have:=jL (ss:=ss) (xs:=((st qs).take i).flatMap sA++l.name::(el l).take j) fun x hx=>by
     rcases mem_append.mp hx with z|z
     ·exact sub i x z
     ·refine lX g hm x ?_
      rcases mem_cons.mp z with z|z
      ·exact mem_cons.mpr (.inl z)
      ·exact mem_cons_of_mem _ (mem_of_mem_take z)
    omega
   ·rw[take_succ,hk2,toList_some]
    simp only[append_assoc,cons_append]
  ·rintro e ⟨v4,rfl⟩
   rw[length_map,take_length]
   have ee:((st qs).take (i+1)).flatMap sA=((st qs).take i).flatMap sA++l.name::el l:=by rw[wJ hk];rfl
   exact⟨_,_,_,by rw[ee]⟩
 ·rintro e ⟨v3,v4,v5,rfl⟩
  rw[length_map,take_length]
  walk_at "wp"
  refine cL (fun i e=>∃v3 v4 v5,e=[some (Sl.val (PV.tup (qs.map lP))),some (Sl.val (PV.tup (mP hs))),some (Sl.loc (PV.a9 (kT (bV ((st qs).flatMap sA++(hs.take i).flatMap pQ))))),v3,v4,v5]) ?_ ?_ ⟨v3,v4,v5,by rw[List.take_zero,List.flatMap_nil,append_nil]⟩
  ·rintro i p e hx ⟨v3,v4,v5,rfl⟩
   unfold mP at hx
   rw[getElem?_map]at hx
   obtain⟨z,hk,rfl⟩:=map_eq_some_iff.mp hx
   have hm:=mem_of_getElem? hk
   have sub:∀x∈(st qs).flatMap sA++(hs.take i).flatMap pQ,x∈ss:=fun x hx=>by
    rcases mem_append.mp hx with w|w
    ·obtain⟨l',h1,h2⟩:=mem_flatMap.mp w
     exact lX g h1 x h2
    ·obtain⟨l',h1,h2⟩:=mem_flatMap.mp w
     exact yZ g (mem_of_mem_take h1) x h2
   have b1:=jL sub
   have hz:=(g.2 z hm).1
   have b2:=jL (ss:=ss) (xs:=((st qs).flatMap sA++(hs.take i).flatMap pQ)++[z.1]) fun x hx=>by
    rcases mem_append.mp hx with w|w
    ·exact sub x w
    ·rw[mem_singleton.mp w];exact hz
   have es:=wJ (f:=pQ) hk
   cases eo:z.2 with
   |none=>
    rw[show oP none=PV.aY from rfl]
    walk_at "wp"
    rw[p8,tU,<-fA]
    have ee:(st qs).flatMap sA++(hs.take (i+1)).flatMap pQ=(st qs).flatMap sA++(hs.take i).flatMap pQ++[z.1]:=by rw[es,show pQ z=[z.1] by unfold pQ;rw[eo];rfl,append_assoc]
    exact⟨by omega,_,_,_,by rw[ee]⟩
   | some y=>
    rw[show oP (some y)=PV.str y from rfl]
    walk_at "wp"
    rw[p8,p8,tU,tU,<-fA,<-fA]
    have ee:(st qs).flatMap sA++(hs.take (i+1)).flatMap pQ=(st qs).flatMap sA++(hs.take i).flatMap pQ++[z.1]++[y]:=by
     rw[es,show pQ z=[z.1,y] by unfold pQ;rw[eo];rfl]
     simp only[append_assoc,cons_append,nil_append]
    exact⟨by omega,by omega,_,_,_,by rw[ee]⟩
  ·rintro e ⟨v3,v4,v5,rfl⟩
   have b1:(bV (j8 qs hs)).length<=ss.length:=jL fun x hx=>by
    rcases mem_append.mp hx with w|w
    ·obtain⟨l',h1,h2⟩:=mem_flatMap.mp w
     exact lX g h1 x h2
    ·obtain⟨l',h1,h2⟩:=mem_flatMap.mp w
     exact yZ g h1 x h2
   rw[show(mP hs).length=hs.length by unfold mP;rw[length_map],take_length]
   rw[show(st qs).flatMap sA++hs.flatMap pQ=j8 qs hs from rfl]
   walk_at "wp"
   have eg:fS [.a9 (kT (bV (j8 qs hs)))]=some (.new (.lst ((dW (bV (j8 qs hs))).map PV.str))):=by
    have e1:qD [.a9 (kT (bV (j8 qs hs)))]=some (.new (.lst ((dW (bV (j8 qs hs))).map PV.str))):=by
     show bO (uY (kT (bV (j8 qs hs)))) _=_
     rw[A7,rA,decide_eq_true (show(bV (j8 qs hs)).length<64 by omega)]
     rfl
    unfold fS
    rw[e1]
    rfl
   rw[eg]
   walk_at "wp"
   exact q
end
section
open PySem L2 Mr
theorem tJ {hs:Hl} {x:Str} (e:gE hs x=some y):x∈hs.map (·.1):=by
 unfold gE at e
 cases e2:hs.find? fun z=>decide (z.1=x)with
 |none=>rw[e2]at e;cases e
 |some z=>
  have h1:=mem_of_find?_eq_some e2
  have h2:=find?_some e2
  exact mem_map.mpr ⟨z,h1,of_decide_eq_true h2⟩
theorem uV {ks:Hl} {o:Option Str} (hl:ks.length<=100) (q:∀b,(b=true↔∃y j,o=some y/\Rg.cY (gE ks) j y=some x)->Q (.bl b,[])):Wp (fZ [.a9 (kO ks),oP o,.str x]) Q:=by
 unfold fZ k8
 have kl:(kO ks).length=ks.length:=by unfold kO;rw[length_map]
 walk_at "wp"
 refine⟨gQ (by omega) (by omega),?_⟩
 refine cL (fun i e=>∃(v3:Option Sl),e=[some (Sl.bor (PV.a9 (kO ks))),some (Sl.val (oP (o.bind (Rg.cY (gE ks) i)))),some (Sl.val (PV.str x)),v3]/\∀k,k<i->∃y,o.bind (Rg.cY (gE ks) k)=some y/\y≠x) ?_ ?_ ⟨none,by cases o<;>rfl,fun k h=>absurd h (not_lt_zero _)⟩
 ·rintro i p e hx ⟨v3,rfl,hne⟩
  cases e:o.bind (Rg.cY (gE ks) i)with
  | none=>
   rw[show oP none=PV.aY from rfl]
   walk_at "wp"
   refine q _ ⟨fun h=>(by cases h),fun⟨y,j,h1,h2⟩=>?_⟩
   exfalso
   subst h1
   by_cases hj:j<i
   ·obtain⟨z,h3,h4⟩:=hne j hj
    rw[show(some y).bind (Rg.cY (gE ks) j)=Rg.cY (gE ks) j y from rfl,h2]at h3
    cases h3
    exact h4 rfl
   ·obtain⟨z,h3,_⟩:=Rg.lW h2 i (by omega)
    rw[show(some y).bind (Rg.cY (gE ks) i)=Rg.cY (gE ks) i y from rfl,h3]at e
    cases e
  | some y=>
   rw[show oP (some y)=PV.str y from rfl]
   walk_at "wp"
   refine⟨fun h=>?_,fun h=>⟨some (Sl.val p),?_,fun k hk=>?_⟩⟩
   ·have hy:=eq_of_beq h
    subst hy
    rw[beq_self_eq_true]
    refine q _ ⟨fun _=>?_,fun _=>rfl⟩
    cases o with
    |none=>cases e
    |some y0=>exact⟨y0,i,rfl,e⟩
   ·have nx:o.bind (Rg.cY (gE ks) (i+1))=gE ks y:=by
     cases o with
     |none=>cases e
     |some y0=>
      have e:Rg.cY (gE ks) i y0=some y:=e
      show Rg.cY (gE ks) (i+1) y0=_
      rw[Rg.gT i 1,e]
      show(gE ks y).bind (Rg.cY (gE ks) 0)=_
      cases gE ks y<;>rfl
    rw[nx,D8]
   ·by_cases hki:k=i
    ·rw[hki];exact⟨y,e,fun z=>by rw[z,beq_self_eq_true]at h;cases h⟩
    ·exact hne k (by omega)
 ·rintro e ⟨v3,rfl,hne⟩
  rw[length_map,length_range]at hne
  walk_at "wp"
  refine q _ ⟨fun h=>(by cases h),fun⟨y,j,h1,h2⟩=>?_⟩
  exfalso
  subst h1
  obtain⟨i,hi,h3⟩:=Rg.zN (K:=ks.map (·.1)) (fun z w h=>tJ h) j h2
  rw[length_map]at hi
  obtain⟨z,h4,h5⟩:=hne i (by omega)
  rw[show(some y).bind (Rg.cY (gE ks) i)=Rg.cY (gE ks) i y from rfl,h3]at h4
  cases h4
  exact h5 rfl
end
section
open PySem L2 Mr
noncomputable def yO (hs:Hl):Prop:=∀y,¬Rg.BQ (gE hs) y
theorem yO.nil:yO []:=fun y ⟨n,h⟩=>by cases h
theorem EG {hs:Hl} (hx:x∉hs.map (·.1)) (z:Str):gE (hs++[(x,o)]) z=if z=x then o else gE hs z:=by
 unfold gE
 rw[find?_append]
 by_cases h:z=x
 ·subst h
  rw[if_pos rfl]
  have:hs.find? (fun w=>decide (w.1=z))=none:=find?_eq_none.mpr fun w hw e=>hx (mem_map.mpr ⟨w,hw,of_decide_eq_true e⟩)
  rw[this,find?_cons,decide_eq_true rfl]
  rfl
 ·rw[if_neg h]
  cases c:hs.find? fun w=>decide (w.1=z)with
  |some w=>rfl
  |none=>
   rw[find?_cons,decide_eq_false (fun e=>h e.symm)]
   rfl
theorem yO.add {hs:Hl} (h:yO hs) {x:Str} (hx:x∉hs.map (·.1)) (hr:∀y,o=some y->∀j,Rg.cY (gE hs) j y≠some x):yO (hs++[(x,o)]):=by
 have hn:gE hs x=none:=by
  cases e:gE hs x with
  |none=>rfl
  |some y=>exact absurd (tJ e) hx
 exact Rg.LO (up:=gE hs) (fun z hz=>by rw[EG hx,if_neg hz]) hn h o (by rw[EG hx,if_pos rfl]) hr
theorem rZ {hs:Hl} (hn:(hs.map (·.1)).Nodup) (h:(x,o)∈hs):gE hs x=o:=by
 induction hs with
 |nil=>cases h
 | cons z hs ih=>
  rw[map_cons,nodup_cons]at hn
  unfold gE
  rw[find?_cons]
  rcases mem_cons.mp h with e|h
  ·rw[<-e,decide_eq_true rfl];rfl
  ·have hne:z.1≠x:=fun e=>hn.1 (mem_map.mpr ⟨_,h,e.symm⟩)
   rw[decide_eq_false hne]
   exact ih hn.2 h
theorem MM {hs ks:Hl} (hn:(hs.map (·.1)).Nodup) (p:ks.Perm hs):gE ks=gE hs:=by
 funext x
 have hn2:(ks.map (·.1)).Nodup:=(p.map _).nodup_iff.mpr hn
 by_cases hx:x∈hs.map (·.1)
 ·obtain⟨z,hz,rfl⟩:=mem_map.mp hx
  rw[rZ hn (o:=z.2) hz,rZ hn2 (o:=z.2) (p.mem_iff.mpr hz)]
 ·have h1:gE hs x=none:=by cases e:gE hs x with|none=>rfl|some y=>exact absurd (tJ e) hx
  have h2:gE ks x=none:=by cases e:gE ks x with|none=>rfl|some y=>exact absurd ((p.map _).mem_iff.mp (tJ e)) hx
  rw[h1,h2]
theorem yO.perm (h:yO hs) (hn:(hs.map (·.1)).Nodup) (p:ks.Perm hs):yO ks:=by unfold yO;rw[MM hn p];exact h
theorem JX {a b c many:Int} (h:Hand a b c n) (hs0:0<ss.length) (hs1:ss.length<=60) (m0:0<=many) (m1:many<=40) (hn:n<100000)
  (q:∀(hs:Hl) a' b' c',hs.length<=many.toNat->MOk ss hs->yO hs->Hand a' b' c' (n+130)->Q (.tup (mP hs),[hd a' b' c'])):Wp (hZ [hd a b c,.lst (ss.map PV.str),.int many]) Q:=by
 unfold hZ l6
 walk_at "wp"
 refine⟨gQ (by omega) (by omega),?_⟩
 refine cL (fun i e=>∃(hs:Hl) (a b c:Int) (v4 v5 v6:Option Sl),hs.length<=i/\(MOk ss hs/\yO hs)/\Hand a b c (n+3*i)/\e=[some (.own (hd a b c)),some (.bor (.lst (ss.map PV.str))),some (.val (.int many)),some (.loc (.a9 (kO hs))),v4,v5,v6]) ?_ ?_ ⟨[],a,b,c,_,_,_,le_refl _,⟨⟨nodup_nil,fun _ h=>(nomatch h)⟩,yO.nil⟩,h,rfl⟩
 ·rintro i x e hx ⟨hs,a,b,c,v4,v5,v6,hl,⟨ok,nr⟩,hp,rfl⟩
  rw[getElem?_map]at hx
  obtain⟨k,hk,rfl⟩:=map_eq_some_iff.mp hx
  have hi:=(List.getElem?_eq_some_iff.mp hk).1
  rw[length_range]at hi
  walk_at "wp"
  refine cV hp (by omega) (by omega) (by omega) fun d a1 b1 c1 d0 d1 hp=>?_
  walk_at "wp"
  refine fJ d0 (by rw[length_map];exact d1) fun p hp'=>?_
  obtain⟨x,hx,rfl⟩:=mem_map.mp hp'
  walk_at "wp"
  refine cV hp (by omega) (by omega) (by omega) fun d a1 b1 c1 d0 d1 hp=>?_
  walk_at "wp"
  refine fJ d0 (by rw[length_map];exact d1) fun p hp'=>?_
  obtain⟨y,hy,rfl⟩:=mem_map.mp hp'
  walk_at "wp"
  refine cV hp (by omega) (by decide) (by decide) fun d a1 b1 c1 d0 d1 hp=>?_
  walk_at "wp"
  have aH:∀p6:PV,∃(hs':Hl) (a b c:Int) (v4 v5 v6:Option Sl),hs'.length<=i+1/\(MOk ss hs'/\yO hs')/\Hand a b c (n+3*(i+1))/\[some (Sl.own (hd a1 b1 c1)),some (Sl.bor (PV.lst (ss.map PV.str))),some (Sl.val (PV.int many)),some (Sl.loc (PV.a9 (kO hs))),some (Sl.val (PV.int (0+(k:Int)))),some (Sl.val (PV.str x)),some (Sl.val p6)]=[some (.own (hd a b c)),some (.bor (.lst (ss.map PV.str))),some (.val (.int many)),some (.loc (.a9 (kO hs'))),v4,v5,v6]:=fun p6=>
   ⟨hs,a1,b1,c1,_,_,_,by omega,⟨ok,nr⟩,hp.mono (by omega),rfl⟩
  have put:∀o:Option Str,(∀y,o=some y->y∈ss)->(¬∃y j,o=some y/\Rg.cY (gE hs) j y=some x)->(!(cE (kO hs) (Sum.inr x)).isSome)=true->∃(hs':Hl) (a b c:Int) (v4 v5 v6:Option Sl),hs'.length<=i+1/\(MOk ss hs'/\yO hs')/\Hand a b c (n+3*(i+1))/\[some (Sl.own (hd a1 b1 c1)),some (Sl.bor (PV.lst (ss.map PV.str))),some (Sl.val (PV.int many)),some (Sl.loc (PV.a9 (fM (kO hs) (Sum.inr x) (oP o)))),some (Sl.val (PV.int (0+(k:Int)))),some (Sl.val (PV.str x)),some (Sl.val (oP o))]=[some (.own (hd a b c)),some (.bor (.lst (ss.map PV.str))),some (.val (.int many)),some (.loc (.a9 (kO hs'))),v4,v5,v6]:=fun o ho hcl g=>by
   have hxn:x∉hs.map (·.1):=by
    rcases x5 hs x with⟨_,e⟩|⟨o,e,_⟩
    ·exact e
    ·rw[e]at g;cases g
   refine⟨hs++[(x,o)],a1,b1,c1,_,_,_,by rw[length_append];simp;omega,⟨⟨?_,fun z hz=>?_⟩,nr.add hxn fun y hy j hj=>hcl ⟨y,j,hy,hj⟩⟩,hp.mono (by omega),by rw[xR hxn]⟩
   ·rw[map_append]
    refine nodup_append.mpr ⟨ok.nd,by simp,fun u hu v hv e=>?_⟩
    have:v=x:=by simpa using hv
    rw[e,this]at hu
    exact hxn hu
   ·rcases mem_append.mp hz with g|g
    ·exact ok.nm z g
    ·rw[mem_singleton.mp g];exact⟨hx,ho⟩
  have hkl:(kO hs).length<1000000:=by unfold kO;rw[length_map];omega
  refine⟨fun _=>⟨fun g=>uV (o:=none) (by omega) fun b hb=>?_,fun g=>aH _⟩,fun _=>⟨fun g=>uV (o:=some y) (by omega) fun b hb=>?_,fun g=>aH _⟩⟩
  ·cases b with
   |true=>walk_at "wp";exact aH _
   |false=>walk_at "wp";exact⟨hkl,put none (fun y e=>by cases e) (fun h=>absurd (hb.mpr h) Bool.false_ne_true) g⟩
  ·cases b with
   |true=>walk_at "wp";exact aH _
   |false=>walk_at "wp";exact⟨hkl,put (some y) (fun z e=>by cases e;exact hy) (fun h=>absurd (hb.mpr h) Bool.false_ne_true) g⟩
 ·rintro e ⟨hs,a,b,c,v4,v5,v6,hl,⟨ok,nr⟩,hp,rfl⟩
  rw[length_map,length_range]at hl hp
  walk_at "wp"
  rw[GZ,UB,US ok.nd]
  obtain⟨ks,k1,k2⟩:=PQ (cF 3 (mP hs))
  rw[k2]
  have hk:(kO hs).length=hs.length:=by unfold kO;rw[length_map]
  walk_at "wp"
  refine⟨by omega,q ks a b c (by rw[k1.length_eq];exact hl) ⟨(k1.map _).nodup_iff.mpr ok.nd,fun z hz=>ok.nm z (k1.mem_iff.mp hz)⟩ (nr.perm ok.nd k1) (hp.mono (by omega))⟩
end
section
open PySem L2 Mr
theorem i0 (f:Str->PV) (ns:List Str) (x:Str):cE (gJ f ns) (Sum.inr x)=if x∈ns then some (f x)else none:=by
 unfold cE gJ
 induction ns with
 |nil=>rfl
 | cons y ns ih=>
  rw[map_cons,find?_cons]
  by_cases h:y=x
  ·subst h
   rw[decide_eq_true rfl,if_pos mem_cons_self];rfl
  ·rw[decide_eq_false (fun e=>h (Sum.inr.inj e))]
   rw[ih]
   have:(x∈y::ns)↔(x∈ns):=by simp[Ne.symm h]
   simp only[this]
theorem G7 {g:Str->PV} (h:∀x∈ns,f x=g x):gJ f ns=gJ g ns:=map_congr_left fun x hx=>by rw[h x hx]
noncomputable def pJ (f:Str->PV) (x:Str) (v:PV) (y:Str):PV:=if y=x then v else f y
theorem hJ (f:Str->PV) (ns:List Str) (x:Str) (v:PV):fM (gJ f ns) (Sum.inr x) v=gJ (pJ f x v) (iV ns x):=by
 unfold fM iV
 by_cases h:x∈ns
 ·have e:((gJ f ns).any fun kv=>decide (kv.1=Sum.inr x))=true:=by
   unfold gJ
   rw[any_map,any_eq_true]
   exact⟨x,h,by simp⟩
  rw[e,if_pos rfl,if_pos h]
  unfold gJ
  rw[map_map]
  refine map_congr_left fun y hy=>?_
  simp only[Function.comp_apply,pJ]
  by_cases hyx:y=x
  ·subst hyx;simp
  ·rw[if_neg (by simpa using hyx),if_neg hyx]
 ·have e:((gJ f ns).any fun kv=>decide (kv.1=Sum.inr x))=false:=by
   unfold gJ
   rw[any_map,any_eq_false]
   intro y hy
   have:y≠x:=fun e=>h (e▸hy)
   simp[this]
  rw[e,if_neg Bool.false_ne_true,if_neg h]
  unfold gJ
  rw[map_append]
  congr 1
  ·refine map_congr_left fun y hy=>?_
   have:y≠x:=fun e=>h (e▸hy)
   unfold pJ
   rw[if_neg this]
  ·simp[pJ]
theorem eS (f:Str->PV) (ns:List Str):(gJ f ns).length=ns.length:=by unfold gJ;rw[length_map]
theorem EN (h:ns.Nodup):(iV ns x).Nodup:=by
 unfold iV
 split
 ·exact h
 ·rename_i hx
  refine nodup_append.mpr ⟨h,by simp,fun a ha b hb e=>?_⟩
  rw[mem_singleton.mp hb]at e
  exact hx (e▸ha)
theorem AD (f:Str->PV) (ns:List Str):((gJ f ns).map fun kv=>tQ kv.1)=ns.map PV.str:=by
 unfold gJ
 rw[map_map];rfl
theorem A3 {ks:Hl} (h:x∈ks.map (·.1)) (hn:(ks.map (·.1)).Nodup):(BR qs ks x).e=gE ks x/\(BR qs ks x).r=D4:=by
 unfold BR gE
 obtain⟨z,hz,rfl⟩:=mem_map.mp h
 cases e:ks.find? fun w=>decide (w.1=z.1)with
 |none=>exact absurd (decide_eq_true rfl) (find?_eq_none.mp e z hz)
 |some w=>exact⟨rfl,rfl⟩
theorem QT (h:t∈lH x (iU qs)):∃l∈st qs,∃i:Nat,t.name=l.name/\t.day=l.day/\t.at'=(i:Int)/\0<i/\(el l)[i]? =some x/\∃y,(el l)[i - 1]? =some y/\rM qs t=some y:=by
 obtain⟨hkey,l,hl,htl⟩:=pV h
 obtain⟨hn1,hd,i,hi,hi0,hel⟩:=y3 htl
 have hil:i<(el l).length:=(List.getElem?_eq_some_iff.mp hel).1
 have hfind:(st qs).find? (fun k=>decide (k.name=t.name))=some l:=by rw[hn1];exact mV hl
 have hat:(t.at' - 1).toNat=i - 1:=by rw[hi];omega
 have hpre:(el l)[i - 1]? =some (el l)[i - 1]:=getElem?_eq_getElem (by omega)
 exact⟨l,hl,i,hn1,hd,hi,hi0,by rw[<-hkey];exact hel,_,hpre,by unfold rM;rw[hfind,hat];exact hpre⟩
theorem KC (h:C5 ts=some t):t∈ts:=mem_of_getElem? h
theorem WU {l:Let} (h:x∈el l):x≠l.name:=by
 unfold el FR at h
 obtain⟨i,_,hi⟩:=mem_filterMap.mp h
 cases c:l.row[i]? with
 |none=>rw[c]at hi;cases hi
 |some y=>
  rw[c,bind_some]at hi
  split at hi
  ·rename_i hh;cases hi;exact hh.1
  ·cases hi
theorem qI {qs:List Let} {ks:Hl} {x:Str} (hk:(ks.map (·.1)).Nodup) (nr:yO ks) (h:(BR qs ks x).e=some y):y≠x/\y∈j8 qs ks:=by
 unfold BR at h
 cases e1:ks.find? fun z=>decide (z.1=x)with
 | some z=>
  rw[e1]at h
  have hz:=mem_of_find?_eq_some e1
  have hzx:z.1=x:=of_decide_eq_true (by have:=find?_some e1;exact this)
  have h:z.2=some y:=h
  refine⟨fun e=>nr x ⟨0,?_⟩,mem_append_right _ (mem_flatMap.mpr ⟨z,hz,?_⟩)⟩
  ·have:gE ks x=some x:=by unfold gE;rw[e1,<-e];exact h
   unfold Rg.cY
   rw[this];rfl
  ·unfold pQ;rw[h];simp
 | none=>
  rw[e1]at h
  cases e2:(st qs).find? fun l=>decide (l.name=x)with
  | some l=>
   rw[e2]at h
   have hl:=mem_of_find?_eq_some e2
   have hlx:l.name=x:=of_decide_eq_true (by have:=find?_some e2;exact this)
   dsimp only at h
   cases e3:(el l).getLast? with
   |none=>rw[e3]at h;cases h
   |some w=>
    rw[e3]at h
    cases h
    have hw:=List.mem_of_getLast? e3
    exact⟨by rw[<-hlx];exact WU hw,mem_append_left _ (mem_flatMap.mpr ⟨l,hl,mem_cons_of_mem _ hw⟩)⟩
  | none=>
   rw[e2]at h
   dsimp only at h
   cases e3:C5 (lH x (iU qs))with
   |none=>rw[e3]at h;cases h
   |some t=>
    rw[e3]at h
    obtain⟨l,hl,i,_,_,_,hi0,hx,w,hw,he⟩:=QT (KC e3)
    have h:rM qs t=some y:=h
    rw[he]at h
    cases h
    refine⟨fun e=>?_,mem_append_left _ (mem_flatMap.mpr ⟨l,hl,mem_cons_of_mem _ (mem_of_getElem? hw)⟩)⟩
    rw[e]at hw
    have:=(getElem?_inj (List.getElem?_eq_some_iff.mp hw).1 (zS l)).mp (hw.trans hx.symm)
    omega
end
section
open PySem L2 Mr
noncomputable abbrev y4 (qs:List Let) (ks:Hl) (x:Str):Option Str:=(BR qs ks x).e
noncomputable abbrev JK (qs:List Let) (ks:Hl) (ns:List Str):Hl:=ns.map fun x=>(x,y4 qs ks x)
theorem fR (qs:List Let) (ks:Hl) (ns:List Str):(JK qs ks ns).map (·.1)=ns:=by rw[map_map];exact map_id' _
theorem find_none {p:α->Bool} {l:List α} (h:∀a∈l,p a=false):l.find? p=none:=find?_eq_none.mpr fun a ha e=>by rw[h a ha]at e;cases e
theorem rS {l:Let} (h:t∈zM l):t.key∈el l:=by
 obtain⟨_,_,i,_,_,hi⟩:=y3 h
 exact mem_of_getElem? hi
theorem FH (h:x∉j8 qs ks):BR qs ks x=⟨none,tN⟩:=by
 have h1:ks.find? (fun z=>decide (z.1=x))=none:=find_none fun z hz=>decide_eq_false fun e=>h (mem_append_right _ (mem_flatMap.mpr ⟨z,hz,by unfold pQ;rw[e];exact mem_cons_self⟩))
 have h2:(st qs).find? (fun l=>decide (l.name=x))=none:=find_none fun z hz=>decide_eq_false fun e=>h (mem_append_left _ (mem_flatMap.mpr ⟨z,hz,by unfold sA;rw[e];exact mem_cons_self⟩))
 have h3:lH x (iU qs)=[]:=List.eq_nil_iff_forall_not_mem.mpr fun t ht=>by
  obtain⟨hk,l,hl,htl⟩:=pV ht
  exact h (mem_append_left _ (mem_flatMap.mpr ⟨l,hl,by rw[<-hk];exact mem_cons_of_mem _ (rS htl)⟩))
 unfold BR
 rw[h1,h2,h3]
 rfl
theorem QG {qs:List Let} {ks:Hl} {ns:List Str} (hm:∀x,x∈ns↔x∈j8 qs ks) (hn:ns.Nodup):gE (JK qs ks ns)=y4 qs ks:=by
 funext x
 by_cases h:x∈ns
 ·exact rZ (by rw[fR];exact hn) (mem_map.mpr ⟨x,h,rfl⟩)
 ·have e:y4 qs ks x=none:=by show(BR qs ks x).e=none;rw[FH fun z=>h ((hm x).mpr z)]
  rw[e]
  cases c:gE (JK qs ks ns) x with
  |none=>rfl
  |some y=>exact absurd (by have:=tJ c;rwa[fR]at this) h
noncomputable def zW (qs:List Let) (x:Str):PV:=match(st qs).find? fun l=>decide (l.name=x)with
 |some l=>.int l.day
 |none=>.aY
theorem yB {l:List α} (nd:l.Nodup) {x:α} (h:l[i]? =some x):x∉l.take i:=fun hx=>by
 obtain⟨j,hj⟩:=getElem?_of_mem hx
 rw[getElem?_take]at hj
 split at hj
 ·have:=(getElem?_inj (List.getElem?_eq_some_iff.mp hj).1 nd).mp (hj.trans h.symm)
  omega
 ·cases hj
theorem Q4 (hl:qs.length<=100) (q:Q (.a9 (gJ (zW qs) ((st qs).map (·.name))),[])):Wp (kM [.tup (qs.map lP)]) Q:=by
 unfold kM pR
 walk_at "wp"
 refine i8 hl ?_
 walk_at "wp"
 have:=t7 qs
 refine⟨by omega,?_⟩
 refine jR (fun i d e=>d=gJ (zW qs) (((st qs).take i).map (·.name))/\∃s,e=[s]) ?_ ?_ ⟨rfl,_,rfl⟩
 ·rintro i p e d hx ⟨rfl,s,rfl⟩
  rw[getElem?_map]at hx
  obtain⟨l,hk,rfl⟩:=map_eq_some_iff.mp hx
  unfold lP
  walk_at "wp"
  refine⟨?_,_,rfl⟩
  have hf:zW qs l.name= .int l.day:=by unfold zW;rw[mV (mem_of_getElem? hk)]
  rw[<-hf,EC,take_add_one,hk,map_append]
  ·rfl
  ·rw[map_take]
   exact yB (FY qs) (by rw[getElem?_map,hk];rfl)
 ·rintro d e ⟨rfl,s,rfl⟩
  rw[length_map,take_length]
  walk_at "wp"
  exact q
structure Cut (qs:List Let) (ks:Hl) (R:List Str) (x:Str):Prop where
 mem:x∈R
 free:x∉ks.map (·.1)
 empty:∀y∈R,y∉ks.map (·.1)->y∉(st qs).map (·.name)->x∉(st qs).map (·.name)/\kK 3 (.str x) (.str y)=true
 full:(∀y∈R,y∉ks.map (·.1)->y∈(st qs).map (·.name))->∀y∈R,y∉ks.map (·.1)->kK 3 (.tup [zW qs x,.str x]) (.tup [zW qs y,.str y])=true
theorem lJ {ns:List Str} {p:Str->Bool} {fg:FG} {ft:FT} {fe:FE} {Q:List PV×En->Prop} {I:En->Prop} {e:En} (h0:I e) (hs:∀x∈ns,∀e,I e->Wp (fg (.str x) e) fun e1=>Wp (ft e1) fun z=>z.1=p x/\match z.1 with|false=>I z.2|true=>Wp (fe z.2) fun w=>Wp w.1.put fun q=>q= .str x/\I w.2) (q:∀e,I e->Q ((ns.filter p).map PV.str,e)):Wp (iX fg ft fe (ns.map PV.str) e) Q:=by
 refine fF (fun i acc e=>acc=((ns.take i).filter p).map PV.str/\I e) ?_ ?_ ⟨rfl,h0⟩
 ·rintro i x e acc hx ⟨rfl,hi⟩
  rw[getElem?_map]at hx
  obtain⟨y,hy,rfl⟩:=map_eq_some_iff.mp hx
  refine(hs y (mem_of_getElem? hy) e hi).mono fun e1 h=>h.mono fun z ⟨h1,h2⟩=>?_
  obtain⟨b,e2⟩:=z
  dsimp only at h1 h2⊢
  have et:(ns.take (i+1)).filter p=(ns.take i).filter p++if p y=true then [y]else []:=by
   rw[take_add_one,hy,toList_some,List.filter_append]
   congr 1
   rw[List.filter_cons]
   rfl
  cases b with
  |false=>exact⟨by rw[et,<-h1,if_neg Bool.false_ne_true,append_nil],h2⟩
  |true=>exact h2.mono fun w h=>h.mono fun q ⟨hq,hi⟩=>⟨by rw[et,<-h1,if_pos rfl,hq,map_append];rfl,hi⟩
 ·rintro acc e ⟨rfl,hi⟩
  rw[length_map,take_length]
  exact q e hi
theorem UO (ks:List Str) (x:Str):(cE (kT ks) (Sum.inr x)).isSome=decide (x∈ks):=by
 have:kT ks=gJ (fun _=>.bl true) ks:=rfl
 rw[this,i0]
 by_cases h:x∈ks
 ·rw[if_pos h,decide_eq_true h];rfl
 ·rw[if_neg h,decide_eq_false h];rfl
theorem yX (f:Str->PV) (ks:List Str) (x:Str):(cE (gJ f ks) (Sum.inr x)).isSome=decide (x∈ks):=by
 rw[i0]
 by_cases h:x∈ks
 ·rw[if_pos h,decide_eq_true h];rfl
 ·rw[if_neg h,decide_eq_false h];rfl
theorem LN (ns:List Str):cP 3 (ns.map PV.str)=true:=all_eq_true.mpr fun p hp=>by
 obtain⟨x,_,rfl⟩:=mem_map.mp hp
 rw[and_eq_true]
 refine⟨rfl,all_eq_true.mpr fun q hq=>?_⟩
 obtain⟨y,_,rfl⟩:=mem_map.mp hq
 rfl
theorem LD (h:x∈(st qs).map (·.name)):∃d,zW qs x= .int d:=by
 obtain⟨l,hl,rfl⟩:=mem_map.mp h
 exact⟨l.day,by unfold zW;rw[mV hl]⟩
theorem M4 (h:∀x∈ns,x∈(st qs).map (·.name)):cP 3 (ns.map fun x=>.tup [zW qs x,.str x])=true:=all_eq_true.mpr fun p hp=>by
 obtain⟨x,hx,rfl⟩:=mem_map.mp hp
 obtain⟨d,e⟩:=LD (h x hx)
 rw[and_eq_true,e]
 refine⟨rfl,all_eq_true.mpr fun q hq=>?_⟩
 obtain⟨y,hy,rfl⟩:=mem_map.mp hq
 obtain⟨d2,e2⟩:=LD (h y hy)
 rw[e2]
 unfold oO dO
 split
 ·unfold dO;split
  ·rfl
  ·rfl
 ·rfl
theorem W0 {hn:List Str} (hh:∀x,x∈hn↔x∈ks.map (·.1)) (hR:R.length<=100) (hf:∃x∈R,x∉ks.map (·.1)) (q:∀x,Cut qs ks R x->Q (.str x,[])):Wp (k6 [.lst (R.map PV.str),.a9 (kT hn),.a9 (gJ (zW qs) ((st qs).map (·.name)))]) Q:=by
 unfold k6 pX
 walk_at "wp"
 refine⟨by omega,?_⟩
 refine lJ (p:=fun x=>!decide (x∈hn)) (I:=fun e=>∃s,e=[s,some (Sl.bor (.a9 (kT hn)))]) ⟨_,rfl⟩ ?_ ?_
 ·rintro x hx e ⟨s,rfl⟩
  walk_at "wp"
  rw[UO]
  refine⟨rfl,?_⟩
  by_cases h:x∈hn
  ·rw[decide_eq_true h];exact⟨_,rfl⟩
  ·rw[decide_eq_false h];exact⟨_,rfl⟩
 rintro e ⟨s,rfl⟩
 have fl:(R.filter fun x=>!decide (x∈hn)).length<=100:=le_trans (List.length_filter_le _ _) hR
 generalize hfr:(R.filter fun x=>!decide (x∈hn))=fr at fl
 have hmf:∀x,x∈fr↔x∈R/\x∉ks.map (·.1):=fun x=>by
  rw[<-hfr,mem_filter,<-hh x]
  simp
 walk_at "wp"
 refine⟨by omega,?_⟩
 refine lJ (p:=fun x=>!decide (x∈(st qs).map (·.name))) (I:=fun e=>∃s,e=[s,some (Sl.bor (.a9 (gJ (zW qs) ((st qs).map (·.name)))))]) ⟨_,rfl⟩ ?_ ?_
 ·rintro x hx e ⟨s,rfl⟩
  walk_at "wp"
  rw[yX]
  refine⟨rfl,?_⟩
  by_cases h:x∈(st qs).map (·.name)
  ·rw[decide_eq_true h];exact⟨_,rfl⟩
  ·rw[decide_eq_false h];exact⟨_,rfl⟩
 rintro e ⟨s,rfl⟩
 have el:(fr.filter fun x=>!decide (x∈(st qs).map (·.name))).length<=100:=le_trans (List.length_filter_le _ _) fl
 generalize hem:(fr.filter fun x=>!decide (x∈(st qs).map (·.name)))=em at el
 have hme:∀x,x∈em↔x∈fr/\x∉(st qs).map (·.name):=fun x=>by
  rw[<-hem,mem_filter]
  simp only[not_eq_true',decide_eq_false_iff_not]
 walk_at "wp"
 cases em with
 |cons z em=>
  walk_at "wp"
  have hc:=LN (z::em)
  rw[map_cons]at hc
  refine⟨fun _=>⟨⟨by simp,hc⟩,?_⟩,fun h=>(by cases h)⟩
  obtain⟨x,hx,e⟩:=mem_map.mp (AO (ps:=(z::em).map PV.str) (by simp))
  rw[map_cons]at e
  rw[<-e]
  obtain⟨hxf,hxn⟩:=(hme x).mp hx
  obtain⟨hxR,hxk⟩:=(hmf x).mp hxf
  refine q x ⟨hxR,hxk,fun y hy hyk hyn=>⟨hxn,?_⟩,fun h=>absurd (h x hxR hxk) hxn⟩
  have:=nY (ps:=(z::em).map PV.str) (q:=.str y) (mem_map.mpr ⟨y,(hme y).mpr ⟨(hmf y).mpr ⟨hy,hyk⟩,hyn⟩,rfl⟩)
  rw[map_cons,<-e]at this
  exact this
 | nil=>
  have hall:∀x∈fr,x∈(st qs).map (·.name):=fun x hx=>Classical.byContradiction fun h=>by have:=(hme x).mpr ⟨hx,h⟩;cases this
  walk_at "wp"
  refine⟨fun h=>(by cases h),fun _=>⟨by omega,?_⟩⟩
  refine fF (fun i acc e=>acc=(fr.take i).map (fun x=>.tup [zW qs x,.str x])/\∃s,e=[s,some (Sl.bor (.a9 (gJ (zW qs) ((st qs).map (·.name)))))]) ?_ ?_ ⟨rfl,_,rfl⟩
  ·rintro i p e acc hx ⟨rfl,s,rfl⟩
   rw[getElem?_map]at hx
   obtain⟨y,hy,rfl⟩:=map_eq_some_iff.mp hx
   walk_at "wp"
   rw[i0,if_pos (hall y (mem_of_getElem? hy))]
   walk_at "wp"
   refine⟨by rw[take_add_one,hy,map_append];rfl,_,rfl⟩
  ·rintro acc e ⟨rfl,s,rfl⟩
   rw[length_map,take_length]
   obtain⟨x0,hx0,hxk0⟩:=hf
   have h0:x0∈fr:=(hmf x0).mpr ⟨hx0,hxk0⟩
   have hpos:0<(fr.map fun x=>PV.tup [zW qs x,.str x]).length:=by rw[length_map];exact length_pos_of_mem h0
   walk_at "wp"
   refine⟨⟨length_pos_of_mem h0,M4 hall⟩,?_⟩
   obtain⟨x,hx,e⟩:=mem_map.mp (AO hpos)
   rw[<-e]
   walk_at "wp"
   obtain⟨hxR,hxk⟩:=(hmf x).mp hx
   refine q x ⟨hxR,hxk,fun y hy hyk hyn=>absurd (hall y ((hmf y).mpr ⟨hy,hyk⟩)) hyn,fun _ y hy hyk=>?_⟩
   have:=nY (ps:=fr.map fun x=>PV.tup [zW qs x,.str x]) (q:=.tup [zW qs y,.str y]) (mem_map.mpr ⟨y,(hmf y).mpr ⟨hy,hyk⟩,rfl⟩)
   rw[<-e]at this
   exact this
theorem IV (hx:x∈R) (hR:R.length<=100) (q:Q (.tup ((R.drop (R.idxOf x)++R.take (R.idxOf x)).map PV.str),[])):Wp (gD [.lst (R.map PV.str),.str x]) Q:=by
 unfold gD kD
 walk_at "wp"
 rw[mM]
 walk_at "wp"
 refine⟨⟨hx,by omega⟩,?_⟩
 rw[mG,A8,<-map_drop,<-map_take,<-map_append]
 refine⟨?_,q⟩
 rw[length_map,length_map,length_drop,length_take]
 omega
end
section
open PySem L2 Mr
noncomputable abbrev tT (R:List Str):PV:=.tup (R.map PV.str)
theorem RW (R:List Str):nC 3 (tT R)=true:=x4 R 2
theorem p7 (Rs:List (List Str)):cP 3 (Rs.map tT)=true:=all_eq_true.mpr fun p hp=>by
 obtain⟨x,_,rfl⟩:=mem_map.mp hp
 rw[and_eq_true]
 refine⟨RW x,all_eq_true.mpr fun q hq=>?_⟩
 obtain⟨y,_,rfl⟩:=mem_map.mp hq
 exact jF 2 x y
theorem u5 (h:∀R∈Rs,R≠[]):(Rs.map tT).all (j5 true)=true:=all_eq_true.mpr fun p hp=>by
 obtain⟨x,hx,rfl⟩:=mem_map.mp hp
 cases x with
 |nil=>exact absurd rfl (h _ hx)
 |cons a x=>rfl
theorem AN {Rs:List (List Str)}:∀{ps:List PV},ps.Perm (Rs.map tT)->∃Ks:List (List Str),Ks.Perm Rs/\ps=Ks.map tT:=by
 intro ps h
 generalize e:Rs.map tT=qs at h
 induction h generalizing Rs with
 |nil=>cases Rs with
  |nil=>exact⟨[],.refl _,rfl⟩
  |cons a b=>cases e
 | cons x _ ih=>cases Rs with
  |nil=>cases e
  |cons a b=>
   cases e
   obtain⟨Ks,h1,h2⟩:=ih rfl
   exact⟨a::Ks,h1.cons a,by rw[h2];rfl⟩
 | swap x y l=>match Rs,e with
  |a::b::c,e=>
   cases e
   exact⟨b::a::c,.swap _ _ _,rfl⟩
 |trans _ _ ih1 ih2=>
  obtain⟨Ks,h1,h2⟩:=ih2 e
  obtain⟨Js,h3,h4⟩:=ih1 h2.symm
  exact⟨Js,h3.trans h1,h4⟩
theorem DQ {Rs:List (List Str)} {Q:Bv->Prop} (h:Rs.length<64) (hne:∀R∈Rs,R≠[]) (q:∀Ks:List (List Str),Ks.Perm Rs->(Ks.map tT).Pairwise (fun a b=>kK 3 a b=true)->Q (.new (.lst (Ks.map tT)))):Wp (fS [.lst (Rs.map tT)]) Q:=by
 cases Rs with
 |nil=>exact⟨_,rfl,by rw[show dW []=[] by unfold dW;simp];exact q [] (.refl _) .nil⟩
 | cons l ls=>
  have e1:oM [.lst ((l::ls).map tT)]=none:=rfl
  have e2:qD [.lst ((l::ls).map tT)]=none:=rfl
  unfold fS
  rw[e1,e2,none_or,none_or]
  unfold uD
  simp only[dC,bU]
  refine⟨?_,?_⟩
  ·rw[u5 hne,p7,length_map,decide_eq_true h];rfl
  ·obtain⟨ks,k1,k2⟩:=AN (cF 3 ((l::ls).map tT))
   have:=dY 3 ((l::ls).map tT)
   rw[k2]at this⊢
   exact q ks k1 this
structure Rgs (qs:List Let) (ks:Hl) (ns:List Str) (Rs:List (List Str)):Prop where
 srt:(Rs.map tT).Pairwise fun a b=>kK 3 a b=true
 ring:∀R∈Rs,Rg.Ring (y4 qs ks) R
 cut:∀R∈Rs,∀x,R.head? =some x->Cut qs ks R x
 nd:Rs.flatten.Nodup
 sub:∀R∈Rs,∀x∈R,x∈ns
 all:∀x∈ns,Rg.BQ (y4 qs ks) x->x∈Rs.flatten
 len:Rs.length<=ns.length
theorem L8 (hk:(ks.map (·.1)).Nodup) (nr:yO ks) (r:Rg.Ring (y4 qs ks) R):∃x∈R,x∉ks.map (·.1):=by
 apply Classical.byContradiction
 intro hno
 have hall:∀x∈R,x∈ks.map (·.1):=fun x hx=>Classical.byContradiction fun h=>hno ⟨x,hx,h⟩
 have r':Rg.Ring (gE ks) R:=r.congr fun x hx=>(A3 (hall x hx) hk).1
 obtain⟨x,hx⟩:=List.exists_mem_of_ne_nil _ r.ne
 exact nr x (r'.BQ hx)
theorem MI {S:List Str} (h:S.Perm R) (c:Cut qs ks R x):Cut qs ks S x:=
 ⟨h.mem_iff.mpr c.mem,c.free,fun y hy=>c.empty y (h.mem_iff.mp hy),fun k y hy=>c.full (fun z hz=>k z (h.mem_iff.mpr hz)) y (h.mem_iff.mp hy)⟩
theorem abM (h:Rg.F2 (fun a b:List Str=>∃i,i<b.length/\a=b.drop i++b.take i) Rs F):(∀R∈Rs,∃S∈F,∃i,i<S.length/\R=S.drop i++S.take i)/\Rs.flatten.Perm F.flatten:=by
 induction h with
 |nil=>exact⟨fun _ h=>(nomatch h),.refl _⟩
 | cons h _ ih=>
  obtain⟨i,hi,rfl⟩:=h
  refine⟨fun R hR=>?_,(Rg.tL _ i).append ih.2⟩
  rcases mem_cons.mp hR with rfl|hR
  ·exact⟨_,mem_cons_self,i,hi,rfl⟩
  ·obtain⟨S,h1,h2⟩:=ih.1 R hR
   exact⟨S,mem_cons_of_mem _ h1,h2⟩
theorem w6 (hl:qs.length<=100) (hk:ks.length<=100) (hkn:(ks.map (·.1)).Nodup) (nr:yO ks) (hn:ns.Nodup) (hm:∀x,x∈ns↔x∈j8 qs ks) (hnl:ns.length<=60)
  (q:∀Rs,Rgs qs ks ns Rs->Q (.tup (Rs.map tT),[])):Wp (gW [.tup (qs.map lP),.tup (mP ks),.a9 (gJ (sZ qs ks) ns)]) Q:=by
 unfold gW l9
 walk_at "wp"
 refine⟨by unfold mP;rw[length_map];omega,?_⟩
 refine jR (fun i d e=>d=kT (bV ((ks.take i).map (·.1)))/\∃s t,e=[s,t]) ?_ ?_ ⟨rfl,_,_,rfl⟩
 ·rintro i p e d hx ⟨rfl,s,t,rfl⟩
  unfold mP at hx
  rw[getElem?_map]at hx
  obtain⟨z,hz,rfl⟩:=map_eq_some_iff.mp hx
  walk_at "wp"
  refine⟨?_,_,_,rfl⟩
  rw[p8,<-fA,take_add_one,hz,map_append];rfl
 ·rintro d e ⟨rfl,s,t,rfl⟩
  rw[show(mP ks).length=ks.length by unfold mP;rw[length_map],take_length]
  have hh:∀x,x∈bV (ks.map (·.1))↔x∈ks.map (·.1):=fun x=>oK
  generalize bV (ks.map (·.1))=hn' at hh
  walk_at "wp"
  refine Q4 hl ?_
  walk_at "wp"
  rw[AD]
  refine⟨by rw[eS];omega,?_⟩
  refine jR (fun i d e=>d=kO (JK qs ks (ns.take i))/\∃s,e=[s,some (Sl.bor (.a9 (gJ (sZ qs ks) ns)))]) ?_ ?_ ⟨rfl,_,rfl⟩
  ·rintro i p e d hx ⟨rfl,s,rfl⟩
   rw[getElem?_map]at hx
   obtain⟨x,hxe,rfl⟩:=map_eq_some_iff.mp hx
   walk_at "wp"
   rw[i0,if_pos (mem_of_getElem? hxe)]
   unfold sZ
   walk_at "wp"
   refine⟨?_,_,rfl⟩
   rw[xR (by rw[fR];exact yB hn hxe),take_add_one,hxe]
   unfold JK
   rw[map_append];rfl
  ·rintro d e ⟨rfl,s,rfl⟩
   rw[length_map,take_length]
   walk_at "wp"
   refine BG (by rw[length_map];omega) (by rw[fR];exact hn) fun S F hF hS1 hS2=>?_
   rw[QG hm hn]at hF
   rw[fR]at hS1
   have sub:∀R∈F,∀x∈R,x∈ns:=fun R hR x hx=>by
    have h1:=hS2 x (hF.sub R hR x hx)
    unfold fK at h1
    rw[fR]at h1
    rcases mem_append.mp h1 with h1|h1
    ·exact h1
    ·obtain⟨z,hz,hzx⟩:=mem_filterMap.mp h1
     obtain⟨w,hw,rfl⟩:=mem_map.mp hz
     exact(hm x).mpr (qI hkn nr hzx).2
   have fl:F.flatten.length<=ns.length:=eE hF.nd fun x hx=>by
    obtain⟨R,hR,hx⟩:=mem_flatten.mp hx
    exact sub R hR x hx
   have rl:∀R∈F,R.length<=100:=fun R hR=>by
    have:=eE (hF.ring R hR).nd (sub R hR)
    omega
   have nl:∀F:List (List Str),(∀R∈F,R≠[])->F.length<=F.flatten.length:=by
    intro F
    induction F with
    |nil=>intro _;exact le_refl _
    |cons R F ih=>
     intro h
     have h1:=ih fun R hR=>h R (mem_cons_of_mem _ hR)
     have h2:=length_pos_iff.mpr (h R mem_cons_self)
     rw[List.flatten_cons,length_append,length_cons]
     omega
   have hFl:=nl F fun R hR=>(hF.ring R hR).ne
   walk_at "wp"
   refine⟨by omega,?_⟩
   refine fF (fun i acc e=>(∃Rs:List (List Str),acc=Rs.map tT/\Rg.F2 (fun a b:List Str=>∃i,i<b.length/\a=b.drop i++b.take i) Rs (F.take i)/\∀R∈Rs,∀x,R.head? =some x->Cut qs ks R x)/\∃s,e=[s,some (Sl.val (.a9 (kT hn'))),some (Sl.val (.a9 (gJ (zW qs) ((st qs).map (·.name)))))]) ?_ ?_ ⟨⟨[],rfl,.nil,fun _ h=>(nomatch h)⟩,_,rfl⟩
   ·rintro i p e acc hx ⟨⟨Rs,rfl,h2,hcut⟩,s,rfl⟩
    rw[getElem?_map]at hx
    obtain⟨R,hR,rfl⟩:=map_eq_some_iff.mp hx
    have hRF:=mem_of_getElem? hR
    walk_at "wp"
    refine W0 (R:=R) hh (rl R hRF) (L8 hkn nr (hF.ring R hRF)) fun x hc=>?_
    walk_at "wp"
    refine IV hc.mem (rl R hRF) ?_
    walk_at "wp"
    have hi:R.idxOf x<R.length:=List.idxOf_lt_length_iff.mpr hc.mem
    refine⟨⟨Rs++[R.drop (R.idxOf x)++R.take (R.idxOf x)],(map_append (f:=tT) (l₁:=Rs) (l₂:=[R.drop (R.idxOf x)++R.take (R.idxOf x)])).symm,?_,fun S hS y hy=>?_⟩,_,rfl⟩
    ·rw[take_add_one,hR]
     have ap:∀{A B:List (List Str)},Rg.F2 (fun a b:List Str=>∃i,i<b.length/\a=b.drop i++b.take i) A B->∀{a b:List Str},(∃i,i<b.length/\a=b.drop i++b.take i)->Rg.F2 (fun a b:List Str=>∃i,i<b.length/\a=b.drop i++b.take i) (A++[a]) (B++[b]):=by
      intro A B h
      induction h with
      |nil=>intro a b h;exact .cons h .nil
      |cons h _ ih=>intro a b h';exact .cons h (ih h')
     exact ap h2 ⟨_,hi,rfl⟩
    ·rcases mem_append.mp hS with hS|hS
     ·exact hcut S hS y hy
     ·rw[mem_singleton.mp hS]at hy⊢
      have hne:R.drop (R.idxOf x)≠[]:=fun e=>by have:=congrArg List.length e;rw[length_drop,length_nil]at this;omega
      rw[Rg.tK hne,List.head?_drop,getElem?_eq_getElem hi,List.getElem_idxOf]at hy
      cases hy
      exact MI (Rg.tL R _) hc
   ·rintro acc e ⟨⟨Rs,rfl,h2,hcut⟩,s,rfl⟩
    rw[length_map,take_length]at h2
    obtain⟨ro,fp⟩:=abM h2
    have ring:∀R∈Rs,Rg.Ring (y4 qs ks) R:=fun R hR=>by
     obtain⟨S,hS,i,hi,rfl⟩:=ro R hR
     exact(hF.ring S hS).rot i hi
    have rlen:Rs.length<=ns.length:=by
     have:=nl Rs fun R hR=>(ring R hR).ne
     rw[fp.length_eq]at this
     omega
    walk_at "wp"
    refine DQ (by omega) (fun R hR=>(ring R hR).ne) fun Ks hK hs=>?_
    walk_at "wp"
    have kf:Ks.flatten.Perm F.flatten:=(List.Perm.flatten hK).trans fp
    refine q Ks ⟨hs,fun R hR=>ring R (hK.mem_iff.mp hR),fun R hR=>hcut R (hK.mem_iff.mp hR),kf.nodup_iff.mpr hF.nd,fun R hR x hx=>?_,fun x hx c=>kf.mem_iff.mpr (hF.all x (hS1 x hx) c),by rw[hK.length_eq];exact rlen⟩
    obtain⟨S,hS,i,hi,rfl⟩:=ro R (hK.mem_iff.mp hR)
    exact sub S hS x ((Rg.tL S i).mem_iff.mp hx)
end
section
open PySem L2 Mr
noncomputable abbrev jJ:PV:=.tup [.aY,tN]
noncomputable def c4 (t:iT) (y:Str):PV:=.tup [.int t.day,.str t.name,.int t.at',.str y]
theorem aaG {t u:iT} {z:Str} (h:t.name≠u.name):fP (code 3 (c4 t y)) (code 3 (c4 u z))=fP (code 3 (tP t)) (code 3 (tP u)):=by
 have hn:t.name.cps.toList≠u.name.cps.toList:=fun e=>h (by cases ht:t.name;cases hu:u.name;rw[ht,hu]at e;congr 1;exact Array.toList_inj.mp e)
 have key:∀(r r':List Int),fP (1::t.day::1::(t.name.cps.toList.map (fun c:Nat=>(c:Int)+1)++[0]++r)) (1::u.day::1::(u.name.cps.toList.map (fun c:Nat=>(c:Int)+1)++[0]++r'))=if t.day=u.day then decide (t.name.cps.toList<u.name.cps.toList)else decide (t.day<u.day):=by
  intro r r'
  rw[eQ,if_pos rfl,eQ]
  by_cases hd:t.day=u.day
  ·rw[if_pos hd,if_pos hd,eQ,if_pos rfl,xW,if_neg hn]
  ·rw[if_neg hd,if_neg hd]
 have e4:∀(t:iT) (y:Str),code 3 (c4 t y)=1::t.day::1::(t.name.cps.toList.map (fun c:Nat=>(c:Int)+1)++[0]++(1::t.at'::1::(y.cps.toList.map (fun c:Nat=>(c:Int)+1)++[0]++[0]))):=fun t y=>by
  unfold c4 Mr.code
  simp[Mr.code]
 have e3:∀(t:iT),code 3 (tP t)=1::t.day::1::(t.name.cps.toList.map (fun c:Nat=>(c:Int)+1)++[0]++(1::t.at'::[0])):=fun t=>by
  unfold tP Mr.code
  simp[Mr.code]
 rw[e4,e4,e3,e3,key,key]
theorem L4 (t u:iT) (y z:Str):cP 3 [c4 t y,c4 u z]=true:=by
 have pl:∀(t:iT) (y:Str),nC 3 (c4 t y)=true:=fun _ _=>rfl
 have lt:∀(t u:iT) (y z:Str),(oO 3 (c4 t y) (c4 u z)).isSome=true:=fun t u y z=>by
  unfold c4 oO dO
  split
  ·unfold dO
   split
   ·unfold dO
    split
    ·unfold dO
     split
     ·rfl
     ·rfl
    ·rfl
   ·rfl
  ·rfl
 simp only[cP,all_cons,all_nil,pl,lt,Bool.and_self]
noncomputable def RS (ts:List iT) (x:Str) (t:iT):Prop:=t∈lH x ts/\∀u∈lH x ts,kK 3 (tP t) (tP u)=true
structure TI (qs:List Let) (ts:List iT) (G:Str->PV) (M:List Str):Prop where
 nd:M.Nodup
 mem:∀x,x∈M↔lH x ts≠[]
 val:∀x∈M,∃t y,RS ts x t/\rM qs t=some y/\G x=c4 t y
theorem tG (x:Str) (ts:List iT) (t:iT):lH x (ts++[t])=lH x ts++if t.key=x then [t]else []:=by
 unfold lH
 rw[List.filter_append]
 congr 1
 rw[List.filter_cons]
 by_cases h:t.key=x
 ·rw[decide_eq_true h,if_pos rfl,if_pos h];rfl
 ·rw[decide_eq_false h,if_neg Bool.false_ne_true,if_neg h];rfl
theorem BN (p:PV):kK 3 p p=true:=by
 have:=pT (n:=3) p p
 rw[Bool.or_self]at this
 exact this
theorem TI.same {G:Str->PV} {M:List Str} (h:TI qs ts G M) {G':Str->PV} {M':List Str} {t:iT} {v:PV} (hy:rM qs t=some y) (hu:∀u∈lH t.key ts,u.name≠t.name)
  (hG:G'=pJ G t.key v) (hM:M'=iV M t.key) (hv:v=if t.key∈M then(if fP (code 3 (c4 t y)) (code 3 (G t.key))=true then c4 t y else G t.key)else c4 t y):TI qs (ts++[t]) G' M':=by
 subst hG hM
 refine⟨EN h.nd,fun x=>?_,fun x hx=>?_⟩
 ·rw[lZ,tG,h.mem]
  by_cases e:t.key=x
  ·rw[if_pos e];simp[e]
  ·rw[if_neg e,append_nil];simp[Ne.symm e]
 ·by_cases e:x=t.key
  ·subst e
   have hx':lH t.key (ts++[t])=lH t.key ts++[t]:=by rw[tG,if_pos rfl]
   have hval:pJ G t.key v t.key=v:=by unfold pJ;rw[if_pos rfl]
   rw[hval]
   by_cases hm:t.key∈M
   ·obtain⟨t0,y0,m0,e0,g0⟩:=h.val _ hm
    rw[if_pos hm,g0,aaG (hu t0 m0.1).symm]at hv
    by_cases hl:fP (code 3 (tP t)) (code 3 (tP t0))=true
    ·rw[if_pos hl]at hv
     have hle:kK 3 (tP t) (tP t0)=true:=by
      rcases or_eq_true _ _|>.mp (pT (n:=3) (tP t) (tP t0))with h|h
      ·exact h
      ·unfold kK at h;rw[hl]at h;cases h
     refine⟨t,y,⟨by rw[hx'];simp,fun u hu=>?_⟩,hy,hv⟩
     rw[hx']at hu
     rcases mem_append.mp hu with hu|hu
     ·exact qG _ _ _ hle (m0.2 u hu)
     ·rw[mem_singleton.mp hu];exact BN _
    ·rw[if_neg hl]at hv
     refine⟨t0,y0,⟨by rw[hx'];exact mem_append_left _ m0.1,fun u hu=>?_⟩,e0,hv⟩
     rw[hx']at hu
     rcases mem_append.mp hu with hu|hu
     ·exact m0.2 u hu
     ·rw[mem_singleton.mp hu];unfold kK;rw[Bool.not_eq_true]at hl;rw[hl];rfl
   ·rw[if_neg hm]at hv
    have h0:lH t.key ts=[]:=Classical.byContradiction fun c=>hm ((h.mem _).mpr c)
    refine⟨t,y,⟨by rw[hx'];simp,fun u hu=>?_⟩,hy,hv⟩
    rw[hx',h0]at hu
    rw[mem_singleton.mp hu];exact BN _
  ·have hxM:x∈M:=(lZ.mp hx).resolve_right e
   obtain⟨t0,y0,m0,e0,g0⟩:=h.val x hxM
   have hx':lH x (ts++[t])=lH x ts:=by rw[tG,if_neg (Ne.symm e),append_nil]
   refine⟨t0,y0,⟨by rw[hx'];exact m0.1,by rw[hx'];exact m0.2⟩,e0,?_⟩
   unfold pJ
   rw[if_neg e]
   exact g0
theorem JR {qs:List Let} {x:Str} {t:iT} (h:RS (iU qs) x t):C5 (lH x (iU qs))=some t:=by
 obtain⟨t0,h0,e0,eP⟩:=vM (ts:=lH x (iU qs)) (fun e=>by have:=h.1;rw[e]at this;cases this)
 rw[e0]
 have h1:kK 3 (tP t0) (tP t)=true:=by rw[<-eP];exact nY (mem_map.mpr ⟨t,h.1,rfl⟩)
 have h2:=h.2 t0 h0
 have:=lV (ET (lH x (iU qs))) (mem_map.mpr ⟨t0,h0,rfl⟩) (mem_map.mpr ⟨t,h.1,rfl⟩) h1 h2
 have hk:=(pV h0).1.trans (pV h.1).1.symm
 have e1:t0=t:=by
  cases t0;cases t
  simp only[tP,PV.tup.injEq,List.cons.injEq,PV.int.injEq,PV.str.injEq,and_true]at this
  simp only at hk
  obtain⟨a,b,c⟩:=this
  subst a b c hk
  rfl
 rw[e1]
noncomputable def v2 (qs:List Let) (x:Str):PV:=match C5 (lH x (iU qs))with
 |some t=>.tup [oP (rM qs t),.tup [.str (Str.ofString "told"),.str t.name,.int t.at']]
 |none=>jJ
noncomputable def v3 (qs:List Let) (x:Str):PV:=match(st qs).find? fun l=>decide (l.name=x)with
 | some l=>(match(el l).getLast? with
   |some y=>.tup [.str y,UT]
   |none=>jJ)
 |none=>v2 qs x
theorem D7 {qs:List Let} {x:Str} (h:x∉ks.map (·.1)):sZ qs ks x=v3 qs x:=by
 have h1:ks.find? (fun z=>decide (z.1=x))=none:=find_none fun z hz=>decide_eq_false fun e=>h (mem_map.mpr ⟨z,hz,e⟩)
 unfold sZ v3 BR
 rw[h1]
 cases(st qs).find? fun l=>decide (l.name=x)with
 |some l=>
  dsimp only
  cases(el l).getLast? with
  |none=>rfl
  |some y=>rfl
 |none=>
  dsimp only
  unfold v2
  cases C5 (lH x (iU qs))with
  |none=>rfl
  |some t=>rfl
theorem JF {z:Str×Option Str} (h:z∈ks) (hn:(ks.map (·.1)).Nodup):sZ qs ks z.1= .tup [oP z.2,D4]:=by
 have h1:=A3 (qs:=qs) (mem_map.mpr ⟨z,h,rfl⟩) hn
 unfold sZ
 rw[h1.1,h1.2,rZ hn (o:=z.2) h]
end
section
open PySem L2 Mr
structure FI (N0:Str->Prop) (v:Str->PV) (f:Str->PV) (N:List Str):Prop where
 nd:N.Nodup
 mem:∀x,x∈N↔N0 x
 val:∀x∈N,f x=v x
theorem FI.put (h:FI N0 v f N) (h1:∀y,N1 y↔N0 y\/ y=x) (h2:v' x=p) (h3:∀y,y≠x->v' y=v y):FI N1 v' (pJ f x p) (iV N x):=
 ⟨EN h.nd,fun y=>by rw[lZ,h.mem,h1],fun y hy=>by
  unfold pJ
  by_cases e:y=x
  ·rw[if_pos e,e,h2]
  ·rw[if_neg e,h3 y e]
   exact h.val y ((lZ.mp hy).resolve_right e)⟩
theorem FI.of (h:FI N0 v f N) (h1:∀y,N1 y↔N0 y) (h2:∀y,N0 y->v' y=v y):FI N1 v' f N:=⟨h.nd,fun y=>by rw[h.mem,h1],fun y hy=>by rw[h2 y ((h.mem y).mp hy)];exact h.val y hy⟩
theorem FI.len (h:FI N0 v f N) (hs:∀x,N0 x->x∈ss):N.length<=ss.length:=eE h.nd fun x hx=>hs x ((h.mem x).mp hx)
theorem IB (G:Str->PV) (M:List Str):bD (gJ G M)=M.map fun x=>.tup [.str x,G x]:=by unfold bD gJ;rw[map_map];rfl
theorem aaY (p q:PV):q5 [p,q] 1 0=fP (code 3 q) (code 3 p):=rfl
theorem atT {xs:List Str} (h0:0<i) (h:xs[i - 1]? =some y):nF (xs.map PV.str) ((i:Int) - 1)=some (.str y):=by
 rw[show((i:Int) - 1)=((i - 1:Nat):Int) by omega]
 exact gA (by rw[getElem?_map,h];rfl)
theorem IX (g:Good ss qs ks) (hss:ss.length<=62) (hl:qs.length<=100) (hkn:(ks.map (·.1)).Nodup)
  (q:∀N,N.Nodup->(∀x,x∈N↔x∈j8 qs ks)->Q (.a9 (gJ (sZ qs ks) N),[])):Wp (gX [.tup (qs.map lP),.tup (mP ks)]) Q:=by
 have hel:∀l∈st qs,∀x∈el l,x∈ss:=fun l h x hx=>lX g h x (mem_cons_of_mem _ hx)
 unfold gX mC
 walk_at "wp"
 refine yK hl ?_
 walk_at "wp"
 refine cL (fun i e=>∃(G f:Str->PV) (M N:List Str) (v5 v6 v7 v8 v9 v10:Option Sl),TI qs (((st qs).take i).flatMap zM) G M/\FI (fun x=>x∈((st qs).take i).flatMap el) (fun _=>jJ) f N/\
  e=[some (Sl.val (PV.tup (qs.map lP))),some (Sl.val (PV.tup (mP ks))),some (Sl.loc (.a9 (gJ G M))),some (Sl.loc (.a9 (gJ f N))),some (Sl.val (.lst ((st qs).map lP))),v5,v6,v7,v8,v9,v10]) ?_ ?_
  ⟨fun _=>.aY,fun _=>.aY,[],[],_,_,_,_,_,_,⟨nodup_nil,fun x=>⟨fun h=>(nomatch h),fun h=>absurd rfl h⟩,fun _ h=>(nomatch h)⟩,⟨nodup_nil,fun x=>Iff.rfl,fun _ h=>(nomatch h)⟩,rfl⟩
 ·rintro i p e hx ⟨G,f,M,N,v5,v6,v7,v8,v9,v10,ti,fi,rfl⟩
  rw[getElem?_map]at hx
  obtain⟨l,hk,rfl⟩:=map_eq_some_iff.mp hx
  have hlm:=mem_of_getElem? hk
  have hrow:=(g.1 l (nP hlm)).1
  walk_at "wp"
  refine FQ (l:=l) hrow ?_
  walk_at "wp"
  refine cL (fun j e=>∃(G f:Str->PV) (M N:List Str) (v7 v8 v9:Option Sl),TI qs (((st qs).take i).flatMap zM++m4 l j) G M/\FI (fun x=>x∈((st qs).take i).flatMap el++(el l).take j) (fun _=>jJ) f N/\
   e=[some (Sl.val (PV.tup (qs.map lP))),some (Sl.val (PV.tup (mP ks))),some (Sl.loc (.a9 (gJ G M))),some (Sl.loc (.a9 (gJ f N))),some (Sl.val (.lst ((st qs).map lP))),some (Sl.val (lP l)),some (Sl.val (.lst ((el l).map PV.str))),v7,v8,v9,v10]) ?_ ?_
   ⟨G,f,M,N,_,_,_,by rw[show m4 l 0=[]from rfl,append_nil];exact ti,by rw[List.take_zero,append_nil];exact fi,rfl⟩
  ·rintro j p e hx ⟨G,f,M,N,v7,v8,v9,ti,fi,rfl⟩
   rw[getElem?_map,getElem?_zipIdx,getElem?_map]at hx
   cases hn:(el l)[j]? with
   |none=>rw[hn]at hx;cases hx
   | some n=>
    rw[hn]at hx
    cases hx
    have hs:=u9 hn
    have Nl:=fi.len (ss:=ss) fun x hx=>by
     rcases mem_append.mp hx with hx|hx
     ·obtain⟨k,h1,h2⟩:=mem_flatMap.mp hx
      exact hel k (mem_of_mem_take h1) x h2
     ·exact hel l hlm x (mem_of_mem_take hx)
    have Ml:M.length<=ss.length:=eE ti.nd fun x hx=>by
     obtain⟨t,y,m0,_⟩:=ti.val x hx
     have h1:=m0.1
     unfold lH at h1
     obtain⟨h1,h2⟩:=mem_filter.mp h1
     have h2:=of_decide_eq_true h2
     rw[<-h2]
     rcases mem_append.mp h1 with h1|h1
     ·obtain⟨k,h3,h4⟩:=mem_flatMap.mp h1
      exact hel k (mem_of_mem_take h3) _ (rS h4)
     ·unfold m4 at h1
      obtain⟨z,h3,h4⟩:=mem_filterMap.mp h1
      exact hel l hlm _ (rS (mem_filterMap.mpr ⟨z,mem_of_mem_take h3,h4⟩))
    have fi':FI (fun x=>x∈((st qs).take i).flatMap el++(el l).take (j+1)) (fun _=>jJ) (pJ f n jJ) (iV N n):=fi.put (fun y=>by
     rw[take_add_one,hn,toList_some,<-append_assoc,mem_append,mem_singleton]) rfl fun _ _=>rfl
    rw[show lP l=PV.tup [PV.str l.name,PV.int l.day,PV.str l.head,PV.tup (l.row.map PV.str)]from rfl]
    walk_at "wp"
    rw[hs,zero_add,hJ]
    refine⟨by rw[eS];omega,fun hj=>?_,fun hj=>?_⟩
    ·have hj':0<j:=by omega
     have hjl:j<(el l).length:=(List.getElem?_eq_some_iff.mp hn).1
     have hpre:(el l)[j - 1]? =some (el l)[j - 1]:=getElem?_eq_getElem (by omega)
     rw[atT hj' hpre,if_pos hj']
     walk_at "wp"
     generalize hy:(el l)[j - 1]=y at hpre
     have ht:rM qs ⟨n,l.day,l.name,(j:Int)⟩=some y:=by
      unfold rM
      rw[mV hlm]
      show(el l)[((j:Int) - 1).toNat]? =_
      rw[show((j:Int) - 1).toNat=j - 1 by omega]
      exact hpre
     have hu:∀u∈lH n (((st qs).take i).flatMap zM++m4 l j),u.name≠l.name:=fun u hu e=>by
      unfold lH at hu
      obtain⟨h1,h2⟩:=mem_filter.mp hu
      have h2:=of_decide_eq_true h2
      rcases mem_append.mp h1 with h1|h1
      ·obtain⟨k,h3,h4⟩:=mem_flatMap.mp h1
       have h5:=(y3 h4).1
       have:=yB (FY qs) (i:=i) (x:=l.name) (by rw[getElem?_map,hk];rfl)
       rw[<-map_take]at this
       exact this (mem_map.mpr ⟨k,h3,by rw[<-e,h5]⟩)
      ·unfold m4 at h1
       obtain⟨z,h3,h4⟩:=mem_filterMap.mp h1
       unfold ZL at h4
       split at h4
       ·cases h4
        obtain⟨k,hk2⟩:=getElem?_of_mem h3
        rw[getElem?_take]at hk2
        split at hk2
        ·rename_i hkj
         rw[getElem?_zipIdx]at hk2
         cases c:(el l)[k]? with
         |none=>rw[c]at hk2;cases hk2
         |some w=>
          rw[c]at hk2
          cases hk2
          have h2:w=n:=h2
          rw[h2]at c
          have:=(getElem?_inj (List.getElem?_eq_some_iff.mp c).1 (zS l)).mp (c.trans hn.symm)
          omega
        ·cases hk2
       ·cases h4
     have fin:∀v:PV,v=(if n∈M then(if fP (code 3 (c4 ⟨n,l.day,l.name,(j:Int)⟩ y)) (code 3 (G n))=true then c4 ⟨n,l.day,l.name,(j:Int)⟩ y else G n)else c4 ⟨n,l.day,l.name,(j:Int)⟩ y)->TI qs (((st qs).take i).flatMap zM++(m4 l j++[⟨n,l.day,l.name,(j:Int)⟩])) (pJ G n v) (iV M n):=fun v hv=>by
      rw[<-append_assoc]
      exact ti.same (t:=⟨n,l.day,l.name,(j:Int)⟩) ht hu rfl rfl hv
     rw[i0]
     by_cases hm:n∈M
     ·rw[if_pos hm]
      obtain⟨t0,y0,m0,e0,g0⟩:=ti.val _ hm
      walk_at "wp"
      rw[aaY,g0]
      refine⟨L4 _ ⟨n,l.day,l.name,(j:Int)⟩ _ y,?_,?_⟩
      ·rw[eS];omega
      ·rw[hJ]
       refine⟨_,_,_,_,_,_,_,fin _ ?_,fi',rfl⟩
       rw[if_pos hm,g0]
       rfl
     ·rw[if_neg hm]
      walk_at "wp"
      rw[aaY]
      refine⟨L4 ⟨n,l.day,l.name,(j:Int)⟩ ⟨n,l.day,l.name,(j:Int)⟩ y y,?_,?_⟩
      ·rw[eS];omega
      ·rw[hJ,ite_self]
       exact⟨_,_,_,_,_,_,_,fin _ (by rw[if_neg hm];rfl),fi',rfl⟩
    ·have hj':¬0<j:=by omega
     rw[if_neg hj',append_nil]
     exact⟨_,_,_,_,_,_,_,ti,fi',rfl⟩
  ·rintro e ⟨G,f,M,N,v7,v8,v9,ti,fi,rfl⟩
   rw[length_map,length_zipIdx,length_map]at ti fi
   rw[sV]at ti
   rw[take_length]at fi
   exact⟨G,f,M,N,_,_,_,_,_,_,by rw[sP hk];exact ti,by rw[sP hk];exact fi,rfl⟩
 ·rintro e ⟨G,f,M,N,v5,v6,v7,v8,v9,v10,ti,fi,rfl⟩
  rw[length_map,take_length]at ti fi
  have ti:TI qs (iU qs) G M:=ti
  walk_at "wp"
  rw[IB]
  have N1:∀x,x∈(st qs).flatMap el->x∈ss:=fun x hx=>by
   obtain⟨k,h1,h2⟩:=mem_flatMap.mp hx
   exact hel k h1 x h2
  have MN:∀x∈M,x∈(st qs).flatMap el:=fun x hx=>by
   obtain⟨t,y,m0,_⟩:=ti.val x hx
   obtain⟨hk,l,h1,h2⟩:=pV m0.1
   exact mem_flatMap.mpr ⟨l,h1,by rw[<-hk];exact rS h2⟩
  have V2:∀x∈M,∃t y,rM qs t=some y/\G x=c4 t y/\v2 qs x= .tup [.str y,.tup [.str (Str.ofString "told"),.str t.name,.int t.at']]:=fun x hx=>by
   obtain⟨t,y,m0,e0,g0⟩:=ti.val x hx
   refine⟨t,y,e0,g0,?_⟩
   unfold v2
   rw[JR m0]
   dsimp only
   rw[e0];rfl
  have V2n:∀x,x∉M->v2 qs x=jJ:=fun x hx=>by
   have h0:lH x (iU qs)=[]:=Classical.byContradiction fun c=>hx ((ti.mem x).mpr c)
   unfold v2
   rw[h0];rfl
  refine cL (fun i e=>∃(f:Str->PV) (N:List Str) (v8 v9:Option Sl),FI (fun x=>x∈(st qs).flatMap el) (fun x=>if x∈M.take i then v2 qs x else jJ) f N/\
   e=[some (Sl.val (PV.tup (qs.map lP))),some (Sl.val (PV.tup (mP ks))),some (Sl.val (.a9 (gJ G M))),some (Sl.loc (.a9 (gJ f N))),some (Sl.val (.lst ((st qs).map lP))),v5,v6,v7,v8,v9,v10]) ?_ ?_
   ⟨f,N,_,_,fi,rfl⟩
  ·rintro i p e hx ⟨f,N,v8,v9,fi,rfl⟩
   rw[getElem?_map]at hx
   obtain⟨x,hk,rfl⟩:=map_eq_some_iff.mp hx
   have hxM:=mem_of_getElem? hk
   obtain⟨t,y,e0,g0,e2⟩:=V2 x hxM
   have Nl:=fi.len N1
   rw[g0,show c4 t y= .tup [.int t.day,.str t.name,.int t.at',.str y]from rfl]
   walk_at "wp"
   rw[hJ]
   refine⟨by rw[eS];omega,_,_,_,_,fi.put (x:=x) (fun z=>⟨.inl,fun h=>h.elim id fun e=>by rw[e];exact MN x hxM⟩) ?_ fun z hz=>?_,rfl⟩
   ·rw[if_pos (by rw[take_add_one,hk];simp)]
    exact e2
   ·have:z∈M.take (i+1)↔z∈M.take i:=by rw[take_add_one,hk,toList_some,mem_append,mem_singleton];simp[hz]
    simp only[this]
  ·rintro e ⟨f,N,v8,v9,fi,rfl⟩
   rw[length_map,take_length]at fi
   have fi:FI (fun x=>x∈(st qs).flatMap el) (v2 qs) f N:=fi.of (fun _=>Iff.rfl) fun y _=>by
    by_cases h:y∈M
    ·rw[if_pos h]
    ·rw[if_neg h,V2n y h]
   walk_at "wp"
   refine cL (fun i e=>∃(f:Str->PV) (N:List Str) (v5 v6:Option Sl),FI (fun x=>x∈(st qs).flatMap el\/ x∈((st qs).map (·.name)).take i) (fun x=>if x∈((st qs).map (·.name)).take i then v3 qs x else v2 qs x) f N/\
    e=[some (Sl.val (PV.tup (qs.map lP))),some (Sl.val (PV.tup (mP ks))),some (Sl.val (.a9 (gJ G M))),some (Sl.loc (.a9 (gJ f N))),some (Sl.val (.lst ((st qs).map lP))),v5,v6,v7,v8,v9,v10]) ?_ ?_
    ⟨f,N,_,_,fi.of (fun y=>by simp) fun _ _=>by simp,rfl⟩
   ·rintro i p e hx ⟨f,N,v5,v6,fi,rfl⟩
    rw[getElem?_map]at hx
    obtain⟨l,hk,rfl⟩:=map_eq_some_iff.mp hx
    have hlm:=mem_of_getElem? hk
    have hrow:=(g.1 l (nP hlm)).1
    have hkn':((st qs).map (·.name))[i]? =some l.name:=by rw[getElem?_map,hk];rfl
    have Nl:=fi.len (ss:=ss) fun x hx=>by
     rcases hx with hx|hx
     ·exact N1 x hx
     ·obtain⟨k,h1,rfl⟩:=mem_map.mp (mem_of_mem_take hx)
      exact lX g h1 _ mem_cons_self
    have fin:∀p,v3 qs l.name=p->FI (fun x=>x∈(st qs).flatMap el\/ x∈((st qs).map (·.name)).take (i+1)) (fun x=>if x∈((st qs).map (·.name)).take (i+1)then v3 qs x else v2 qs x) (pJ f l.name p) (iV N l.name):=fun p hp=>
     fi.put (x:=l.name) (fun z=>by rw[take_add_one,hkn',toList_some,mem_append,mem_singleton,or_assoc]) (by rw[if_pos (by rw[take_add_one,hkn'];simp)];exact hp) fun z hz=>by
      have:z∈((st qs).map (·.name)).take (i+1)↔z∈((st qs).map (·.name)).take i:=by rw[take_add_one,hkn',toList_some,mem_append,mem_singleton];simp[hz]
      simp only[this]
    walk_at "wp"
    refine FQ (l:=l) hrow ?_
    have hv:v3 qs l.name=match(el l).getLast? with
      |some y=>.tup [.str y,UT]
      |none=>jJ:=by
     have h0:=mV hlm
     unfold v3
     cases e3:(el l).getLast? with
     |none=>simp only[h0,e3]
     |some y=>simp only[h0,e3]
    rw[show lP l=PV.tup [PV.str l.name,PV.int l.day,PV.str l.head,PV.tup (l.row.map PV.str)]from rfl]
    cases e3:(el l).getLast? with
    |none=>
     have e4:=List.getLast?_eq_none_iff.mp e3
     rw[e3]at hv
     rw[e4]
     walk_at "wp"
     rw[hJ]
     exact⟨by rw[eS];omega,_,_,_,_,fin _ hv,rfl⟩
    | some y=>
     rw[e3]at hv
     have e5:nF ((el l).map PV.str) (-1)=some (.str y):=yM (by rw[getLast?_map,e3];rfl)
     have e6:∃z zs,el l=z::zs:=by
      cases h:el l with
      |nil=>rw[h]at e3;cases e3
      |cons z zs=>exact⟨z,zs,rfl⟩
     obtain⟨z,zs,e6⟩:=e6
     rw[e6,map_cons]at e5⊢
     walk_at "wp"
     rw[e5]
     walk_at "wp"
     rw[hJ]
     exact⟨iH zs 8,by rw[eS];omega,_,_,_,_,fin _ hv,rfl⟩
   ·rintro e ⟨f,N,v5,v6,fi,rfl⟩
    have fi:FI (fun x=>x∈(st qs).flatMap sA) (v3 qs) f N:=fi.of (fun y=>by
      rw[show((st qs).map lP).length=((st qs).map (·.name)).length by rw[length_map,length_map],take_length]
      constructor
      ·intro h
       obtain⟨l,h1,h2⟩:=mem_flatMap.mp h
       rcases mem_cons.mp h2 with h2|h2
       ·exact .inr (mem_map.mpr ⟨l,h1,h2.symm⟩)
       ·exact .inl (mem_flatMap.mpr ⟨l,h1,h2⟩)
      ·rintro(h|h)
       ·obtain⟨l,h1,h2⟩:=mem_flatMap.mp h
        exact mem_flatMap.mpr ⟨l,h1,mem_cons_of_mem _ h2⟩
       ·obtain⟨l,h1,rfl⟩:=mem_map.mp h
        exact mem_flatMap.mpr ⟨l,h1,mem_cons_self⟩) fun y _=>by
     rw[show((st qs).map lP).length=((st qs).map (·.name)).length by rw[length_map,length_map],take_length]
     by_cases h:y∈(st qs).map (·.name)
     ·rw[if_pos h]
     ·rw[if_neg h]
      unfold v3
      rw[find_none fun z hz=>decide_eq_false fun e=>h (mem_map.mpr ⟨z,hz,e⟩)]
    have out:∀x,x∉(st qs).flatMap sA->v3 qs x=jJ:=fun x hx=>by
     have h:=FH (qs:=qs) (ks:=[]) (x:=x) fun h=>(mem_append.mp h).elim hx fun z=>nomatch z
     rw[<-D7 (ks:=[]) (fun z=>nomatch z)]
     unfold sZ
     rw[h];rfl
    walk_at "wp"
    refine cL (fun i e=>∃(f:Str->PV) (N:List Str) (v8 v10:Option Sl),FI (fun x=>x∈(st qs).flatMap sA\/ x∈(ks.take i).flatMap pQ) (fun x=>if x∈(ks.take i).map (·.1)then sZ qs ks x else v3 qs x) f N/\
     e=[some (Sl.val (PV.tup (qs.map lP))),some (Sl.val (PV.tup (mP ks))),some (Sl.val (.a9 (gJ G M))),some (Sl.loc (.a9 (gJ f N))),some (Sl.val (.lst ((st qs).map lP))),v5,v6,v7,v8,v9,v10]) ?_ ?_
     ⟨f,N,_,_,fi.of (fun y=>by simp) fun _ _=>by simp,rfl⟩
    ·rintro i p e hx ⟨f,N,v8,v10,fi,rfl⟩
     unfold mP at hx
     rw[getElem?_map]at hx
     obtain⟨z,hk,rfl⟩:=map_eq_some_iff.mp hx
     have hzm:=mem_of_getElem? hk
     have hin:∀x,(x∈(st qs).flatMap sA\/ x∈(ks.take i).flatMap pQ)->x∈ss:=fun x hx=>by
      rcases hx with hx|hx
      ·obtain⟨k,h1,h2⟩:=mem_flatMap.mp hx
       exact lX g h1 x h2
      ·obtain⟨k,h1,h2⟩:=mem_flatMap.mp hx
       exact yZ g (mem_of_mem_take h1) x h2
     have Nl:=fi.len hin
     have ht:(ks.take (i+1)).map (·.1)=(ks.take i).map (·.1)++[z.1]:=by rw[take_add_one,hk,map_append];rfl
     have f1:FI (fun x=>(x∈(st qs).flatMap sA\/ x∈(ks.take i).flatMap pQ)\/ x=z.1) (fun x=>if x∈(ks.take (i+1)).map (·.1)then sZ qs ks x else v3 qs x) (pJ f z.1 (.tup [oP z.2,D4])) (iV N z.1):=
      fi.put (fun y=>Iff.rfl) (by rw[ht,if_pos (by simp)];exact JF hzm hkn) fun y hy=>by
       have:y∈(ks.take (i+1)).map (·.1)↔y∈(ks.take i).map (·.1):=by rw[ht,mem_append,mem_singleton];simp[hy]
       simp only[this]
     have Nl1:=f1.len (ss:=ss) fun x hx=>hx.elim (hin x) fun e=>by rw[e];exact(g.2 z hzm).1
     have es:=wJ (f:=pQ) hk
     cases eo:z.2 with
     |none=>
      rw[eo]at f1
      rw[show oP none=PV.aY from rfl]at f1⊢
      walk_at "wp"
      rw[hJ]
      refine⟨by rw[eS];omega,_,_,_,_,f1.of (fun y=>?_) fun _ _=>rfl,rfl⟩
      rw[es,show pQ z=[z.1] by unfold pQ;rw[eo];rfl,mem_append,mem_singleton,or_assoc]
     | some y=>
      rw[eo]at f1
      rw[show oP (some y)=PV.str y from rfl]at f1⊢
      walk_at "wp"
      rw[hJ,yX]
      refine⟨by rw[eS];omega,?_⟩
      have mem:∀w,(w∈(st qs).flatMap sA\/ w∈(ks.take (i+1)).flatMap pQ)↔(((w∈(st qs).flatMap sA\/ w∈(ks.take i).flatMap pQ)\/ w=z.1)\/ w=y):=fun w=>by
       rw[es,show pQ z=[z.1,y] by unfold pQ;rw[eo];rfl,mem_append]
       simp[or_assoc]
      by_cases hy:y∈iV N z.1
      ·rw[decide_eq_true hy]
       refine⟨fun h=>(by cases h),fun _=>⟨_,_,_,_,f1.of (fun w=>?_) fun _ _=>rfl,rfl⟩⟩
       rw[mem]
       exact⟨fun h=>h.elim id fun e=>by rw[e];exact(f1.mem y).mp hy,.inl⟩
      ·rw[decide_eq_false hy]
       refine⟨fun _=>?_,fun h=>(by cases h)⟩
       rw[hJ]
       refine⟨by rw[eS];omega,_,_,_,_,f1.put mem ?_ fun _ _=>rfl,rfl⟩
       have hy':=fun h=>hy ((f1.mem y).mpr h)
       rw[if_neg fun h=>hy' ?_]
       ·exact out y fun h=>hy' (.inl (.inl h))
       ·rw[ht]at h
        rcases mem_append.mp h with h|h
        ·obtain⟨w,h1,h2⟩:=mem_map.mp h
         exact .inl (.inr (mem_flatMap.mpr ⟨w,h1,by unfold pQ;rw[h2];exact mem_cons_self⟩))
        ·exact .inr (mem_singleton.mp h)
    ·rintro e ⟨f,N,v8,v10,fi,rfl⟩
     rw[show(mP ks).length=ks.length by unfold mP;rw[length_map],take_length]at fi
     walk_at "wp"
     rw[G7 (g:=sZ qs ks) fun x hx=>?_]
     ·exact q N fi.nd fun x=>by rw[fi.mem];unfold j8;rw[mem_append]
     ·rw[fi.val x hx]
      by_cases h:x∈ks.map (·.1)
      ·rw[if_pos h]
      ·rw[if_neg h,D7 h]
end
section
open PySem L2 Mr
theorem yJ {up:α->Option α} {x:α} (i:Nat) {y:α} (h:Rg.cY up i x=some y):Rg.cY up (i+1) x=up y:=by
 rw[Rg.gT i 1,h]
 show(up y).bind (Rg.cY up 0)=_
 cases up y<;>rfl
theorem LU {qs:List Let} {ks:Hl} {x:Str} (hx:x∈N) (hN:N.length<=62) (hcl:∀x y,y4 qs ks x=some y->y∈N) (hc:Rg.BQ (y4 qs ks) x->∃p,p<N.length/\Rg.cY (y4 qs ks) (p+1) x=some x)
  (q:∀b,(b=true↔Rg.BQ (y4 qs ks) x)->Q (.bl b,[])):Wp (dH [.a9 (gJ (sZ qs ks) N),.str x]) Q:=by
 unfold dH fQ
 walk_at "wp"
 rw[i0,if_pos hx]
 unfold sZ
 walk_at "wp"
 rw[show(fun x=>PV.tup [oP (BR qs ks x).e,(BR qs ks x).r])=sZ qs ks from rfl,eS]
 refine⟨gQ (by omega) (by omega),?_⟩
 have s0:Rg.cY (y4 qs ks) 1 x=y4 qs ks x:=yJ 0 rfl
 refine cL (fun i e=>∃(v3:Option Sl),e=[some (Sl.bor (PV.a9 (gJ (sZ qs ks) N))),some (Sl.val (PV.str x)),some (Sl.val (oP (Rg.cY (y4 qs ks) (i+1) x))),v3]/\∀k,k<i->∃y,Rg.cY (y4 qs ks) (k+1) x=some y/\y≠x) ?_ ?_ ⟨none,by rw[s0],fun k h=>absurd h (not_lt_zero _)⟩
 ·rintro i p e hp ⟨v3,rfl,hne⟩
  cases e:Rg.cY (y4 qs ks) (i+1) x with
  |none=>
   rw[show oP none=PV.aY from rfl]
   walk_at "wp"
   refine q _ ⟨fun h=>(by cases h),fun h=>?_⟩
   obtain⟨y,j,h1,_⟩:=h.back (i+1)
   rw[e]at h1
   cases h1
  | some y=>
   rw[show oP (some y)=PV.str y from rfl]
   walk_at "wp"
   refine⟨fun h=>?_,fun h=>?_⟩
   ·have hy:=eq_of_beq h
    subst hy
    rw[beq_self_eq_true]
    exact q _ ⟨fun _=>⟨i,e⟩,fun _=>rfl⟩
   ·have hyN:y∈N:=by
     obtain⟨z,h1,h2⟩:=Rg.lW e i (by omega)
     rw[show i+1 - i=0+1 by omega,yJ 0 rfl]at h2
     exact hcl z y h2
    rw[i0,if_pos hyN]
    unfold sZ
    walk_at "wp"
    refine⟨some (Sl.val p),?_,fun k hk=>?_⟩
    ·rw[yJ (i+1) e]
    ·by_cases hki:k=i
     ·rw[hki];exact⟨y,e,fun z=>by rw[z,beq_self_eq_true]at h;cases h⟩
     ·exact hne k (by omega)
 ·rintro e ⟨v3,rfl,hne⟩
  rw[length_map,length_range]at hne
  walk_at "wp"
  refine q _ ⟨fun h=>(by cases h),fun h=>?_⟩
  obtain⟨p,hp,h1⟩:=hc h
  obtain⟨y,h2,h3⟩:=hne p (by omega)
  rw[h1]at h2
  cases h2
  exact absurd rfl h3
theorem JH {Q:Bv->Prop} (h:Rs.length<64) (hne:∀R∈Rs,R≠[]) (hs:(Rs.map tT).Pairwise (fun a b=>kK 3 a b=true)) (q:Q (.new (.lst (Rs.map tT)))):Wp (lK [.tup (Rs.map tT)]) Q:=by
 have e0:fS [.tup (Rs.map tT)]=none:=rfl
 unfold lK
 rw[e0,none_or]
 unfold wZ
 simp only[dC,bU]
 refine⟨by rw[u5 hne,p7,length_map,decide_eq_true h];rfl,?_⟩
 have hp:=cF 3 (Rs.map tT)
 have e:lI 3 (Rs.map tT)=Rs.map tT:=gM (dY 3 _) hs hp fun x hx y hy h1 h2=>lV (p7 Rs) (hp.mem_iff.mp hx) (hp.mem_iff.mp hy) h1 h2
 rw[e]
 exact q
theorem u7 {Q:Bv->Prop} (h:ns.length<64) (q:Q (.new (.lst ((dW ns).map PV.str)))):Wp (lK [.lst (ns.map PV.str)]) Q:=by
 have e0:oM [.lst (ns.map PV.str)]=some (.new (.lst ((dW ns).map PV.str))):=by
  unfold oM
  dsimp only
  rw[mM,rA,decide_eq_true h]
  rfl
 unfold lK fS
 rw[e0]
 exact⟨_,rfl,q⟩
theorem Q7 {l m:List Str} (h1:l.Nodup) (h2:m.Nodup) (h:∀x,x∈l↔x∈m):l.Perm m:=by
 induction l generalizing m with
 |nil=>
  cases m with
  |nil=>exact .refl _
  |cons y m=>exact absurd ((h y).mpr mem_cons_self) (fun z=>nomatch z)
 | cons x l ih=>
  have hx:=(h x).mp mem_cons_self
  obtain⟨n1,n2⟩:=nodup_cons.mp h1
  refine(List.Perm.cons x (ih n2 (h2.erase x) fun y=>?_)).trans (perm_cons_erase hx).symm
  rw[h2.mem_erase_iff]
  constructor
  ·intro hy
   exact⟨fun e=>n1 (e▸hy),(h y).mp (mem_cons_of_mem _ hy)⟩
  ·rintro⟨hy,hm⟩
   exact(mem_cons.mp ((h y).mpr hm)).resolve_left hy
theorem O1 (ns:List Str):cO (ns.map PV.str) (ns.map PV.str)=true:=mS (n:=1) (fun h=>pF h) (x4 ns 1)
theorem X4 (Rs:List (List Str)):cO (Rs.map tT) (Rs.map tT)=true:=mS (n:=3) (fun h=>pF h) (all_eq_true.mpr fun p hp=>by obtain⟨R,_,rfl⟩:=mem_map.mp hp;exact RW R)
theorem T7 (Rs:List (List Str)):(Rs.map tT).all (gO 8)=true:=by
 skip
 exact all_eq_true.mpr fun p hp=>by obtain⟨R,_,rfl⟩:=mem_map.mp hp;exact iH R 7
end
section
open PySem L2 Mr
theorem V7 {Q:List PV×En->Prop} (hR:∀x∈R,x∈N) (q:∀e,Q (R.map fun _=>.bl true,e)):Wp (iX (aR 0) eR (bC (vN false) (aC 0) (aC 1)) (R.map PV.str) [none,some (Sl.val (.a9 (gJ f N)))]) Q:=by
 refine fF (fun i acc e=>acc=(R.take i).map (fun _=>.bl true)/\∃s,e=[s,some (Sl.val (.a9 (gJ f N)))]) ?_ ?_ ⟨rfl,_,rfl⟩
 ·rintro i p e acc hx ⟨rfl,s,rfl⟩
  rw[getElem?_map]at hx
  obtain⟨y,hy,rfl⟩:=map_eq_some_iff.mp hx
  walk_at "wp"
  rw[yX,decide_eq_true (hR y (mem_of_getElem? hy))]
  refine⟨by rw[take_add_one,hy,map_append];rfl,_,rfl⟩
 ·rintro acc e ⟨rfl,s,rfl⟩
  rw[length_map,take_length]
  exact q _
theorem F9 {up:Str->Option Str} (r:Rg.Ring up R) (h:R[j]? =some x):∃w,nF (R.map PV.str) (0+(j:Int) - 1)=some (.str w)/\up w=some x/\w∈R:=by
 obtain⟨w,h1,h2⟩:=r.prev h
 by_cases h0:j=0
 ·subst h0
  rw[if_pos rfl]at h1
  refine⟨w,?_,h2,List.mem_of_getLast? h1⟩
  exact yM (by rw[getLast?_map,h1];rfl)
 ·rw[if_neg h0]at h1
  refine⟨w,?_,h2,mem_of_getElem? h1⟩
  rw[Int.zero_add]
  exact atT (by omega) h1
theorem pN (g:Good ss qs ks) (hss:ss.length<=60) (hl:qs.length<=100) (hk:ks.length<=100) (hkn:(ks.map (·.1)).Nodup) (nr:yO ks) (q:Q (.bl true,[])):Wp (c8 [.tup (qs.map lP),.tup (mP ks)]) Q:=by
 have hr:∀l∈qs,l.row.length<=9:=fun l h=>(g.1 l h).1
 have insS:∀x∈j8 qs ks,x∈ss:=fun x hx=>by
  rcases mem_append.mp hx with w|w
  ·obtain⟨l',h1,h2⟩:=mem_flatMap.mp w
   exact lX g h1 x h2
  ·obtain⟨l',h1,h2⟩:=mem_flatMap.mp w
   exact yZ g h1 x h2
 unfold c8 lQ
 walk_at "wp"
 refine IX g (by omega) hl hkn fun N hN hNm=>?_
 have Nl:N.length<=60:=le_trans (eE hN fun x hx=>insS x ((hNm x).mp hx)) hss
 have hcl:∀x y,y4 qs ks x=some y->y∈N:=fun x y h=>(hNm y).mpr (qI hkn nr h).2
 walk_at "wp"
 unfold tS w8
 walk_at "wp"
 refine G0 g hl (by omega) ?_
 walk_at "wp"
 have pm:∀x,x∈dW (bV (j8 qs ks))↔x∈j8 qs ks:=fun x=>(lL _).mem_iff.trans oK
 have pn:(dW (bV (j8 qs ks))).Nodup:=(lL _).nodup_iff.mpr (pY _)
 generalize dW (bV (j8 qs ks))=ns at pm pn
 have nl:ns.length<=60:=le_trans (eE pn fun x hx=>insS x ((pm x).mp hx)) hss
 refine DB hr hl hk pn (by omega) (fun x hx R r=>BW hkn r) ?_
 walk_at "wp"
 refine w6 hl hk hkn nr pn pm nl fun Rs hRs=>?_
 walk_at "wp"
 have hne:∀R∈Rs,R≠[]:=fun R hR=>(hRs.ring R hR).ne
 have rl:∀R∈Rs,R.length<=60:=fun R hR=>le_trans (eE (hRs.ring R hR).nd (hRs.sub R hR)) nl
 have hRN:∀R∈Rs,∀x∈R,x∈N:=fun R hR x hx=>(hNm x).mpr ((pm x).mp (hRs.sub R hR x hx))
 have:=hRs.len
 refine JH (by omega) hne hRs.srt ?_
 walk_at "wp"
 rw[X4]
 refine⟨by have:=T7 Rs;exact this,?_⟩
 walk_at "wp"
 refine⟨fun h=>h.elim,?_⟩
 refine cL (fun i e=>∃(v5 v6:Option Sl),e=[some (Sl.val (.tup (qs.map lP))),some (Sl.val (.tup (mP ks))),some (Sl.val (.a9 (gJ (sZ qs ks) N))),some (Sl.val (.tup (Rs.map tT))),some (Sl.val (.lst ((Rs.take i).flatten.map PV.str))),v5,v6]) ?_ ?_ ⟨_,_,rfl⟩
 ·rintro i p e hp ⟨v5,v6,rfl⟩
  rw[getElem?_map]at hp
  obtain⟨R,hR,rfl⟩:=map_eq_some_iff.mp hp
  have hRm:=mem_of_getElem? hR
  have ring:=hRs.ring R hRm
  have r2:=ring.two fun x h=>(qI hkn nr h).1 rfl
  have rl1:=rl R hRm
  walk_at "wp"
  refine⟨fun h=>absurd h (by omega),fun _=>⟨by omega,?_⟩⟩
  refine V7 (hRN R hRm) fun e=>?_
  walk_at "wp"
  rw[show(R.map fun _=>PV.bl true)=(R.map fun _=>true).map PV.bl by rw[map_map];rfl,JS]
  walk_at "wp"
  rw[show(R.map fun _=>true).all id=true from all_eq_true.mpr fun b hb=>by obtain⟨_,_,rfl⟩:=mem_map.mp hb;rfl]
  walk_at "wp"
  refine⟨fun h=>h.elim,gQ (by omega) (by omega),?_⟩
  refine cL (fun j e=>∃(v6:Option Sl),e=[some (Sl.val (.tup (qs.map lP))),some (Sl.val (.tup (mP ks))),some (Sl.val (.a9 (gJ (sZ qs ks) N))),some (Sl.val (.tup (Rs.map tT))),some (Sl.val (.lst ((Rs.take i).flatten.map PV.str))),some (Sl.val (tT R)),v6]) ?_ ?_ ⟨_,rfl⟩
  ·rintro j p e hp ⟨v6,rfl⟩
   rw[getElem?_map]at hp
   obtain⟨k,hk,rfl⟩:=map_eq_some_iff.mp hp
   have hj:=(List.getElem?_eq_some_iff.mp hk).1
   rw[length_range]at hj
   rw[List.getElem?_range hj]at hk
   cases hk
   have hxe:R[j]? =some (R[j]'(by omega)):=getElem?_eq_getElem _
   generalize R[j]'(by omega)=x at hxe
   obtain⟨w,h1,h2,h3⟩:=F9 ring hxe
   have h4:nF (R.map PV.str) (0+(j:Int))=some (.str x):=by rw[Int.zero_add];exact gA (by rw[getElem?_map,hxe];rfl)
   walk_at "wp"
   rw[h1]
   walk_at "wp"
   rw[i0,if_pos (hRN R hRm w h3)]
   unfold sZ
   rw[show(BR qs ks w).e=some x from h2,show oP (some x)=PV.str x from rfl]
   walk_at "wp"
   rw[h4]
   walk_at "wp"
   exact⟨_,rfl⟩
  ·rintro e ⟨v6,rfl⟩
   walk_at "wp"
   refine⟨?_,some (Sl.val (tT R)),v6,?_⟩
   ·have:=congrArg (fun z=>List.length (List.flatten z)) (take_append_drop i Rs)
    rw[flatten_append,length_append]at this
    have h2:=eE hRs.nd (m:=ns) fun x hx=>by
     obtain⟨S,hS,hx⟩:=mem_flatten.mp hx
     exact hRs.sub S hS x hx
    omega
   ·rw[take_add_one,hR,toList_some,flatten_append,List.flatten_singleton,map_append]
 ·rintro e ⟨v5,v6,rfl⟩
  rw[length_map,take_length]
  have fl:=eE hRs.nd (m:=ns) fun x hx=>by
   obtain⟨S,hS,hx⟩:=mem_flatten.mp hx
   exact hRs.sub S hS x hx
  have hcyc:∀x,x∈Rs.flatten↔x∈N/\Rg.BQ (y4 qs ks) x:=fun x=>by
   constructor
   ·intro h
    obtain⟨S,hS,hx⟩:=mem_flatten.mp h
    exact⟨hRN S hS x hx,(hRs.ring S hS).BQ hx⟩
   ·rintro⟨h1,h2⟩
    exact hRs.all x ((pm x).mpr ((hNm x).mp h1)) h2
  walk_at "wp"
  refine u7 (by omega) ?_
  walk_at "wp"
  rw[AD]
  refine⟨by rw[eS];omega,?_⟩
  classical
  refine lJ (p:=fun x=>decide (x∈Rs.flatten)) (I:=fun e=>∃s,e=[s,some (Sl.val (.a9 (gJ (sZ qs ks) N)))]) ⟨_,rfl⟩ ?_ ?_
  ·rintro x hx e ⟨s,rfl⟩
   walk_at "wp"
   refine LU hx (by omega) hcl (fun c=>?_) fun b hb=>?_
   ·obtain⟨S,hS,hxS⟩:=mem_flatten.mp ((hcyc x).mpr ⟨hx,c⟩)
    have h0:0<S.length:=length_pos_of_mem hxS
    have h1:=eE (hRs.ring S hS).nd (hRN S hS)
    exact⟨S.length - 1,by omega,by rw[show S.length - 1+1=S.length by omega];exact(hRs.ring S hS).turn hxS⟩
   ·have e:b=decide (x∈Rs.flatten):=by
     by_cases h:x∈Rs.flatten
     ·rw[decide_eq_true h];exact hb.mpr ((hcyc x).mp h).2
     ·rw[decide_eq_false h]
      cases b with
      |false=>rfl
      |true=>exact absurd ((hcyc x).mpr ⟨hx,hb.mp rfl⟩) h
    cases b with
    |false=>walk_at "wp";exact⟨e,_,rfl⟩
    |true=>walk_at "wp";exact⟨e,_,rfl⟩
  ·rintro e ⟨s,rfl⟩
   have hfl:(N.filter fun x=>decide (x∈Rs.flatten)).length<=60:=le_trans (List.length_filter_le _ _) Nl
   walk_at "wp"
   refine u7 (by omega) ?_
   have e:=DJ (ss:=Rs.flatten) (tt:=N.filter fun x=>decide (x∈Rs.flatten)) (Q7 hRs.nd (hN.filter _) fun x=>by
    rw[mem_filter]
    exact⟨fun h=>⟨((hcyc x).mp h).1,decide_eq_true h⟩,fun h=>of_decide_eq_true h.2⟩)
   rw[<-e]
   walk_at "wp"
   rw[O1]
   exact⟨iH _ 8,q⟩
end
section
open PySem L2 Mr
theorem XI {ns:List Int} (hn:ns.length<=63):Wp (yG [.lst (ns.map PV.int)]) fun w=>w=(.bl true,[]):=by
 unfold yG JB
 walk_at "wp"
 refine E7 (by decide) (by decide) hn fun a b h=>?_
 walk_at "wp"
 refine cV h (by decide) (by decide) (by decide) fun d a1 b1 c1 d0 d1 hp=>?_
 walk_at "wp"
 refine fJ d0 d1 fun p hp'=>?_
 obtain⟨z,rfl,z0,z1⟩:∃z:Int,p= .int z/\0<z/\z<=40:=by
  simp only[mem_cons,not_mem_nil,or_false]at hp'
  rcases hp' with rfl|rfl|rfl<;>exact⟨_,rfl,by decide,by decide⟩
 walk_at "wp"
 refine cV hp (by decide) z0 (by omega) fun e' a2 b2 c2 e0 e1 hp=>?_
 walk_at "wp"
 refine cV hp (by decide) (by decide) (by decide) fun many a3 b3 c3 m0 m1 hp=>?_
 walk_at "wp"
 refine BY hn hp (by omega) (by omega) (by decide) fun zs a7 b7 c7 zl hz hp=>?_
 walk_at "wp"
 refine IH hp (by omega) (by omega) (by omega) fun ss a10 b10 c10 sl hss hp=>?_
 walk_at "wp"
 refine QD (m:=1+e') sl hz (by omega) fun qs ll _ hq=>?_
 walk_at "wp"
 refine JX hp (by omega) (by omega) m0 (by omega) (by omega) fun hs a11 b11 c11 hl mok nr hp=>?_
 have g:Good ss qs hs:=⟨hq,mok.nm⟩
 have g0:Good ss qs []:=⟨hq,fun _ h=>(nomatch h)⟩
 have g1:Good ss (qs.drop 1) hs:=⟨fun l hl=>hq l (List.mem_of_mem_drop hl),mok.nm⟩
 walk_at "wp"
 refine pN g (by omega) (by omega) (by omega) mok.nd nr ?_
 walk_at "wp"
 refine pN (ks:=[]) g0 (by omega) (by omega) (by simp) nodup_nil yO.nil ?_
 walk_at "wp"
 rw[show(1:Int)=((1:Nat):Int)from rfl,mG,<-map_drop]
 refine pN g1 (by omega) (by rw[length_drop];omega) (by omega) mok.nd nr ?_
 walk_at "wp"
 refine pN g (by omega) (by omega) (by omega) mok.nd nr ?_
 walk_at "wp"
theorem IZ:∀ns:List Int,ns.length<=63->yG [.lst (ns.map PV.int)]=some (.bl true,[]):=fun ns hn=>(XI hn).eq
end
theorem all_mk {w:World} {K:Frag} {h:Heap} {mg:Str->Option Value} {fa f0 f1 f2 f3 f4 f5 f6 f7 f8 f9 f10 f11 f12 f13 f14 f15 f16 f17 f18 f19 f20 f21 f22 f23 f24 f25 f26:Addr} (X:K.In h) (G:h.Ns mainGlobals mg) (hfa:mg "law"=some (.ref fa))
  (h0:oN K "elders" lT f0)
  (h1:oN K "standing" kE f1)
  (h2:oN K "days_of" jU f2)
  (h3:oN K "rows_of" jP f3)
  (h4:oN K "claims_of" jB f4)
  (h5:oN K "choice" pG f5)
  (h6:oN K "choices" iA f6)
  (h7:oN K "rings_in" kP f7)
  (h8:oN K "places" pO f8)
  (h9:oN K "cut_one" fU f9)
  (h10:oN K "begun_with" g9 f10)
  (h11:oN K "cut_rings" dS f11)
  (h12:oN K "rings" r6 f12)
  (h13:oN K "_law_hand" kZ f13)
  (h14:oN K "_law_take" kW f14)
  (h15:oN K "_law_names" fB f15)
  (h16:oN K "_law_letter" fE f16)
  (h17:oN K "_law_letters" eO f17)
  (h18:oN K "_law_pack" iL f18)
  (h19:oN K "_law_climbs" g8 f19)
  (h20:oN K "_law_marks" iY f20)
  (h21:oN K "_law_row" jT f21)
  (h22:oN K "_law_standing" fG f22)
  (h23:oN K "_law_table" jA f23)
  (h24:oN K "_law_comes_back" eA f24)
  (h25:oN K "_law_right" fD f25)
  (h26:oN K "law" DU f26)
  (dQ:nsIn K mainGlobals "enumerate"=some none)
  (dJ:nsIn K mainGlobals "tuple"=some none)
  (oU:nsIn K mainGlobals "min"=some none)
  (i7:nsIn K mainGlobals "len"=some none)
  (dR:nsIn K mainGlobals "sorted"=some none)
  (cZ:nsIn K mainGlobals "range"=some none)
  (oE:nsIn K mainGlobals "list"=some none)
  (vZ:nsIn K mainGlobals "str"=some none)
  (AV:nsIn K mainGlobals "int"=some none)
  (dZ:nsIn K mainGlobals "isinstance"=some none)
  (zE:nsIn K mainGlobals "all"=some none)
  :∃fd:FuncData,(∀(s:Shared) (v:Value),BindsTo s fd ⟨[v],[]⟩ [("_law_script",v)])/\∀base:Heap,K.In base->base.Ns mainGlobals mg->pM l.prog w K mg base NT 6 fa fd ["_law_script"] (z4 K):=by
 have T:Txt K mg:=⟨mg_none_of X G dQ,mg_none_of X G dJ,mg_none_of X G oU,mg_none_of X G i7,mg_none_of X G dR,mg_none_of X G cZ,mg_none_of X G oE,mg_none_of X G vZ,mg_none_of X G AV,mg_none_of X G dZ,mg_none_of X G zE⟩
 have d0:Dx K mg "elders" lT ["letter"]:=h0.dx X G (uH fun _ _ _ _ _ _ _=>rfl)
 have d1:Dx K mg "standing" kE ["pack"]:=h1.dx X G (uH fun _ _ _ _ _ _ _=>rfl)
 have d2:Dx K mg "days_of" jU ["pack"]:=h2.dx X G (uH fun _ _ _ _ _ _ _=>rfl)
 have d3:Dx K mg "rows_of" jP ["pack"]:=h3.dx X G (uH fun _ _ _ _ _ _ _=>rfl)
 have d4:Dx K mg "claims_of" jB ["pack"]:=h4.dx X G (uH fun _ _ _ _ _ _ _=>rfl)
 have d5:Dx K mg "choice" pG ["held","rows","claimed","name"]:=h5.dx X G (abZ fun _ _ _ _ _ _ _ _ _ _=>rfl)
 have d6:Dx K mg "choices" iA ["pack","marks","names"]:=h6.dx X G (G6 fun _ _ _ _ _ _ _ _ _=>rfl)
 have d7:Dx K mg "rings_in" kP ["above"]:=h7.dx X G (uH fun _ _ _ _ _ _ _=>rfl)
 have d8:Dx K mg "places" pO ["pack","marks"]:=h8.dx X G (uF fun _ _ _ _ _ _ _ _=>rfl)
 have d9:Dx K mg "cut_one" fU ["ring","held","days"]:=h9.dx X G (G6 fun _ _ _ _ _ _ _ _ _=>rfl)
 have d10:Dx K mg "begun_with" g9 ["ring","name"]:=h10.dx X G (uF fun _ _ _ _ _ _ _ _=>rfl)
 have d11:Dx K mg "cut_rings" dS ["pack","marks","ties"]:=h11.dx X G (G6 fun _ _ _ _ _ _ _ _ _=>rfl)
 have d12:Dx K mg "rings" r6 ["pack","marks"]:=h12.dx X G (uF fun _ _ _ _ _ _ _ _=>rfl)
 have d13:Dx K mg "_law_hand" kZ ["_law_script","_law_k"]:=h13.dx X G (uF fun _ _ _ _ _ _ _ _=>rfl)
 have d14:Dx K mg "_law_take" kW ["_law_hand_here","_law_many"]:=h14.dx X G (uF fun _ _ _ _ _ _ _ _=>rfl)
 have d15:Dx K mg "_law_names" fB ["_law_hand_here","_law_many"]:=h15.dx X G (uF fun _ _ _ _ _ _ _ _=>rfl)
 have d16:Dx K mg "_law_letter" fE ["_law_hand_here","_law_m"]:=h16.dx X G (uF fun _ _ _ _ _ _ _ _=>rfl)
 have d17:Dx K mg "_law_letters" eO ["_law_script","_law_hand_here","_law_m"]:=h17.dx X G (G6 fun _ _ _ _ _ _ _ _ _=>rfl)
 have d18:Dx K mg "_law_pack" iL ["_law_letters_here","_law_names_here"]:=h18.dx X G (uF fun _ _ _ _ _ _ _ _=>rfl)
 have d19:Dx K mg "_law_climbs" g8 ["_law_held","_law_here","_law_name"]:=h19.dx X G (G6 fun _ _ _ _ _ _ _ _ _=>rfl)
 have d20:Dx K mg "_law_marks" iY ["_law_hand_here","_law_names_here","_law_many"]:=h20.dx X G (G6 fun _ _ _ _ _ _ _ _ _=>rfl)
 have d21:Dx K mg "_law_row" jT ["_law_letter_here"]:=h21.dx X G (uH fun _ _ _ _ _ _ _=>rfl)
 have d22:Dx K mg "_law_standing" fG ["_law_pack_here"]:=h22.dx X G (uH fun _ _ _ _ _ _ _=>rfl)
 have d23:Dx K mg "_law_table" jA ["_law_pack_here","_law_marks_here"]:=h23.dx X G (uF fun _ _ _ _ _ _ _ _=>rfl)
 have d24:Dx K mg "_law_comes_back" eA ["_law_table_here","_law_name"]:=h24.dx X G (uF fun _ _ _ _ _ _ _ _=>rfl)
 have d25:Dx K mg "_law_right" fD ["_law_pack_here","_law_marks_here"]:=h25.dx X G (uF fun _ _ _ _ _ _ _ _=>rfl)
 have d26:Dx K mg "law" DU ["_law_script"]:=h26.dx X G (uH fun _ _ _ _ _ _ _=>rfl)
 refine TU hfa d26 (uH fun _ _ _ _ _ _ _=>rfl) (fun base=>?_) IZ
 have G_elders:=IC (P:=l.prog) (w:=w) (base:=base) T d0
 have G_standing:=BF (P:=l.prog) (w:=w) (base:=base) T d1
 have G_choice:=HP (P:=l.prog) (w:=w) (base:=base) T d5
 have G_rings_in:=A4 (P:=l.prog) (w:=w) (base:=base) T d7
 have G_cut_one:=C7 (P:=l.prog) (w:=w) (base:=base) T d9
 have G_begun_with:=uP (P:=l.prog) (w:=w) (base:=base) T d10
 have G_law_hand:=A1 (P:=l.prog) (w:=w) (base:=base) T d13
 have G_law_take:=AW (P:=l.prog) (w:=w) (base:=base) T d14
 have G_law_pack:=z8 (P:=l.prog) (w:=w) (base:=base) T d18
 have G_law_climbs:=uR (P:=l.prog) (w:=w) (base:=base) T d19
 have G_law_row:=CV (P:=l.prog) (w:=w) (base:=base) T d21
 have G_law_standing:=rD (P:=l.prog) (w:=w) (base:=base) T d22
 have G_law_comes_back:=o4 (P:=l.prog) (w:=w) (base:=base) T d24
 have G_days_of:=DS (P:=l.prog) (w:=w) (base:=base) T d2 G_standing
 have G_rows_of:=B3 (P:=l.prog) (w:=w) (base:=base) T d3 G_elders G_standing
 have G_claims_of:=yQ (P:=l.prog) (w:=w) (base:=base) T d4 G_standing G_elders
 have G_places:=GW (P:=l.prog) (w:=w) (base:=base) T d8 G_standing G_elders
 have G_law_names:=yS (P:=l.prog) (w:=w) (base:=base) T d15 G_law_take
 have G_law_letter:=uN (P:=l.prog) (w:=w) (base:=base) T d16 G_law_take
 have G_law_marks:=yD (P:=l.prog) (w:=w) (base:=base) T d20 G_law_take G_law_climbs
 have G_law_table:=w9 (P:=l.prog) (w:=w) (base:=base) T d23 G_law_standing G_law_row
 have G_choices:=DK (P:=l.prog) (w:=w) (base:=base) T d6 G_rows_of G_claims_of G_choice
 have G_cut_rings:=xD (P:=l.prog) (w:=w) (base:=base) T d11 G_days_of G_rings_in G_begun_with G_cut_one
 have G_law_letters:=sW (P:=l.prog) (w:=w) (base:=base) T d17 G_law_letter G_law_take G_law_hand
 have G_rings:=KZ (P:=l.prog) (w:=w) (base:=base) T d12 G_cut_rings G_choices G_places
 have G_law_right:=xI (P:=l.prog) (w:=w) (base:=base) T d25 G_law_table G_rings G_law_comes_back
 exact U4 T d26 G_law_hand G_law_take G_law_letters G_law_names G_law_pack G_law_marks G_law_right
theorem walk {q:Program} {loose:List Str} {XP:(Str->Option Value)->Heap->Prop} {YP:World->Heap->Prop} {d:DefRec} {K:Params->Frag} (hn:l.most=some 63) (hdf:d.params.defaults=[])
  (hY:∀(w:World) (h:Heap),YP w h->(K w.params).In h)
  (F:∀(w:World) (mg:Str->Option Value) (fa:Addr) (h:Heap),(K w.params).In h->h.Ns mainGlobals mg->mg d.name=some (.ref fa)->
   ∃fd:FuncData,(∀(s:Shared) (u:Value),BindsTo s fd ⟨[u],[]⟩ [("_law_script",u)])/\∀base:Heap,(K w.params).In base->base.Ns mainGlobals mg->pM l.prog w (K w.params) mg base NT 6 fa fd ["_law_script"] (z4 (K w.params))):
  PySem.W.WalkO q loose XP YP l.row.toRowW d [] (fun f vs=>PySem.call f vs):=
 L2.PK (n:=63) (k:=6) (x:="_law_script") (CX:=fun _=>NT) (sp:=fun w=>z4 (K w.params)) hn (by decide) hdf ⟨rfl,by decide,by decide⟩ hY F (fun _ _ a ns hl _ hS=>⟨a,ns,rfl,hS,hl,fun _=>rfl⟩) fun _ _ _ _ _ z=>z
end My
namespace PySem.W.Fast
def tw16239570945321181387:=()
def tw12907305272038701817:=()
def tw16862291981275188675:=()
def tw13914569636822192059:=()
def tw648594504989800557:=()
def tw7244701466458533878:=()
def tw9246837588419051535:=()
def tw10499827228773165784:=()
def tw15841187023487575844:=()
def tw6189330776117444417:=()
def tw2356923844155625619:=()
def tw2141257764517094745:=()
def tw17426914577006364924:=()
def tw14949257471726867301:=()
def tw12316475792179898421:=()
def tw10270065778546687700:=()
def tw17953138510314803908:=()
def tw10276253690870102393:=()
def tw8279537076498239713:=()
def tw1093125136644862868:=()
def tw12755466378637704361:=()
def tw8423493589081121247:=()
def tw5622165626535778200:=()
def tw12906385837621513304:=()
def tw4075516977306644349:=()
def tw13399318877825984547:=()
def tw15709018234579685722:=()
def tw10786972659143384644:=()
def tw3615178237696905877:=()
def tw1624734622103646057:=()
def tw4610988917168352151:=()
def tw5599289929357199842:=()
def tw3025275592215244910:=()
def tw1489201850078126173:=()
def tw4860839035433206345:=()
def tw4035661348684762596:=()
def tw200179248351479779:=()
def tw12198598032009566175:=()
def tw14895095920390770378:=()
def tw15548442927339635452:=()
def tw9461148302933968986:=()
def tw14449494558718070083:=()
def tw8311144089262900655:=()
def tw18412531758982059778:=()
def tw12828994127914977690:=()
def tw5837373722364825965:=()
def tw564350397687344635:=()
def tw12083389465774330324:=()
def tw16970305978463729796:=()
def tw48503132269663328:=()
def tw17618742370998557209:=()
def tw7373955106110806391:=()
def tw10089729740784337879:=()
def tw14745493040314857126:=()
def tw5816819690053670222:=()
def tw17906369356911285963:=()
def tw10767151196507925478:=()
def tw2324395125060971826:=()
def tw3982281216394418990:=()
def tw6610702593844570079:=()
def tw16153554968803741431:=()
def tw3585486976007971916:=()
def tw10819347017951970525:=()
def tw5909916314359961915:=()
def tw12952973800705772217:=()
def tw4539319907336462656:=()
def tw14855789205050726530:=()
def tw10199829120111611342:=()
end PySem.W.Fast
open PySem PySem.W PyProof.Rows
set_option maxRecDepth 100000 in
set_option maxHeartbeats 0 in
theorem PySem.Challenge.cw_answertrees_k19_rings_holds : PySem.Challenge.rw_answertrees_k19_rings.Holds := by
 w_on;o_law;k_head;(case hw=>w_witness2)
 k_fill
 refine My.walk (l:=PySem.Challenge.rw_answertrees_k19_rings) rfl rfl (fun w h Y=>PySem.W.kIn_of Y) ?F
 case F=>
  intro w mg fa h KX G hmg
  refine' My.all_mk KX G hmg ?h0 ?h1 ?h2 ?h3 ?h4 ?h5 ?h6 ?h7 ?h8 ?h9 ?h10 ?h11 ?h12 ?h13 ?h14 ?h15 ?h16 ?h17 ?h18 ?h19 ?h20 ?h21 ?h22 ?h23 ?h24 ?h25 ?h26 ?dQ ?dJ ?oU ?i7 ?dR ?cZ ?oE ?vZ ?AV ?dZ ?zE
  (case h0=>refine' Mr.cG ?a ?l ?c ?k;(case a=>k_is);(case l=>k_is);(case c=>k_is);(case k=>k_is))
  (case h1=>refine' Mr.cG ?a ?l ?c ?k;(case a=>k_is);(case l=>k_is);(case c=>k_is);(case k=>k_is))
  (case h2=>refine' Mr.cG ?a ?l ?c ?k;(case a=>k_is);(case l=>k_is);(case c=>k_is);(case k=>k_is))
  (case h3=>refine' Mr.cG ?a ?l ?c ?k;(case a=>k_is);(case l=>k_is);(case c=>k_is);(case k=>k_is))
  (case h4=>refine' Mr.cG ?a ?l ?c ?k;(case a=>k_is);(case l=>k_is);(case c=>k_is);(case k=>k_is))
  (case h5=>refine' Mr.cG ?a ?l ?c ?k;(case a=>k_is);(case l=>k_is);(case c=>k_is);(case k=>k_is))
  (case h6=>refine' Mr.cG ?a ?l ?c ?k;(case a=>k_is);(case l=>k_is);(case c=>k_is);(case k=>k_is))
  (case h7=>refine' Mr.cG ?a ?l ?c ?k;(case a=>k_is);(case l=>k_is);(case c=>k_is);(case k=>k_is))
  (case h8=>refine' Mr.cG ?a ?l ?c ?k;(case a=>k_is);(case l=>k_is);(case c=>k_is);(case k=>k_is))
  (case h9=>refine' Mr.cG ?a ?l ?c ?k;(case a=>k_is);(case l=>k_is);(case c=>k_is);(case k=>k_is))
  (case h10=>refine' Mr.cG ?a ?l ?c ?k;(case a=>k_is);(case l=>k_is);(case c=>k_is);(case k=>k_is))
  (case h11=>refine' Mr.cG ?a ?l ?c ?k;(case a=>k_is);(case l=>k_is);(case c=>k_is);(case k=>k_is))
  (case h12=>refine' Mr.cG ?a ?l ?c ?k;(case a=>k_is);(case l=>k_is);(case c=>k_is);(case k=>k_is))
  (case h13=>refine' Mr.cG ?a ?l ?c ?k;(case a=>k_is);(case l=>k_is);(case c=>k_is);(case k=>k_is))
  (case h14=>refine' Mr.cG ?a ?l ?c ?k;(case a=>k_is);(case l=>k_is);(case c=>k_is);(case k=>k_is))
  (case h15=>refine' Mr.cG ?a ?l ?c ?k;(case a=>k_is);(case l=>k_is);(case c=>k_is);(case k=>k_is))
  (case h16=>refine' Mr.cG ?a ?l ?c ?k;(case a=>k_is);(case l=>k_is);(case c=>k_is);(case k=>k_is))
  (case h17=>refine' Mr.cG ?a ?l ?c ?k;(case a=>k_is);(case l=>k_is);(case c=>k_is);(case k=>k_is))
  (case h18=>refine' Mr.cG ?a ?l ?c ?k;(case a=>k_is);(case l=>k_is);(case c=>k_is);(case k=>k_is))
  (case h19=>refine' Mr.cG ?a ?l ?c ?k;(case a=>k_is);(case l=>k_is);(case c=>k_is);(case k=>k_is))
  (case h20=>refine' Mr.cG ?a ?l ?c ?k;(case a=>k_is);(case l=>k_is);(case c=>k_is);(case k=>k_is))
  (case h21=>refine' Mr.cG ?a ?l ?c ?k;(case a=>k_is);(case l=>k_is);(case c=>k_is);(case k=>k_is))
  (case h22=>refine' Mr.cG ?a ?l ?c ?k;(case a=>k_is);(case l=>k_is);(case c=>k_is);(case k=>k_is))
  (case h23=>refine' Mr.cG ?a ?l ?c ?k;(case a=>k_is);(case l=>k_is);(case c=>k_is);(case k=>k_is))
  (case h24=>refine' Mr.cG ?a ?l ?c ?k;(case a=>k_is);(case l=>k_is);(case c=>k_is);(case k=>k_is))
  (case h25=>refine' Mr.cG ?a ?l ?c ?k;(case a=>k_is);(case l=>k_is);(case c=>k_is);(case k=>k_is))
  (case h26=>refine' Mr.cG ?a ?l ?c ?k;(case a=>k_is);(case l=>k_is);(case c=>k_is);(case k=>k_is))
  (case dQ=>k_is)
  (case dJ=>k_is)
  (case oU=>k_is)
  (case i7=>k_is)
  (case dR=>k_is)
  (case cZ=>k_is)
  (case oE=>k_is)
  (case vZ=>k_is)
  (case AV=>k_is)
  (case dZ=>k_is)
  (case zE=>k_is)
#print axioms PySem.Challenge.cw_answertrees_k19_rings_holds
