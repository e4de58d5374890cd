import PyProof.Rows.All
import Wide.All
import OpenK.AllK
import Wide.FinOn
import Lean
import PyProof.EqAt
import PyProof.EqKinds
import PyProof.TupleCall
import PySem.Challenge.RW_answertrees_k21_by_names
open List (mem_filter mem_range filterMap_cons mem_cons_self mem_cons_of_mem mem_cons mem_append mem_append_left getElem?_set_self getElem?_set_ne mem_filterMap mem_append_right size_toArray append_nil nodup_cons of_mem_zip length_take getElem?_append_right getElem?_append_left getElem?_map mem_of_getElem? length_append length_map length_replicate length_drop length_set map_nil map_cons lookup_cons length_cons all_cons all_map any_cons any_map all_eq_true getElem_mem find?_cons length_nil nodup_nil ext_getElem getElem?_eq_getElem toList_toArray getD_eq_getElem?_getD map_append drop_zero drop_eq_getElem_cons drop_length any_eq_true contains_iff_mem append_assoc getElem?_of_mem take_length length_zipIdx getElem?_zipIdx not_lt pairwise_cons foldl_append length_range getElem_map mem_map not_mem_nil map_map map_congr_left any_eq_false mem_singleton cons_append nodup_append map_id' length_pos_of_mem mem_flatten getElem_range take_append_drop nil_append all_nil map_take take_of_length_le mem_of_mem_take perm_cons_erase take_succ foldl_cons filterMap_append map_drop find?_eq_none find?_some find?_append getElem?_take getElem?_inj length_pos_iff mem_of_find?_eq_some take_add_one mem_flatMap filter_cons mem_of_head?)
open Nat (lt_of_lt_of_le lt_irrefl ne_of_lt le_trans le_of_lt ne_of_gt le_refl le_succ lt_succ_self zero_le lt_succ_of_lt lt_trans le_succ_of_le zero_add)
open Bool (and_eq_true false_eq_true or_eq_true not_eq_true')
open Option (isSome_iff_exists getD_none isSome_map map_eq_some_iff none_or or_none toList_some bind_some)
open Array (length_toList getD_eq_getD_getElem? toList_inj getElem?_toList)
open Int (toNat_natCast emod_nonneg emod_lt_of_pos)
open PySem.Heap (get?_push_size lt_size get?_push_of_some get?_update_self get?_update_other size_push)
open PySem.W (Frag methodObj keepIn fnOf codeIn kitOne kia_one nsIn mg_of mg_none_of)
open PySem.F (slot_tuple_add entry_tuple_add args_tuple_add_2 slot_dict_get entry_dict_get plainAttrs_dict type_dict_get slot_list_index plainAttrs_list)
set_option compiler.extract_closed false
set_option Elab.async false
set_option linter.all false
set_option maxRecDepth 100000
namespace L2
open PySem PySem.Spec PyProof.Rows
variable {a b it:Addr} {A:Around} {g':Array GenState} {op:CmpOp} {X:Cx} {d':Drawn} {c e tg:Expr} {fd:FuncData} {base h:Heap} {H:Hp} {g:Int->Int->Int} {CX:JI} {pins:List (Addr×Obj)} {ch fp:List Addr} {es:List Expr} {body:List Stmt} {N ps:List Str} {xs:List V} {us:List Value} {M:Model} {i j k n t':Nat} {o:Obj} {p pos:Pos} {P:Program} {K:Frag} {r:R2} {scope:Scope} {s:Shared} {sp:Sp} {σ:St} {qual x:Str} {kindOf:Str->Option NameKind} {mg:Str->Option Value} {ta:TA} {t te:TE} {tb:TS} {tc:TT} {α κ:Type} {y:V} {u v:Value} {E Q:Value->Shared->Prop} {f:Value->Value->Sem Value} {w:World}
noncomputable abbrev Key:=Sum Int Str
noncomputable def lW:Key->Value->Bool
 | .inl k,v=>Value.isInt k v
 | .inr x,v=>Value.isStrOf x v
noncomputable def adG (w:World):Key->Int
 | .inl k=>hashInt k
 | .inr x=>hashStr w x
theorem cD:∀{k:Key} {v:Value},lW k v=true->(∃i t,k=Sum.inl i/\v=Value.int i t)\/ (∃x t,k=Sum.inr x/\v=Value.str x t)
 | .inl i,v,h=>by
  obtain⟨t,e⟩:=Value.isInt_shape (k:=i) (v:=v) h
  exact .inl ⟨i,t,rfl,e⟩
 | .inr x,v,h=>by
  obtain⟨t,e⟩:=Value.isStrOf_shape (x:=x) (v:=v) h
  exact .inr ⟨x,t,rfl,e⟩
theorem HG (i:Int) (t:Tok):lW (.inl i) (.int i t)=true:=by simp[lW,Value.isInt]
theorem IM (x:Str) (t:Tok):lW (.inr x) (.str x t)=true:=by simp[lW,Value.isStrOf]
theorem VT (a b:Int):decide ((Sum.inl a:Key)=Sum.inl b)=(a==b):=by
 by_cases e:a=b
 ·subst e;simp
 ·have h:¬(Sum.inl a:Key)=Sum.inl b:=fun q=>e (Sum.inl.inj q)
  rw[decide_eq_false h]
  exact(beq_eq_false_iff_ne.mpr e).symm
theorem ZA (a b:Str):decide ((Sum.inr a:Key)=Sum.inr b)=decide (a=b):=by
 by_cases e:a=b
 ·subst e;simp
 ·have h:¬(Sum.inr a:Key)=Sum.inr b:=fun q=>e (Sum.inr.inj q)
  rw[decide_eq_false h,decide_eq_false e]
theorem YL (a:Int) (b:Str):decide ((Sum.inl a:Key)=Sum.inr b)=false:=decide_eq_false (fun q=>nomatch q)
theorem WY (a:Str) (b:Int):decide ((Sum.inr a:Key)=Sum.inl b)=false:=decide_eq_false (fun q=>nomatch q)
noncomputable def bT (prog:Program) (w:World):PySem.KeyKind prog w Key where
 is:=lW
 hash:=adG w
 inj:=fun v a b ha hb=>by
  rcases cD ha with⟨i,t,rfl,rfl⟩|⟨x,t,rfl,rfl⟩
  ·rcases cD hb with⟨j,u,rfl,e⟩|⟨y,u,rfl,e⟩
   ·injection e with e1 _;rw[e1]
   ·exact nomatch e
  ·rcases cD hb with⟨j,u,rfl,e⟩|⟨y,u,rfl,e⟩
   ·exact nomatch e
   ·injection e with e1 _;rw[e1]
 byValue:=fun k v h=>by
  rcases cD h with⟨i,t,rfl,rfl⟩|⟨x,t,rfl,rfl⟩<;>rfl
 pyHash:=fun hv h=>by
  rcases cD hv with⟨i,t,rfl,rfl⟩|⟨x,t,rfl,rfl⟩
  ·exact wpAny_pyHash_int h
  ·exact wpAny_pyHash_str h
 eqBool:=fun hu hv h=>by
  rcases cD hu with⟨i,t,rfl,rfl⟩|⟨x,t,rfl,rfl⟩
  ·rcases cD hv with⟨j,u,rfl,rfl⟩|⟨y,u,rfl,rfl⟩
   ·rw[VT]at h;exact wpAny_eqBool_int h
   ·rw[YL]at h;exact SeqAt.EqAt.int_str i t y u _ _ _ _ h
  ·rcases cD hv with⟨j,u,rfl,rfl⟩|⟨y,u,rfl,rfl⟩
   ·rw[WY]at h;exact SeqAt.EqAt.str_int x t j u _ _ _ _ h
   ·rw[ZA]at h;exact wpAny_eqBool_str h
 «strs»:=fun k x t v h=>by
  rcases cD h with⟨i,u,rfl,e⟩|⟨y,u,rfl,e⟩
  ·exact nomatch e
  ·injection e with e1 _
   subst e1
   cases v<;>rfl
theorem AK (prog:Program) (w:World) (i:Int) (t:Tok):(bT prog w).is (.inl i) (.int i t)=true:=HG i t
theorem zV (prog:Program) (w:World) (x:Str) (t:Tok):(bT prog w).is (.inr x) (.str x t)=true:=IM x t
inductive V where
 |bA|bl (b:Bool)|int (i:Int)|str (x:Str)|byt (b:Array UInt8)|flt (b:UInt64)|ref (a:Addr)|ty (n:String)
 deriving DecidableEq
noncomputable def RelV:V->Value->Prop
 | .bA,u=>u=Value.none
 | .bl b,u=>u=Value.bool b
 | .int i,u=>∃t,u=Value.int i t
 | .str x,u=>∃t,u=Value.str x t
 | .byt b,u=>∃t,u=Value.bytes b t
 | .flt b,u=>∃t,u=Value.float b t
 | .ref a,u=>u=Value.ref a
 | .ty n,u=>u=Value.type n
noncomputable abbrev Vals:List V->List Value->Prop:=Paired RelV
theorem Vals.length (r:Vals xs us):xs.length=us.length:=Paired.length r
theorem Vals.get:∀{xs:List V} {us:List Value} {i:Nat} {x:V},Vals xs us->xs[i]? =some x->∃u,us[i]? =some u/\RelV x u
 |_,_,_,_,.nil,e=>by simp at e
 |_,_,0,_,.cons r _,e=>by simp at e;subst e;exact⟨_,rfl,r⟩
 |_,_,i+1,x,.cons _ t,e=>by
  obtain⟨u,h1,h2⟩:=Vals.get (i:=i) (x:=x) t (by simpa using e)
  exact⟨u,by simpa using h1,h2⟩
theorem Vals.set {x:V} (r:RelV x u):∀{xs:List V} {us:List Value} (i:Nat),Vals xs us->Vals (xs.set i x) (us.set i u)
 |_,_,_,.nil=>.nil
 |_,_,0,.cons _ t=>.cons r t
 |_,_,i+1,.cons q t=>.cons q (Vals.set r i t)
theorem Vals.append:∀{xs ys:List V} {us ws:List Value},Vals xs us->Vals ys ws->Vals (xs++ys) (us++ws)
 |_,_,_,_,.nil,s=>s
 |_,_,_,_,.cons r t,s=>.cons r (Vals.append t s)
theorem Vals.take:∀{xs:List V} {us:List Value} (n:Nat),Vals xs us->Vals (xs.take n) (us.take n)
 |_,_,0,_=>.nil
 |_,_,_+1,.nil=>.nil
 |_,_,n+1,.cons r t=>.cons r (Vals.take n t)
theorem Vals.drop:∀{xs:List V} {us:List Value} (n:Nat),Vals xs us->Vals (xs.drop n) (us.drop n)
 |_,_,0,r=>r
 |_,_,_+1,.nil=>.nil
 |_,_,n+1,.cons _ t=>Vals.drop n t
noncomputable def rN:Option V->Option Value->Prop
 |some v,some u=>RelV v u
 |none,none=>True
 |_,_=>False
noncomputable def KV:List (κ×V)->List (κ×Value)->Prop:=Paired fun(p:κ×V) (q:κ×Value)=>p.1=q.1/\RelV p.2 q.2
noncomputable def kV:Key->V
 | .inl i=>.int i
 | .inr x=>.str x
inductive HO where
 |lst (xs:List V)
 |tup (xs:List V)
 |dK (kvs:List (Key×V)) (ep:Nat)|dT (kvs:List (List Key×V))
 |set (S:Int->Bool) (n:Nat)
 |ins (C dx:Addr) (fs:List (Str×V))
 |own (x:Addr)
 |xd (fs:List (Str×V))
 |met (f x:Addr)
 |rng (lo hi:Int)
 |OP (o:Obj) (u:HO)
 |V7 (ps:Array Value)
 |ext (φ:Heap->Prop)
noncomputable abbrev Hp:=Addr->Option HO
noncomputable def upd (H:Hp) (a:Addr) (o:HO):Hp:=fun b=>if b=a then some o else H b
theorem aU {o:HO}:upd H a o a=some o:=by unfold upd;rw[if_pos rfl]
theorem aS {o:HO} (h:b≠a):upd H a o b=H b:=by unfold upd;rw[if_neg h]
theorem JY {o u:HO} (h:H a=some o) (h':H b=some u) (d:o≠u):a≠b:=by
 intro e;subst e;rw[h]at h';exact d (Option.some.inj h')
theorem cA {o:HO} (h:H a=some o) (h':H b=none):a≠b:=by
 intro e;subst e;rw[h]at h';cases h'
noncomputable def pG (h:Heap) (a:Addr) (items:Array Value):Prop:=IsTup h a items/\∀o,h.get? a=some o->o.dict=none
theorem pG.new (h:Heap) (items:Array Value):pG (h.push {cls:=.type "tuple",data:=.seq items}) h.objs.size items:=⟨IsTup.new _ _,fun o e=>by rw[get?_push_size _ rfl]at e;cases e;rfl⟩
theorem pG.of {items:Array Value} {sl:Array (Option Value)} (e:h.get? a=some {cls:=.type "tuple",dict:=none,data:=.seq items n,slots:=sl}):pG h a items:=⟨⟨_,e,rfl,_,rfl⟩,fun o q=>by rw[e]at q;cases q;rfl⟩
section
variable (P:Program) (w:World)
noncomputable def dI (H:Hp) (h:Heap) (a:Addr):HO->Prop
 | .lst xs=>xs.length<=sizeLine/\∃(its:List Value) (n:Nat),Vals xs its/\h.get? a=some {cls:=.type "list",data:=.seq its.toArray n}
 | .tup xs=>xs.length<=sizeLine/\∃its:List Value,Vals xs its/\pG h a its.toArray
 | .dK kvs ep=>kvs.length<=sizeLine/\(a==sysModules)=false/\∃vs,KV kvs vs/\h.DictAt (bT P w) a vs ep
 | .dT kvs=>kvs.length<=sizeLine/\(a==sysModules)=false/\∃xs:List (List Key×Addr×Value),
   Paired (fun(p:List Key×V) (q:List Key×Addr×Value)=>p.1=q.1/\H q.2.1=some (.tup (p.1.map kV))/\RelV p.2 q.2.2) kvs xs/\
   ∃o es ep,h.get? a=some o/\o.ExactDict/\o.data= .dict es ep/\es.toList=xs.map (entryOfKey (tupleKind (bT P w)))/\(xs.map (·.1)).Nodup
 | .set S n=>h.SetOf (intKind P w) a S n
 | .ins C dx fs=>H dx=some (.own a)/\fs.length<=1000/\dx≠a/\h.get? a=some (PySem.W.instObj C dx)/\
   ∃mA,h.Ns1 dx mA/\(∀f,rN (fs.lookup f) (mA f))/\PySem.Within mA (fs.map (·.1))
 | .own _=>∃o,h.get? a=some o
 | .xd fs=>∃mA,h.Ns1 a mA/\∀f,rN (fs.lookup f) (mA f)
 | .rng lo hi=>∃t u v,h.get? a=some {cls:=.type "range",data:=.fields #[.int lo t,.int hi u,.int 1 v]}
 | .OP o u=>h.get? a=some o/\dI H h a u
 | .V7 ps=>h.get? a=some {cls:=.none,data:=.fields ps}
 | .met f x=>h.get? a=some (methodObj (.ref f) (.ref x))
 | .ext φ=>φ h/\(∃o,h.get? a=some o)/\∀h1 h2:Heap,φ h1->(∀o,h1.get? a=some o->h2.get? a=some o)->φ h2
noncomputable def m5 (H:Hp) (h:Heap):Prop:=∀a o,H a=some o->dI P w H h a o
end
section
variable {P:Program} {w:World} {H H':Hp} {h h':Heap} {a:Addr} {o:HO}
theorem dI.lt (x:dI P w H h a o):a<h.objs.size:=by
 cases o with
 |lst xs=>obtain⟨_,_,_,_,e⟩:=x;exact lt_size e
 |tup xs=>obtain⟨_,_,_,p⟩:=x;exact p.1.lt
 |dK kvs ep=>obtain⟨_,_,_,_,o,_,e,_⟩:=x;exact lt_size e
 |dT kvs=>obtain⟨_,_,_,_,o,_,_,e,_⟩:=x;exact lt_size e
 |set S n=>obtain⟨o,_,_,_,e,_⟩:=x;exact lt_size e
 |ins C dx fs=>obtain⟨_,_,_,e,_⟩:=x;exact lt_size e
 |own y=>obtain⟨_,e⟩:=x;exact lt_size e
 |xd fs=>obtain⟨_,⟨_,_,_,e,_⟩,_⟩:=x;exact lt_size e
 |rng lo hi=>obtain⟨_,_,_,e⟩:=x;exact lt_size e
 |OP ob u=>obtain⟨e,_⟩:=x;exact lt_size e
 |V7 ps=>exact lt_size (show h.get? a=some _ from x)
 |met f y=>exact lt_size (show h.get? a=some _ from x)
 |ext φ=>obtain⟨_,⟨_,e⟩,_⟩:=x;exact lt_size e
theorem Paired.WD {β:Type} {F G:α->β->Prop}:∀{l₁:List α} {l₂:List β},Paired F l₁ l₂->(∀a b,F a b->G a b)->Paired G l₁ l₂
 |_,_,.nil,_=>.nil
 |_,_,.cons r t,f=>.cons (f _ _ r) (Paired.WD t f)
theorem dI.aH (x:dI P w H h a o) (k:∀b u,(b=a\/ H b=some (.own a))->h.get? b=some u->h'.get? b=some u)
  (ho:∀b,H b=some (.own a)->H' b=some (.own a)) (ht:∀b xs,H b=some (.tup xs)->H' b=some (.tup xs)):dI P w H' h' a o:=by
 induction o with
 |lst xs=>obtain⟨z,its,n,r,e⟩:=x;exact⟨z,its,n,r,k _ _ (.inl rfl) e⟩
 |tup xs=>obtain⟨z,its,r,⟨ob,e,c⟩,nd⟩:=x;exact⟨z,its,r,⟨ob,k _ _ (.inl rfl) e,c⟩,fun o' e'=>by rw[k _ _ (.inl rfl) e]at e';cases e';exact nd _ e⟩
 |dK kvs ep=>obtain⟨z,y,vs,r,ob,es,e,c⟩:=x;exact⟨z,y,vs,r,ob,es,k _ _ (.inl rfl) e,c⟩
 |dT kvs=>
  obtain⟨z,y,xs,r,ob,es,ep,e,c⟩:=x
  exact⟨z,y,xs,Paired.WD r fun p q z=>⟨z.1,ht _ _ z.2.1,z.2.2⟩,ob,es,ep,k _ _ (.inl rfl) e,c⟩
 |set S n=>obtain⟨ob,es,ep,t,e,c⟩:=x;exact⟨ob,es,ep,t,k _ _ (.inl rfl) e,c⟩
 |ins C dx fs=>
  obtain⟨d,z,ne,e,mA,⟨od,es,ep,e2,c⟩,r⟩:=x
  exact⟨ho _ d,z,ne,k _ _ (.inl rfl) e,mA,⟨od,es,ep,k _ _ (.inr d) e2,c⟩,r⟩
 |own y=>obtain⟨ob,e⟩:=x;exact⟨ob,k _ _ (.inl rfl) e⟩
 |xd fs=>obtain⟨mA,⟨od,es,ep,e,c⟩,r⟩:=x;exact⟨mA,⟨od,es,ep,k _ _ (.inl rfl) e,c⟩,r⟩
 |rng lo hi=>obtain⟨t,u,v,e⟩:=x;exact⟨t,u,v,k _ _ (.inl rfl) e⟩
 |OP ob u ih=>obtain⟨e,q⟩:=x;exact⟨k _ _ (.inl rfl) e,ih q⟩
 |V7 ps=>
  have e:h.get? a=some {cls:=.none,data:=.fields ps}:=x
  show h'.get? a=some {cls:=.none,data:=.fields ps}
  exact k a _ (.inl rfl) e
 |met f y=>
  have e:h.get? a=some (methodObj (.ref f) (.ref y)):=x
  show h'.get? a=some (methodObj (.ref f) (.ref y))
  exact k a _ (.inl rfl) e
 |ext φ=>obtain⟨p,⟨o,e⟩,st⟩:=x;exact⟨st _ _ p fun o q=>k _ _ (.inl rfl) q,⟨o,k _ _ (.inl rfl) e⟩,st⟩
theorem m5.lt (x:m5 P w H h) (e:H a=some o):a<h.objs.size:=(x a o e).lt
theorem m5.fresh (x:m5 P w H h) (e:h.objs.size<=a):H a=none:=by
 cases q:H a with
 |none=>rfl
 |some u=>exact absurd (lt_of_lt_of_le (x.lt q) e) (lt_irrefl _)
theorem m5.kept (x:m5 P w H h) (k:∀b u,h.get? b=some u->h'.get? b=some u):m5 P w H h':=fun a o e=>
 (x a o e).aH (fun b u _ q=>k b u q) (fun _ q=>q) fun _ _ q=>q
theorem m5.laid (x:m5 P w H h) (k:∀b u,h.get? b=some u->h'.get? b=some u) (hp:h.objs.size<=a) (new:dI P w (upd H a o) h' a o):m5 P w (upd H a o) h':=fun b u e=>by
 have hn:=x.fresh hp
 by_cases hb:b=a
 ·subst hb;rw[aU]at e;cases e;exact new
 ·rw[aS hb]at e
  exact(x b u e).aH (fun c v _ q=>k c v q) (fun c q=>by rw[aS (cA q hn)];exact q) fun c xs q=>by rw[aS (cA q hn)];exact q
end
noncomputable def Rd (H:Hp) (a:Addr) (u:HO):Prop:=H a=some u\/ ∃o,H a=some (.OP o u)
theorem Rd.ok {a:Addr} {u:HO} (r:Rd H a u) (x:m5 P w H h):dI P w H h a u:=by
 rcases r with r|⟨o,r⟩
 ·exact x a u r
 ·obtain⟨_,q⟩:=x a _ r
  exact q
noncomputable def ZJ:Option HO->Prop
 |some (.lst _)=>True
 |some (.dK _ _)=>True
 |some (.dT _)=>True
 |some (.set _ _)=>True
 |some (.ins _ _ _)=>True
 |some (.ext _)=>True
 |_=>False
section
variable {P:Program} {w:World} {H:Hp} {h h':Heap} {x e:Addr} {o':HO}
theorem m5.write (ok:m5 P w H h) (mu:ZJ (H x)) (he:e=x\/ H e=some (.own x)) (k:∀b u,b≠e->h.get? b=some u->h'.get? b=some u) (heo:∃u,h'.get? e=some u)
  (new:dI P w (upd H x o') h' x o'):m5 P w (upd H x o') h':=fun b u q=>by
 have nown:∀c y,H c=some (.own y)->c≠x:=fun c y r z=>by subst z;rw[r]at mu;exact mu
 have ntup:∀c xs,H c=some (.tup xs)->c≠x:=fun c xs r z=>by subst z;rw[r]at mu;exact mu
 by_cases hb:b=x
 ·subst hb;rw[aU]at q;cases q;exact new
 ·rw[aS hb]at q
  by_cases hbe:b=e
  ·have q':H b=some (.own x):=by
    rcases he with z|z
    ·exact absurd (hbe.trans z) hb
    ·rw[hbe];exact z
   rw[q]at q';cases q'
   obtain⟨v,hv⟩:=heo
   exact⟨v,by rw[hbe];exact hv⟩
  ·refine(ok b u q).aH (fun c v hc r=>k c v ?_ r) (fun c r=>by rw[aS (nown c b r)];exact r) fun c xs r=>by rw[aS (ntup c xs r)];exact r
   rcases hc with rfl|hc
   ·exact hbe
   ·rintro rfl
    rcases he with z|z
    ·exact nown c b hc z
    ·rw[hc]at z;cases z;exact hb rfl
end
structure Un (fs ex:List Addr) (H H':Hp) (h h':Heap):Prop where
 keep:∀b o,h.get? b=some o->H b=none->b∉fs->b∉ex->h'.get? b=some o
 slot:∀b o,h.get? b=some o->H b=none->b∈fs->b∉ex->∃sl,h'.get? b=some {o with slots:=sl}
 free:∀b o,h.get? b=some o->H b=none->b∉ex->H' b=none
 there:∀b o,h.get? b=some o->b∉ex->∃o',h'.get? b=some o'
 vB:∀b xs,H b=some (.tup xs)->H' b=some (.tup xs)
 tD:∀b o u,H b=some (.OP o u)->H' b=some (.OP o u)
 u5:∀b ps,H b=some (.V7 ps)->∃more,H' b=some (.V7 (ps++more))
section
variable {fs fs' ex ex':List Addr} {H H1 H2:Hp} {h h1 h2 h':Heap} {a x e:Addr} {o:HO}
theorem Un.any (u:Un fs ex H H1 h h1) {ob:Obj} (q:h.get? b=some ob) (n:H b=none) (hx:b∉ex):∃sl,h1.get? b=some {ob with slots:=sl}:=by
 by_cases hb:b∈fs
 ·exact u.slot b ob q n hb hx
 ·exact⟨ob.slots,u.keep b ob q n hb hx⟩
theorem Un.kept (k:∀b u,h.get? b=some u->h'.get? b=some u):Un fs ex H H h h':=
 ⟨fun b ob q _ _ _=>k b ob q,fun b ob q _ _ _=>⟨ob.slots,k b ob q⟩,fun _ _ _ n _=>n,fun b ob q _=>⟨ob,k b ob q⟩,fun _ _ q=>q,fun _ _ _ q=>q,fun _ ps q=>⟨#[],by rw[q];simp⟩⟩
theorem Un.refl:Un fs ex H H h h:=Un.kept fun _ _ q=>q
theorem Un.laid (k:∀b u,h.get? b=some u->h'.get? b=some u) (hp:h.objs.size<=a) (hn:H a=none):Un fs ex H (upd H a o) h h' where
 keep:=fun b u q _ _ _=>k b u q
 slot:=fun b u q _ _ _=>⟨u.slots,k b u q⟩
 free:=fun b u q n _=>by rw[aS (ne_of_lt (lt_of_lt_of_le (lt_size q) hp))];exact n
 there:=fun b u q _=>⟨u,k b u q⟩
 vB:=fun b xs q=>by rw[aS (cA q hn)];exact q
 tD:=fun b u xs q=>by rw[aS (cA q hn)];exact q
 u5:=fun b ps q=>⟨#[],by rw[aS (cA q hn),q];simp⟩
theorem Un.write (mu:ZJ (H x)) (he:e=x\/ H e=some (.own x)) (k:∀b u,b≠e->h.get? b=some u->h'.get? b=some u) (heo:∃u,h'.get? e=some u):Un fs ex H (upd H x o) h h':=by
 have hx:∀b,H b=none->b≠x:=fun b n z=>by subst z;rw[n]at mu;exact mu
 have hb:∀b,H b=none->b≠e:=fun b n z=>by
  subst z
  rcases he with r|r
  ·exact hx b n r
  ·rw[n]at r;cases r
 have hm:∀b u,H b=some u->¬ZJ (some u)->b≠x:=fun b u q nm z=>by subst z;rw[q]at mu;exact nm mu
 refine⟨fun b u q n _ _=>k b u (hb b n) q,fun b u q n _ _=>⟨u.slots,k b u (hb b n) q⟩,fun b u q n _=>by rw[aS (hx b n)];exact n,fun b u q _=>?_,
  fun b xs q=>by rw[aS (hm b _ q fun z=>z)];exact q,fun b u xs q=>by rw[aS (hm b _ q fun z=>z)];exact q,fun b ps q=>⟨#[],by rw[aS (hm b _ q fun z=>z),q];simp⟩⟩
 by_cases hbe:b=e
 ·subst hbe;exact heo
 ·exact⟨u,k b u hbe q⟩
end
noncomputable def trk (h:Heap) (H:Hp):List Addr:=(List.range h.objs.size).filter fun a=>(H a).isSome
noncomputable def xN (h:Heap) (H:Hp):Heap:=PySem.W.hideAll h (trk h H)
theorem HM (h:Heap) (H:Hp):(xN h H).objs.size=h.objs.size:=PySem.W.hideAll_size _ _
theorem N6 (e:h.get? b=some o) (n:H b=none):(xN h H).get? b=some o:=
 PySem.W.hideAll_get _ e fun hm=>by
  have q:(H b).isSome=true:=(mem_filter.mp hm).2
  rw[n]at q;simp at q
theorem SU {H:Hp} {b:Addr} (e:(xN h H).get? b=some o):h.get? b=some o/\H b=none:=by
 have e':h.get? b=some o:=PySem.W.of_hideAll (trk h H) e
 refine⟨e',?_⟩
 cases q:H b with
 |none=>rfl
 |some x=>
  have hm:b∈trk h H:=mem_filter.mpr ⟨mem_range.mpr (lt_size e'),by simp[q]⟩
  have z:(xN h H).get? b=none:=PySem.W.hideAll_none (trk h H) hm
  rw[z]at e;cases e
structure Mod (K:Frag) (mg:Str->Option Value) (base:Heap):Prop where
 kin:K.In base
 glob:base.Ns mainGlobals mg
 blt:∃mb,base.Ns builtinsNs mb/\∀x:Str,x≠"__name__"->mb x=bootBuiltins x
 nolimit:base.NoLimit
structure Cx where
 prog:Program
 w:World
 K:Frag
 mg:Str->Option Value
 base:Heap
 A:Around
 N:List Str
 iE:Shared
 JV:Hp
 env:Env
 outer:List Env
 stack:List Env
 ex:List Addr
 fn:Str->Bool
 calm:Bool
 pn:List (Addr×Obj)
 xe:Value->Shared->Prop
noncomputable def HJ (l:List Env):List Addr:=l.filterMap (·.frame)
noncomputable abbrev Cx.fs (X:Cx):List Addr:=HJ X.outer
noncomputable def Vis (sc:Scope) (x:Str):Prop:=sc.names.lookup x=some .local\/ sc.names.lookup x=some .cell\/ sc.names.lookup x=some .free
noncomputable def Loc (sc:Scope) (x:Str):Prop:=sc.names.lookup x=some .local\/ sc.names.lookup x=some .cell
noncomputable def Look (env:Env) (h:Heap) (m:Str->Option Value) (x:Str) (u:Value):Prop:=
 (env.kindOf x=some .local/\m x=some u)\/ ((env.kindOf x=some .cell\/ env.kindOf x=some .free)/\∃c,env.cells.lookup x=some c/\h.IsCell c (some u))
structure Cx.Ok (X:Cx):Prop where
 mod:Mod X.K X.mg X.base
 kind:X.env.scope.kind= .function
 glob:X.env.globals=mainGlobals
 blt:X.env.builtins=builtinsNs
 above:X.iE.heap.objs.size<=X.env.locals
 inj:∀x y c,X.env.cells.lookup x=some c->X.env.cells.lookup y=some c->x=y
 has:∀x,(X.env.kindOf x=some .cell\/ X.env.kindOf x=some .free)->∃c,X.env.cells.lookup x=some c
 ZL:∀x c,X.fn x=true->X.env.cells.lookup x=some c->X.iE.heap.objs.size<=c
 hd:X.calm=true->X.A.handled=none
 frames:X.A.frames=some X.stack
 stk:X.stack=X.outer\/ (X.stack=X.env::X.outer/\X.env.frame=some X.env.locals)
 exf:∀b∈X.ex,b≠X.env.locals/\∀x c,X.env.cells.lookup x=some c->c≠b
 bs:∀b o,X.base.get? b=some o->X.iE.heap.get? b=some o/\X.JV b=none
 SG:X.base.objs.size<=X.iE.heap.objs.size
 G4:∀b o,X.base.get? b=some o->b∉X.ex
 z6:∀b∈X.ex,b∉X.fs
 rH:X.iE.heap.FunFrames X.base X.outer
 UW:∀b∈X.fs,X.JV b=none
structure Inv (X:Cx) (pins:List (Addr×Obj)) (σ:List (Option V)) (H:Hp) (s:Shared):Prop where
 ok:X.Ok
 os:s.os=X.iE.os
 bare:AllBare s.gens
 base:Un X.fs X.ex X.JV H X.iE.heap s.heap
 loc:∃m,s.heap.Ns X.env.locals m/\∀(i:Nat) (x:Str) (v:V),X.N[i]? =some x->σ[i]? =some (some v)->Vis X.env.scope x->∃u,RelV v u/\Look X.env s.heap m x u
 cell:∀x c,X.env.cells.lookup x=some c->∃v,s.heap.IsCell c v
 free:H X.env.locals=none
 l7:∀x c,X.env.cells.lookup x=some c->H c=none
 pin:∀p∈X.pn++pins,s.heap.get? p.1=some p.2/\H p.1=none/\p.1≠X.env.locals/\p.1∉X.fs/\∀v,p.2.data≠ .cell v
 bP:m5 X.prog X.w H s.heap
 len:σ.length=X.N.length
section
variable {X:Cx} {pins:List (Addr×Obj)} {σ:List (Option V)} {H H':Hp} {s:Shared} {h':Heap}
theorem Cx.Ok.adP (ok:X.Ok) (e:X.base.get? b=some o):b∉X.fs:=fun hb=>by
 have:=(ok.rH.mem hb).1
 rw[e]at this;cases this
theorem Inv.bs (I:Inv X pins σ H s):∀b o,X.base.get? b=some o->s.heap.get? b=some o/\H b=none:=fun b o e=>
 ⟨I.base.keep b o (I.ok.bs b o e).1 (I.ok.bs b o e).2 (I.ok.adP e) (I.ok.G4 b o e),I.base.free b o (I.ok.bs b o e).1 (I.ok.bs b o e).2 (I.ok.G4 b o e)⟩
theorem Inv.bk (I:Inv X pins σ H s):∀b o,X.base.get? b=some o->s.heap.get? b=some o:=fun b o e=>(I.bs b o e).1
theorem Inv.mod (I:Inv X pins σ H s):Mod X.K X.mg X.base:=I.ok.mod
theorem Inv.G1 (I:Inv X pins σ H s):X.K.In s.heap:=I.ok.mod.kin.keeps I.bk
theorem Inv.lt (I:Inv X pins σ H s):X.env.locals<s.heap.objs.size:=let⟨_,hn,_⟩:=I.loc;hn.lt
theorem Inv.sz (I:Inv X pins σ H s):X.iE.heap.objs.size<=s.heap.objs.size:=le_trans I.ok.above (le_of_lt I.lt)
theorem Inv.abK (I:Inv X pins σ H s) (h:s.heap.objs.size<=a):a∉X.fs:=fun hb=>by
 obtain⟨_,o,ho,_⟩:=I.ok.rH.mem hb
 exact absurd (lt_of_lt_of_le (lt_size ho) (le_trans I.sz h)) (lt_irrefl _)
theorem Inv.XR (I:Inv X pins σ H s):∀x c,X.env.cells.lookup x=some c->c≠X.env.locals:=fun x c e z=>by
 obtain⟨v,o,ho,hd⟩:=I.cell x c e
 obtain⟨m,⟨o',es,ep,ho',hd',_⟩,_⟩:=I.loc
 rw[z,ho']at ho;cases ho;rw[hd']at hd;cases hd
theorem Inv.rH (I:Inv X pins σ H s):s.heap.FunFrames X.base X.outer:=by
 have all:∀(l:List Env),(∀b∈HJ l,b∈X.fs)->X.iE.heap.FunFrames X.base l->s.heap.FunFrames X.base l:=by
  intro l
  induction l with
  |nil=>intro _ _;trivial
  |cons env r ih=>
   intro hs hl
   obtain⟨hk,⟨L,o,hf,hn,ho,hd⟩,hr⟩:=hl
   have hL:L∈X.fs:=hs L (by unfold HJ;rw[filterMap_cons,hf];exact mem_cons_self)
   obtain⟨sl,e⟩:=I.base.slot L o ho (I.ok.UW L hL) hL fun z=>I.ok.z6 L z hL
   exact⟨hk,⟨L,_,hf,hn,e,hd⟩,ih (fun b hb=>hs b (by unfold HJ;rw[filterMap_cons,hf];exact mem_cons_of_mem _ hb)) hr⟩
 exact all X.outer (fun _ hb=>hb) I.ok.rH
theorem Inv.stack (I:Inv X pins σ H s):s.heap.FunFrames X.base X.stack:=by
 rcases I.ok.stk with e|⟨e,hf⟩
 ·rw[e];exact I.rH
 ·rw[e]
  obtain⟨m,hn,_⟩:=I.loc
  refine .cons (by rw[I.ok.kind];decide) hf hn ?_ I.rH
  exact Heap.get?_none_of_le (le_trans I.ok.SG I.ok.above)
theorem Inv.EF (I:Inv X pins σ H s):∀b∈HJ X.stack,b∈X.env.locals::X.fs:=fun b hb=>by
 rcases I.ok.stk with e|⟨e,hf⟩
 ·rw[e]at hb;exact mem_cons_of_mem _ hb
 ·rw[e]at hb
  unfold HJ at hb
  rw[filterMap_cons,hf]at hb
  exact hb
theorem Inv.EK (I:Inv X pins σ H s):∀b∈HJ X.stack,H b=none:=fun b hb=>by
 rcases mem_cons.mp (I.EF b hb)with e|hb
 ·rw[e];exact I.free
 ·obtain⟨_,o,ho,_⟩:=I.ok.rH.mem hb
  exact I.base.free b o ho (I.ok.UW b hb) fun z=>I.ok.z6 b z hb
theorem Inv.step (I:Inv X pins σ H s)
  (hch:∀b∈ch,(b∈X.ex\/ X.iE.heap.objs.size<=b)/\b≠X.env.locals/\(∀x c,X.env.cells.lookup x=some c->c≠b)/\∀p∈X.pn++pins,p.1≠b)
  (keep:∀b o,b≠X.env.locals->b∉X.fs->b∉ch->s.heap.get? b=some o->H b=none->h'.get? b=some o)
  (slot:∀b o,b≠X.env.locals->b∈X.fs->b∉ch->s.heap.get? b=some o->H b=none->∃sl,h'.get? b=some {o with slots:=sl}) (free:∀b o,b∉ch->s.heap.get? b=some o->H b=none->H' b=none)
  (there:∀b o,b∉ch->s.heap.get? b=some o->∃o',h'.get? b=some o')
  (vB:∀b xs,H b=some (.tup xs)->H' b=some (.tup xs)) (tD:∀b o u,H b=some (.OP o u)->H' b=some (.OP o u)) (u5:∀b ps,H b=some (.V7 ps)->∃more,H' b=some (.V7 (ps++more)))
  (ns:∀m,s.heap.Ns X.env.locals m->h'.Ns X.env.locals m) (bP:m5 X.prog X.w H' h') (hg:AllBare g'):
  Inv X pins σ H' {s with heap:=h',gens:=g',drawn:=d',toks:=t'}:=by
 have neL:∀b o,X.iE.heap.get? b=some o->b≠X.env.locals:=fun b o e=>ne_of_lt (lt_of_lt_of_le (lt_size e) I.ok.above)
 have neC:∀b o,X.iE.heap.get? b=some o->b∉X.ex->b∉ch:=fun b o e hx hb=>by
  rcases(hch b hb).1 with z|z
  ·exact hx z
  ·exact absurd (lt_of_lt_of_le (lt_size e) z) (lt_irrefl _)
 have cellK:∀x c,X.env.cells.lookup x=some c->∀v,s.heap.IsCell c v->h'.IsCell c v:=fun x c e v ⟨o,ho,hd⟩=>by
  have nch:c∉ch:=fun z=>(hch c z).2.2.1 x c e rfl
  by_cases hc:c∈X.fs
  ·obtain⟨sl,q⟩:=slot c o (I.XR x c e) hc nch ho (I.l7 x c e)
   exact⟨_,q,hd⟩
  ·exact⟨o,keep c o (I.XR x c e) hc nch ho (I.l7 x c e),hd⟩
 refine⟨I.ok,I.os,hg,⟨fun b o e n hb hx=>?_,fun b o e n hb hx=>?_,fun b o e n hx=>?_,fun b o e hx=>?_,fun b xs e=>vB b xs (I.base.vB b xs e),fun b o xs e=>tD b o xs (I.base.tD b o xs e),fun b ps e=>?_⟩,?_,fun x c e=>?_,?_,fun x c e=>?_,fun p hp=>?_,bP,I.len⟩
 ·exact keep b o (neL b o e) hb (neC b o e hx) (I.base.keep b o e n hb hx) (I.base.free b o e n hx)
 ·obtain⟨sl,e1⟩:=I.base.slot b o e n hb hx
  obtain⟨sl',e2⟩:=slot b _ (neL b o e) hb (neC b o e hx) e1 (I.base.free b o e n hx)
  exact⟨sl',e2⟩
 ·obtain⟨o',e1⟩:=I.base.there b o e hx
  exact free b o' (neC b o e hx) e1 (I.base.free b o e n hx)
 ·obtain⟨o',e1⟩:=I.base.there b o e hx
  exact there b o' (neC b o e hx) e1
 ·obtain⟨m1,e1⟩:=I.base.u5 b ps e
  obtain⟨m2,e2⟩:=u5 b _ e1
  exact⟨m1++m2,by rw[e2,Array.append_assoc]⟩
 ·obtain⟨m,hn,hl⟩:=I.loc
  refine⟨m,ns m hn,fun i x v e1 e2 e3=>?_⟩
  obtain⟨u,r,l⟩:=hl i x v e1 e2 e3
  refine⟨u,r,?_⟩
  rcases l with l|⟨k,c,e,z⟩
  ·exact .inl l
  ·exact .inr ⟨k,c,e,cellK x c e _ z⟩
 ·obtain⟨v,z⟩:=I.cell x c e
  exact⟨v,cellK x c e v z⟩
 ·obtain⟨m,⟨o,_,_,ho,_⟩,_⟩:=I.loc
  exact free _ o (fun z=>(hch _ z).2.1 rfl) ho I.free
 ·obtain⟨v,o,ho,hd⟩:=I.cell x c e
  exact free c o (fun z=>(hch c z).2.2.1 x c e rfl) ho (I.l7 x c e)
 ·obtain⟨e,n,ne,nf,d⟩:=I.pin p hp
  have nch:p.1∉ch:=fun z=>(hch p.1 z).2.2.2 p hp rfl
  exact⟨keep p.1 p.2 ne nf nch e n,free p.1 p.2 nch e n,ne,nf,d⟩
theorem Inv.un (I:Inv X pins σ H s) (u:Un X.fs [] H H' s.heap h') (bP:m5 X.prog X.w H' h'):Inv X pins σ H' {s with heap:=h',toks:=t'}:=by
 obtain⟨m,⟨o,es,ep,ho,r⟩,_⟩:=id I.loc
 obtain⟨sl,hL⟩:=u.any ho I.free (by simp)
 exact I.step (g':=s.gens) (d':=s.drawn) (ch:=[]) (fun _ z=>nomatch z) (fun b o _ hb _ e n=>u.keep b o e n hb (by simp)) (fun b o _ hb _ e n=>u.slot b o e n hb (by simp)) (fun b o _ e n=>u.free b o e n (by simp)) (fun b o _ e=>u.there b o e (by simp)) u.vB u.tD u.u5 (fun m' hm=>by
  obtain⟨o',es',ep',ho',r'⟩:=hm
  rw[ho]at ho';cases ho'
  exact⟨_,es',ep',hL,r'⟩) bP I.bare
theorem Inv.call (I:Inv X pins σ H s) (u:Un (HJ X.stack) ch H H' s.heap h') (bP:m5 X.prog X.w H' h') (hg:AllBare g')
  (hch:∀b∈ch,(b∈X.ex\/ X.iE.heap.objs.size<=b)/\b≠X.env.locals/\(∀x c,X.env.cells.lookup x=some c->c≠b)/\∀p∈X.pn++pins,p.1≠b):
  Inv X pins σ H' {s with heap:=h',gens:=g',drawn:=d',toks:=t'}:=by
 obtain⟨m,⟨o,es,ep,ho,r⟩,_⟩:=id I.loc
 obtain⟨sl,hL⟩:=u.any ho I.free fun z=>(hch _ z).2.1 rfl
 exact I.step (ch:=ch) hch (fun b o hL hb hc e n=>u.keep b o e n (fun z=>(mem_cons.mp (I.EF b z)).elim hL hb) hc) (fun b o _ _ hc e n=>u.any e n hc) (fun b o hc e n=>u.free b o e n hc) (fun b o hc e=>u.there b o e hc) u.vB u.tD u.u5 (fun m' hm=>by
  obtain⟨o',es',ep',ho',r'⟩:=hm
  rw[ho]at ho';cases ho'
  exact⟨_,es',ep',hL,r'⟩) bP hg
theorem Inv.turned (I:Inv X pins σ H s) (k:∀b o,b≠it->s.heap.get? b=some o->h'.get? b=some o) (hn:H it=none) (hL:it≠X.env.locals)
  (h1:it∈X.ex\/ X.iE.heap.objs.size<=it) (h2:∀x c,X.env.cells.lookup x=some c->c≠it) (h3:∀p∈X.pn++pins,p.1≠it):Inv X pins σ H {s with heap:=h',toks:=t'}:=by
 have nit:∀b u,H b=some u->b≠it:=fun b u e z=>by rw[z,hn]at e;cases e
 refine I.step (g':=s.gens) (d':=s.drawn) (ch:=[it]) (fun b hb=>?_) (fun b o _ _ hc e _=>k b o (fun z=>hc (by simp[z])) e) (fun b o _ _ hc e _=>⟨o.slots,k b o (fun z=>hc (by simp[z])) e⟩) (fun _ _ _ _ n=>n)
  (fun b o hc e=>⟨o,k b o (fun z=>hc (by simp[z])) e⟩) (fun _ _ e=>e) (fun _ _ _ e=>e) (fun b ps e=>⟨#[],by rw[e];simp⟩) (fun m hm=>?_) (fun b u e=>?_) I.bare
 ·have e:b=it:=by simpa using hb
  subst e
  exact⟨h1,hL,h2,h3⟩
 ·obtain⟨o,es,ep,ho,r⟩:=hm
  exact⟨o,es,ep,k _ o (Ne.symm hL) ho,r⟩
 ·refine(I.bP b u e).aH (fun c v hc q=>k c v ?_ q) (fun _ q=>q) fun _ _ q=>q
  rcases hc with z|z
  ·rw[z];exact nit b u e
  ·exact nit c _ z
theorem Inv.tok (I:Inv X pins σ H s) (t:Nat):Inv X pins σ H {s with toks:=t}:=I.un (h':=s.heap) (t':=t) Un.refl I.bP
theorem Inv.kept (I:Inv X pins σ H s) (k:∀b u,s.heap.get? b=some u->h'.get? b=some u):Inv X pins σ H {s with heap:=h',toks:=t'}:=I.un (Un.kept k) (I.bP.kept k)
theorem Inv.laid {o:HO} (I:Inv X pins σ H s) (k:∀b u,s.heap.get? b=some u->h'.get? b=some u) (hp:s.heap.objs.size<=a) (new:dI X.prog X.w (upd H a o) h' a o):
  Inv X pins σ (upd H a o) {s with heap:=h',toks:=t'}:=I.un (Un.laid k hp (I.bP.fresh hp)) (I.bP.laid k hp new)
theorem Inv.write {x e:Addr} {o:HO} (I:Inv X pins σ H s) (mu:ZJ (H x)) (he:e=x\/ H e=some (.own x)) (k:∀b u,b≠e->s.heap.get? b=some u->h'.get? b=some u) (heo:∃u,h'.get? e=some u)
  (new:dI X.prog X.w (upd H x o) h' x o):Inv X pins σ (upd H x o) {s with heap:=h',toks:=t'}:=I.un (Un.write mu he k heo) (I.bP.write mu he k heo new)
theorem Inv.sL {pins':List (Addr×Obj)} (I:Inv X pins σ H s) (h:∀p∈pins',s.heap.get? p.1=some p.2/\H p.1=none/\p.1≠X.env.locals/\p.1∉X.fs/\∀v,p.2.data≠ .cell v):Inv X pins' σ H s:=
 ⟨I.ok,I.os,I.bare,I.base,I.loc,I.cell,I.free,I.l7,fun p hp=>(mem_append.mp hp).elim (fun z=>I.pin p (mem_append_left _ z)) (h p),I.bP,I.len⟩
theorem B0 (hN:N.Nodup) (a:N[i]? =some x) (b:N[j]? =some x):i=j:=by
 obtain⟨h1,e1⟩:=List.getElem?_eq_some_iff.mp a
 obtain⟨h2,e2⟩:=List.getElem?_eq_some_iff.mp b
 exact(List.getElem_inj hN).mp (e1.trans e2.symm)
theorem HI {x:Str} {v:V} {Q:Unit->Shared->Prop} (I:Inv X pins σ H s) (hN:X.N.Nodup) (hi:X.N[i]? =some x) (hx:Loc X.env.scope x) (r:RelV v u)
  (h:∀s',Inv X pins (σ.set i (some v)) H s'->(∃a,Heap.SameBut a s.heap s'.heap/\(a=X.env.locals\/ X.env.cells.lookup x=some a))->Q () s') (hf:X.fn x=true\/ X.env.scope.names.lookup x=some .local:=by first|exact .inl rfl|exact .inr rfl|assumption):wpAny M A (storeName X.env x u) Q E s:=by
 obtain⟨m,hn,hl⟩:=id I.loc
 have hcls:(X.env.scope.kind== .class||(X.env.scope.kind== .module && X.env.locals !=X.env.globals))=false:=by rw[I.ok.kind];rfl
 have hiσ:i<σ.length:=by rw[I.len];exact(List.getElem?_eq_some_iff.mp hi).1
 have XR:=I.XR
 have tracked:∀{a:Addr} {h':Heap},(∃o,s.heap.get? a=some o/\H a=none)->Heap.SameBut a s.heap h'->m5 X.prog X.w H h':=fun{a h'} ha hs b ob e=>by
  obtain⟨_,_,hfree⟩:=ha
  refine(I.bP b ob e).aH (fun c w' hc q=>(hs.2 c ?_).trans q) (fun _ q=>q) fun _ _ q=>q
  rintro rfl
  rcases hc with rfl|hc
  ·rw[hfree]at e;cases e
  ·rw[hfree]at hc;cases hc
 rcases hx with hk|hk
 ·refine wpAny_storeName_local hk hn (fun h' hn' hs=>?_) hcls
  obtain⟨oL,_,_,hoL,_⟩:=id hn
  refine h _ ⟨I.ok,I.os,I.bare,⟨fun b o e n hb hx=>?_,fun b o e n hb hx=>?_,I.base.free,fun b o e hx=>?_,I.base.vB,I.base.tD,I.base.u5⟩,⟨_,hn',fun j y v' e1 e2 e3=>?_⟩,fun y c e=>?_,I.free,I.l7,fun p hp=>?_,tracked ⟨oL,hoL,I.free⟩ hs,by simpa using I.len⟩ ⟨_,hs,.inl rfl⟩
  ·exact(hs.2 b (ne_of_lt (lt_of_lt_of_le (lt_size e) I.ok.above))).trans (I.base.keep b o e n hb hx)
  ·obtain⟨sl,e1⟩:=I.base.slot b o e n hb hx
   exact⟨sl,(hs.2 b (ne_of_lt (lt_of_lt_of_le (lt_size e) I.ok.above))).trans e1⟩
  ·obtain⟨o',e1⟩:=I.base.there b o e hx
   exact⟨o',(hs.2 b (ne_of_lt (lt_of_lt_of_le (lt_size e) I.ok.above))).trans e1⟩
  ·by_cases hj:j=i
   ·subst hj
    rw[hi]at e1;cases e1
    rw[getElem?_set_self hiσ]at e2
    cases e2
    exact⟨u,r,.inl ⟨hk,by simp⟩⟩
   ·rw[getElem?_set_ne (Ne.symm hj)]at e2
    obtain⟨u',r',q⟩:=hl j y v' e1 e2 e3
    refine⟨u',r',?_⟩
    rcases q with⟨k,e⟩|⟨k,c,e,z⟩
    ·refine .inl ⟨k,?_⟩
     have:y≠x:=fun e=>hj (B0 hN e1 (e▸hi))
     simp[this,e]
    ·exact .inr ⟨k,c,e,z.sameBut hs (XR y c e)⟩
  ·obtain⟨w',z⟩:=I.cell y c e
   exact⟨w',z.sameBut hs (XR y c e)⟩
  ·obtain⟨e,n,ne,nf,d⟩:=I.pin p hp
   exact⟨(hs.2 p.1 ne).trans e,n,ne,nf,d⟩
 ·have hfn:X.fn x=true:=by
   rcases hf with z|z
   ·exact z
   ·rw[z]at hk;cases hk
  obtain⟨c,hc⟩:=I.ok.has x (.inl hk)
  obtain⟨w',z⟩:=I.cell x c hc
  refine wpAny_storeName_cell I.ok.kind hk hc z (fun h' hc' hs=>?_)
  obtain⟨oc,hoc,hocd⟩:=id z
  refine h {s with heap:=h'} ⟨I.ok,I.os,I.bare,⟨fun b o e n hb hx=>?_,fun b o e n hb hx=>?_,I.base.free,fun b o e hx=>?_,I.base.vB,I.base.tD,I.base.u5⟩,⟨m,hn.sameBut hs (Ne.symm (XR x c hc)),fun j y v' e1 e2 e3=>?_⟩,fun y c' e=>?_,I.free,I.l7,fun p hp=>?_,tracked ⟨oc,hoc,I.l7 x c hc⟩ hs,by simpa using I.len⟩ ⟨c,hs,.inr hc⟩
  ·exact(hs.2 b (ne_of_lt (lt_of_lt_of_le (lt_size e) (I.ok.ZL x c hfn hc)))).trans (I.base.keep b o e n hb hx)
  ·obtain⟨sl,e1⟩:=I.base.slot b o e n hb hx
   exact⟨sl,(hs.2 b (ne_of_lt (lt_of_lt_of_le (lt_size e) (I.ok.ZL x c hfn hc)))).trans e1⟩
  ·obtain⟨o',e1⟩:=I.base.there b o e hx
   exact⟨o',(hs.2 b (ne_of_lt (lt_of_lt_of_le (lt_size e) (I.ok.ZL x c hfn hc)))).trans e1⟩
  ·by_cases hj:j=i
   ·subst hj
    rw[hi]at e1;cases e1
    rw[getElem?_set_self hiσ]at e2
    cases e2
    exact⟨u,r,.inr ⟨.inl hk,c,hc,hc'⟩⟩
   ·rw[getElem?_set_ne (Ne.symm hj)]at e2
    obtain⟨u',r',q⟩:=hl j y v' e1 e2 e3
    refine⟨u',r',?_⟩
    rcases q with q|⟨k,c',e,z'⟩
    ·exact .inl q
    ·refine .inr ⟨k,c',e,z'.sameBut hs ?_⟩
     rintro rfl
     exact hj (B0 hN e1 (I.ok.inj _ _ _ e hc▸hi))
  ·by_cases hcc:c'=c
   ·subst hcc;exact⟨_,hc'⟩
   ·obtain⟨w2,z2⟩:=I.cell y c' e
    exact⟨w2,z2.sameBut hs hcc⟩
  ·obtain⟨e,n,ne,nf,d⟩:=I.pin p hp
   refine⟨(hs.2 p.1 ?_).trans e,n,ne,nf,d⟩
   intro q
   rw[q,hoc]at e
   have q':oc=p.2:=Option.some.inj e
   exact d w' (by rw[<-q'];exact hocd)
theorem lR {v:V} {Q:Unit->Shared->Prop} (I:Inv X pins σ H s) (hN:X.N.Nodup) (hi:X.N[i]? =some x) (hx:Loc X.env.scope x) (r:RelV v u)
  (h:∀s',Inv X pins (σ.set i (some v)) H s'->Q () s') (hf:X.fn x=true\/ X.env.scope.names.lookup x=some .local:=by first|exact .inl rfl|exact .inr rfl|assumption):wpAny M A (storeName X.env x u) Q E s:=
 HI I hN hi hx r (fun s' I' _=>h s' I') hf
theorem Inv.MK {s':Shared} (I:Inv X pins σ H s) (ho:s'.os=s.os) (u:Un (HJ X.stack) ch H H' s.heap s'.heap) (bP:m5 X.prog X.w H' s'.heap) (hg:AllBare s'.gens)
  (hch:∀b∈ch,(b∈X.ex\/ X.iE.heap.objs.size<=b)/\b≠X.env.locals/\(∀x c,X.env.cells.lookup x=some c->c≠b)/\∀p∈X.pn++pins,p.1≠b):Inv X pins σ H' s':=by
 obtain⟨h',g',d',t',o'⟩:=s'
 have e:o'=s.os:=ho
 subst e
 exact I.call (g':=g') (t':=t') (d':=d') u bP hg hch
end
noncomputable abbrev XK:=Value->Option Addr->Hp->Prop
noncomputable abbrev St:=List (Option V)
noncomputable abbrev VK:=V->Hp->Prop
noncomputable abbrev TE:=St->Hp->VK->Prop
noncomputable abbrev TT:=St->Hp->(Bool->Hp->Prop)->Prop
noncomputable abbrev TA:=St->Hp->(List V->Hp->Prop)->Prop
structure Ends where
 nx:St->Hp->Prop
 rt:VK
 bk:St->Hp->Prop:=fun _ _=>False
 ct:St->Hp->Prop:=fun _ _=>False
noncomputable abbrev TS:=Ends->St->Hp->Prop
noncomputable def EP (X:Cx) (pins:List (Addr×Obj)) (σ:St) (Q:VK) (u:Value) (s':Shared):Prop:=∃v H',Inv X pins σ H' s'/\RelV v u/\Q v H'
noncomputable def TP (X:Cx) (pins:List (Addr×Obj)) (σ:St) (Q:Bool->Hp->Prop) (b:Bool) (s':Shared):Prop:=∃H',Inv X pins σ H' s'/\Q b H'
noncomputable def AP (X:Cx) (pins:List (Addr×Obj)) (σ:St) (Q:List V->Hp->Prop) (us:List Value) (s':Shared):Prop:=∃vs H',Inv X pins σ H' s'/\Vals vs us/\Q vs H'
noncomputable def SP (X:Cx) (pins:List (Addr×Obj)) (D:Ends) (f:Flow) (s':Shared):Prop:=
 match f with
 | .next=>∃σ' H',Inv X pins σ' H' s'/\D.nx σ' H'
 | .brk=>∃σ' H',Inv X pins σ' H' s'/\D.bk σ' H'
 | .cont=>∃σ' H',Inv X pins σ' H' s'/\D.ct σ' H'
 | .ret u=>∃v σ' H',Inv X pins σ' H' s'/\RelV v u/\D.rt v H'
noncomputable def PE (X:Cx) (e:Expr) (t:TE):Prop:=
 ∀(pins:List (Addr×Obj)) (s:Shared) (σ:St) (H:Hp) (Q:VK),Inv X pins σ H s->t σ H Q->wpAny (model X.prog X.w) X.A (eval e X.env) (EP X pins σ Q) X.xe s
noncomputable def PT (X:Cx) (e:Expr) (t:TT):Prop:=
 ∀(pins:List (Addr×Obj)) (s:Shared) (σ:St) (H:Hp) (Q:Bool->Hp->Prop),Inv X pins σ H s->t σ H Q->wpAny (model X.prog X.w) X.A (isTrue e X.env (eval e X.env)) (TP X pins σ Q) X.xe s
noncomputable def PW (X:Cx) (e:Expr) (t:TT):Prop:=
 ∀(whole:Sem Value) (pins:List (Addr×Obj)) (s:Shared) (σ:St) (H:Hp) (Q:Bool->Hp->Prop),Inv X pins σ H s->t σ H Q->wpAny (model X.prog X.w) X.A (isTrue e X.env whole) (TP X pins σ Q) X.xe s
theorem PW.pt {t:TT} (h:PW X e t):PT X e t:=h _
noncomputable def PA (X:Cx) (es:List Expr) (t:TA):Prop:=
 ∀(pos:Pos) (pins:List (Addr×Obj)) (s:Shared) (σ:St) (H:Hp) (Q:List V->Hp->Prop),Inv X pins σ H s->t σ H Q->wpAny (model X.prog X.w) X.A (spliced (backTo pos (starEach es X.env))) (AP X pins σ Q) X.xe s
noncomputable def PS (X:Cx) (st:Stmt) (t:TS):Prop:=
 ∀(pins:List (Addr×Obj)) (s:Shared) (σ:St) (H:Hp) (D:Ends),Inv X pins σ H s->t D σ H->wpAny (model X.prog X.w) X.A (exec st X.env) (SP X pins D) X.xe s
noncomputable def GA (X:Cx) (st:List Stmt) (t:TS):Prop:=
 ∀(pins:List (Addr×Obj)) (s:Shared) (σ:St) (H:Hp) (D:Ends),Inv X pins σ H s->t D σ H->wpAny (model X.prog X.w) X.A (execs st X.env) (SP X pins D) X.xe s
theorem cP {t:Sem α} {Q Q':α->Shared->Prop} (h:wpAny M A t Q E s) (hQ:∀a s,Q a s->Q' a s):wpAny M A t Q' E s:=wpAny_mono h hQ fun _ _ x=>x
section
variable {X:Cx}
noncomputable def yL (i:Nat):TE:=fun σ H Q=>∃v,σ[i]? =some (some v)/\Q v H
noncomputable def tC (v:V):TE:=fun _ H Q=>Q v H
theorem U6 {i:Nat} {x:Str} (hN:X.N[i]? =some x) (hv:Vis X.env.scope x) (hd:(x==("__debug__":Str))=false:=by decide) (hcd:(x==("__classdict__":Str))=false:=by decide):PE X (.Name x pos) (yL i):=by
 intro pins s σ H Q I h
 obtain⟨v,e,h⟩:=h
 obtain⟨m,hn,hl⟩:=I.loc
 obtain⟨u,r,l⟩:=hl i x v hN e hv
 have fin:EP X pins σ Q u s:=⟨v,H,I,r,h⟩
 rcases l with⟨hk,hm⟩|⟨hk,c,hc,hcell⟩
 ·exact wpAny_Name (wpAny_loadName_local I.ok.kind hk hn hm fin) hd
 ·rcases hk with hk|hk
  ·exact wpAny_Name (wpAny_loadName_cell I.ok.kind hk hc hcell fin) hd
  ·exact wpAny_Name (wpAny_loadName_free I.ok.kind hk hc hcell fin hcd) hd
theorem aG {i j pos}:PE X (.Constant (.int i) j pos) (tC (.int i)):=fun _ _ _ H _ I h=>wpAny_Constant_int ⟨.int i,H,I.tok _,⟨_,rfl⟩,h⟩
theorem lI {b j pos}:PE X (.Constant (.bool b) j pos) (tC (.bl b)):=fun _ _ _ H _ I h=>Constant_bool ⟨.bl b,H,I,rfl,h⟩
theorem fK {j pos}:PE X (.Constant .none j pos) (tC .bA):=fun _ _ _ H _ I h=>Constant_none ⟨.bA,H,I,rfl,h⟩
theorem dE {x j pos}:PE X (.Constant (.str x) j pos) (tC (.str x)):=fun _ _ _ H _ I h=>Calls.Constant_str ⟨.str x,H,I.tok _,⟨_,rfl⟩,h⟩
noncomputable def Gl (X:Cx) (x:Str):Prop:=X.env.kindOf x=some .globalImplicit
theorem SK (I:Inv X pins σ H s) (hg:Gl X x) (hm:X.mg x=some u) (h:Q u s)
  (hd:(x==("__debug__":Str))=false:=by decide):wpAny (model X.prog X.w) X.A (eval (.Name x pos) X.env) Q E s:=
 Calls.Name_function_global I.ok.kind hg (Calls.loadGlobal_global (by rw[I.ok.glob];exact I.mod.glob.keeps I.bk) hm h) hd
theorem qE (I:Inv X pins σ H s) (hg:Gl X x) (hm:X.mg x=none) (hv:bootBuiltins x=some u) (h:Q u s)
  (hn:x≠"__name__":=by decide) (hd:(x==("__debug__":Str))=false:=by decide):wpAny (model X.prog X.w) X.A (eval (.Name x pos) X.env) Q E s:=by
 obtain⟨mb,h1,h2⟩:=I.mod.blt
 exact Calls.Name_function_global I.ok.kind hg (Calls.loadGlobal_builtin (by rw[I.ok.glob];exact I.mod.glob.keeps I.bk) hm (by rw[I.ok.blt];exact h1.keeps I.bk) ((h2 x hn).trans hv) h) hd
theorem zA {v:V} (hg:Gl X x) (hm:X.mg x=none) (hv:bootBuiltins x=some u) (r:RelV v u) (hn:x≠"__name__":=by decide) (hd:(x==("__debug__":Str))=false:=by decide):PE X (.Name x pos) (tC v):=
 fun _ _ _ H _ I h=>qE I hg hm hv ⟨v,H,I,r,h⟩ hn hd
variable {a b:Expr} {ta tb:TE} {pos:Pos}
noncomputable def tB (t:TE):TT:=fun σ H Q=>t σ H fun x H1=>∃c,x= .bl c/\Q c H1
theorem zF (h:PE X e t) (he:∀whole,isTrue e X.env whole=(do let v<-whole;standAt e.pos;holding [v] (truthy v)):=by intro _;rfl):PT X e (tB t):=by
 intro pins s σ H Q I hw
 refine isTrue_plain (cP (h pins s σ H _ I hw) fun v s1 ⟨x,H1,I1,r1,q1⟩=>?_) (he _)
 obtain⟨d,rfl,q⟩:=q1
 cases r1
 exact wpAny_truthy_bool ⟨H1,I1,q⟩
variable {tA tB':TT} {rest:List Expr}
noncomputable def aaL (t u:TT):TT:=fun σ H Q=>t σ H fun c H1=>if c=true then u σ H1 Q else Q false H1
noncomputable def tOr (t u:TT):TT:=fun σ H Q=>t σ H fun c H1=>if c=true then Q true H1 else u σ H1 Q
noncomputable def abD (t:TT):TT:=fun σ H Q=>t σ H fun c H1=>Q (!c) H1
theorem mR (ha:PT X a tA):PW X (.BoolOp .And [a] pos) tA:=by
 intro wh pins s σ H Q I h
 refine isTrue_and (cP (ha pins s σ H Q I h) fun c s1 e=>?_)
 cases c with
 |true=>exact isTrue_and_nil e
 |false=>exact e
theorem xP (ha:PT X a tA):PW X (.BoolOp .Or [a] pos) tA:=by
 intro wh pins s σ H Q I h
 refine isTrue_or (cP (ha pins s σ H Q I h) fun c s1 e=>?_)
 cases c with
 |false=>exact isTrue_or_nil e
 |true=>exact e
theorem pS (ha:PT X a tA) (hb:PW X (.BoolOp .And (b::rest) pos) tB'):PW X (.BoolOp .And (a::b::rest) pos) (aaL tA tB'):=by
 intro wh pins s σ H Q I h
 refine isTrue_and (cP (ha pins s σ H _ I h) fun c s1 ⟨H1,I1,q1⟩=>?_)
 cases c with
 |true=>exact hb wh pins s1 σ H1 Q I1 q1
 |false=>exact⟨H1,I1,q1⟩
theorem vQ (ha:PT X a tA) (hb:PW X (.BoolOp .Or (b::rest) pos) tB'):PW X (.BoolOp .Or (a::b::rest) pos) (tOr tA tB'):=by
 intro wh pins s σ H Q I h
 refine isTrue_or (cP (ha pins s σ H _ I h) fun c s1 ⟨H1,I1,q1⟩=>?_)
 cases c with
 |true=>exact⟨H1,I1,q1⟩
 |false=>exact hb wh pins s1 σ H1 Q I1 q1
theorem DA (ha:PT X a tA):PT X (.UnaryOp .Not a pos) (abD tA):=by
 intro pins s σ H Q I h
 exact isTrue_not (ha pins s σ H (fun c H1=>Q (!c) H1) I h)
noncomputable def T6 (ta tb:TE):TE:=fun σ H Q=>ta σ H fun x H1=>∃c,x= .bl c/\if c=true then tb σ H1 Q else Q (.bl false) H1
theorem LZ {op} (h:PE X a t):PE X (.BoolOp op [a] pos) t:=fun pins s σ H Q I hw=>BoolOp_one (h pins s σ H Q I hw)
theorem xU (ha:PE X a ta) (hb:PE X (.BoolOp .And (b::rest) pos) tb):PE X (.BoolOp .And (a::b::rest) pos) (T6 ta tb):=by
 intro pins s σ H Q I h
 refine BoolOp_and (cP (ha pins s σ H _ I h) fun v s1 ⟨x,H1,I1,r1,q1⟩=>?_)
 obtain⟨c,rfl,q1⟩:=q1
 cases r1
 refine wpAny_truthy_bool ?_
 cases c with
 |true=>exact hb pins s1 σ H1 Q I1 q1
 |false=>exact⟨.bl false,H1,I1,rfl,q1⟩
noncomputable def tIf (t:TT) (ta tb:TE):TE:=fun σ H Q=>t σ H fun c H1=>if c=true then ta σ H1 Q else tb σ H1 Q
theorem pI (hc:PT X c tA) (ha:PE X a ta) (hb:PE X b tb):PE X (.IfExp c a b pos) (tIf tA ta tb):=by
 intro pins s σ H Q I h
 refine wpAny_IfExp (cP (hc pins s σ H _ I h) fun d s1 ⟨H1,I1,q1⟩=>?_)
 cases d with
 |true=>exact ha pins s1 σ H1 Q I1 q1
 |false=>exact hb pins s1 σ H1 Q I1 q1
end
noncomputable def iB (K:Frag) (H:Hp) (a:Addr) (xs:List V):Prop:=
 Rd H a (.lst xs)\/
  ∃(o:Obj) (its:Array Value) (n:Nat),K.lookup a=some o/\o.cls= .type "list"/\o.dict=none/\o.data= .seq its n/\its.size<=sizeLine/\Vals xs its.toList
noncomputable def nE (K:Frag) (H:Hp) (a:Addr) (xs:List V):Prop:=
 Rd H a (.tup xs)\/
  ∃(o:Obj) (its:Array Value) (n:Nat),K.lookup a=some o/\o.cls= .type "tuple"/\o.data= .seq its n/\its.size<=sizeLine/\Vals xs its.toList
noncomputable def adO:Value->Option V
 | .none=>some .bA
 | .bool b=>some (.bl b)
 | .int i _=>some (.int i)
 | .str x _=>some (.str x)
 | .bytes b _=>some (.byt b)
 | .float b _=>some (.flt b)
 | .ref a=>some (.ref a)
 | .type n=>some (.ty n)
 |_=>none
theorem RelV.abs {x:V} (r:RelV x u):adO u=some x:=by
 cases x with
 |bA=>cases r;rfl
 |bl _=>cases r;rfl
 |int _=>obtain⟨t,rfl⟩:=r;rfl
 |str _=>obtain⟨t,rfl⟩:=r;rfl
 |byt _=>obtain⟨t,rfl⟩:=r;rfl
 |flt _=>obtain⟨t,rfl⟩:=r;rfl
 |ref _=>cases r;rfl
 |ty _=>cases r;rfl
theorem RelV.inj {x:V} (r:RelV x u) (q:RelV y u):x=y:=Option.some.inj (r.abs.symm.trans q.abs)
theorem Vals.inj:∀{xs ys:List V} {us:List Value},Vals xs us->Vals ys us->xs=ys
 |_,_,_,.nil,.nil=>rfl
 |_,_,_,.cons r t,.cons r' t'=>by rw[r.inj r',Vals.inj t t']
section
variable {X:Cx} {pins:List (Addr×Obj)} {σ:St} {H:Hp} {s:Shared} {a:Addr} {xs ys:List V}
theorem iB.of (h:H a=some (.lst xs)):iB K H a xs:=.inl (.inl h)
theorem nE.of (h:H a=some (.tup xs)):nE K H a xs:=.inl (.inl h)
theorem Inv.list (I:Inv X pins σ H s) (h:iB X.K H a xs):∃its:List Value,Vals xs its/\PlainL s.heap a its.toArray/\xs.length<=sizeLine:=by
 rcases h with h|⟨o,its,n,hk,hc,hd,hs,hz,r⟩
 ·obtain⟨z,its,n,r,e⟩:=h.ok I.bP
  exact⟨its,r,⟨_,n,e,rfl,rfl,rfl⟩,z⟩
 ·refine⟨its.toList,r,⟨o,n,I.G1 a o hk,hc,hd,by simpa using hs⟩,?_⟩
  have e:=r.length
  simp only[length_toList]at e
  omega
theorem Inv.tuple (I:Inv X pins σ H s) (h:nE X.K H a xs):∃its:List Value,Vals xs its/\IsTup s.heap a its.toArray/\xs.length<=sizeLine:=by
 rcases h with h|⟨o,its,n,hk,hc,hs,hz,r⟩
 ·obtain⟨z,its,r,p⟩:=h.ok I.bP
  exact⟨its,r,p.1,z⟩
 ·refine⟨its.toList,r,⟨o,I.G1 a o hk,hc,n,by simpa using hs⟩,?_⟩
  have e:=r.length
  simp only[length_toList]at e
  omega
theorem Inv.BR (I:Inv X pins σ H s) (h:iB X.K H a xs) (h':iB X.K H a ys):xs=ys:=by
 obtain⟨its,r,⟨o,n,e,_,_,d⟩,_⟩:=I.list h
 obtain⟨its',r',⟨o',n',e',_,_,d'⟩,_⟩:=I.list h'
 rw[e]at e';cases e'
 rw[d]at d'
 injection d' with d1 _
 have:its=its':=by simpa using congrArg Array.toList d1
 subst this
 exact r.inj r'
theorem Inv.vW (I:Inv X pins σ H s) (h:nE X.K H a xs) (h':nE X.K H a ys):xs=ys:=by
 obtain⟨its,r,⟨o,e,_,n,d⟩,_⟩:=I.tuple h
 obtain⟨its',r',⟨o',e',_,n',d'⟩,_⟩:=I.tuple h'
 rw[e]at e';cases e'
 rw[d]at d'
 injection d' with d1 _
 have:its=its':=by simpa using congrArg Array.toList d1
 subst this
 exact r.inj r'
end
noncomputable abbrev Cx.uZ (X:Cx) (E:Value->Shared->Prop):Cx:={X with xe:=E}
noncomputable abbrev Cx.nox (X:Cx):Cx:=X.uZ fun _ _=>False
theorem Cx.Ok.uZ (ok:X.Ok) (E:Value->Shared->Prop):(X.uZ E).Ok:=
 ⟨ok.mod,ok.kind,ok.glob,ok.blt,ok.above,ok.inj,ok.has,ok.ZL,ok.hd,ok.frames,ok.stk,ok.exf,ok.bs,ok.SG,ok.G4,ok.z6,ok.rH,ok.UW⟩
theorem Cx.Ok.mI (ok:(X.uZ E).Ok):X.Ok:=
 ⟨ok.mod,ok.kind,ok.glob,ok.blt,ok.above,ok.inj,ok.has,ok.ZL,ok.hd,ok.frames,ok.stk,ok.exf,ok.bs,ok.SG,ok.G4,ok.z6,ok.rH,ok.UW⟩
section
variable {X:Cx} {pins:List (Addr×Obj)} {σ:St} {H:Hp} {s:Shared} {E:Value->Shared->Prop}
theorem Inv.uZ (I:Inv X pins σ H s) (E:Value->Shared->Prop):Inv (X.uZ E) pins σ H s:=⟨I.ok.uZ E,I.os,I.bare,I.base,I.loc,I.cell,I.free,I.l7,I.pin,I.bP,I.len⟩
theorem Inv.mI (I:Inv (X.uZ E) pins σ H s):Inv X pins σ H s:=⟨I.ok.mI,I.os,I.bare,I.base,I.loc,I.cell,I.free,I.l7,I.pin,I.bP,I.len⟩
theorem SP.mI {D:Ends} {f:Flow} {s':Shared} (h:SP (X.uZ E) pins D f s'):SP X pins D f s':=by
 cases f with
 |next=>obtain⟨σ',H',I,q⟩:=h;exact⟨σ',H',I.mI,q⟩
 |brk=>obtain⟨σ',H',I,q⟩:=h;exact⟨σ',H',I.mI,q⟩
 |cont=>obtain⟨σ',H',I,q⟩:=h;exact⟨σ',H',I.mI,q⟩
 |ret u=>obtain⟨v,σ',H',I,r,q⟩:=h;exact⟨v,σ',H',I.mI,r,q⟩
theorem GA.nox {st:List Stmt} {t:TS} (h:GA X.nox st t):GA X st t:=fun pins s σ H D I hw=>
 wpAny_mono (h pins s σ H D (I.uZ _) hw) (fun _ _ q=>q.mI) fun _ _ z=>False.elim z
end
section
variable {X:Cx} {st:Stmt} {rest:List Stmt} {t u:TS} {e:Expr} {te:TE} {pos:Pos}
noncomputable def BE:TS:=fun D σ H=>D.nx σ H
noncomputable def CV (t u:TS):TS:=fun D σ H=>t {D with nx:=u D} σ H
theorem b9:GA X [] BE:=fun _ _ σ H _ I h=>wpAny_execs_nil ⟨σ,H,I,h⟩
theorem aE (h1:PS X st t) (h2:GA X rest u):GA X (st::rest) (CV t u):=by
 intro pins s σ H D I h
 refine wpAny_execs_cons (cP (h1 pins s σ H {D with nx:=u D} I h) fun f s1 q=>?_)
 cases f with
 |next=>
  obtain⟨σ',H',I',q⟩:=q
  exact h2 pins s1 σ' H' D I' q
 |ret v=>exact q
 |brk=>exact q
 |cont=>exact q
theorem aJ (h1:PS X st t):GA X [st] t:=by
 intro pins s σ H D I h
 refine wpAny_execs_cons (cP (h1 pins s σ H D I h) fun f s1 q=>?_)
 cases f with
 |next=>exact wpAny_execs_nil q
 |ret v=>exact q
 |brk=>exact q
 |cont=>exact q
theorem Inv.quiet (I:Inv X pins σ H s):interactive X.env=false:=by simp[interactive,I.ok.kind]
noncomputable def JM (te:TE):TS:=fun D σ H=>te σ H fun _ H1=>D.nx σ H1
theorem lG (he:PE X e te) (hs:swapsWith e none pos.line X.env=pure false:=by rfl):PS X (.Expr e pos) (JM te):=by
 intro pins s σ H D I h
 exact wpAny_Expr_any (cP (he pins s σ H _ I h) fun v s1 ⟨x,H1,I1,r1,q1⟩=>⟨σ,H1,I1,q1⟩) I.quiet hs
noncomputable def WH (te:TE):TS:=fun D σ H=>te σ H D.rt
theorem bM (he:PE X e te):PS X (.Return (some e) pos) (WH te):=by
 intro pins s σ H D I h
 exact wpAny_Return_some (cP (he pins s σ H _ I h) fun v s1 ⟨x,H1,I1,r1,q1⟩=>⟨x,σ,H1,I1,r1,q1⟩)
noncomputable def Y2 (c:TT) (t u:TS):TS:=fun D σ H=>c σ H fun b H1=>if b=true then t D σ H1 else u D σ H1
theorem dS {a b:List Stmt} (hc:PT X c tc) (ha:GA X a t) (hb:GA X b u):PS X (.If c a b pos) (Y2 tc t u):=by
 intro pins s σ H D I h
 refine wpAny_If (cP (hc pins s σ H _ I h) fun d s1 ⟨H1,I1,q1⟩=>?_)
 cases d with
 |true=>exact ha pins s1 σ H1 D I1 q1
 |false=>exact hb pins s1 σ H1 D I1 q1
end
noncomputable abbrev TG:=V->St->Hp->(St->Hp->Prop)->Prop
noncomputable abbrev DV:=List V->St->Hp->(St->Hp->Prop)->Prop
noncomputable def PG (X:Cx) (target:Expr) (t:TG):Prop:=
 ∀(pins:List (Addr×Obj)) (s:Shared) (σ:St) (H:Hp) (v:V) (u:Value) (Q:St->Hp->Prop),Inv X pins σ H s->RelV v u->t v σ H Q->
  wpAny (model X.prog X.w) X.A (assign target X.env u) (fun _ s'=>∃σ' H',Inv X pins σ' H' s'/\Q σ' H') X.xe s
noncomputable def PGs (X:Cx) (ts:List Expr) (t:DV):Prop:=
 ∀(pins:List (Addr×Obj)) (s:Shared) (σ:St) (H:Hp) (vs:List V) (us:List Value) (Q:St->Hp->Prop),Inv X pins σ H s->Vals vs us->t vs σ H Q->
  wpAny (model X.prog X.w) X.A (assignInOrder ((assignEach ts X.env).map (·.2)) us) (fun _ s'=>∃σ' H',Inv X pins σ' H' s'/\Q σ' H') X.xe s
noncomputable abbrev VO:=V->V->V->Hp->(Hp->Prop)->Prop
noncomputable def ZW (X:Cx) (t:VO):Prop:=
 ∀(pins:List (Addr×Obj)) (s:Shared) (σ:St) (H:Hp) (o i v:V) (ov iv u:Value) (Q:Hp->Prop),Inv X pins σ H s->RelV o ov->RelV i iv->RelV v u->t o i v H Q->
  wpAny (model X.prog X.w) X.A (setItem ov iv u) (fun _ s'=>∃H',Inv X pins σ H' s'/\Q H') X.xe s
section
variable {X:Cx} {pos:Pos}
noncomputable def gJ (i:Nat):TG:=fun v σ H Q=>Q (σ.set i (some v)) H
theorem aN (hN:X.N.Nodup) (hi:X.N[i]? =some x) (hx:Loc X.env.scope x) (hf:X.fn x=true\/ X.env.scope.names.lookup x=some .local:=by first|exact .inl rfl|exact .inr rfl|assumption):PG X (.Name x pos) (gJ i):=by
 intro pins s σ H v u Q I r h
 exact wpAny_assign_Name (lR I hN hi hx r (fun s' I'=>⟨_,H,I',h⟩) hf)
noncomputable def N9:DV:=fun vs σ H Q=>vs=[]/\Q σ H
noncomputable def wH (t:TG) (u:DV):DV:=fun vs σ H Q=>∃v r,vs=v::r/\t v σ H fun σ' H'=>u r σ' H' Q
theorem fA:PGs X [] N9:=by
 intro pins s σ H vs us Q I r h
 obtain⟨e,h⟩:=h
 subst e
 cases r
 exact assignInOrder_nil ⟨σ,H,I,h⟩
theorem bJ {t:TG} {u:DV} (h1:PG X e t) (h2:PGs X es u)
  (hs:(assignEach (e::es) X.env).map (·.2)=assign e X.env::(assignEach es X.env).map (·.2):=by rfl):PGs X (e::es) (wH t u):=by
 intro pins s σ H vs us Q I r h
 obtain⟨v,vr,e1,h⟩:=h
 subst e1
 cases r with
 |cons r rr=>
  rw[hs]
  refine assignInOrder_cons (cP (h1 pins s σ H _ _ _ I r h) fun _ s1 ⟨σ1,H1,I1,q1⟩=>?_)
  exact h2 pins s1 σ1 H1 _ _ Q I1 rr q1
noncomputable def IJ (K:Frag) (n:Nat) (t:DV):TG:=fun v σ H Q=>∃a xs,v= .ref a/\nE K H a xs/\xs.length=n/\t xs σ H Q
theorem YB {t:DV} (hc:X.calm=true) (h:PGs X es t)
  (hn:(assignEach es X.env).length=n:=by rfl) (hst:(assignEach es X.env).findIdx? (·.1)=none:=by rfl):PG X (.Tuple es k pos) (IJ X.K n t):=by
 intro pins s σ H v u Q I r hw
 obtain⟨a,xs,e1,hq,hl,hw⟩:=hw
 subst e1
 cases r
 obtain⟨its,rv,ht,hz⟩:=I.tuple hq
 refine assign_Tuple_tuple (I.ok.hd hc) ht (by simp[hn,<-hl,rv.length]) hst fun h' hx=>?_
 have I1:Inv X pins σ H {s with heap:=h'}:=I.kept (t':=s.toks) fun b o e=>hx b o (ne_of_lt (lt_size e)) e
 exact h pins _ σ H xs _ Q I1 (by simpa using rv) hw
noncomputable def zE (to ti:TE) (t:VO):TG:=fun v σ H Q=>to σ H fun o H1=>ti σ H1 fun i H2=>t o i v H2 fun H3=>Q σ H3
theorem NR {o i:Expr} {to ti:TE} {t:VO} (ho:PE X o to) (hi:PE X i ti) (hs:ZW X t)
  (ha:∀v,assign (.Subscript o i pos) X.env v=(do
   let ov<-holding [v] (eval o X.env)
   let iv<-holding [v,ov] (eval i X.env)
   standAt pos
   holding [v,ov,iv] (setItem ov iv v)
   release [v,ov,iv] []):=by intro _;rfl):PG X (.Subscript o i pos) (zE to ti t):=by
 intro pins s σ H v u Q I r h
 rw[ha]
 refine wpAny_bind (wpAny_holding (cP (ho pins s σ H _ I h) fun ov s1 ⟨x,H1,I1,r1,q1⟩=>?_))
 refine wpAny_bind (wpAny_holding (cP (hi pins s1 σ H1 _ I1 q1) fun iv s2 ⟨y,H2,I2,r2,q2⟩=>?_))
 refine wpAny_bind (wpAny_standAt (wpAny_bind (wpAny_holding (cP (hs pins s2 σ H2 x y v ov iv u _ I2 r1 r2 r q2) fun _ s3 ⟨H3,I3,q3⟩=>?_))))
 exact wpAny_release ⟨σ,H3,I3,q3⟩
noncomputable def m6 (te:TE) (g:TG):TS:=fun D σ H=>te σ H fun x H1=>g x σ H1 D.nx
theorem tF {g:TG} (he:PE X e te) (hg:PG X tg g) (hs:swapsWithSole [tg] e pos.line X.env=pure false:=by rfl) (hw:swappedStores [tg] e X.env=pure none:=by rfl)
  (h1:(assignEach [tg] X.env).map (·.2)=[assign tg X.env]:=by rfl):PS X (.Assign [tg] e pos) (m6 te g):=by
 intro pins s σ H D I h
 refine wpAny_Assign_stores (cP (he pins s σ H _ I h) fun v s1 ⟨x,H1,I1,r1,q1⟩=>?_) hs hw
 rw[h1]
 exact cP (hg pins s1 σ H1 x v _ I1 r1 q1) fun _ s2 q=>q
theorem aX {pos':Pos} (hN:X.N.Nodup) (hi:X.N[i]? =some x) (hx:Loc X.env.scope x) (he:PE X e te) (hs:swapsWith e (some (.Name x pos')) pos.line X.env=pure false:=by rfl) (hf:X.fn x=true\/ X.env.scope.names.lookup x=some .local:=by first|exact .inl rfl|exact .inr rfl|assumption):
  PS X (.Assign [.Name x pos'] e pos) (m6 te (gJ i)):=by
 intro pins s σ H D I h
 refine wpAny_Assign_Name (cP (he pins s σ H _ I h) fun v s1 ⟨y,H1,I1,r1,q1⟩=>?_) hs
 exact lR I1 hN hi hx r1 (fun s2 I2=>⟨_,H1,I2,q1⟩) hf
noncomputable def aaV (i j:Nat) (ta:TA):TS:=fun D σ H=>ta σ H fun vs H1=>∃v w,vs=[v,w]/\D.nx ((σ.set i (some v)).set j (some w)) H1
theorem YQ {y:Str} {a b:Expr} {px py pt:Pos} {kt k2 pt2} (hc:X.calm=true) (hN:X.N.Nodup) (hi:X.N[i]? =some x) (hj:X.N[j]? =some y) (hij:i≠j)
  (hx:X.env.scope.names.lookup x=some .local) (hy:X.env.scope.names.lookup y=some .local) (ha:PA X [a,b] ta)
  (hw:swappedStores [.Tuple [.Name x px,.Name y py] kt pt] (.Tuple [a,b] k2 pt2) X.env=pure (some [x,y]))
  (hs:swapsWithSole [.Tuple [.Name x px,.Name y py] kt pt] (.Tuple [a,b] k2 pt2) pos.line X.env=pure false:=by rfl):
  PS X (.Assign [.Tuple [.Name x px,.Name y py] kt pt] (.Tuple [a,b] k2 pt2) pos) (aaV i j ta):=by
 intro pins s σ H D I h
 rw[exec_Assign_arm]
 refine wpAny_bind (wpAny_standAt ?_)
 rw[hs]
 refine wpAny_bind (wpAny_pure ?_)
 rw[if_neg (by decide)]
 refine wpAny_bind (Tuple_ (cP (ha _ pins s σ H _ I h) fun us s1 ⟨vs,H1,I1,r1,q1⟩=>?_))
 obtain⟨v,w,e1,q1⟩:=q1
 subst e1
 obtain⟨u1,u2,rfl,rv,rw'⟩:∃u1 u2,us=[u1,u2]/\RelV v u1/\RelV w u2:=by
  cases r1 with
  | cons p q=>
   cases q with
   |cons p' q'=>
    cases q'
    exact⟨_,_,rfl,p,p'⟩
 refine wpAny_newObj_type ?_ (by show 2<=sizeLine;decide)
 have I2:Inv X pins σ H1 {s1 with heap:=s1.heap.push {cls:=.type "tuple",data:=.seq [u1,u2].toArray}}:=I1.kept (t':=s1.toks) fun b o e=>get?_push_of_some _ e
 rw[hw]
 refine wpAny_bind (wpAny_pure ?_)
 show wpAny (model X.prog X.w) X.A (do rule "assign.swapped-stores";let items<-unpackItems (.ref s1.heap.objs.size) 2 none;assignInOrder [fun v=>bindName X.env y v,fun v=>bindName X.env x v] items.reverse;pure Flow.next) _ _ _
 refine wpAny_bind (wpAny_rule (wpAny_bind (unpackItems_tuple (items:= #[u1,u2]) (I.ok.hd hc) (IsTup.new s1.heap _) fun h' hx'=>?_)))
 have I3:=I2.kept (h':=h') (t':=s1.toks) fun b o e=>hx' b o (ne_of_lt (lt_size e)) e
 show wpAny _ _ (assignInOrder [fun v=>bindName X.env y v,fun v=>bindName X.env x v] [u2,u1]>>=fun _=>pure Flow.next) _ _ _
 refine wpAny_bind (assignInOrder_cons (wpAny_bindName (lR I3 hN hj (.inl hy) rw' (fun s2 I4=>?_) (.inr hy))))
 refine assignInOrder_cons (wpAny_bindName (lR I4 hN hi (.inl hx) rv (fun s3 I5=>assignInOrder_nil (wpAny_pure ?_)) (.inr hx)))
 rw[List.set_comm _ _ (Ne.symm hij)]at I5
 exact⟨_,H1,I5,q1⟩
end
section
variable {X:Cx} {pos:Pos}
noncomputable def KD (c:TT) (tb:TS):TS:=fun D σ H=>∃W:Nat->St->Hp->Prop,(∃m,W m σ H)/\∀m σ H,W m σ H->
 c σ H fun b H1=>if b=true then∃N:St->Hp->Prop,(∀σ' H',N σ' H'->∃m',m'<m/\W m' σ' H')/\tb {D with nx:=N,ct:=N,bk:=D.nx} σ H1 else D.nx σ H1
theorem L3 (hp:PassesOwn (model X.prog X.w) X.A X.env X.xe) (hc:PT X c tc) (hb:GA X body tb):PS X (.While c body [] pos) (KD tc tb):=by
 intro pins s σ H D I h
 obtain⟨W,⟨m0,w0⟩,turn⟩:=h
 refine wpAny_While (codeAny_whileLoop (fun n s'=>∃σ' H',Inv X pins σ' H' s'/\W n σ' H') ?_ m0 ⟨σ,H,I,w0⟩)
 rintro n s1 ⟨σ1,H1,I1,w1⟩
 refine wpAny_passesOwn hp (cP (hc pins s1 σ1 H1 _ I1 (turn n σ1 H1 w1)) fun b s2 ⟨H2,I2,q2⟩=>?_)
 cases b with
 | true=>
  obtain⟨N,hN,q2⟩:=q2
  rw[if_pos rfl]
  refine wpAny_passesOwn hp (cP (hb pins s2 σ1 H2 _ I2 q2) fun f s3 q3=>?_)
  cases f with
  |next=>
   obtain⟨σ3,H3,I3,n3⟩:=q3
   obtain⟨m',hm,w3⟩:=hN σ3 H3 n3
   exact⟨m',hm,σ3,H3,I3,w3⟩
  |cont=>
   obtain⟨σ3,H3,I3,n3⟩:=q3
   obtain⟨m',hm,w3⟩:=hN σ3 H3 n3
   exact⟨m',hm,σ3,H3,I3,w3⟩
  |brk=>exact q3
  |ret v=>exact q3
 |false=>
  rw[if_neg Bool.false_ne_true]
  exact wpAny_execs_nil ⟨σ1,H2,I2,q2⟩
end
structure It where
 go:Nat->Hp->Prop
 ZQ:Nat->Hp->V->Hp->Prop
 stop:Nat->Hp->Prop
noncomputable def pO (X:Cx) (pins:List (Addr×Obj)) (H:Hp) (b:Addr):Prop:=
 H b=none/\b≠X.env.locals/\b∉X.fs/\(b∈X.ex\/ X.iE.heap.objs.size<=b)/\(∀x c,X.env.cells.lookup x=some c->c≠b)/\∀p∈X.pn++pins,p.1≠b
theorem Inv.qG {H':Hp} (I:Inv X pins σ H s) (hb:s.heap.objs.size<=b) (hn:H' b=none):pO X pins H' b:=by
 refine⟨hn,ne_of_gt (lt_of_lt_of_le I.lt hb),I.abK hb,.inr (le_trans I.sz hb),fun x c e z=>?_,fun p hp z=>?_⟩
 ·obtain⟨v,q⟩:=I.cell x c e
  exact absurd (lt_of_lt_of_le q.lt (by rw[z];exact hb)) (lt_irrefl _)
 ·exact absurd (lt_of_lt_of_le (lt_size (I.pin p hp).1) (by rw[z];exact hb)) (lt_irrefl _)
structure Turn (P:Program) (w:World) (K:Frag) (tg:Expr) (J:It) (fp:List Addr) (it:Addr) (tn:Nat->Heap->Prop):Prop where
 mem:it∈fp
 obj:∀i h,tn i h->∀b∈fp,∃o,h.get? b=some o/\∀v,o.data≠ .cell v
 keep:∀i h h',tn i h->(∀b∈fp,∀o,h.get? b=some o->h'.get? b=some o)->tn i h'
 item:∀(X:Cx),X.prog=P->X.w=w->X.K=K->X.calm=true->∀(i:Nat) (pins:List (Addr×Obj)) (s:Shared) (σ:St) (H:Hp) (E:Value->Shared->Prop),Inv X pins σ H s->(∀b∈fp,pO X pins H b)->tn i s.heap->J.go i H->
  wpAny (model P w) X.A (pyNext (.ref it)) (fun r s1=>∃u,r=some u/\
   wpAny (model P w) X.A (letOwnedTupleGo tg (.ref it) u) (fun _ s2=>∃x H',Inv X pins σ H' s2/\RelV x u/\J.ZQ i H x H'/\tn (i+1) s2.heap/\∀b∈fp,H' b=none) E s1) E s
 done:∀(X:Cx),X.prog=P->X.w=w->X.K=K->X.calm=true->∀(i:Nat) (pins:List (Addr×Obj)) (s:Shared) (σ:St) (H:Hp) (E:Value->Shared->Prop),Inv X pins σ H s->(∀b∈fp,pO X pins H b)->tn i s.heap->J.stop i H->
  wpAny (model P w) X.A (pyNext (.ref it)) (fun r s1=>r=none/\Inv X pins σ H s1) E s
 self:∀(A:Around) (i:Nat) (s:Shared) (Q:Value->Shared->Prop) (E:Value->Shared->Prop),tn i s.heap->Q (.ref it) s->wpAny (model P w) A (pyIter (.ref it)) Q E s
noncomputable abbrev TI:=St->Hp->(It->Hp->Prop)->Prop
noncomputable def PIE (X:Cx) (pins:List (Addr×Obj)) (σ:St) (tg:Expr) (R:It->Hp->Prop) (itv:Value) (s2:Shared):Prop:=
 ∃(it:Addr) (fp:List Addr) (tn:Nat->Heap->Prop) (J:It) (H':Hp),itv= .ref it/\Inv X pins σ H' s2/\Turn X.prog X.w X.K tg J fp it tn/\tn 0 s2.heap/\(∀b∈fp,pO X pins H' b)/\R J H'
noncomputable def PI (X:Cx) (tg iter:Expr) (wi:TI):Prop:=
 ∀(pins:List (Addr×Obj)) (s:Shared) (σ:St) (H:Hp) (R:It->Hp->Prop),Inv X pins σ H s->wi σ H R->
  wpAny (model X.prog X.w) X.A (eval iter X.env) (fun v s1=>wpAny (model X.prog X.w) X.A (pyIter v) (PIE X pins σ tg R) X.xe s1) X.xe s
theorem wX {tg:Expr} {u:Value} {n:String} {vs:Array Value} {Q:Unit->Shared->Prop} (ho:s.heap.get? it=some o) (hc:o.cls= .type n) (hd:o.data= .fields vs)
    (hn:["enumerate","zip","dict_itemiterator","dict_reverseitemiterator","odict_iterator","itertools.zip_longest","itertools.pairwise"].contains n=false) (hQ:Q () s):wpAny M A (letOwnedTupleGo tg (.ref it) u) Q E s:=by
  unfold letOwnedTupleGo
  cases tg<;>first
    |exact wpAny_pure hQ
    |(cases u<;>first
        |exact wpAny_pure hQ
        | (refine wpAny_bind (wpAny_load ho ?_)
           rw[hc,hd]
           show wpAny M A (if(["enumerate","zip","dict_itemiterator","dict_reverseitemiterator","odict_iterator","itertools.zip_longest","itertools.pairwise"].contains n && vs[0]? ==some (rawInt _))=true then _ else _) Q E s
           rw[if_neg (by intro h;rw[hn,Bool.false_and]at h;cases h)]
           exact wpAny_pure hQ))
noncomputable def Itl (K:Frag) (a:Addr):It:=
 ⟨fun i H=>∃xs x,iB K H a xs/\xs[i]? =some x,fun i H x H'=>H'=H/\∀xs,iB K H a xs->xs[i]? =some x,fun i H=>∃xs,iB K H a xs/\xs.length<=i⟩
noncomputable def Itt (K:Frag) (a:Addr):It:=
 ⟨fun i H=>∃xs x,nE K H a xs/\xs[i]? =some x,fun i H x H'=>H'=H/\∀xs,nE K H a xs->xs[i]? =some x,fun i H=>∃xs,nE K H a xs/\xs.length<=i⟩
noncomputable def ZK (lo:Int) (n:Nat):It:=⟨fun i _=>i<n,fun i H x H'=>H'=H/\x= .int (lo+i),fun i _=>n<=i⟩
theorem HF (a it:Addr):Turn P w K tg (Itl K a) [it] it (fun i h=>h.IsListIter it a i)where
 mem:=by simp
 obj:=fun i h st b hb=>by
  have e:b=it:=by simpa using hb
  subst e
  obtain⟨o,e,c,d⟩:=st
  exact⟨o,e,fun v z=>by rw[d]at z;cases z⟩
 keep:=fun i h h' st k=>st.at fun o e=>k it (by simp) o e
 item:=by
  intro X hP hw hK hc i pins s σ H E I hf st hg
  subst hP hw hK
  obtain⟨xs,x,hq,hx⟩:=hg
  obtain⟨its,rv,p,hz⟩:=I.list hq
  obtain⟨u,hu,ru⟩:=rv.get hx
  obtain⟨f0,f1,f2,f3,f4,f5⟩:=hf it (by simp)
  refine wpAny_pyNext_list_item st p.isList (x:=u) (by simpa using hu) fun h' st' sb=>?_
  have I1:Inv X pins σ H {s with heap:=h'}:=I.turned (t':=s.toks) (fun b o hb e=>(sb.2 b hb).trans e) f0 f1 f3 f4 f5
  obtain⟨o,e,c,d⟩:=id st'
  exact⟨u,rfl,wX (s:={s with heap:=h'}) e c d (by decide) ⟨x,H,I1,ru,⟨rfl,fun ys hy=>by rw[I.BR hy hq];exact hx⟩,st',fun b hb=>(hf b hb).1⟩⟩
 done:=by
  intro X hP hw hK hc i pins s σ H E I hf st hg
  subst hP hw hK
  obtain⟨xs,hq,hx⟩:=hg
  obtain⟨its,rv,p,hz⟩:=I.list hq
  obtain⟨f0,f1,f2,f3,f4,f5⟩:=hf it (by simp)
  have hl:=rv.length
  exact wpAny_pyNext_list_end (I.ok.hd hc) st p.isList (by simp;omega) fun h' eb=>⟨rfl,I.turned (t':=s.toks) (fun b o hb e=>eb b o hb e) f0 f1 f3 f4 f5⟩
 self:=fun _ _ _ _ _ st h=>wpAny_pyIter_listiter st h
theorem D3 (a it:Addr):Turn P w K tg (Itt K a) [it] it (fun i h=>h.IsTupleIter it a i)where
 mem:=by simp
 obj:=fun i h st b hb=>by
  have e:b=it:=by simpa using hb
  subst e
  obtain⟨o,e,c,d⟩:=st
  exact⟨o,e,fun v z=>by rw[d]at z;cases z⟩
 keep:=fun i h h' st k=>st.at fun o e=>k it (by simp) o e
 item:=by
  intro X hP hw hK hc i pins s σ H E I hf st hg
  subst hP hw hK
  obtain⟨xs,x,hq,hx⟩:=hg
  obtain⟨its,rv,p,hz⟩:=I.tuple hq
  obtain⟨u,hu,ru⟩:=rv.get hx
  obtain⟨f0,f1,f2,f3,f4,f5⟩:=hf it (by simp)
  refine wpAny_pyNext_tuple_item st (show s.heap.IsTuple a its.toArray from p) (x:=u) (by simpa using hu) fun h' st' sb=>?_
  have I1:Inv X pins σ H {s with heap:=h'}:=I.turned (t':=s.toks) (fun b o hb e=>(sb.2 b hb).trans e) f0 f1 f3 f4 f5
  obtain⟨o,e,c,d⟩:=id st'
  exact⟨u,rfl,wX (s:={s with heap:=h'}) e c d (by decide) ⟨x,H,I1,ru,⟨rfl,fun ys hy=>by rw[I.vW hy hq];exact hx⟩,st',fun b hb=>(hf b hb).1⟩⟩
 done:=by
  intro X hP hw hK hc i pins s σ H E I hf st hg
  subst hP hw hK
  obtain⟨xs,hq,hx⟩:=hg
  obtain⟨its,rv,p,hz⟩:=I.tuple hq
  obtain⟨f0,f1,f2,f3,f4,f5⟩:=hf it (by simp)
  have hl:=rv.length
  exact wpAny_pyNext_tuple_end (I.ok.hd hc) st (show s.heap.IsTuple a its.toArray from p) (by simp;omega) fun h' eb=>⟨rfl,I.turned (t':=s.toks) (fun b o hb e=>eb b o hb e) f0 f1 f3 f4 f5⟩
 self:=fun _ _ _ _ _ st h=>wpAny_pyIter_tupleiter st h
theorem EB (it:Addr) (lo:Int) (n:Nat):Turn P w K tg (ZK lo n) [it] it (fun i h=>IsRangeIter h it (lo+(i:Nat)*1) ((n:Int) - (i:Nat)) 1)where
 mem:=by simp
 obj:=fun i h st b hb=>by
  have e:b=it:=by simpa using hb
  subst e
  exact⟨_,st,fun v z=>by
   have z':Data.fields _=Data.cell v:=z
   cases z'⟩
 keep:=fun i h h' st k=>k it (by simp) _ st
 item:=by
  intro X hP hw hK hc i pins s σ H E I hf st hg
  subst hP hw hK
  obtain⟨f0,f1,f2,f3,f4,f5⟩:=hf it (by simp)
  have W:=Walks.range (prog:=X.prog) (w:=X.w) (I.ok.hd hc) it lo 1 n
  refine W.item i s _ _ hg st fun v h' tk hv st' kk=>?_
  obtain⟨t,rfl⟩:=hv
  have I1:Inv X pins σ H {s with heap:=h',toks:=tk}:=I.turned (fun b o hb e=>kk b o (by simpa using hb) e) f0 f1 f3 f4 f5
  refine⟨_,rfl,wX (s:={s with heap:=h',toks:=tk}) (n:="range_iterator") st' rfl rfl (by decide) ⟨.int (lo+i),H,I1,⟨t,?_⟩,⟨rfl,rfl⟩,st',fun b hb=>(hf b hb).1⟩⟩
  rw[Int.mul_one]
 done:=by
  intro X hP hw hK hc i pins s σ H E I hf st hg
  subst hP hw hK
  obtain⟨f0,f1,f2,f3,f4,f5⟩:=hf it (by simp)
  exact wpAny_pyNext_range_end (I.ok.hd hc) st (by have:n<=i:=hg;omega) fun h' eb=>⟨rfl,I.turned (t':=s.toks) (fun b o hb e=>eb b o hb e) f0 f1 f3 f4 f5⟩
 self:=fun _ _ _ _ _ st h=>wpAny_pyIter_rangeiter st h
section
variable {X:Cx} {tg:Expr}
theorem BC {R:It->Hp->Prop} {lo hi:Int} {t u v:Tok} {tk:Nat} (I:Inv X pins σ H s) (h1: -(2^62)<=lo) (h2:lo<2^62) (h3: -(2^62)<=hi) (h4:hi<2^62)
  (q:R (ZK lo (hi - lo).toNat) H):wpAny (model X.prog X.w) X.A (pyIter (.ref s.heap.objs.size)) (PIE X pins σ tg R) E {s with heap:=s.heap.push {cls:=.type "range",data:=.fields #[.int lo t,.int hi u,.int 1 v]},toks:=tk}:=by
 refine wpAny_pyIter_range (IsRange.new ..) (small_one h1 h2 h3 h4) ?_
 have I1:Inv X pins σ H {s with heap:=s.heap.push {cls:=.type "range",data:=.fields #[.int lo t,.int hi u,.int 1 v]},toks:=tk}:=I.kept fun b o e=>get?_push_of_some _ e
 refine⟨(s.heap.push {cls:=.type "range",data:=.fields #[.int lo t,.int hi u,.int 1 v]}).objs.size,[(s.heap.push {cls:=.type "range",data:=.fields #[.int lo t,.int hi u,.int 1 v]}).objs.size],_,_,H,rfl,
  I1.kept (t':=tk) fun b o e=>get?_push_of_some _ e,EB _ lo (hi - lo).toNat,?_,fun b hb=>?_,q⟩
 ·have e1:lo+((0:Nat):Int)*1=lo:=by simp
  have e2:(((hi - lo).toNat:Nat):Int) - ((0:Nat):Int)=Builtin.Range.rangeSize lo hi 1:=by rw[rangeSize_one];split<;>omega
  show IsRangeIter _ _ (lo+((0:Nat):Int)*1) ((((hi - lo).toNat:Nat):Int) - ((0:Nat):Int)) 1
  rw[e1,e2]
  exact get?_push_size _ rfl
 ·have e:b=(s.heap.push {cls:=.type "range",data:=.fields #[.int lo t,.int hi u,.int 1 v]}).objs.size:=by simpa using hb
  subst e
  exact I1.qG (le_refl _) (I1.bP.fresh (le_refl _))
noncomputable def S3 (ta:TA):TI:=fun σ H R=>ta σ H fun vs H1=>∃j:Int,vs=[.int j]/\ -(2^62)<=j/\j<2^62/\R (ZK 0 j.toNat) H1
noncomputable def TJ (ta:TA):TI:=fun σ H R=>ta σ H fun vs H1=>∃i j:Int,vs=[.int i,.int j]/\(-(2^62)<=i/\i<2^62/\ -(2^62)<=j/\j<2^62)/\R (ZK i (j - i).toNat) H1
theorem eN {a:Expr} (hg:Gl X "range") (hm:X.mg "range"=none) (ha:PA X [a] ta) (hs:starEach [a] X.env=[(false,eval a X.env)]:=by rfl):PI X tg (.Call (.Name "range" p) [a] [] pos) (S3 ta):=by
 intro pins s σ H R I h
 refine Call_ (qE I hg hm boot_range (PyProof.Rows.callWith_type1 (cP (ha pos pins s σ H _ I h) fun us s1 ⟨vs,H1,I1,r1,q1⟩=>?_) hs rfl))
 obtain⟨j,e,q1,q2,q⟩:=q1
 subst e
 cases r1 with
 |cons r rr=>
  cases rr
  obtain⟨t,rfl⟩:=r
  exact call_range_1 (BC I1 (by omega) (by omega) q1 q2 (by simpa using q))
theorem HK {a b:Expr} (hg:Gl X "range") (hm:X.mg "range"=none) (ha:PA X [a,b] ta) (hs:starEach [a,b] X.env=[(false,eval a X.env),(false,eval b X.env)]:=by rfl) (hs2:starEach [b] X.env=[(false,eval b X.env)]:=by rfl):
  PI X tg (.Call (.Name "range" p) [a,b] [] pos) (TJ ta):=by
 intro pins s σ H R I h
 refine Call_ (qE I hg hm boot_range (PyProof.Rows.callWith_type1 (cP (ha pos pins s σ H _ I h) fun us s1 ⟨vs,H1,I1,r1,q1⟩=>?_) (by rw[hs,hs2]) (by rw[hs2];rfl)))
 obtain⟨i,j,e,⟨q1,q2,q3,q4⟩,q⟩:=q1
 subst e
 cases r1 with
 | cons r rr=>
  cases rr with
  |cons r' rr=>
   cases rr
   obtain⟨t,rfl⟩:=r
   obtain⟨t',rfl⟩:=r'
   exact call_range_2 (BC I1 q1 q2 q3 q4 q)
noncomputable def U4 (wi:TI) (g:TG) (tb:TS):TS:=fun D σ H=>wi σ H fun J H1=>∃W:Nat->Nat->St->Hp->Prop,(∃m,W 0 m σ H1)/\∀i m σ H,W i m σ H->
 (J.stop i H/\D.nx σ H)\/ (J.go i H/\∃N:St->Hp->Prop,(∀σ' H',N σ' H'->∃m',m'<m/\W (i+1) m' σ' H')/\∀x H',J.ZQ i H x H'->g x σ H' fun σ2 H2=>tb {D with nx:=N,ct:=N,bk:=D.nx} σ2 H2)
noncomputable def nN (fp:List Addr) (h:Heap):List (Addr×Obj):=fp.filterMap fun b=>(h.get? b).map fun o=>(b,o)
theorem eJ (hb:b∈fp) (e:h.get? b=some o):(b,o)∈nN fp h:=mem_filterMap.mpr ⟨b,hb,by rw[e];rfl⟩
theorem IF {h:Heap} {p:Addr×Obj} (hp:p∈nN fp h):p.1∈fp/\h.get? p.1=some p.2:=by
 obtain⟨b,hb,e⟩:=mem_filterMap.mp hp
 cases q:h.get? b with
 |none=>rw[q]at e;cases e
 |some o=>
  rw[q]at e
  have e':(b,o)=p:=Option.some.inj e
  subst e'
  exact⟨hb,q⟩
theorem Inv.pinned (I:Inv X pins σ H s) (hf:∀b∈fp,pO X pins H b) (ho:∀b∈fp,∃o,s.heap.get? b=some o/\∀v,o.data≠ .cell v):Inv X (pins++nN fp s.heap) σ H s:=
 I.sL fun p hp=>(mem_append.mp hp).elim (fun z=>I.pin p (mem_append_right _ z)) fun z=>by
  obtain⟨hb,e⟩:=IF z
  obtain⟨f0,f1,f2,_⟩:=hf p.1 hb
  obtain⟨o,e',d⟩:=ho p.1 hb
  rw[e]at e';cases e'
  exact⟨e,f0,f1,f2,d⟩
theorem Inv.j8 {pl:List (Addr×Obj)} (I:Inv X (pins++pl) σ H s):Inv X pins σ H s:=I.sL fun p hp=>I.pin p (mem_append_right _ (mem_append_left _ hp))
theorem cU {iter:Expr} {wi:TI} {g:TG} (hp:PassesOwn (model X.prog X.w) X.A X.env X.xe) (hc:X.calm=true) (hi:PI X tg iter wi) (hg:PG X tg g) (hb:GA X body tb)
  (hs:∀x,foldedSetIterable iter X.env x=pure x:=by intro _;rfl):PS X (.For tg iter body [] pos) (U4 wi g tb):=by
 intro pins s σ H D I h
 refine wpAny_For (cP (hi pins s σ H _ I h) fun v s1 h1=>cP h1 fun itv s2 h2=>?_) hs
 obtain⟨it,fp,tn,J,H2,e,I2,T,st2,f2,W,⟨m0,w0⟩,turn⟩:=h2
 subst e
 have stat:∀{H':Hp},(∀b∈fp,H' b=none)->∀b∈fp,pO X pins H' b:=fun hn b hb=>⟨hn b hb,(f2 b hb).2⟩
 refine codeAny_forLoop_any (fun n s'=>∃i σ' H',Inv X pins σ' H' s'/\tn i s'.heap/\(∀b∈fp,H' b=none)/\W i n σ' H') ?_ m0 ⟨0,σ,H2,I2,st2,fun b hb=>(f2 b hb).1,w0⟩
 rintro n s3 ⟨i,σ3,H3,I3,st3,fr3,w3⟩
 rcases turn i n σ3 H3 w3 with⟨stop,qn⟩|⟨go,N,hN,step⟩
 ·refine wpAny_passesOwn hp (cP (T.done X rfl rfl rfl hc i pins s3 σ3 H3 X.xe I3 (stat fr3) st3 stop) fun r s4 ⟨hr,I4⟩=>?_)
  subst hr
  exact wpAny_execs_nil ⟨σ3,H3,I4,qn⟩
 ·refine wpAny_passesOwn hp (cP (T.item X rfl rfl rfl hc i pins s3 σ3 H3 X.xe I3 (stat fr3) st3 go) fun r s4 ⟨u,hr,h4⟩=>?_)
  subst hr
  refine wpAny_passesOwn hp (cP h4 fun _ s5 ⟨x,H5,I5,r5,y5,st5,fr5⟩=>?_)
  have I5':=I5.pinned (stat fr5) (T.obj _ _ st5)
  refine wpAny_passesOwn hp (cP (hg _ s5 σ3 H5 x u _ I5' r5 (step x H5 y5)) fun _ s6 ⟨σ6,H6,I6,q6⟩=>?_)
  refine wpAny_passesOwn hp (cP (hb _ s6 σ6 H6 _ I6 q6) fun f s7 q7=>?_)
  have again:∀{σ7:St} {H7:Hp},Inv X (pins++nN fp s5.heap) σ7 H7 s7->N σ7 H7->∃m,m<n/\∃i σ' H',Inv X pins σ' H' s7/\tn i s7.heap/\(∀b∈fp,H' b=none)/\W i m σ' H':=fun{σ7 H7} I7 n7=>by
   obtain⟨m',hm,w7⟩:=hN σ7 H7 n7
   refine⟨m',hm,i+1,σ7,H7,I7.j8,T.keep _ _ _ st5 fun b hb o e=>(I7.pin (b,o) (mem_append_right _ (mem_append_right _ (eJ hb e)))).1,fun b hb=>?_,w7⟩
   obtain⟨o,e,d⟩:=T.obj _ _ st5 b hb
   exact(I7.pin (b,o) (mem_append_right _ (mem_append_right _ (eJ hb e)))).2.1
  cases f with
  |next=>obtain⟨σ7,H7,I7,n7⟩:=q7;exact again I7 n7
  |cont=>obtain⟨σ7,H7,I7,n7⟩:=q7;exact again I7 n7
  |brk=>obtain⟨σ7,H7,I7,q7⟩:=q7;exact⟨σ7,H7,I7.j8,q7⟩
  |ret v=>obtain⟨x7,σ7,H7,I7,r7,q7⟩:=q7;exact⟨x7,σ7,H7,I7.j8,r7,q7⟩
end
noncomputable abbrev R2:=V->V->Hp->VK->Prop
noncomputable def iV (X:Cx) (f:Value->Value->Sem Value) (r:R2):Prop:=
 ∀(pins:List (Addr×Obj)) (s:Shared) (σ:St) (H:Hp) (x y:V) (v u:Value) (Q:VK),Inv X pins σ H s->RelV x v->RelV y u->r x y H Q->
  wpAny (model X.prog X.w) X.A (f v u) (EP X pins σ Q) X.xe s
noncomputable def UnR (X:Cx) (f:Value->Sem Value) (r:V->Hp->VK->Prop):Prop:=
 ∀(pins:List (Addr×Obj)) (s:Shared) (σ:St) (H:Hp) (x:V) (v:Value) (Q:VK),Inv X pins σ H s->RelV x v->r x H Q->
  wpAny (model X.prog X.w) X.A (f v) (EP X pins σ Q) X.xe s
noncomputable def cH (X:Cx) (f:Value) (r:List V->Hp->VK->Prop):Prop:=
 ∀(pins:List (Addr×Obj)) (s:Shared) (σ:St) (H:Hp) (xs:List V) (us:List Value) (Q:VK),Inv X pins σ H s->Vals xs us->r xs H Q->
  wpAny (model X.prog X.w) X.A (call f us) (EP X pins σ Q) X.xe s
noncomputable def ac9 (X:Cx) (r:V->Hp->(Bool->Hp->Prop)->Prop):Prop:=
 ∀(pins:List (Addr×Obj)) (s:Shared) (σ:St) (H:Hp) (x:V) (v:Value) (Q:Bool->Hp->Prop),Inv X pins σ H s->RelV x v->r x H Q->
  wpAny (model X.prog X.w) X.A (truthy v) (TP X pins σ Q) X.xe s
noncomputable def ZT (r:R2) (ta tb:TE):TE:=fun σ H Q=>ta σ H fun x H1=>tb σ H1 fun y H2=>r x y H2 Q
noncomputable def tUn (r:V->Hp->VK->Prop) (ta:TE):TE:=fun σ H Q=>ta σ H fun x H1=>r x H1 Q
noncomputable def rI (C:Int->Int->Prop) (g:Int->Int->V):R2:=fun x y H Q=>∃i j,x= .int i/\y= .int j/\C i j/\Q (g i j) H
noncomputable def IH (g:Int->Int->V):R2:=fun x y H Q=>∃i j,x= .int i/\y= .int j/\Q (g i j) H
noncomputable def rU (g:Int->V):V->Hp->VK->Prop:=fun x H Q=>∃i,x= .int i/\Q (g i) H
section
variable {X:Cx} {a b c:Expr} {ta tb tc:TE} {pos:Pos}
theorem WL (ha:PE X a ta) (hb:PE X b tb) {R:V->V->Hp->Prop} (I:Inv X pins σ H s)
  (h:ta σ H fun x H1=>tb σ H1 fun y H2=>R x y H2)
  (hf:∀v u s2 x y H2,Inv X pins σ H2 s2->RelV x v->RelV y u->R x y H2->wpAny (model X.prog X.w) X.A (f v u) Q X.xe s2):
  wpAny (model X.prog X.w) X.A (eval a X.env) (fun v s₁=>wpAny (model X.prog X.w) X.A (eval b X.env) (fun u s₂=>wpAny (model X.prog X.w) X.A (f v u) Q X.xe s₂) X.xe s₁) X.xe s:=by
 refine cP (ha pins s σ H _ I h) fun v s1 ⟨x,H1,I1,r1,q1⟩=>?_
 refine cP (hb pins s1 σ H1 _ I1 q1) fun u s2 ⟨y,H2,I2,r2,q2⟩=>?_
 exact hf v u s2 x y H2 I2 r1 r2 q2
theorem bR {op:Operator} (ho:iV X (binaryOp op) r) (ha:PE X a ta) (hb:PE X b tb):PE X (.BinOp a op b pos) (ZT r ta tb):=by
 intro pins s σ H Q I h
 exact wpAny_BinOp (WL ha hb I h fun v u s2 x y H2 I2 rx ry q=>ho pins s2 σ H2 x y v u Q I2 rx ry q)
theorem TY {op:UnaryOp} {r:V->Hp->VK->Prop} (ho:UnR X (unaryOp op) r) (ha:PE X a ta):PE X (.UnaryOp op a pos) (tUn r ta):=by
 intro pins s σ H Q I h
 exact UnaryOp_ (cP (ha pins s σ H _ I h) fun v s1 ⟨x,H1,I1,r1,q1⟩=>ho pins s1 σ H1 x v Q I1 r1 q1)
theorem opI {C:Int->Int->Prop}
  (rule:∀(i j:Int) (t u:Tok) (s:Shared) (Q:Value->Shared->Prop) (E:Value->Shared->Prop),C i j->Q (.int (g i j) s.toks) {s with toks:=s.toks+1}->wpAny (model X.prog X.w) X.A (f (.int i t) (.int j u)) Q E s):
  iV X f (rI C fun i j=>.int (g i j)):=by
 intro pins s σ H x y v u Q I rx ry h
 obtain⟨i,j,rfl,rfl,hc,q⟩:=h
 obtain⟨t,rfl⟩:=rx
 obtain⟨t',rfl⟩:=ry
 exact rule i j t t' s _ _ hc ⟨.int (g i j),H,I.tok _,⟨_,rfl⟩,q⟩
theorem abM
  (rule:∀(i j:Int) (t u:Tok) (s:Shared) (Q:Value->Shared->Prop) (E:Value->Shared->Prop),Q (.int (g i j) s.toks) {s with toks:=s.toks+1}->wpAny (model X.prog X.w) X.A (f (.int i t) (.int j u)) Q E s):
  iV X f (IH fun i j=>.int (g i j)):=by
 intro pins s σ H x y v u Q I rx ry h
 obtain⟨i,j,rfl,rfl,q⟩:=h
 obtain⟨t,rfl⟩:=rx
 obtain⟨t',rfl⟩:=ry
 exact rule i j t t' s _ _ ⟨.int (g i j),H,I.tok _,⟨_,rfl⟩,q⟩
theorem XS {g:Int->Int->Bool}
  (rule:∀(i j:Int) (t u:Tok) (s:Shared) (Q:Value->Shared->Prop) (E:Value->Shared->Prop),Q (.bool (g i j)) s->wpAny (model X.prog X.w) X.A (f (.int i t) (.int j u)) Q E s):
  iV X f (IH fun i j=>.bl (g i j)):=by
 intro pins s σ H x y v u Q I rx ry h
 obtain⟨i,j,rfl,rfl,q⟩:=h
 obtain⟨t,rfl⟩:=rx
 obtain⟨t',rfl⟩:=ry
 exact rule i j t t' s _ _ ⟨.bl (g i j),H,I,rfl,q⟩
noncomputable def OW (i j:Int):Prop:=(-(2^64)<i/\i<2^64)\/ (-(2^64)<j/\j<2^64)
theorem OW.ok {i j:Int} (h:OW i j):IntMulOk i j:=by
 rcases h with⟨h1,h2⟩|⟨h1,h2⟩
 ·exact .of_left (intBits_le_64 h1 h2)
 ·exact .of_right (intBits_le_64 h1 h2)
theorem WX:iV X (binaryOp .Add) (IH fun i j=>.int (i+j)):=abM fun _ _ _ _ _ _ _ q=>add_int q
theorem DH:iV X (binaryOp .Sub) (IH fun i j=>.int (i - j)):=abM fun _ _ _ _ _ _ _ q=>sub_int q
theorem l3:iV X (binaryOp .Mult) (rI OW fun i j=>.int (i*j)):=opI fun _ _ _ _ _ _ _ hc q=>mul_int q hc.ok
theorem jM:iV X (binaryOp .Mod) (rI (fun _ j=>0<j) fun i j=>.int (i % j)):=opI fun i j _ _ _ _ _ hc q=>by
 have h1:(0:Int)<j:=hc
 exact mod_int' (by omega) (by rw[Int.fmod_eq_emod_of_nonneg i (by omega)];exact q)
theorem unI {f:Value->Sem Value} {g:Int->Int}
  (rule:∀(i:Int) (t:Tok) (s:Shared) (Q:Value->Shared->Prop) (E:Value->Shared->Prop),Q (.int (g i) s.toks) {s with toks:=s.toks+1}->wpAny (model X.prog X.w) X.A (f (.int i t)) Q E s):
  UnR X f (rU fun i=>.int (g i)):=by
 intro pins s σ H x v Q I rx h
 obtain⟨i,rfl,q⟩:=h
 obtain⟨t,rfl⟩:=rx
 exact rule i t s _ _ ⟨.int (g i),H,I.tok _,⟨_,rfl⟩,q⟩
theorem OG:UnR X (unaryOp .USub) (rU fun i=>.int (-i)):=unI fun _ _ _ _ _ q=>neg_int q
end
section
variable {X:Cx} {a b c:Expr} {ta tb tc:TE} {pos:Pos}
theorem iF {Q:VK} {k k':Bool} (I:Inv X pins σ H s) (q:Q (.bl k) H) (e:k=k'):EP X pins σ Q (.bool k') s:=by
 subst e
 exact⟨.bl k,H,I,rfl,q⟩
theorem abO:iV X (compareOp .Lt) (IH fun i j=>.bl (decide (i<j))):=XS fun _ _ _ _ _ _ _ q=>lt_int q
theorem N3:iV X (compareOp .Gt) (IH fun i j=>.bl (decide (j<i))):=XS fun _ _ _ _ _ _ _ q=>gt_int q
theorem abA:iV X (compareOp .GtE) (IH fun i j=>.bl (decide (j<=i))):=XS fun _ _ _ _ _ _ _ q=>ge_int q
theorem HQ:iV X (compareOp .Lt) (fun x y H Q=>∃i j,x= .str i/\y= .str j/\Q (.bl (decide (i.cps.toList<j.cps.toList))) H):=by
 intro pins s σ H x y v u Q I rx ry h
 obtain⟨i,j,rfl,rfl,q⟩:=h
 obtain⟨t,rfl⟩:=rx
 obtain⟨t',rfl⟩:=ry
 exact lt_str (iF I q rfl)
theorem IU:iV X (compareOp .In) (fun x y H Q=>∃i j,x= .str i/\y= .str j/\Q (.bl (!(Builtin.Str.occurrences j i 0 j.length 1).isEmpty)) H):=by
 intro pins s σ H x y v u Q I rx ry h
 obtain⟨i,j,rfl,rfl,q⟩:=h
 obtain⟨t,rfl⟩:=rx
 obtain⟨t',rfl⟩:=ry
 exact in_str (iF I q rfl)
theorem NF:iV X (compareOp .Is) (fun x y H Q=>y= .bA/\Q (.bl (decide (x= .bA))) H):=by
 intro pins s σ H x y v u Q I rx ry h
 obtain⟨rfl,q⟩:=h
 cases ry
 refine is_none_gen (iF I q ?_)
 cases x<;>first
  |(cases rx;rfl)
  |(obtain⟨t,rfl⟩:=rx;rfl)
theorem oS:iV X (compareOp .IsNot) (fun x y H Q=>y= .bA/\Q (.bl (!decide (x= .bA))) H):=by
 intro pins s σ H x y v u Q I rx ry h
 obtain⟨rfl,q⟩:=h
 cases ry
 refine isnot_none_gen (iF I q ?_)
 cases x<;>first
  |(cases rx;rfl)
  |(obtain⟨t,rfl⟩:=rx;rfl)
theorem yX:iV X (compareOp .NotIn) (fun x y H Q=>∃i j,x= .str i/\y= .str j/\Q (.bl (!(!(Builtin.Str.occurrences j i 0 j.length 1).isEmpty))) H):=by
 intro pins s σ H x y v u Q I rx ry h
 obtain⟨i,j,rfl,rfl,q⟩:=h
 obtain⟨t,rfl⟩:=rx
 obtain⟨t',rfl⟩:=ry
 exact notIn_str (iF I q rfl)
theorem cF (b:Expr) {op:CmpOp} (h:op≠ .In:=by decide) (h2:op≠ .NotIn:=by decide):behindInMarks op b=false:=by
 have e1:(op==CmpOp.In)=false:=by cases op<;>first|rfl|exact absurd rfl h
 have e2:(op==CmpOp.NotIn)=false:=by cases op<;>first|rfl|exact absurd rfl h2
 cases b<;>simp[behindInMarks,e1,e2]
theorem x3 (ho:iV X (compareOp op) r) (ha:PE X a ta) (hb:PE X b tb) (hm:behindInMarks op b=false):PE X (.Compare a [op] [b] pos) (ZT r ta tb):=by
 intro pins s σ H Q I h
 exact wpAny_Compare1 (WL ha hb I h fun v u s2 x y H2 I2 rx ry q=>ho pins s2 σ H2 x y v u Q I2 rx ry q) hm
noncomputable def TU (t:TE):TT:=fun σ H Q=>t σ H fun x H'=>∃k,x= .bl k/\Q k H'
theorem bD (ho:iV X (compareOp op) r) (ha:PE X a ta) (hb:PE X b tb) (hm:behindInMarks op b=false):PT X (.Compare a [op] [b] pos) (TU (ZT r ta tb)):=by
 intro pins s σ H Q I h
 refine wpAny_isTrue_Compare1 (cP (ha pins s σ H _ I h) fun v s1 ⟨x,H1,I1,r1,q1⟩=>cP (hb pins s1 σ H1 _ I1 q1) fun u s2 ⟨y,H2,I2,r2,q2⟩=>
  cP (ho pins s2 σ H2 x y v u _ I2 r1 r2 q2) fun c s3 ⟨z,H3,I3,r3,k,e,q3⟩=>?_) hm
 subst e
 cases r3
 exact wpAny_truthy_bool ⟨H3,I3,q3⟩
noncomputable def Q1 (K:Frag) (x:V) (H:Hp) (k:Bool):Prop:=
 match x with
 | .bA=>k=false
 | .bl b=>k=b
 | .int i=>k=(i !=0)
 | .str y=>y.length<=sizeLine/\k=((y.length:Int) !=0)
 | .byt y=>y.size<=sizeLine/\k=((y.size:Int) !=0)
 | .ref p=>(∃xs,iB K H p xs/\k=!xs.isEmpty)\/ (∃xs,nE K H p xs/\k=!xs.isEmpty)\/ ∃kvs ep,H p=some (.dK kvs ep)/\k=!kvs.isEmpty
 |_=>False
theorem D4 {kvs:List (κ×V)} {vs:List (κ×Value)} (r:KV kvs vs):(!vs.isEmpty)=!kvs.isEmpty:=by
 cases r<;>rfl
theorem tZ {its:List Value} (r:Vals xs its):(!its.toArray.isEmpty)=!xs.isEmpty:=by
 cases r<;>simp
theorem nV:(sizeLine:Nat)<2^63:=by rw[sizeLine_eq];decide
theorem UU:ac9 X (fun x H Q=>∃k,Q1 X.K x H k/\Q k H):=by
 intro pins s σ H x v Q I rx h
 obtain⟨k,e,q⟩:=h
 have hl:=nV
 have hs:sizeLine=16777216:=sizeLine_eq
 cases x with
 |bA=>
  cases rx
  have e':k=false:=e
  subst e'
  exact truthy_none ⟨H,I,q⟩
 |bl b=>
  cases rx
  have e':k=b:=e
  subst e'
  exact wpAny_truthy_bool ⟨H,I,q⟩
 |int i=>
  obtain⟨t,rfl⟩:=rx
  have e':k=(i !=0):=e
  subst e'
  exact PySem.P.truthy_int ⟨H,I,q⟩
 |str y=>
  obtain⟨t,rfl⟩:=rx
  obtain⟨hy,e'⟩:y.length<=sizeLine/\k=((y.length:Int) !=0):=e
  subst e'
  exact PySem.P.truthy_str (by omega) ⟨H,I.tok _,q⟩
 |byt y=>
  obtain⟨t,rfl⟩:=rx
  obtain⟨hy,e'⟩:y.size<=sizeLine/\k=((y.size:Int) !=0):=e
  subst e'
  exact PySem.W.truthy_bytes (by omega) ⟨H,I.tok _,q⟩
 | ref p=>
  cases rx
  have e':(∃xs,iB X.K H p xs/\k=!xs.isEmpty)\/ (∃xs,nE X.K H p xs/\k=!xs.isEmpty)\/ ∃kvs ep,H p=some (.dK kvs ep)/\k=!kvs.isEmpty:=e
  rcases e' with⟨xs,hx,e'⟩|⟨xs,hx,e'⟩|⟨kvs,ep,hx,e'⟩
  ·subst e'
   obtain⟨its,r,pl,hz⟩:=I.list hx
   have hlen:=r.length
   exact wpAny_truthy_list pl.isList (by simp only[size_toArray];omega) ⟨H,I.tok _,by rw[tZ r];exact q⟩
  ·subst e'
   obtain⟨its,r,pl,hz⟩:=I.tuple hx
   have hlen:=r.length
   exact truthy_tuple pl (by simp only[size_toArray];omega) ⟨H,I.tok _,by rw[tZ r];exact q⟩
  ·subst e'
   obtain⟨hz,hS,vs,r,m⟩:kvs.length<=sizeLine/\(p==sysModules)=false/\∃vs,KV kvs vs/\s.heap.DictAt (bT X.prog X.w) p vs ep:=I.bP p _ hx
   have hlen:kvs.length=vs.length:=Paired.length r
   exact wpAny_truthy_dict hS m.dictOf (by omega) ⟨H,I.tok _,by rw[D4 r];exact q⟩
 |_=>exact(show False from e).elim
theorem NL (ha:PE X a ta) (he:∀whole,isTrue a X.env whole=(do let v<-whole;standAt a.pos;holding [v] (truthy v))):
  PT X a (fun σ H Q=>ta σ H fun x H'=>∃k,Q1 X.K x H' k/\Q k H'):=by
 intro pins s σ H Q I h
 exact isTrue_plain (cP (ha pins s σ H _ I h) fun v s1 ⟨x,H1,I1,r1,q1⟩=>UU pins s1 σ H1 x v Q I1 r1 q1) (he _)
theorem CT:iV X (binaryOp .Add) (fun x y H Q=>∃i j,x= .str i/\y= .str j/\i.length+j.length<=sizeLine/\Q (.str (i++j)) H):=by
 intro pins s σ H x y v u Q I rx ry h
 obtain⟨i,j,rfl,rfl,hz,q⟩:=h
 obtain⟨t,rfl⟩:=rx
 obtain⟨t',rfl⟩:=ry
 exact add_str (fun t' tk=>⟨.str (i++j),H,I.tok _,⟨_,rfl⟩,q⟩) hz
theorem vals1 {x:V} (r:Vals [x] us):∃u,us=[u]/\RelV x u:=by
 cases r with
 |cons r1 r2=>cases r2;exact⟨_,rfl,r1⟩
theorem vals2 {x:V} (r:Vals [x,y] us):∃u w',us=[u,w']/\RelV x u/\RelV y w':=by
 cases r with
 |cons r1 r2=>
  cases r2 with
  |cons r3 r4=>cases r4;exact⟨_,_,rfl,r1,r3⟩
theorem G0 (hc:X.calm=true):cH X (.builtin "min") (fun xs H Q=>∃i j,xs=[.int i,.int j]/\Q (.int (if j<i then j else i)) H):=by
 intro pins s σ H xs us Q I r h
 obtain⟨i,j,rfl,q⟩:=h
 obtain⟨u,w',rfl,⟨t,rfl⟩,⟨t',rfl⟩⟩:=vals2 r
 refine min_two_ints (I.ok.hd hc) fun h' tk k=>⟨_,H,I.kept k,?_,q⟩
 by_cases hj:j<i
 ·rw[if_pos hj,if_pos hj];exact⟨_,rfl⟩
 ·rw[if_neg hj,if_neg hj];exact⟨_,rfl⟩
theorem G8:cH X (.type "int") (fun xs H Q=>(∃i,xs=[.int i]/\Q (.int i) H)\/ ∃k,xs=[.bl k]/\Q (.int (if k then 1 else 0)) H):=by
 intro pins s σ H xs us Q I r h
 rcases h with⟨i,rfl,q⟩|⟨k,rfl,q⟩
 ·obtain⟨u,rfl,t,rfl⟩:=vals1 r
  exact call_int_int ⟨.int i,H,I,⟨_,rfl⟩,q⟩
 ·obtain⟨u,rfl,r1⟩:=vals1 r
  cases r1
  exact call_int_bool ⟨.int (if k then 1 else 0),H,I.tok _,⟨_,rfl⟩,q⟩
theorem o6:cH X (.type "str") (fun xs H Q=>∃i,xs=[.int i]/\i.natAbs.log2<1920/\Q (.str (toString i)) H):=by
 intro pins s σ H xs us Q I r h
 obtain⟨i,rfl,hz,q⟩:=h
 obtain⟨u,rfl,t,rfl⟩:=vals1 r
 exact PySem.P.str_of_int hz ⟨.str _,H,I.tok _,⟨_,rfl⟩,q⟩
end
theorem rN.some_of {v:V} {o:Option Value} (r:rN (some v) o):∃u,o=some u/\RelV v u:=by
 cases o with
 |none=>exact(show False from r).elim
 |some u=>exact⟨u,rfl,r⟩
structure dX (k:Nat) (A:Around):Prop where
 hd:A.handled=none
 dp:A.depth+3*k+5<recursionLimit
 un:A.units+16*k+200<cLine
theorem dX.mono (r:dX k A) (h:j<=k):dX j A:=⟨r.hd,by have:=r.dp;omega,by have:=r.un;omega⟩
theorem dX.deeper (r:dX (k+1) A) (env:Env):dX k (A.deeper env):=
 ⟨r.hd,by have:=r.dp;show A.depth+1+3*k+5<_;omega,by have:=r.un;show A.units+3+16*k+200<_;omega⟩
theorem dX.depth (r:dX k A):A.depth<recursionLimit:=by have:=r.dp;omega
theorem dX.units (r:dX k A):A.units+64<cLine:=by have:=r.un;omega
noncomputable def m9:TA:=fun _ H Q=>Q [] H
noncomputable def dQ (ta:TE) (tr:TA):TA:=fun σ H Q=>ta σ H fun x H1=>tr σ H1 fun xs H2=>Q (x::xs) H2
section
variable {X:Cx} {e:Expr} {es:List Expr} {te:TE} {t:TA} {pos:Pos}
theorem aD:PA X [] m9:=fun _ _ _ _ H Q I h=>Calls.spliced_nil ⟨[],H,I,.nil,h⟩
theorem aA (ha:PE X e te) (hr:PA X es t) (hs:starEach (e::es) X.env=(false,eval e X.env)::starEach es X.env:=by rfl):PA X (e::es) (dQ te t):=by
 intro pos pins s σ H Q I h
 rw[hs]
 show wpAny _ _ (spliced ((false,eval e X.env)::backTo pos (starEach es X.env))) _ _ s
 refine Calls.spliced_cons (cP (ha pins s σ H _ I h) fun u s1 ⟨x,H1,I1,r1,q1⟩=>?_)
 exact cP (hr pos pins s1 σ H1 _ I1 q1) fun us s2 ⟨xs,H2,I2,r2,q2⟩=>⟨x::xs,H2,I2,.cons r1 r2,q2⟩
noncomputable def LX (t:TA):TE:=fun σ H Q=>t σ H fun xs H1=>xs.length<=sizeLine/\∀p,H1 p=none->Q (.ref p) (upd H1 p (.tup xs))
noncomputable def JK (t:TA):TE:=fun σ H Q=>t σ H fun xs H1=>xs.length<=sizeLine/\∀p,H1 p=none->Q (.ref p) (upd H1 p (.lst xs))
theorem bU {x1} (h:PA X es t):PE X (.Tuple es x1 pos) (LX t):=by
 intro pins s σ H Q I hq
 refine wpAny_Tuple_spliced (cP (h pos pins s σ H _ I hq) fun us s1 ⟨xs,H1,I1,r,z,q⟩=>⟨by rw[<-r.length];exact z,?_⟩)
 have hf:H1 s1.heap.objs.size=none:=I1.bP.fresh (le_refl _)
 refine⟨.ref s1.heap.objs.size,upd H1 s1.heap.objs.size (.tup xs),I1.laid (t':=s1.toks) (fun b u e=>get?_push_of_some _ e) (le_refl _) ?_,rfl,q _ hf⟩
 exact⟨z,us,r,pG.new _ _⟩
theorem fB (h:PA X es t):PE X (.List es pos) (JK t):=by
 intro pins s σ H Q I hq
 refine wpAny_List_spliced (cP (h pos pins s σ H _ I hq) fun us s1 ⟨xs,H1,I1,r,z,q⟩=>⟨by rw[<-r.length];exact z,?_⟩)
 have hf:H1 s1.heap.objs.size=none:=I1.bP.fresh (le_refl _)
 refine⟨.ref s1.heap.objs.size,upd H1 s1.heap.objs.size (.lst xs),I1.laid (t':=s1.toks) (fun b u e=>get?_push_of_some _ e) (le_refl _) ?_,rfl,q _ hf⟩
 exact⟨z,us,0,r,get?_push_size _ rfl⟩
end
noncomputable abbrev Sp:=List V->Hp->VK->XK->Prop
noncomputable abbrev JI:=List Env->Hp->Shared->XK->Value->Shared->Prop
structure PK (P:Program) (w:World) (K:Frag) (mg:Str->Option Value) (base:Heap) (A:Around) (outer:List Env) (s:Shared) (H:Hp):Prop where
 frames:A.frames=some outer
 mod:Mod K mg base
 bs:∀b o,base.get? b=some o->s.heap.get? b=some o/\H b=none
 SG:base.objs.size<=s.heap.objs.size
 rH:s.heap.FunFrames base outer
 UW:∀b∈HJ outer,H b=none
 bP:m5 P w H s.heap
 bare:AllBare s.gens
noncomputable def CE (outer:List Env) (P:Program) (w:World) (H:Hp) (s:Shared) (Q:VK) (u:Value) (s':Shared):Prop:=
 ∃v H',s'.os=s.os/\AllBare s'.gens/\Un (HJ outer) [] H H' s.heap s'.heap/\m5 P w H' s'.heap/\RelV v u/\Q v H'
noncomputable def CR (CX:JI) (outer:List Env) (P:Program) (w:World) (H:Hp) (s:Shared) (Q:VK) (E:XK) (r:Result) (s':Shared):Prop:=
 match r with
 | .ok (.ret u)=>CE outer P w H s Q u s'
 | .ok _=>False
 | .error e=>CX outer H s E e s'
structure pA (P:Program) (w:World) (K:Frag) (mg:Str->Option Value) (base:Heap) (CX:JI) (k:Nat) (f:Addr) (fd:FuncData) (ps:List Str) (sp:Sp):Prop where
 len:∀vs H Q E,sp vs H Q E->vs.length=ps.length
 run:∀(A:Around) (outer:List Env) (s:Shared) (H:Hp) (args:Args) (us:List Value) (vs:List V) (Q:VK) (E:XK),dX k A->PK P w K mg base A outer s H->BindsTo s fd args (ps.zip us)->Vals vs us->sp vs H Q E->
  codeAny (model P w) A (.call (.ref f) args) (CR CX outer P w H s Q E) s
theorem pA.imp {f:Addr} {sp':Sp} (F:pA P w K mg base CX k f fd ps sp)
  (h:∀vs H Q E,sp' vs H Q E->sp vs H Q E):pA P w K mg base CX k f fd ps sp':=
 ⟨fun vs H Q E q=>F.len vs H Q E (h _ _ _ _ q),fun A outer s H args us vs Q E hr he hb hv hs=>F.run A outer s H args us vs Q E hr he hb hv (h _ _ _ _ hs)⟩
section
variable {X:Cx} {pins:List (Addr×Obj)} {σ:St} {H:Hp} {s s':Shared}
theorem Inv.mX (I:Inv X pins σ H s):PK X.prog X.w X.K X.mg X.base X.A X.stack s H:=
 ⟨I.ok.frames,I.ok.mod,I.bs,le_trans I.ok.SG I.sz,I.stack,I.EK,I.bP,I.bare⟩
theorem Inv.after {Q:VK} (I:Inv X pins σ H s) (h:CE X.stack X.prog X.w H s Q u s'):EP X pins σ Q u s':=by
 obtain⟨v,H',os,bare,un,bP,r,q⟩:=h
 obtain⟨hh,g,d,t,os'⟩:=s'
 obtain rfl:os'=s.os:=os
 exact⟨v,H',I.call (h':=hh) (g':=g) (d':=d) (t':=t) (ch:=[]) un bP bare (fun b z=>absurd z (by simp)),r,q⟩
end
noncomputable def BO (sp:Sp) (dvs:List V) (E:XK) (t:TA):TE:=fun σ H Q=>t σ H fun vs H1=>sp (vs++dvs) H1 Q E
noncomputable def Binds (K:Frag) (fd:FuncData) (ps:List Str) (ds:List Value):Prop:=
 ∀(s:Shared) (us:List Value),K.In s.heap->(us++ds).length=ps.length->BindsTo s fd ⟨us,[]⟩ (ps.zip (us++ds))
theorem Binds.all (h:∀us:List Value,us.length=ps.length->bindArgs fd ⟨us,[]⟩=pure (ps.zip us)):Binds K fd ps []:=fun s us _ hl=>by
 rw[append_nil]at hl⊢
 exact .of_eq (h us hl)
noncomputable def Passes (CX:JI) (X:Cx) (E:XK):Prop:=∀(pins:List (Addr×Obj)) (σ:St) (H:Hp) (s:Shared) (e:Value) (s':Shared),Inv X pins σ H s->CX X.stack H s E e s'->X.xe e s'
section
variable {X:Cx} {CX:JI} {k:Nat} {f C:Addr} {fd:FuncData} {ps:List Str} {sp:Sp} {dvs:List V} {ds:List Value} {E:XK} {x m:Str} {p pos apos:Pos} {e o:Expr} {es:List Expr} {ta:TE} {t:TA}
theorem YX {Q:VK} {vs:List V} (F:pA X.prog X.w X.K X.mg X.base CX k f fd ps sp) (hr:dX k X.A) (hb:Binds X.K fd ps ds) (hd:Vals dvs ds) (hx:Passes CX X E)
  (I:Inv X pins σ H s) (r:Vals vs us) (h:sp (vs++dvs) H Q E):wpAny (model X.prog X.w) X.A (call (.ref f) us) (EP X pins σ Q) X.xe s:=by
 have r2:Vals (vs++dvs) (us++ds):=r.append hd
 have hl:(us++ds).length=ps.length:=by rw[<-r2.length];exact F.len _ _ _ _ h
 refine wpAny_call (codeAny_mono (F.run X.A X.stack s H ⟨us,[]⟩ (us++ds) (vs++dvs) Q E hr I.mX (hb s us I.G1 hl) r2 h) fun r s' hq=>?_)
 cases r with
 |error e=>exact hx pins σ H s e s' I hq
 |ok fl=>
  cases fl with
  |ret u=>exact I.after hq
  |next=>exact False.elim hq
  |brk=>exact False.elim hq
  |cont=>exact False.elim hq
theorem QL (F:pA X.prog X.w X.K X.mg X.base CX k f fd ps sp) (hr:dX k X.A) (hg:Gl X x) (hm:X.mg x=some (.ref f)) (hk:keepIn X.K (.ref f)=true) (hb:Binds X.K fd ps ds) (hd:Vals dvs ds) (hx:Passes CX X E)
  (ha:PA X (e::es) t) (hdb:(x==("__debug__":Str))=false:=by decide) (he:starEach (e::es) X.env=(false,eval e X.env)::starEach es X.env:=by rfl) (hpl:(backTo pos (starEach es X.env)).any (·.1)=false:=by rfl):
  PE X (.Call (.Name x p) (e::es) [] pos) (BO sp dvs E t):=by
 intro pins s σ H Q I h
 refine wpAny_Call_Name_kw (SK I hg hm ?_ hdb)
 refine PySem.W.callWith_K (h₀:=X.base) I.ok.mod.kin hk (cP (ha pos pins s σ H _ I h) fun us s1 ⟨vs,H1,I1,r,q⟩=>⟨I1.G1,?_⟩) he hpl
 exact YX F hr hb hd hx I1 r q
end
structure o8 (N P:List Str) (sc:Scope):Prop where
 kind:sc.kind= .function
 co:sc.isCoroutine=false
 gen:sc.isGenerator=false
 nd:N.Nodup
 pre:N.take P.length=P
 par:∀x∈P,sc.names.lookup x=some .local\/ sc.names.lookup x=some .cell
 YE:∀y∈sc.names,y.2≠ .free
theorem wF:∀{binds:List (Str×Value)} {m:Str->Option Value},(∀v,(x,v)∉binds)->bindL kindOf binds m x=m x
 |[],_,_=>rfl
 | (n,v)::r,m,h=>by
  unfold bindL
  rw[wF fun w hw=>h w (mem_cons_of_mem _ hw)]
  split
  ·have:x≠n:=by rintro rfl;exact h v mem_cons_self
   simp[this]
  ·rfl
theorem wU:∀{binds:List (Str×Value)} {m:Str->Option Value},(∀v,(x,v)∉binds)->bindC kindOf binds m x=m x
 |[],_,_=>rfl
 | (n,v)::r,m,h=>by
  unfold bindC
  rw[wU fun w hw=>h w (mem_cons_of_mem _ hw)]
  split
  ·rfl
  ·have:x≠n:=by rintro rfl;exact h v mem_cons_self
   simp[this]
theorem wW:∀{P:List Str} {vs:List Value} {i:Nat} {m:Str->Option Value},P.Nodup->P[i]? =some x->vs[i]? =some v->kindOf x=some .local->
  bindL kindOf (P.zip vs) m x=some v
 |[],_,_,_,_,h,_,_=>by simp at h
 |_::_,[],_,_,_,_,h,_=>by simp at h
 |p::P,w::vs,0,m,nd,h1,h2,hk=>by
  simp at h1 h2;subst h1;subst h2
  show bindL kindOf ((p,w)::P.zip vs) m p=_
  unfold bindL
  rw[wF fun v hv=>(nodup_cons.mp nd).1 (of_mem_zip hv).1,if_pos hk]
  simp
 |p::P,w::vs,i+1,m,nd,h1,h2,hk=>by
  show bindL kindOf ((p,w)::P.zip vs) m x=_
  unfold bindL
  exact wW (i:=i) (nodup_cons.mp nd).2 (by simpa using h1) (by simpa using h2) hk
theorem vM:∀{P:List Str} {vs:List Value} {i:Nat} {m:Str->Option Value},P.Nodup->P[i]? =some x->vs[i]? =some v->kindOf x≠some .local->
  bindC kindOf (P.zip vs) m x=some v
 |[],_,_,_,_,h,_,_=>by simp at h
 |_::_,[],_,_,_,_,h,_=>by simp at h
 |p::P,w::vs,0,m,nd,h1,h2,hk=>by
  simp at h1 h2;subst h1;subst h2
  show bindC kindOf ((p,w)::P.zip vs) m p=_
  unfold bindC
  rw[wU fun v hv=>(nodup_cons.mp nd).1 (of_mem_zip hv).1,if_neg hk]
  simp
 |p::P,w::vs,i+1,m,nd,h1,h2,hk=>by
  show bindC kindOf ((p,w)::P.zip vs) m x=_
  unfold bindC
  exact vM (i:=i) (nodup_cons.mp nd).2 (by simpa using h1) (by simpa using h2) hk
noncomputable def start (N:List Str) (vs:List V):St:=vs.map some++List.replicate (N.length - vs.length) none
noncomputable def DB (CX:JI) (P:Program) (w:World) (K:Frag) (mg:Str->Option Value) (base:Heap) (N:List Str) (qual:Str) (scope:Scope) (f:Addr) (cd:Value) (A:Around) (outer:List Env) (s:Shared) (H:Hp) (E:XK):Cx where
 prog:=P
 w:=w
 K:=K
 mg:=mg
 base:=base
 A:=A.deeper (envOfC qual scope s.heap.objs.size f cd)
 N:=N
 iE:=s
 JV:=H
 env:=envOfC qual scope s.heap.objs.size f cd
 outer:=outer
 stack:=envOfC qual scope s.heap.objs.size f cd::outer
 ex:=[]
 calm:=true
 fn:=fun _=>true
 pn:=[]
 xe:=fun e s'=>wpAny (model P w) (A.deeper (envOfC qual scope s.heap.objs.size f cd)) (leaving (envOfC qual scope s.heap.objs.size f cd) e) (fun _ s''=>CX outer H s E e s'') (fun e' s''=>CX outer H s E e' s'') s'
theorem z5 {sc:Scope} (h:sc.names.lookup x=some .cell):∃c,(cellsFrom n sc.names []).lookup x=some c:=by
 have q:=PySem.W.cellsFrom_some sc.names n [] (.inl h)
 exact isSome_iff_exists.mp q
theorem JA {f:Addr} {cd:Value} {outer:List Env} {s s1:Shared} {E:XK} {vs:List V}
  (S:o8 N ps scope) (hd:A.handled=none) (e0:PK P w K mg base A outer s H) (hl:vs.length=ps.length) (r:Vals vs us)
  (x:InCallC s s.heap.objs.size (bindL (envOfC qual scope s.heap.objs.size f cd).kindOf (ps.zip us) fun _=>none) (cellsFrom (s.heap.objs.size+1) scope.names []) (bindC (envOfC qual scope s.heap.objs.size f cd).kindOf (ps.zip us) fun _=>none) s1):
  Inv (DB CX P w K mg base N qual scope f cd A outer s H E) [] (start N vs) H s1:=by
 have hpl:ps.length<=N.length:=by have:=congrArg List.length S.pre;rw[length_take]at this;omega
 obtain⟨h1,tk,rfl,hk⟩:=x.done
 have cT:∀b:Addr,b∉(DB CX P w K mg base N qual scope f cd A outer s H E).ex:=fun b z=>absurd (show b∈([]:List Addr)from z) (by simp)
 refine⟨⟨e0.mod,S.kind,rfl,rfl,le_refl _,fun y z c h1 h2=>?_,fun y hy=>?_,fun y c _ h=>?_,fun _=>hd,Around.frames_deeper e0.frames,.inr ⟨rfl,rfl⟩,fun b z=>absurd z (cT b),e0.bs,e0.SG,fun b _ _=>cT b,fun b z=>absurd z (cT b),e0.rH,e0.UW⟩,
  rfl,e0.bare,Un.kept hk,⟨_,x.toInCall.ns,fun i y v h1 h2 h3=>?_⟩,fun y c h=>⟨_,x.cell y c h⟩,e0.bP.fresh (le_refl _),fun y c h=>?_,fun p hp=>absurd (show p∈([]:List (Addr×Obj))from hp) (by simp),e0.bP.kept hk,?_⟩
 ·exact name_of_addr x.apart (PySem.mem_of_lookup h1) (PySem.mem_of_lookup h2)
 ·have hy:scope.names.lookup y=some .cell\/ scope.names.lookup y=some .free:=hy
  rcases hy with hy|hy
  ·exact z5 hy
  ·exact absurd rfl (S.YE _ (PySem.mem_of_lookup hy))
 ·exact le_of_lt (x.above y c (PySem.mem_of_lookup h))
 ·have hi:i<vs.length:=by
   unfold start at h2
   by_cases hi:i<vs.length
   ·exact hi
   ·rw[getElem?_append_right (by simpa using hi)]at h2
    rw[List.getElem?_replicate]at h2
    split at h2<;>cases h2
  have ha:vs[i]? =some v:=by
   unfold start at h2
   rw[getElem?_append_left (by simpa using hi),getElem?_map]at h2
   cases e:vs[i]? with
   |none=>rw[e]at h2;cases h2
   |some a=>rw[e]at h2;cases h2;rfl
  obtain⟨u,hu,rv⟩:=r.get ha
  have hp:ps[i]? =some y:=by
   rw[<-S.pre,List.getElem?_take_of_lt (by omega)];exact h1
  have ndP:ps.Nodup:=by rw[<-S.pre];exact S.nd.sublist (List.take_sublist _ _)
  refine⟨u,rv,?_⟩
  rcases S.par y (mem_of_getElem? hp)with k|k
  ·exact .inl ⟨k,wW ndP hp hu k⟩
  ·obtain⟨c,e⟩:=z5 (n:=s.heap.objs.size+1) k
   refine .inr ⟨.inl k,c,e,?_⟩
   have q:=x.cell y c e
   rw[vM ndP hp hu (by show scope.names.lookup y≠_;rw[k];decide)]at q
   exact q
 ·exact e0.bP.fresh (le_of_lt (x.above y c (PySem.mem_of_lookup h)))
 ·unfold start
  show _=N.length
  rw[length_append,length_map,length_replicate]
  omega
theorem aa4 {f:Addr} {name:Str} {params:Arguments} {dV kV doc pm cdv ct oc:Value} {an od:Option Addr}
  {osl:Array (Option Value)} (lk:K.lookup f=some ⟨oc,od,.func (fnOf name qual params body scope dV kV doc pm an cdv ct),osl⟩) (hcd:codeIn K cdv qual=true) (S:o8 N ps scope)
  (len:∀vs H Q E,sp vs H Q E->vs.length=ps.length)
  (hbody:∀(A:Around) (outer:List Env) (s:Shared) (H:Hp) (vs:List V) (Q:VK) (E:XK),dX k (A.deeper (envOfC qual scope s.heap.objs.size f cdv))->sp vs H Q E->
   ∃t,GA (DB CX P w K mg base N qual scope f cdv A outer s H E) body t/\t {nx:=fun _ H'=>Q .bA H',rt:=Q} (start N vs) H):
  pA P w K mg base CX (k+1) f (fnOf name qual params body scope dV kV doc pm an cdv ct) ps sp:=by
 refine⟨len,fun A outer s H args us vs Q E hr e0 hb r hsp=>?_⟩
 have hl:=len _ _ _ _ hsp
 have KX:K.In s.heap:=e0.mod.kin.keeps fun b o e=>(e0.bs b o e).1
 have lim:s.heap.NoLimit:=e0.mod.nolimit.keeps fun b o e=>(e0.bs b o e).1
 have hkind:∀y∈ps.zip us,scope.names.lookup y.1=some .local\/ (scope.names.lookup y.1=some .cell/\((cellsFrom (s.heap.objs.size+1) scope.names []).lookup y.1).isSome=true):=fun⟨n,v⟩ hy=>by
  rcases S.par n (of_mem_zip hy).1 with q|q
  ·exact .inl q
  ·exact .inr ⟨q,PySem.W.cellsFrom_some _ _ _ (.inl q)⟩
 refine codeAny_call_function hr.depth (KX _ _ lk) rfl S.co S.gen rfl (PySem.W.codeRec_of KX hcd) (hb _ _ _ _ ?_)
 refine wpAny_newFunctionEnv_cells S.kind hkind fun env he s1 x=>?_
 subst he
 refine⟨lim.keeps x.toInCall.keep,codeAny_func ?_⟩
 obtain⟨t,ht,hq⟩:=hbody A outer s H vs Q E (hr.deeper _) hsp
 have I:Inv (DB CX P w K mg base N qual scope f cdv A outer s H E) [] (start N vs) H s1:=JA S hr.hd e0 hl r x
 refine wpAny_mono (ht [] s1 (start N vs) H _ I hq) (fun fl s' hs=>?_) fun e s' hs=>hs
 have fin:∀{σ':St} {H':Hp} {v:V} {u:Value},Inv (DB CX P w K mg base N qual scope f cdv A outer s H E) [] σ' H' s'->RelV v u->Q v H'->CE outer P w H s Q u s':=
  fun{σ' H' v u} J rv q=>⟨v,H',J.os,J.bare,J.base,J.bP,rv,q⟩
 cases fl with
 |ret u=>
  obtain⟨v,σ',H',J,rv,q⟩:=hs
  exact fin J rv q
 |next=>
  obtain⟨σ',H',J,q⟩:=hs
  exact fin (v:=V.bA) (u:=Value.none) J rfl q
 |brk=>
  obtain⟨_,_,_,q⟩:=hs
  exact False.elim q
 |cont=>
  obtain⟨_,_,_,q⟩:=hs
  exact False.elim q
section
variable {X:Cx} {x:Str} {p pos:Pos} {e:Expr} {es:List Expr} {t:TA} {id T:String} {r:List V->Hp->VK->Prop}
noncomputable def ZM (r:List V->Hp->VK->Prop) (t:TA):TE:=fun σ H Q=>t σ H fun vs H1=>r vs H1 Q
theorem bN (hc:cH X (.builtin id) r) (hg:Gl X x) (hm:X.mg x=none) (hv:bootBuiltins x=some (.builtin id)) (ha:PA X (e::es) t) (hn:x≠"__name__":=by decide) (hdb:(x==("__debug__":Str))=false:=by decide)
  (he:starEach (e::es) X.env=(false,eval e X.env)::starEach es X.env:=by rfl) (hpl:(backTo pos (starEach es X.env)).any (·.1)=false:=by rfl):PE X (.Call (.Name x p) (e::es) [] pos) (ZM r t):=by
 intro pins s σ H Q I h
 refine wpAny_Call_Name_kw (qE I hg hm hv ?_ hn hdb)
 exact PyProof.Rows.callWith_builtin1 (cP (ha pos pins s σ H _ I h) fun us s1 ⟨vs,H1,I1,r1,q1⟩=>hc pins s1 σ H1 vs us Q I1 r1 q1) he hpl
theorem cJ (hc:cH X (.type T) r) (hg:Gl X x) (hm:X.mg x=none) (hv:bootBuiltins x=some (.type T)) (ha:PA X (e::es) t) (hn:x≠"__name__":=by decide) (hdb:(x==("__debug__":Str))=false:=by decide)
  (he:starEach (e::es) X.env=(false,eval e X.env)::starEach es X.env:=by rfl) (hpl:(backTo pos (starEach es X.env)).any (·.1)=false:=by rfl):PE X (.Call (.Name x p) (e::es) [] pos) (ZM r t):=by
 intro pins s σ H Q I h
 refine wpAny_Call_Name_kw (qE I hg hm hv ?_ hn hdb)
 exact PyProof.Rows.callWith_type1 (cP (ha pos pins s σ H _ I h) fun us s1 ⟨vs,H1,I1,r1,q1⟩=>hc pins s1 σ H1 vs us Q I1 r1 q1) he hpl
end
end L2
namespace HT
open PySem PyProof.Rows
variable {sl t:Addr} {vl vu:Value} {Q:Value->Shared->Prop}
section
variable {prog:Program} {w:World} {A:Around} {E:Value->Shared->Prop} {s:Shared}
theorem QE {b:Addr} {vs ws:List Value} (ht:IsTup s.heap t vs.toArray) (hb:IsTup s.heap b ws.toArray) (hv:vs≠[])
  (h1:ws=[]->Q (.ref t) s) (h2:ws≠[]->Q (.ref s.heap.objs.size) {s with heap:=s.heap.push {cls:=.type "tuple",data:=.seq (vs++ws).toArray}})
  (hsz:vs.length+ws.length<=sizeLine):wpAny (model prog w) A (binaryOp .Add (.ref t) (.ref b)) Q E s:=by
 obtain⟨⟨cls,dd,data,sl⟩,ho,hc,n,hd⟩:=id ht
 obtain⟨⟨cls2,dd2,data2,sl2⟩,ho2,hc2,n2,hd2⟩:=id hb
 simp only at hc hd hc2 hd2
 subst hc hd hc2 hd2
 have e:vs.toArray++ws.toArray=(vs++ws).toArray:=by simp
 by_cases hw:ws=[]
 ·exact concat_meets ⟨_,ho,rfl⟩ ⟨_,ho2,rfl⟩ noFill_tuple_add seq_tuple_add slot_tuple_add entry_tuple_add (args_tuple_add_2 _ _)
   (tuple_addW1 t b vs.toArray ws.toArray n n2 dd dd2 sl sl2 (by simpa using hv) (by simp[hw])) ⟨ho,ho2,h1 hw⟩
 ·refine concat_meets ⟨_,ho,rfl⟩ ⟨_,ho2,rfl⟩ noFill_tuple_add seq_tuple_add slot_tuple_add entry_tuple_add (args_tuple_add_2 _ _)
   (tuple_addW2 t b vs.toArray ws.toArray n n2 dd dd2 sl sl2 (by simpa using hv) (by simpa using hw) (by rw[size_toArray,size_toArray];exact hsz)) ⟨ho,ho2,?_⟩
  rw[e]
  exact h2 hw
noncomputable def eT (n d:Nat):Option Int->Nat
 |none=>d
 |some v=>if v<0 then(v+(n:Int)).toNat else min v.toNat n
theorem BF (n d:Nat):eT n d none=d:=rfl
theorem FL (n d k:Nat):eT n d (some (k:Int))=min k n:=by
 show(if(k:Int)<0 then((k:Int)+(n:Int)).toNat else min (k:Int).toNat n)=min k n
 rw[if_neg (by omega),toNat_natCast]
theorem X7 (n d:Nat) (hd:d<=n) (o:Option Int):eT n d o<=n:=by
 cases o with
 |none=>exact hd
 |some v=>
  show(if v<0 then(v+(n:Int)).toNat else min v.toNat n)<=n
  by_cases hv:v<0
  ·rw[if_pos hv];omega
  ·rw[if_neg hv];exact Nat.min_le_right _ _
theorem F1 (v:Int) (n d:Nat):(if v<0 then max (v+(n:Int)) 0 else min v (n:Int))=((eT n d (some v):Nat):Int):=by
 show(if v<0 then max (v+(n:Int)) 0 else min v (n:Int))=(((if v<0 then(v+(n:Int)).toNat else min v.toNat n):Nat):Int)
 by_cases hv:v<0
 ·simp only[if_pos hv];omega
 ·simp only[if_neg hv];omega
theorem DR (lo hi:Option Int) (n:Nat):Builtin.Slice.sliceAdjust lo hi 1 (n:Int)=(((eT n 0 lo:Nat):Int),((eT n n hi:Nat):Int)):=by
 have h1:¬((1:Int)<0):=by omega
 unfold Builtin.Slice.sliceAdjust
 simp only[h1,if_false]
 refine Prod.ext ?_ ?_
 ·cases lo with
  |none=>rfl
  |some v=>exact F1 v n 0
 ·cases hi with
  |none=>rfl
  |some v=>exact F1 v n n
theorem C8 (i j:Nat):Builtin.Slice.slicePlaces (i:Int) (j:Int) 1=j - i:=by
 unfold Builtin.Slice.slicePlaces
 have h1:(1:Int)>0:=by omega
 simp only[h1,if_true,Int.ediv_one]
 split<;>omega
theorem sQ {v:Value} {o:Option Int} {Q:Option Int->Shared->Prop} (p:IsPart v o) (h:Q o s):wpAny (model prog w) A (Builtin.Slice.slicePartIndex v) Q E s:=by
 cases p with
 |none=>exact slicePart_none h
 |int i t=>exact slicePart_int h
theorem kC {lo hi:Option Int} {n:Nat} {Q:Int×Int×Nat->Shared->Prop} (hs:s.heap.IsSliceOf sl vl vu .none) (pl:IsPart vl lo) (pu:IsPart vu hi)
  (h:Q (((eT n 0 lo:Nat):Int),1,eT n n hi - eT n 0 lo) s):wpAny (model prog w) A (Builtin.Slice.sliceApplied (.ref sl) (pure (n:Int))) Q E s:=by
 obtain⟨os,hos,hcs,hds⟩:=id hs
 unfold Builtin.Slice.sliceApplied Builtin.Slice.sliceFields
 refine wpAny_bind (wpAny_bind (wpAny_field hos hds (x:=vl) rfl (wpAny_bind (wpAny_field hos hds (x:=vu) rfl (wpAny_bind (wpAny_field hos hds (x:=.none) rfl (wpAny_pure ?_)))))))
 refine wpAny_bind (slicePart_none ?_)
 show wpAny _ _ (if((1:Int)==0)=true then _ else _) _ _ s
 rw[if_neg (by decide)]
 refine wpAny_bind (sQ pl (wpAny_bind (sQ pu (wpAny_bind (wpAny_pure ?_)))))
 show wpAny _ _ (match Builtin.Slice.sliceAdjust lo hi 1 (n:Int)with|(lo,hi)=>pure (lo,(1:Int),Builtin.Slice.slicePlaces lo hi 1)) _ _ s
 rw[DR lo hi n]
 show wpAny _ _ (pure (((eT n 0 lo:Nat):Int),(1:Int),Builtin.Slice.slicePlaces ((eT n 0 lo:Nat):Int) ((eT n n hi:Nat):Int) 1)) _ _ s
 rw[C8]
 exact wpAny_pure h
theorem MD (xs:Array Value) (i k:Nat):((List.range k).filterMap fun(m:Nat)=>xs[((i:Int)+(m:Int)*1).toNat]?).toArray=((xs.toList.drop i).take k).toArray:=by
 have e:(fun(m:Nat)=>xs[((i:Int)+(m:Int)*1).toNat]?)=fun m=>xs[i+m]?:=by
  funext m
  have:((i:Int)+(m:Int)*1).toNat=i+m:=by omega
  rw[this]
 rw[e]
 have:=pick_run xs i k
 rw[List.filterMap_map]at this
 have e2:((fun x=>xs[x]?)∘fun x=>i+x)=fun m=>xs[i+m]?:=rfl
 rw[e2]at this
 rw[this]
theorem pL {items:Array Value} {lo hi:Option Int} (ht:IsTup s.heap t items) (hs:s.heap.IsSliceOf sl vl vu .none) (pl:IsPart vl lo) (pu:IsPart vu hi)
  (hw:¬(eT items.size 0 lo=0/\eT items.size items.size hi=items.size))
  (h:Q (.ref s.heap.objs.size) {s with heap:=s.heap.push {cls:=.type "tuple",data:=.seq ((items.toList.drop (eT items.size 0 lo)).take (eT items.size items.size hi - eT items.size 0 lo)).toArray}})
  (hsz:items.size<=sizeLine):wpAny (model prog w) A (getItem (.ref t) (.ref sl)) Q E s:=by
 have htake:sizeOk (.seq ((items.toList.drop (eT items.size 0 lo)).take (eT items.size items.size hi - eT items.size 0 lo)).toArray):=by
  show((items.toList.drop (eT items.size 0 lo)).take (eT items.size items.size hi - eT items.size 0 lo)).toArray.size<=sizeLine
  rw[size_toArray,length_take,length_drop,length_toList]
  omega
 have hj:eT items.size items.size hi<=items.size:=X7 _ _ (le_refl _) hi
 obtain⟨os,hos,hcs,hds⟩:=id hs
 have hTs:s.TypeIs (.ref sl) "slice":=⟨os,hos,hcs⟩
 unfold getItem
 try with_reducible refine wpAny_holding ?_
 first|refine wpAny_bind (wpAny_pure ?_)|skip
 refine wpAny_bind (wpAny_sequenceKey ht.typeIs (by decide) ?_)
 refine wpAny_bind (wpAny_callSpecial?_slot (name:=Str.ofString "__getitem__") ht.typeIs PyProof.Rows.slot_tuple_getitem
  (wpAny_call_entry PyProof.Rows.slot_tuple_getitem ht.typeIs entry_tuple_getitem ?_ (args_tuple_getitem _ _)))
 show wpAny _ _ (Builtin.Tuple.tupleItemsOf (.ref t)>>=_) _ _ s
 refine wpAny_bind (tupleItemsOf_ ht ?_)
 refine wpAny_bind (wpAny_typeOf hTs ?_)
 rw[if_pos (by decide)]
 refine wpAny_bind (kC hs pl pu ?_)
 have hno:¬((((eT items.size 0 lo:Nat):Int)==0 && (1:Int)==1 && (eT items.size items.size hi - eT items.size 0 lo)==items.size)=true):=by
  intro q
  rw[and_eq_true,and_eq_true]at q
  have q1:((eT items.size 0 lo:Nat):Int)=0:=eq_of_beq q.1.1
  have q2:eT items.size items.size hi - eT items.size 0 lo=items.size:=eq_of_beq q.2
  exact hw ⟨by omega,by omega⟩
 show wpAny _ _ (if(((eT items.size 0 lo:Nat):Int)==0 && (1:Int)==1 && (eT items.size items.size hi - eT items.size 0 lo)==items.size)=true then _ else _) _ _ s
 rw[if_neg hno,MD]
 first
  |exact wpAny_bind (m:=Builtin.Tuple.tupleExact _) (wpAny_newObj_type (wpAny_pure ⟨_,rfl,wpAny_pure h⟩) htake)
  |exact wpAny_bind (m:=Builtin.Tuple.tupleExact _) (wpAny_newObj_type (wpAny_bind (wpAny_pure (wpAny_pure ⟨_,rfl,wpAny_pure h⟩))) htake)
  |exact wpAny_bind (wpAny_bind (m:=Builtin.Tuple.tupleExact _) (wpAny_newObj_type (wpAny_pure (wpAny_pure ⟨_,rfl,wpAny_pure h⟩)) htake))
  |exact wpAny_bind (wpAny_bind (m:=Builtin.Tuple.tupleExact _) (wpAny_newObj_type (wpAny_pure ⟨_,rfl,wpAny_pure h⟩) htake))
end
end HT
namespace L2
open PySem PySem.Spec PyProof.Rows
variable {H:Hp} {pins:List (Addr×Obj)} {xs:List V} {its its':List Value} {j n:Nat} {s:Shared} {σ:St} {α:Type} {r:V->Option Int->Option Int->Hp->VK->Prop}
noncomputable abbrev TO:=St->Hp->(Option Int->Hp->Prop)->Prop
noncomputable def PO (X:Cx) (e:Option Expr) (t:TO):Prop:=
 ∀(pins:List (Addr×Obj)) (s:Shared) (σ:St) (H:Hp) (Q:Option Int->Hp->Prop),Inv X pins σ H s->t σ H Q->
  wpAny (model X.prog X.w) X.A (evalPart e X.env) (fun u s'=>∃o H',Inv X pins σ H' s'/\IsPart u o/\Q o H') X.xe s
noncomputable def FQ:TO:=fun _ H Q=>Q none H
noncomputable def S1 (t:TE):TO:=fun σ H Q=>t σ H fun x H1=>∃i,x= .int i/\Q (some i) H1
section
variable {X:Cx} {e:Expr} {te:TE} {lo hi:Option Expr} {tl th:TO} {pos p2:Pos}
theorem k7:PO X none FQ:=by
 intro pins s σ H Q I h
 rw[evalPart_none]
 exact wpAny_pure ⟨none,H,I,.none,h⟩
theorem kY (h:PE X e te):PO X (some e) (S1 te):=by
 intro pins s σ H Q I hw
 rw[evalPart_some]
 refine cP (h pins s σ H _ I hw) fun u s1 ⟨x,H1,I1,r1,q1⟩=>?_
 obtain⟨i,rfl,q⟩:=q1
 obtain⟨t,rfl⟩:=r1
 exact⟨some i,H1,I1,.int i t,q⟩
noncomputable def JD (X:Cx) (r:V->Option Int->Option Int->Hp->VK->Prop):Prop:=
 ∀(pins:List (Addr×Obj)) (s:Shared) (σ:St) (H:Hp) (x:V) (v vl vu:Value) (lo hi:Option Int) (sl:Addr) (Q:VK),Inv X pins σ H s->RelV x v->s.heap.IsSliceOf sl vl vu .none->IsPart vl lo->IsPart vu hi->r x lo hi H Q->
  ∃T id,typeLookup (.type T) "__getitem__"=pure (some (.builtin id))/\s.TypeIs v T/\wpAny (model X.prog X.w) X.A (getItem v (.ref sl)) (EP X pins σ Q) X.xe s
theorem JD.or {r':V->Option Int->Option Int->Hp->VK->Prop} (h:JD X r) (h':JD X r'):JD X (fun x lo hi H Q=>r x lo hi H Q\/ r' x lo hi H Q):=by
 intro pins s σ H x v vl vu lo hi sl Q I rx hs pl pu q
 rcases q with q|q
 ·exact h pins s σ H x v vl vu lo hi sl Q I rx hs pl pu q
 ·exact h' pins s σ H x v vl vu lo hi sl Q I rx hs pl pu q
noncomputable def tSl (r:V->Option Int->Option Int->Hp->VK->Prop) (te:TE) (tl th:TO):TE:=fun σ H Q=>te σ H fun x H1=>tl σ H1 fun l H2=>th σ H2 fun u H3=>r x l u H3 Q
theorem iG (hr:JD X r) (he:PE X e te) (hl:PO X lo tl) (hu:PO X hi th):PE X (.Subscript e (.Slice lo hi none p2) pos) (tSl r te tl th):=by
 intro pins s σ H Q I h
 refine Subscript_ (cP (he pins s σ H _ I h) fun v s1 ⟨x,H1,I1,r1,q1⟩=>?_)
 refine wpAny_Slice (cP (hl pins s1 σ H1 _ I1 q1) fun vl s2 ⟨l,H2,I2,pl,q2⟩=>cP (hu pins s2 σ H2 _ I2 q2) fun vu s3 ⟨u,H3,I3,pu,q3⟩=>?_)
 rw[evalPart_none]
 refine wpAny_pure ?_
 have I4:Inv X pins σ H3 {s3 with heap:=s3.heap.push {cls:=.type "slice",data:=.fields #[vl,vu,.none]}}:=I3.kept (t':=s3.toks) fun b ob q=>get?_push_of_some _ q
 obtain⟨T,id,hT,ht,hg⟩:=hr pins {s3 with heap:=s3.heap.push {cls:=.type "slice",data:=.fields #[vl,vu,.none]}} σ H3 x v vl vu l u s3.heap.objs.size Q I4 r1 (Heap.IsSliceOf.new ..) pl pu q3
 show wpAny (model X.prog X.w) X.A (subscriptTail e (.Slice lo hi none p2) v (.ref s3.heap.objs.size)) (EP X pins σ Q) X.xe {s3 with heap:=s3.heap.push {cls:=.type "slice",data:=.fields #[vl,vu,.none]}}
 exact tail_any (ops:=[.ref s3.heap.objs.size,v]) ht hT hg (by with_unfolding_all rfl)
noncomputable def uF (xs:List V) (lo hi:Option Int):List V:=(xs.drop (HT.eT xs.length 0 lo)).take (HT.eT xs.length xs.length hi - HT.eT xs.length 0 lo)
theorem qQ (xs:List V) (lo hi:Option Int):(uF xs lo hi).length<=xs.length:=by
 unfold uF
 rw[length_take,length_drop]
 omega
noncomputable def ad1 (K:Frag):V->Option Int->Option Int->Hp->VK->Prop:=fun x lo hi H Q=>∃a xs,x= .ref a/\nE K H a xs/\
 ¬(HT.eT xs.length 0 lo=0/\HT.eT xs.length xs.length hi=xs.length)/\∀p,H p=none->Q (.ref p) (upd H p (.tup (uF xs lo hi)))
theorem W6:JD X (ad1 X.K):=by
 intro pins s σ H x v vl vu lo hi sl Q I rx hs pl pu h
 obtain⟨a,xs,rfl,hx,hw,q⟩:=h
 cases rx
 obtain⟨its,r,ht,hz⟩:=I.tuple hx
 have hlen:its.toArray.size=xs.length:=by rw[size_toArray];exact r.length.symm
 refine⟨"tuple",_,PyProof.Rows.slot_tuple_getitem.lookup,ht.typeIs,?_⟩
 refine HT.pL ht hs pl pu (by rw[hlen];exact hw) ?_ (by rw[hlen];exact hz)
 rw[hlen]
 refine⟨.ref s.heap.objs.size,_,I.laid (t':=s.toks) (o:=.tup (uF xs lo hi)) (fun b ob q=>get?_push_of_some _ q) (le_refl _) ?_,rfl,q _ (I.bP.fresh (le_refl _))⟩
 exact⟨le_trans (qQ xs lo hi) hz,_,(r.drop (HT.eT xs.length 0 lo)).take (HT.eT xs.length xs.length hi - HT.eT xs.length 0 lo),pG.new _ _⟩
theorem Vals.EO {us:List Value} (r:Vals xs us):us=[]↔xs=[]:=by
 cases r with
 |nil=>simp
 |cons _ _=>simp
end
noncomputable def rY (n:Nat) (i:Int):Option Nat:=if 0<=i then(if i<n then some i.toNat else none)else if -(n:Int)<=i then some (i+n).toNat else none
noncomputable def oN (xs:List α) (i:Int):Option α:=(rY xs.length i).bind fun j=>xs[j]?
theorem FU {i:Int} (h:rY n i=some j):seqIndex? i n=some j/\j<n/\ -(n:Int)<=i/\i<n:=by
 unfold rY at h
 by_cases h0:0<=i
 ·rw[if_pos h0]at h
  by_cases h1:i<n
  ·rw[if_pos h1]at h
   have e:i.toNat=j:=Option.some.inj h
   exact⟨by rw[seqIndex_of h0 h1,e],by omega,by omega,h1⟩
  ·rw[if_neg h1]at h;cases h
 ·rw[if_neg h0]at h
  by_cases h1: -(n:Int)<=i
  ·rw[if_pos h1]at h
   have e:(i+n).toNat=j:=Option.some.inj h
   exact⟨by rw[seqIndex_neg (by omega) h1,e],by omega,h1,by omega⟩
  ·rw[if_neg h1]at h;cases h
theorem y9 {xs:List α} {i:Int} {v:α} (h:oN xs i=some v):∃j,seqIndex? i xs.length=some j/\xs[j]? =some v/\j<xs.length/\ -(xs.length:Int)<=i/\i<xs.length:=by
 unfold oN at h
 cases e:rY xs.length i with
 |none=>rw[e]at h;cases h
 |some j=>
  rw[e]at h
  obtain⟨h1,h2,h3,h4⟩:=FU e
  exact⟨j,h1,h,h2,h3,h4⟩
theorem gX {xs:List α} {v:α} (h:xs[j]? =some v):oN xs (j:Int)=some v:=by
 have hj:j<xs.length:=(List.getElem?_eq_some_iff.mp h).1
 have e:rY xs.length (j:Int)=some j:=by
  unfold rY
  rw[if_pos (by omega),if_pos (by omega)];simp
 unfold oN;rw[e];exact h
noncomputable def QI (b:Expr):Prop:=∀o i,subscripted b false o i=operate [o,i] (getItem o i)
noncomputable def DP (X:Cx) (r:R2):Prop:=
 ∀(value slice:Expr) (pins:List (Addr×Obj)) (s:Shared) (σ:St) (H:Hp) (x y:V) (v u:Value) (Q:VK),Inv X pins σ H s->RelV x v->RelV y u->r x y H Q->
  subscripted slice false v u=operate [v,u] (getItem v u)->wpAny (model X.prog X.w) X.A (subscriptTail value slice v u) (EP X pins σ Q) X.xe s
noncomputable def MtR (X:Cx) (id:String) (r:V->List V->Hp->VK->Prop):Prop:=
 ∀(pins:List (Addr×Obj)) (s:Shared) (σ:St) (H:Hp) (x:V) (xs:List V) (v:Value) (us:List Value) (Q:VK),Inv X pins σ H s->RelV x v->Vals xs us->r x xs H Q->
  wpAny (model X.prog X.w) X.A (call (.builtin id) (v::us)) (EP X pins σ Q) X.xe s
section
variable {X:Cx} {a b:Expr} {ta tb:TE} {pos:Pos}
theorem DP.or {r r':R2} (h:DP X r) (h':DP X r'):DP X (fun x y H Q=>r x y H Q\/ r' x y H Q):=by
 intro value slice pins s σ H x y v u Q I rx ry q hs
 rcases q with q|q
 ·exact h value slice pins s σ H x y v u Q I rx ry q hs
 ·exact h' value slice pins s σ H x y v u Q I rx ry q hs
theorem a9 {r:R2} (hr:DP X r) (ha:PE X a ta) (hb:PE X b tb) (hs:QI b):PE X (.Subscript a b pos) (ZT r ta tb):=by
 intro pins s σ H Q I h
 exact Subscript_ (WL ha hb I h fun v u s2 x y H2 I2 rx ry q=>hr a b pins s2 σ H2 x y v u Q I2 rx ry q (hs _ _))
noncomputable def YH (K:Frag):R2:=fun x y H Q=>∃p xs i v,x= .ref p/\y= .int i/\iB K H p xs/\oN xs i=some v/\Q v H
noncomputable def WE (K:Frag):R2:=fun x y H Q=>∃p xs i v,x= .ref p/\y= .int i/\nE K H p xs/\oN xs i=some v/\Q v H
noncomputable def aaH:R2:=fun x y H Q=>∃z i c,x= .str z/\y= .int i/\z.length<=sizeLine/\oN z.cps.toList i=some c/\Q (.str ⟨#[c]⟩) H
theorem RS:DP X (YH X.K):=by
 intro value slice pins s σ H x y v u Q I rx ry h hs
 obtain⟨p,xs,i,z,rfl,rfl,hq,he,q⟩:=h
 cases rx
 obtain⟨t,rfl⟩:=ry
 obtain⟨its,r,pl,hz⟩:=I.list hq
 obtain⟨j,h1,h2,h3,h4,h5⟩:=y9 he
 obtain⟨w,ew,rw'⟩:=r.get h2
 have hl:=r.length
 have hn:=nV
 have fin:EP X pins σ Q w s:=⟨z,H,I,rw',q⟩
 by_cases h0:0<=i
 ·have hj:i.toNat=j:=by
   rw[seqIndex_of h0 h5]at h1
   exact Option.some.inj h1
  exact item_listR pl.isList h0 (by omega) (by rw[hj];simpa using ew) fin hs
 ·have hj:(i+(its.toArray.size:Int)).toNat=j:=by
   rw[seqIndex_neg (by omega) h4]at h1
   rw[size_toArray,<-hl]
   exact Option.some.inj h1
  exact subscriptTail_builtinR (x:=w) pl.isList.typeIs slot_list_getitem.lookup
   (wpAny_getItem_list_neg (Q:=fun r s'=>r=w/\EP X pins σ Q r s') pl.isList (by omega) (by rw[size_toArray]<;>omega) (by omega) (by rw[hj];simpa using ew) ⟨rfl,fin⟩) hs
theorem YT:DP X (WE X.K):=by
 intro value slice pins s σ H x y v u Q I rx ry h hs
 obtain⟨p,xs,i,z,rfl,rfl,hq,he,q⟩:=h
 cases rx
 obtain⟨t,rfl⟩:=ry
 obtain⟨its,r,pl,hz⟩:=I.tuple hq
 obtain⟨j,h1,h2,h3,h4,h5⟩:=y9 he
 obtain⟨w,ew,rw'⟩:=r.get h2
 have hl:=r.length
 have hn:=nV
 have fin:EP X pins σ Q w s:=⟨z,H,I,rw',q⟩
 exact subscriptTail_builtinR (x:=w) pl.typeIs slot_tuple_getitem.lookup
  (getItem_tuple (j:=j) (Q:=fun r s'=>r=w/\EP X pins σ Q r s') pl (by omega) (by omega) (by rw[size_toArray,<-hl];exact h1) (by simpa using ew) ⟨rfl,fin⟩) hs
theorem UL:DP X aaH:=by
 intro value slice pins s σ H x y v u Q I rx ry h hs
 obtain⟨z,i,c,rfl,rfl,hz,he,q⟩:=h
 obtain⟨t,rfl⟩:=rx
 obtain⟨t',rfl⟩:=ry
 obtain⟨j,h1,h2,h3,h4,h5⟩:=y9 he
 have hl:z.cps.toList.length=z.length:=by simp[Str.length]
 rw[hl]at h1 h4 h5
 have hn:=nV
 exact tail_any (typeIs_str s z t) slot_str_getitem.lookup (getItem_str (c:=c) (by
  have e1:decide (i< -(2^63:Int))=false:=decide_eq_false (by omega)
  have e2:decide (i≥2^63)=false:=decide_eq_false (by omega)
  rw[e1,e2,Bool.or_false]) (by rw[h1];simpa using h2) ⟨.str ⟨#[c]⟩,H,I.tok _,⟨_,rfl⟩,q⟩) hs
theorem CM (its:List Value) (n j:Nat) (u:Value):Obj.mapSeq (·.setIfInBounds j u) {cls:=.type "list",data:=.seq its.toArray n}={cls:=.type "list",data:=.seq (its.set j u).toArray n}:=by
 simp[Obj.mapSeq]
theorem Inv.lst {p:Addr} (I:Inv X pins σ H s) (h:H p=some (.lst xs)):
  ∃(its:List Value) (n:Nat),Vals xs its/\s.heap.get? p=some {cls:=.type "list",data:=.seq its.toArray n}/\xs.length<=sizeLine:=by
 obtain⟨z,its,n,r,e⟩:=I.bP p _ h
 exact⟨its,n,r,e,z⟩
theorem Inv.VP {p:Addr} {ys:List V} {n':Nat} {f:Obj->Obj} (I:Inv X pins σ H s) (h:H p=some (.lst xs))
  (ho:s.heap.get? p=some {cls:=.type "list",data:=.seq its.toArray n}) (hf:f {cls:=.type "list",data:=.seq its.toArray n}={cls:=.type "list",data:=.seq its'.toArray n'}) (r:Vals ys its') (hz:ys.length<=sizeLine) (t:Nat):
  Inv X pins σ (upd H p (.lst ys)) {s with heap:=s.heap.update p f,toks:=t}:=by
 have e:(s.heap.update p f).get? p=some {cls:=.type "list",data:=.seq its'.toArray n'}:=by
  rw[get?_update_self f ho (by rw[hf]<;>rfl),hf]
 refine I.write (x:=p) (e:=p) (by rw[h];trivial) (.inl rfl) (fun b u hb q=>(get?_update_other _ _ (Ne.symm hb)).trans q) ⟨_,e⟩ ?_
 exact⟨hz,its',n',r,e⟩
noncomputable def UC:V->V->V->Hp->(Hp->Prop)->Prop:=fun o i v H Q=>∃p xs k j,o= .ref p/\i= .int k/\H p=some (.lst xs)/\rY xs.length k=some j/\Q (upd H p (.lst (xs.set j v)))
theorem set_list:ZW X UC:=by
 intro pins s σ H o i v ov iv u Q I ro ri rv h
 obtain⟨p,xs,k,j,rfl,rfl,hp,hj,q⟩:=h
 cases ro
 obtain⟨t,rfl⟩:=ri
 obtain⟨its,n,r,ho,hz⟩:=I.lst hp
 obtain⟨h1,h2,h3,h4⟩:=FU hj
 have hl:=r.length
 have hn:=nV
 have I':Inv X pins σ (upd H p (.lst (xs.set j v))) {s with heap:=s.heap.update p (Obj.mapSeq (·.setIfInBounds j u))}:=
  I.VP hp ho (CM its n j u) (r.set rv j) (by rw[length_set];exact hz) s.toks
 by_cases h0:0<=k
 ·have hk:k.toNat=j:=by
   rw[seqIndex_of h0 h4]at h1
   exact Option.some.inj h1
  exact PySem.W.ki_setAt ho h0 (by omega) (by rw[size_toArray,<-hl];exact h4) (by rw[hk];exact⟨_,I',q⟩)
 ·have hk:(k+(its.toArray.size:Int)).toNat=j:=by
   rw[seqIndex_neg (by omega) h3]at h1
   rw[size_toArray,<-hl]
   exact Option.some.inj h1
  exact PySem.W.ki_setBack ho (by omega) (by rw[size_toArray,<-hl];exact h3) (by omega) (by rw[hk];exact⟨_,I',q⟩)
theorem yA (lo hi:Option Int) (n:Nat):(sliceBounds lo hi none n).1=((HT.eT n 0 lo:Nat):Int)/\(sliceBounds lo hi none n).2.1=((HT.eT n n hi:Nat):Int)/\(sliceBounds lo hi none n).2.2=1:=by
 refine⟨?_,?_,rfl⟩
 ·cases lo with
  |none=>simp[sliceBounds,HT.eT]
  |some i=>
   simp only[sliceBounds,HT.eT,getD_none,show(1:Int)>0 by decide,if_true]
   by_cases h:i<0
   ·simp only[h,if_true]<;>omega
   ·simp only[h,if_false]<;>omega
 ·cases hi with
  |none=>simp[sliceBounds,HT.eT]
  |some i=>
   simp only[sliceBounds,HT.eT,getD_none,show(1:Int)>0 by decide,if_true]
   by_cases h:i<0
   ·simp only[h,if_true]<;>omega
   ·simp only[h,if_false]<;>omega
theorem vD (its:List Value) (lo hi:Option Int):slicePick its.toArray lo hi none=((its.drop (HT.eT its.length 0 lo)).take (HT.eT its.length its.length hi - HT.eT its.length 0 lo)).toArray:=by
 obtain⟨h1,h2,h3⟩:=yA lo hi its.toArray.size
 unfold slicePick
 rw[h1,h2,h3]
 simp only[sliceRange_one,pick_run,size_toArray]<;>rfl
noncomputable def VV (K:Frag):V->Option Int->Option Int->Hp->VK->Prop:=fun x lo hi H Q=>∃a xs,x= .ref a/\iB K H a xs/\∀p,H p=none->Q (.ref p) (upd H p (.lst (uF xs lo hi)))
theorem OY:JD X (VV X.K):=by
 intro pins s σ H x v vl vu lo hi sl Q I rx hs pl pu h
 obtain⟨a,xs,rfl,hx,q⟩:=h
 cases rx
 obtain⟨its,r,ht,hz⟩:=I.list hx
 have hlen:=r.length
 refine⟨"list",_,slot_list_getitem.lookup,ht.isList.typeIs,?_⟩
 refine wpAny_getItem_list_slice ht.isList hs pl pu .none (by simp) ?_ (by rw[size_toArray]<;>omega)
 rw[vD,<-hlen]
 refine⟨.ref s.heap.objs.size,_,I.laid (t':=s.toks) (o:=.lst (uF xs lo hi)) (fun b ob q=>get?_push_of_some _ q) (le_refl _) ?_,rfl,q _ (I.bP.fresh (le_refl _))⟩
 exact⟨le_trans (qQ xs lo hi) hz,_,0,(r.drop (HT.eT xs.length 0 lo)).take (HT.eT xs.length xs.length hi - HT.eT xs.length 0 lo),get?_push_size _ rfl⟩
theorem yV:cH X (.builtin "len") (fun xs H Q=>∃p ys,xs=[.ref p]/\(iB X.K H p ys\/ nE X.K H p ys)/\Q (.int ys.length) H):=by
 intro pins s σ H xs us Q I r h
 obtain⟨p,ys,rfl,hq,q⟩:=h
 obtain⟨u,rfl,rx⟩:=vals1 r
 cases rx
 have hn:=nV
 rcases hq with hq|hq
 ·obtain⟨its,r',pl,hz⟩:=I.list hq
  have hlen:=r'.length
  exact Calls.call_len_list pl.isList (by simp only[size_toArray]<;>omega) ⟨.int ys.length,H,I.tok _,⟨s.toks+1,by rw[size_toArray,hlen]⟩,q⟩
 ·obtain⟨its,r',pl,hz⟩:=I.tuple hq
  have hlen:=r'.length
  exact len_tuple pl (by simp only[size_toArray]<;>omega) ⟨.int ys.length,H,I.tok _,⟨s.toks+1,by rw[size_toArray,hlen]⟩,q⟩
theorem y7:cH X (.builtin "len") (fun xs H Q=>∃z,xs=[.str z]/\z.length<=sizeLine/\Q (.int z.length) H):=by
 intro pins s σ H xs us Q I r h
 obtain⟨z,rfl,hz,q⟩:=h
 obtain⟨u,rfl,t,rfl⟩:=vals1 r
 have hn:=nV
 exact len_str (by omega) ⟨.int z.length,H,I.tok _,⟨_,rfl⟩,q⟩
theorem cH.or {f:Value} {r r':List V->Hp->VK->Prop} (h:cH X f r) (h':cH X f r'):cH X f (fun xs H Q=>r xs H Q\/ r' xs H Q):=by
 intro pins s σ H xs us Q I rs q
 rcases q with q|q
 ·exact h pins s σ H xs us Q I rs q
 ·exact h' pins s σ H xs us Q I rs q
theorem yH:cH X (.type "list") (fun xs H Q=>∃p ys,xs=[.ref p]/\(iB X.K H p ys\/ nE X.K H p ys)/\∀l,H l=none->Q (.ref l) (upd H l (.lst ys))):=by
 intro pins s σ H xs us Q I r h
 obtain⟨p,ys,rfl,hq,q⟩:=h
 obtain⟨u,rfl,rx⟩:=vals1 r
 cases rx
 have fin:∀(its:List Value),Vals ys its->ys.length<=sizeLine->∀(h':Heap) (c':Nat),(∀b o',s.heap.get? b=some o'->h'.get? b=some o')->
   h'.get? s.heap.objs.size=some {cls:=.type "list",dict:=none,data:=.seq its.toArray c',slots:= #[]}->EP X pins σ Q (.ref s.heap.objs.size) {s with heap:=h'}:=fun its r' hz h' c' kp e=>
  ⟨.ref s.heap.objs.size,_,I.laid (t':=s.toks) kp (le_refl _) (show dI X.prog X.w _ h' _ (.lst ys)from⟨hz,its,c',r',e⟩),rfl,q _ (I.bP.fresh (le_refl _))⟩
 rcases hq with hq|hq
 ·obtain⟨its,r',pl,hz⟩:=I.list hq
  have hlen:=r'.length
  obtain⟨o,ho,hc,n,hd⟩:=pl.isList
  exact call_list_seq p (.inl rfl) ho hc hd (fun h' c' kp e=>fin its r' hz h' c' kp e) (by simp only[size_toArray]<;>omega)
 ·obtain⟨its,r',pl,hz⟩:=I.tuple hq
  have hlen:=r'.length
  obtain⟨o,ho,hc,n,hd⟩:=pl
  exact call_list_seq p (.inr rfl) ho hc hd (fun h' c' kp e=>fin its r' hz h' c' kp e) (by simp only[size_toArray]<;>omega)
theorem vC:cH X (.type "tuple") (fun xs H Q=>∃p ys,xs=[.ref p]/\((iB X.K H p ys/\∀l,H l=none->Q (.ref l) (upd H l (.tup ys)))\/ (nE X.K H p ys/\Q (.ref p) H))):=by
 intro pins s σ H xs us Q I r h
 obtain⟨p,ys,rfl,h⟩:=h
 obtain⟨u,rfl,rx⟩:=vals1 r
 cases rx
 rcases h with⟨hq,q⟩|⟨hq,q⟩
 ·obtain⟨its,r',pl,hz⟩:=I.list hq
  have hlen:=r'.length
  refine call_tuple_list pl.isList (fun h' kp=>?_) (by simp only[size_toArray]<;>omega)
  have I1:Inv X pins σ H {s with heap:=h'}:=I.kept (t':=s.toks) kp
  have I2:Inv X pins σ (upd H h'.objs.size (.tup ys)) {s with heap:=h'.push {cls:=.type "tuple",data:=.seq its.toArray}}:=
   I1.laid (t':=s.toks) (fun b o e=>get?_push_of_some _ e) (le_refl _) (show dI X.prog X.w _ _ _ (.tup ys)from⟨hz,its,r',pG.new _ _⟩)
  exact⟨.ref h'.objs.size,_,I2,rfl,q _ (I1.bP.fresh (le_refl _))⟩
 ·obtain⟨its,r',pl,hz⟩:=I.tuple hq
  exact call_tuple_same pl ⟨.ref p,H,I,rfl,q⟩
noncomputable def tyV (K:Frag) (T:String) (x:V) (H:Hp):Prop:=match x with
 | .str _=>T="str"
 | .int _=>T="int"
 | .ref p=>(T="list"/\∃xs,iB K H p xs)\/ (T="tuple"/\∃o,K.lookup p=some o/\o.cls= .type "tuple"/\o.dict=none)\/
   (T="dict"/\((∃kvs ep,H p=some (.dK kvs ep))\/ ∃kvs,H p=some (.dT kvs)))\/ (T="set"/\∃S n,H p=some (.set S n))
 |_=>False
theorem ZG {T:String} {x:V} {v:Value} (I:Inv X pins σ H s) (r:RelV x v) (ty:tyV X.K T x H):
  s.TypeIs v T/\∀a,v= .ref a->∃ob,s.heap.get? a=some ob/\ob.dict=none:=by
 cases x with
 |str z=>
  obtain⟨t,rfl⟩:=r
  cases(show T="str"from ty)
  exact⟨typeIs_str s z t,fun _ e=>nomatch e⟩
 |int i=>
  obtain⟨t,rfl⟩:=r
  cases(show T="int"from ty)
  exact⟨typeIs_int s i t,fun _ e=>nomatch e⟩
 | ref p=>
  cases r
  rcases ty with⟨rfl,xs,hq⟩|⟨rfl,o,hk,hc,hd⟩|⟨rfl,hk⟩|⟨rfl,S,n,hk⟩
  ·obtain⟨its,_,pl,_⟩:=I.list hq
   refine⟨pl.isList.typeIs,fun a e=>?_⟩
   cases e
   obtain⟨o,n,e,c,hd,_⟩:=pl
   exact⟨o,e,hd⟩
  ·refine⟨⟨o,I.G1 p o hk,hc⟩,fun a e=>?_⟩
   cases e
   exact⟨o,I.G1 _ o hk,hd⟩
  ·have z:∃o,s.heap.get? p=some o/\o.ExactDict:=by
    rcases hk with⟨kvs,ep,hk⟩|⟨kvs,hk⟩
    ·obtain⟨_,_,_,_,o,_,e,ex,_⟩:=I.bP p _ hk
     exact⟨o,e,ex⟩
    ·obtain⟨_,_,_,_,o,_,_,e,ex,_⟩:=I.bP p _ hk
     exact⟨o,e,ex⟩
   obtain⟨o,e,ex⟩:=z
   refine⟨⟨o,e,ex.1⟩,fun a e2=>?_⟩
   cases e2
   exact⟨o,e,ex.2.1⟩
  ·obtain⟨o,_,_,_,e,ex,_⟩:=I.bP p _ hk
   refine⟨⟨o,e,ex.1⟩,fun a e2=>?_⟩
   cases e2
   exact⟨o,e,ex.2.1⟩
 |_=>exact False.elim ty
noncomputable def ZR (K:Frag) (T:String) (r:V->List V->Hp->VK->Prop) (to:TE) (t:TA):TE:=fun σ H Q=>to σ H fun x H1=>tyV K T x H1/\t σ H1 fun xs H2=>r x xs H2 Q
variable {o e:Expr} {es:List Expr} {to:TE} {t:TA} {name:Str} {apos cpos:Pos} {T id:String} {r:V->List V->Hp->VK->Prop}
theorem ZX (pa:PlainAttrs T) (slot:Slot T name id) (hty:typeOf (.builtin id)=pure (.type "method_descriptor")) (hm:MtR X id r) (ho:PE X o to) (ha:PA X (e::es) t)
  (hbase:attributeBase o name X.env (eval o X.env)=eval o X.env:=by rfl)
  (hfew:((backTo cpos (starEach (e::es) X.env)).all (fun x=>!x.1) && (backToKw cpos (keywordEach [] X.env)).all (fun x=>x.1.isSome)
   && decide ((e::es).length+([]:List Keyword).length+(if([]:List Keyword).isEmpty then 0 else 1)<30))=true:=by rfl)
  (hline:(apos.endLine==cpos.line)=true:=by rfl) (hs:starEach (e::es) X.env=(false,eval e X.env)::starEach es X.env:=by rfl) (hplain:(backTo cpos (starEach es X.env)).any (·.1)=false:=by rfl):
  PE X (.Call (.Attribute o name apos) (e::es) [] cpos) (ZR X.K T r to t):=by
 intro pins s σ H Q I h
 refine wpAny_Call_method_late hbase hfew hline rfl (cP (ho pins s σ H _ I h) fun v s1 ⟨x,H1,I1,r1,ty,q1⟩=>?_)
 obtain⟨h1,h2⟩:=ZG I1 r1 ty
 refine⟨T,id,pa,slot,hty,h1,h2,?_⟩
 have hA:=ha cpos pins s1 σ H1 _ I1 q1
 rw[hs]at hA⊢
 refine Calls.callWith_builtin (by show(false||(backTo cpos (starEach es X.env)).any (·.1))=false;rw[hplain]<;>rfl) (Calls.evalArgs_plain ?_)
 exact cP hA fun us s2 ⟨vs,H2,I2,r2,q2⟩=>hm pins s2 σ H2 x vs v us Q I2 r1 r2 q2
end
noncomputable def MtM (X:Cx) (id:String) (r:V->List V->Hp->VK->Prop):Prop:=
 ∀(pins:List (Addr×Obj)) (s:Shared) (σ:St) (H:Hp) (x:V) (xs:List V) (v:Value) (us:List Value) (Q:VK),Inv X pins σ H s->RelV x v->Vals xs us->r x xs H Q->
  wpAny (model X.prog X.w) X.A (call (.builtin id) (v::us)) (EP X pins σ Q) X.xe s
theorem Vals.one:∀{x:V} {us:List Value},Vals [x] us->∃u,us=[u]/\RelV x u
 |_,_,.cons r .nil=>⟨_,rfl,r⟩
section
variable {X:Cx} {pins:List (Addr×Obj)} {σ:St} {H:Hp} {s:Shared} {l b:Addr} {xs ys zs:List V}
theorem Inv.adF {f:Array Value->Array Value} {t':Nat} (I:Inv X pins σ H s) (hH:H l=some (.lst xs))
  (e:s.heap.get? l=some {cls:=.type "list",data:=.seq its.toArray n}) (hf:f its.toArray=its'.toArray) (hv:Vals ys its') (hz:ys.length<=sizeLine):
  Inv X pins σ (upd H l (.lst ys)) {s with heap:=s.heap.update l (Obj.mapSeq f),toks:=t'}:=by
 have q:=PySem.IsL.update e f
 rw[hf]at q
 refine I.write (x:=l) (e:=l) (by rw[hH];exact trivial) (.inl rfl) (fun b' u hb hu=>(get?_update_other s.heap (Obj.mapSeq f) (Ne.symm hb)).trans hu) ⟨_,q⟩ ?_
 exact⟨hz,its',_,hv,q⟩
theorem Inv.adD (I:Inv X pins σ H s) (hH:H l=some (.lst xs)):xs.length<=sizeLine/\∃(its:List Value) (n:Nat),Vals xs its/\xs.length=its.length/\s.heap.get? l=some {cls:=.type "list",data:=.seq its.toArray n}:=by
 obtain⟨z,its,n,r,e⟩:=I.bP l _ hH
 exact⟨z,its,n,r,r.length,e⟩
end
section
variable {X:Cx}
noncomputable def sI:V->List V->Hp->VK->Prop:=fun x vs H Q=>∃l xs y,x= .ref l/\vs=[y]/\H l=some (.lst xs)/\xs.length<sizeLine/\Q .bA (upd H l (.lst (xs++[y])))
theorem eL:MtM X "list.append" sI:=by
 intro pins s σ H x vs v us Q I rx rv h
 obtain⟨l,xs,y,rfl,rfl,hH,hz,q⟩:=h
 cases rx
 obtain⟨u,rfl,ru⟩:=rv.one
 obtain⟨z,its,n,r,hl,e⟩:=I.adD hH
 refine call_meets F.slot_list_append ⟨_,e,rfl⟩ F.entry_list_append (F.args_list_append_2 _ _) (PySem.list_append l its.toArray n u (by rw[size_toArray];omega)) ⟨e,?_⟩
 refine⟨.bA,_,I.adF (its':=its++[u]) hH e (by simp) (r.append (.cons ru .nil)) ?_,rfl,q⟩
 rw[length_append,List.length_singleton]
 omega
end
end L2
namespace Att
open PySem PySem.W PySem.Calls PyProof.Rows
variable {h:Heap} {n:Nat} {l:OpenLaw} {P:Params}
theorem rQ:∀(ns:List Int) (vs:List Value),WellAll P h vs (ns.map WData.int)->IntsAre vs ns:=by
 intro ns
 induction ns with
 |nil=>
  intro vs w
  rw[map_nil]at w
  cases w
  exact .nil
 | cons n ns ih=>
  intro vs w
  rw[map_cons]at w
  cases w with
  |cons a b=>
   cases a
   exact .cons _ _ (ih _ b)
theorem HB (hn:l.most=some n) {args:List WData} {vals:List Value}
  (hpre:l.row.toRowW.claim.pre args=true) (hwl:WellAll P h vals args):
  ∃a vs ns,vals=[Value.ref a]/\args=[WData.list (ns.map WData.int)]/\h.get? a=some {cls:=.type "list",data:=.seq vs.toArray}/\IntsAre vs ns/\ns.length<=n:=by
 have hsh:WShape.hasAll [] args [.list .int]=true:=(pre_splitW hpre).1
 have hc:l.pre.holds [] {args:=args}=true:=(pre_splitW hpre).2
 obtain⟨d,r,rfl,h1,h2⟩:=hasAllW_cons hsh
 obtain rfl:=hasAllW_nil h2
 obtain⟨xs,rfl,h3⟩:=hasW_list h1
 obtain⟨ns,rfl⟩:=items_int h3
 have hlen:ns.length<=n:=by
  unfold OpenLaw.pre at hc
  have h4:(WTm.not (.lt (.lit (.int (n:Int))) (.len (.arg 0)))).holds [] {args:=[.list (ns.map .int)]}=true:=by
   have h4:=(holds_andW hc).1
   rw[hn]at h4
   exact h4
  have h5:=condW_of h4 (w_not (w_lt w_lit (w_len_list (w_arg rfl))))
  rw[length_map]at h5
  refine Nat.le_of_not_lt fun q=>?_
  have q':(n:Int)<((ns.length:Nat):Int):=by omega
  first
   |(rw[decide_eq_true q']at h5;exact absurd h5 (by decide))
   |(simp at h5;omega)
 cases hwl with
 |cons w1 w2=>
  cases w2
  cases w1 with
  |list ho hall=>exact⟨_,_,ns,rfl,rfl,ho,rQ ns _ hall,hlen⟩
theorem IS (l:OpenLaw) (args:List WData):l.row.toRowW.claim.post args (.bool true) args=true:=
 postW_of (r:=l.row.toRowW) (X:=(true==true))
  (show WShape.has [] (.bool true) .bool=true by first|rfl|decide|simp[WShape.has,WShape.arms,WShape.armsAll])
  (show(WTm.eq .res (.lit (.bool true))).value [] {args:=args,res:=some (.bool true),after:=args}=some (.bool (true==true))from w_eq_bool (w_res rfl) w_lit) rfl
theorem zW {q:Program} {loose:List Str} {XP:(Str->Option Value)->Heap->Prop} {YP:World->Heap->Prop} {d:DefRec}
  (hn:l.most=some n) (hdf:d.params.defaults=[])
  (call:∀(w:World) (iE s₁:Shared) (mg mb:Str->Option Value) (fa:Addr) (o:Obj) (pm cd doc:Value) (a:Addr) (vs:List Value) (ns:List Int),
   Ground q loose [] XP w iE mg mb s₁.heap->YP w s₁.heap->
   s₁.heap.get? fa=some o->o.data= .func (docDef d.name d.params d.body d.scope pm cd doc)->s₁.heap.CodeRec cd d.name->mg d.name=some (.ref fa)->
   s₁.heap.get? a=some {cls:=.type "list",data:=.seq vs.toArray}->IntsAre vs ns->ns.length<=n->s₁.gens= #[]->
   codeAny (model l.prog w) callerA (.call (.ref fa) ⟨[.ref a],[]⟩) (fun r s'=>r= .ok (.ret (.bool true))/\OldK s₁.heap s'.heap/\s'.os=s₁.os/\AllBare s'.gens) s₁):
  WalkO q loose XP YP l.row.toRowW d [] (fun f vs=>PySem.call f vs):=by
 intro w iE s₁ mg mb G Y fa o pm cd doc dV kV ho hd hcd hD hmg hg args vals as hpre hlay hrd hwl hlo
 obtain rfl:dV= .none:=Dflts.none hD hdf
 obtain rfl:kV= .none:=Dflts.noKw hD
 obtain⟨a,vs,ns,rfl,rfl,hobj,hints,hlen⟩:=HB hn hpre hwl
 refine enter_call (codeAny_mono (call w iE s₁ mg mb fa o pm cd doc a vs ns G Y ho (fd_plain hd) hcd hmg hobj hints hlen hg) fun r s' hq=>?_)
 obtain⟨rfl,h2,h3,h4⟩:=hq
 exact⟨.inl ⟨.bool true,.bool true,[],rfl,fun _=>rfl,.bool true,IS l _,fun _=>⟨List.Pairwise.nil,fun _ hm=>(nomatch hm)⟩⟩,h2,h3,h4⟩
end Att
namespace L2
open PySem PySem.Spec PyProof.Rows
variable {f:Addr} {fd:FuncData} {ps:List Str} {k:Nat} {sp:Sp} {qual x:Str}
theorem vJ:∀{vs:List Value} {ns:List Int},IntsAre vs ns->Vals (ns.map V.int) vs
 |_,_,.nil=>.nil
 |_,_,.cons n t h=>.cons ⟨t,rfl⟩ (vJ h)
noncomputable def ZE (H:Hp):Prop:=∀b,H b=none\/ ∃o xs,H b=some (.OP o (.lst xs))
theorem LW {P:Program} {w:World} {K:Frag} {mg mb:Str->Option Value} {CX:JI} {fa a:Addr} {s₁:Shared} {vs:List Value} {ns:List Int}
  (KX:K.In s₁.heap) (hns:s₁.heap.Ns mainGlobals mg) (hb:s₁.heap.Ns builtinsNs mb) (hbb:∀x:Str,x≠"__name__"->mb x=bootBuiltins x) (hlim:s₁.heap.NoLimit) (hg:s₁.gens= #[])
  (ha:s₁.heap.get? a=some {cls:=.type "list",data:=.seq vs.toArray}) (hi:IntsAre vs ns) (hl:ns.length<=sizeLine) (hr:dX k callerA)
  (F:∀base:Heap,K.In base->base.Ns mainGlobals mg->pA P w K mg base CX k fa fd [x] sp) (hbind:∀(s:Shared) (u:Value),BindsTo s fd ⟨[u],[]⟩ [(x,u)])
  (hsp:∀H:Hp,ZE H->iB K H a (ns.map V.int)->sp [.ref a] H (fun v _=>v= .bl true) fun _ _ _=>False)
  (hCX:∀H e s',CX [] H s₁ (fun _ _ _=>False) e s'->False):
  codeAny (model P w) callerA (.call (.ref fa) ⟨[.ref a],[]⟩) (fun r s'=>r= .ok (.ret (.bool true))/\OldK s₁.heap s'.heap/\s'.os=s₁.os/\AllBare s'.gens) s₁:=by
 have rv:=vJ hi
 have lenV:=hi.length
 have core:∀H:Hp,ZE H->iB K H a (ns.map V.int)->m5 P w H s₁.heap->(∀b,H b≠none->b=a)->(H a≠none->K.lookup a=none)->
   codeAny (model P w) callerA (.call (.ref fa) ⟨[.ref a],[]⟩) (fun r s'=>r= .ok (.ret (.bool true))/\OldK s₁.heap s'.heap/\s'.os=s₁.os/\AllBare s'.gens) s₁:=by
  intro H hO hS bP hA hK
  have base_of:∀{b:Addr} {o:Obj},s₁.heap.get? b=some o->H b=none->(xN s₁.heap H).get? b=some o:=fun e n=>N6 e n
  have cT:∀{b:Addr} {o:Obj} {es:Array DictEntry} {ep:Nat},s₁.heap.get? b=some o->o.data= .dict es ep->H b=none:=fun{b o es ep} e d=>by
   cases q:H b with
   |none=>rfl
   |some u=>
    have e':b=a:=hA b (by rw[q];simp)
    subst e'
    rw[ha]at e;cases e
    have d':Data.seq vs.toArray _=Data.dict es ep:=d
    cases d'
  have nsK:∀{b:Addr} {m:Str->Option Value},s₁.heap.Ns b m->(xN s₁.heap H).Ns b m:=fun{b m} ⟨o,es,ep,e,d,r⟩=>⟨o,es,ep,base_of e (cT e d),d,r⟩
  have hKb:K.In (xN s₁.heap H):=fun b o e=>base_of (KX b o e) (by
   cases q:H b with
   |none=>rfl
   |some u=>
    have e':b=a:=hA b (by rw[q];simp)
    subst e'
    rw[hK (by rw[q];simp)]at e;cases e)
  have hM:Mod K mg (xN s₁.heap H):=⟨hKb,nsK hns,⟨mb,nsK hb,hbb⟩,let⟨mc,h1,h2⟩:=hlim;⟨mc,nsK h1,h2⟩⟩
  have e0:PK P w K mg (xN s₁.heap H) callerA [] s₁ H:=⟨rfl,hM,fun b o e=>SU e,Nat.le_of_eq (HM _ _),trivial,fun b hb=>absurd (show b∈([]:List Addr)from hb) (by simp),bP,.of_eq hg⟩
  refine codeAny_mono ((F _ hKb (nsK hns)).run callerA [] s₁ H ⟨[.ref a],[]⟩ [.ref a] [.ref a] _ _ hr e0 (hbind s₁ (.ref a)) (.cons rfl .nil) (hsp H hO hS)) fun r s' h=>?_
  cases r with
  |error e=>exact(hCX H e s' h).elim
  | ok fl=>
   cases fl with
   |next=>exact False.elim h
   |brk=>exact False.elim h
   |cont=>exact False.elim h
   | ret u=>
    obtain⟨v,H',os,bare,un,hok',r',q⟩:=h
    have q':v= .bl true:=q
    subst q'
    obtain rfl:u=Value.bool true:=r'
    refine⟨rfl,OldK.of_keep fun b o e=>?_,os,bare⟩
    cases q:H b with
    |none=>exact un.keep b o e q (by intro z;exact absurd (show b∈([]:List Addr)from z) (by simp)) (by simp)
    | some u=>
     rcases hO b with z|⟨ob,xs,z⟩
     ·rw[q]at z;cases z
     ·have z2:=un.tD b ob _ z
      obtain⟨e1,_⟩:=bP b _ z
      obtain⟨e2,_⟩:=hok' b _ z2
      rw[e]at e1;cases e1
      exact e2
 cases hk:K.lookup a with
 |some o=>
  have e:=KX a o hk
  rw[ha]at e
  cases e
  refine core (fun _=>none) (fun _=>.inl rfl) (.inr ⟨_,vs.toArray,_,hk,rfl,rfl,rfl,by rw[size_toArray,lenV];exact hl,by simpa using rv⟩) (fun b u z=>by have z':(none:Option HO)=some u:=z;cases z') (fun b z=>absurd rfl z) fun z=>absurd rfl z
 | none=>
  refine core (fun b=>if b=a then some (.OP {cls:=.type "list",data:=.seq vs.toArray} (.lst (ns.map V.int)))else none) (fun b=>?_) (.inl (.inr ⟨{cls:=.type "list",data:=.seq vs.toArray},if_pos rfl⟩)) (fun b u z=>?_) (fun b z=>?_) fun _=>hk
  ·by_cases hb:b=a
   ·exact .inr ⟨_,_,if_pos hb⟩
   ·exact .inl (if_neg hb)
  ·by_cases hb:b=a
   ·have z':=(if_pos hb).symm.trans z
    cases z'
    subst hb
    exact⟨ha,by rw[length_map];exact hl,vs,_,rv,ha⟩
   ·have z':=(if_neg hb).symm.trans z
    cases z'
  ·by_cases hb:b=a
   ·exact hb
   ·exact absurd (if_neg hb) z
theorem QB {l:PySem.W.OpenLaw} {n:Nat} {q:Program} {loose:List Str} {XP:(Str->Option Value)->Heap->Prop} {YP:World->Heap->Prop} {d:DefRec} {K:Params->Frag} {CX:World->JI} {sp:World->Sp}
  (hn:l.most=some n) (hn2:n<=sizeLine) (hdf:d.params.defaults=[]) (hr:dX k callerA)
  (hY:∀(w:World) (h:Heap),YP w h->(K w.params).In h)
  (F:∀(w:World) (mg:Str->Option Value) (fa:Addr) (h:Heap),(K w.params).In h->h.Ns mainGlobals mg->mg d.name=some (.ref fa)->
   ∃fd:FuncData,(∀(s:Shared) (u:Value),BindsTo s fd ⟨[u],[]⟩ [(x,u)])/\
    ∀base:Heap,(K w.params).In base->base.Ns mainGlobals mg->pA l.prog w (K w.params) mg base (CX w) k fa fd [x] (sp w))
  (hsp:∀(w:World) (H:Hp) (a:Addr) (ns:List Int),ns.length<=n->ZE H->iB (K w.params) H a (ns.map V.int)->sp w [.ref a] H (fun v _=>v= .bl true) fun _ _ _=>False)
  (hCX:∀(w:World) (H:Hp) (s:Shared) (e:Value) (s':Shared),CX w [] H s (fun _ _ _=>False) e s'->False):
  PySem.W.WalkO q loose XP YP l.row.toRowW d [] (fun f vs=>PySem.call f vs):=by
 refine Att.zW hn hdf fun w iE s₁ mg mb fa o pm cd doc a vs ns G Y ho hd hcd hmg hobj hints hlen hg=>?_
 have KX:=hY w _ Y
 obtain⟨fd,hb,hF⟩:=F w mg fa _ KX G.T.g hmg
 exact LW KX G.T.g G.T.b G.T.builtins G.T.nolimit hg hobj hints (le_trans hlen hn2) hr hF hb (fun H hO hS=>hsp w H a ns hlen hO hS) fun H e s'=>hCX w H s₁ e s'
noncomputable def gE (s:Stmt):Arguments:=match s with
 | .FunctionDef _ a _ _ _ _ _ _ _ _=>a
 |_=>{posonlyargs:=[],args:=[],vararg:=none,kwonlyargs:=[],kw_defaults:=[],kwarg:=none,defaults:=[]}
noncomputable def eZ (s:Stmt):List Stmt:=match s with
 | .FunctionDef _ _ b _ _ _ _ _ _ _=>b
 |_=>[]
noncomputable def aV (s:Stmt):Scope:=match s with
 | .FunctionDef _ _ _ _ _ _ sc _ _ _=>sc
 |_=>{kind:=.function,names:=[],isGenerator:=false,isCoroutine:=false}
noncomputable abbrev OR:JI:=fun _ _ _ _ _ _=>False
noncomputable abbrev E0:XK:=fun _ _ _=>False
theorem abB {X:Cx}:Passes OR X E0:=fun _ _ _ _ _ _ _ h=>h.elim
structure XY (K:Frag) (x qual:Str) (st:Stmt) (f:Addr) (fd:FuncData):Prop where
 ex:∃(oc:Value) (od:Option Addr) (kV doc pm:Value) (an:Option Addr) (cdv ct:Value) (osl:Array (Option Value)),
  fd=fnOf x qual (gE st) (eZ st) (aV st) .none kV doc pm an cdv ct/\K.lookup f=some ⟨oc,od,.func fd,osl⟩/\codeIn K cdv qual=true
 kp:keepIn K (.ref f)=true
section
variable {P:Program} {w:World} {K:Frag} {mg:Str->Option Value} {base:Heap}
theorem XY.ok {st:Stmt} {N:List Str} (F:XY K x qual st f fd) (S:o8 N ps (aV st)) (len:∀vs H Q E,sp vs H Q E->vs.length=ps.length)
  (hbody:∀(cdv:Value) (A:Around) (outer:List Env) (s:Shared) (H:Hp) (vs:List V) (Q:VK) (E:XK),dX k (A.deeper (envOfC qual (aV st) s.heap.objs.size f cdv))->sp vs H Q E->
   ∃t,GA (DB OR P w K mg base N qual (aV st) f cdv A outer s H E).nox (eZ st) t/\t {nx:=fun _ H'=>Q .bA H',rt:=Q} (start N vs) H):pA P w K mg base OR (k+1) f fd ps sp:=by
 obtain⟨oc,od,kV,doc,pm,an,cdv,ct,osl,rfl,lk,hcd⟩:=F.ex
 refine aa4 lk hcd S len fun A outer s H vs Q E hr hsp=>?_
 obtain⟨t,h,q⟩:=hbody cdv A outer s H vs Q E hr hsp
 exact⟨t,h.nox,q⟩
theorem XY.binds {st:Stmt} (F:XY K x qual st f fd)
  (h:∀(kV doc pm:Value) (an:Option Addr) (cdv ct:Value) (us:List Value),us.length=ps.length->bindArgs (fnOf x qual (gE st) (eZ st) (aV st) .none kV doc pm an cdv ct) ⟨us,[]⟩=pure (ps.zip us)):Binds K fd ps []:=by
 obtain⟨oc,od,kV,doc,pm,an,cdv,ct,osl,rfl,lk,hcd⟩:=F.ex
 exact .all (h kV doc pm an cdv ct)
theorem WR {st:Stmt} {oc:Value} {od an:Option Addr} {osl:Array (Option Value)} {kV doc pm cdv ct:Value} (l:K.lookup f=some ⟨oc,od,.func (fnOf x qual (gE st) (eZ st) (aV st) .none kV doc pm an cdv ct),osl⟩)
  (c:codeIn K cdv qual=true) (k:keepIn K (.ref f)=true):XY K x qual st f (fnOf x qual (gE st) (eZ st) (aV st) .none kV doc pm an cdv ct):=⟨⟨oc,od,kV,doc,pm,an,cdv,ct,osl,rfl,l,c⟩,k⟩
end
theorem fW {A:Around} (hr:dX k A):A.units+1<cLine:=Nat.lt_of_le_of_lt (Nat.add_le_add_left (by decide:1<=64) _) hr.units
section
variable {X:Cx}
theorem pv (i:Nat) {pos:Pos} (hN:X.N[i]? =some x:=by rfl) (hv:Vis X.env.scope x:=by first|exact Or.inl rfl|exact Or.inr (Or.inl rfl)|exact Or.inr (Or.inr rfl)) (hd:(x==("__debug__":Str))=false:=by decide)
  (hcd:(x==("__classdict__":Str))=false:=by decide):PE X (.Name x pos) (yL i):=U6 hN hv hd hcd
end
noncomputable def aZ (H H':Hp):Prop:=∀b o,H b=some o->H' b=some o
theorem aZ.refl (H:Hp):aZ H H:=fun _ _ h=>h
end L2
set_option maxHeartbeats 4000000
namespace L2
open PySem PySem.Spec PyProof.Rows
variable {C:Addr} {X:Cx} {env:Env} {tg:Expr} {H H2:Hp} {pins:List (Addr×Obj)} {cl:List (Str×Addr)} {fp:List Addr} {P:Program} {K:Frag} {scope:Scope} {s2:Shared} {σ:St} {w:World}
theorem oH:∀(names:List (Str×NameKind)) (acc:List (Str×Addr)),(∀p∈names,p.2= .free->∃c,env.cells.lookup p.1=some c)->
  (∀y c,acc.lookup y=some c->env.cells.lookup y=some c)->
  ∃cl,(forIn names acc (fun(p:Str×NameKind) (cs:List (Str×Addr))=>if(p.2==NameKind.free)=true then(do let a<-cellOf env p.1;pure (ForInStep.yield ((p.1,a)::cs)))else(pure (ForInStep.yield cs):Sem _)):Sem _)=pure cl/\
   (∀y c,cl.lookup y=some c->env.cells.lookup y=some c)/\(∀y,(acc.lookup y).isSome=true->(cl.lookup y).isSome=true)/\∀y,(y,NameKind.free)∈names->(cl.lookup y).isSome=true
 |[],acc,_,h=>⟨acc,rfl,h,fun _ z=>z,fun _ z=>nomatch z⟩
 | (n,k)::r,acc,hf,h=>by
  by_cases hk:k= .free
  ·subst hk
   obtain⟨c,hc⟩:=hf (n,.free) mem_cons_self rfl
   obtain⟨cl,e,h1,h2,h3⟩:=oH r ((n,c)::acc) (fun p hp=>hf p (mem_cons_of_mem _ hp)) (fun y d hd=>by
    rw[lookup_cons]at hd
    cases q:y==n with
    |true=>rw[q]at hd;cases hd;rw[eq_of_beq q];exact hc
    |false=>rw[q]at hd;exact h y d hd)
   refine⟨cl,?_,h1,fun y hy=>h2 y ?_,fun y hy=>?_⟩
   ·rw[List.forIn_cons]
    have e0:cellOf env n=pure c:=by unfold cellOf;rw[hc]
    simp only[beq_self_eq_true,if_true,e0,pure_bind]
    exact e
   ·rw[lookup_cons]
    cases q:y==n with
    |true=>rfl
    |false=>exact hy
   ·rcases mem_cons.mp hy with q|q
    ·cases q
     refine h2 n ?_
     rw[lookup_cons,beq_self_eq_true]
     rfl
    ·exact h3 y q
  ·obtain⟨cl,e,h1,h2,h3⟩:=oH r acc (fun p hp=>hf p (mem_cons_of_mem _ hp)) h
   refine⟨cl,?_,h1,h2,fun y hy=>?_⟩
   ·rw[List.forIn_cons]
    have e0:(k==NameKind.free)=false:=by simpa using hk
    simp only[e0,false_eq_true,if_false,pure_bind]
    exact e
   ·rcases mem_cons.mp hy with q|q
    ·cases q;exact absurd rfl hk
    ·exact h3 y q
theorem jP {env:Env} {scope:Scope} (hf:∀p∈scope.names,p.2= .free->∃c,env.cells.lookup p.1=some c):
  ∃cl,closureFor scope env=pure cl/\(∀y c,cl.lookup y=some c->env.cells.lookup y=some c)/\∀y,(y,NameKind.free)∈scope.names->(cl.lookup y).isSome=true:=by
 obtain⟨cl,e,h1,_,h3⟩:=oH (env:=env) scope.names [] hf (fun y c h=>by simp at h)
 refine⟨cl,?_,h1,h3⟩
 unfold closureFor
 have e':=congrArg (fun m:Sem (List (Str×Addr))=>m>>=fun cs=>pure cs) e
 simp only[pure_bind]at e'
 rw[<-e']
structure VQ where
 cl:List (Str×Addr)
 C:Addr
 s:Shared
 H:Hp
 ex:List Addr
noncomputable def bI (X:Cx) (scope:Scope) (N:List Str) (c:VQ):Cx:=
 {X with N:=N,iE:=c.s,JV:=c.H,env:=compEnvC scope c.cl c.C X.env,outer:=X.stack,stack:=X.stack,ex:=c.ex,fn:=fun _=>false,pn:=[],xe:=fun _ _=>False}
noncomputable def eY (k:Nat) (cI:List Nat) (σ:St):St:=List.replicate k none++cI.map fun i=>(σ[i]?).getD none
noncomputable def S6:TT:=fun _ H Q=>Q true H
section
variable {prog:Program} {w:World} {A:Around} {R:Result->Shared->Prop} {s:Shared}
theorem wA {elt target iter:Expr} {ifs:List Expr} {pos:Pos} {it acc:Value} (I:Nat->Shared->Prop)
  (turn:∀n s,I n s->wpAny (model prog w) A (pyNext it) (fun r s₁=>match r with
   |none=>R (.ok .next) s₁
   | some v=>wpAny (model prog w) A (letOwnedTupleGo target it v) (fun _ s₁'=>wpAny (model prog w) A (assign target env v) (fun _ s₂=>
     wpAny (model prog w) A (forIn ifs true fun c r=>if r=true then do let ok<-isTrue c env (eval c env);pure (ForInStep.yield ok)else pure (ForInStep.yield r)) (fun ok s₃=>
      if ok=true then wpAny (model prog w) A (eval elt env) (fun x s₄=>
       wpAny (model prog w) A (call (.builtin "list.append") [acc,x]) (fun _ s₅=>∃m,m<n/\I m s₅) (fun _ _=>False) s₄) (fun _ _=>False) s₃
      else∃m,m<n/\I m s₃) (fun _ _=>False) s₂) (fun _ _=>False) s₁') (fun _ _=>False) s₁) (fun _ _=>False) s)
  (n:Nat) (h:I n s):
  codeAny (model prog w) A (.compLoop (.ListComp elt [⟨target,iter,ifs,0⟩] scope pos) 0 it acc env) R s:=by
 refine codeAny_loop rfl I (fun n s hI=>?_) n h
 show wpAny _ A ((compTurn (.ListComp elt [⟨target,iter,ifs,0⟩] scope pos) 0 it acc env).onRaise (fun x=>do noteFrame x env;theTreesLotGoes x)) _ _ s
 refine wpAny_noted ?_
 refine wpAny_mono (E:=fun _ _=>False) ?_ (fun _ _ q=>q) (fun _ _ z=>z.elim)
 rw[compTurn_list]
 refine wpAny_bind (wpAny_standAt (wpAny_bind (wpAny_mono (turn n s hI) (fun r s₁ h₁=>?_) fun _ _ h'=>h')))
 cases r with
 |none=>exact wpAny_pure h₁
 | some v=>
  refine wpAny_bind (wpAny_mono h₁ (fun _ s₁' h₁'=>?_) fun _ _ h'=>h')
  refine wpAny_bind (wpAny_mono h₁' (fun _ s₂ h₂=>wpAny_bind (wpAny_mono h₂ (fun ok s₃ h₃=>?_) fun _ _ h'=>h')) fun _ _ h'=>h')
  cases ok with
  |false=>exact wpAny_pure ⟨rfl,h₃⟩
  |true=>
   exact wpAny_bind (wpAny_bind (wpAny_mono h₃ (fun x s₄ h₄=>wpAny_bind (wpAny_mono h₄ (fun _ s₅ h₅=>wpAny_pure (wpAny_pure ⟨rfl,h₅⟩)) fun _ _ h'=>h')) fun _ _ h'=>h'))
end
noncomputable def T9 (X:Cx) (ifs:List Expr) (t:TT):Prop:=
 ∀(pins:List (Addr×Obj)) (s:Shared) (σ:St) (H:Hp) (Q:Bool->Hp->Prop),Inv X pins σ H s->t σ H Q->
  wpAny (model X.prog X.w) X.A (forIn ifs true fun c r=>if r=true then do let ok<-isTrue c X.env (eval c X.env);pure (ForInStep.yield ok)else pure (ForInStep.yield r)) (TP X pins σ Q) X.xe s
theorem cY:T9 X [] S6:=fun pins s σ H Q I h=>wpAny_tests_nil ⟨H,I,h⟩
theorem pD {c:Expr} {t:TT} (h:PT X c t):T9 X [c] t:=fun pins s σ H Q I hq=>wpAny_tests_one (h pins s σ H Q I hq)
theorem eS {env:Env}:∀{names:List (Str×NameKind)} {x:Str},names.lookup x=some .free->
  (names.map fun(n,k)=>if(k==NameKind.free && env.scope.kind== .function && env.kindOf n==some .cell)then(n,NameKind.cell)else(n,k)).lookup x=some .cell\/
  (names.map fun(n,k)=>if(k==NameKind.free && env.scope.kind== .function && env.kindOf n==some .cell)then(n,NameKind.cell)else(n,k)).lookup x=some .free
 |[],_,h=>by simp at h
 | (n,k)::r,x,h=>by
  have ih:= @eS env r x
  show List.lookup x ((if(k==NameKind.free && env.scope.kind== .function && env.kindOf n==some .cell)=true then(n,NameKind.cell)else(n,k))::_)=_\/ List.lookup x ((if(k==NameKind.free && env.scope.kind== .function && env.kindOf n==some .cell)=true then(n,NameKind.cell)else(n,k))::_)=_
  cases hx:x==n with
  |true=>
   simp only[lookup_cons,hx]at h
   cases h
   by_cases hc:(NameKind.free==NameKind.free && env.scope.kind== .function && env.kindOf n==some .cell)=true
   ·rw[if_pos hc];left;simp only[lookup_cons,hx]
   ·rw[if_neg hc];right;simp only[lookup_cons,hx]
  |false=>
   simp only[lookup_cons,hx]at h
   by_cases hc:(k==NameKind.free && env.scope.kind== .function && env.kindOf n==some .cell)=true
   ·rw[if_pos hc];simp only[lookup_cons,hx];exact ih h
   ·rw[if_neg hc];simp only[lookup_cons,hx];exact ih h
theorem jC {env:Env}:∀{names:List (Str×NameKind)} {x:Str},(∀y∈names,y.2≠ .cell)->
  ((names.map fun(n,k)=>if(k==NameKind.free && env.scope.kind== .function && env.kindOf n==some .cell)then(n,NameKind.cell)else(n,k)).lookup x=some .cell\/
  (names.map fun(n,k)=>if(k==NameKind.free && env.scope.kind== .function && env.kindOf n==some .cell)then(n,NameKind.cell)else(n,k)).lookup x=some .free)->(x,NameKind.free)∈names
 |[],_,_,h=>by simp at h
 | (n,k)::r,x,hn,h=>by
  have ih:= @jC env r x (fun y hy=>hn y (mem_cons_of_mem _ hy))
  have h':List.lookup x ((if(k==NameKind.free && env.scope.kind== .function && env.kindOf n==some .cell)=true then(n,NameKind.cell)else(n,k))::(r.map fun(n,k)=>if(k==NameKind.free && env.scope.kind== .function && env.kindOf n==some .cell)then(n,NameKind.cell)else(n,k)))=some .cell\/ List.lookup x ((if(k==NameKind.free && env.scope.kind== .function && env.kindOf n==some .cell)=true then(n,NameKind.cell)else(n,k))::(r.map fun(n,k)=>if(k==NameKind.free && env.scope.kind== .function && env.kindOf n==some .cell)then(n,NameKind.cell)else(n,k)))=some .free:=h
  cases hx:x==n with
  | true=>
   have e:=eq_of_beq hx
   subst e
   by_cases hc:(k==NameKind.free && env.scope.kind== .function && env.kindOf x==some .cell)=true
   ·have hk:k= .free:=by
     have:=(and_eq_true _ _|>.mp ((and_eq_true _ _|>.mp hc).1)).1
     exact eq_of_beq this
    subst hk
    exact mem_cons_self
   ·rw[if_neg hc]at h'
    simp only[lookup_cons,hx]at h'
    have hk:=hn (x,k) mem_cons_self
    rcases h' with z|z
    ·exact absurd (Option.some.inj z) hk
    ·rw[Option.some.inj z];exact mem_cons_self
  |false=>
   refine mem_cons_of_mem _ (ih ?_)
   by_cases hc:(k==NameKind.free && env.scope.kind== .function && env.kindOf n==some .cell)=true
   ·rw[if_pos hc]at h';simp only[lookup_cons,hx]at h';exact h'
   ·rw[if_neg hc]at h';simp only[lookup_cons,hx]at h';exact h'
noncomputable def ab8 (J:It) (g:TG) (tt:TT) (te:TE) (l:Addr) (σ0:St) (H0:Hp) (Q:VK):Prop:=
 ∃W:Nat->Nat->St->Hp->Prop,(∃m,W 0 m σ0 H0)/\
   ∀i m σ' H2,W i m σ' H2->(J.stop i H2/\Q (.ref l) H2)\/ (J.go i H2/\∃N:St->Hp->Prop,(∀σ3 H3,N σ3 H3->∃m',m'<m/\W (i+1) m' σ3 H3)/\
    ∀x H3,J.ZQ i H2 x H3->g x σ' H3 fun σ4 H4=>tt σ4 H4 fun b H5=>if b=true then te σ4 H5 fun y H6=>∃xs,H6 l=some (.lst xs)/\xs.length<sizeLine/\N σ4 (upd H6 l (.lst (xs++[y])))else N σ4 H5)
noncomputable def vK (wi:TI) (k:Nat) (cI:List Nat) (g:TG) (tt:TT) (te:TE):TE:=fun σ H Q=>wi σ H fun J H1=>∀l,H1 l=none->ab8 J g tt te l (eY k cI σ) (upd H1 l (.lst [])) Q
structure gA (X:Cx) (scope:Scope) (N:List Str) (k:Nat) (cI:List Nat):Prop where
 kind:scope.kind= .function
 names:∀y∈scope.names,y.2= .local->scope.names.lookup y.1=some .local
 cell:∀y∈scope.names,y.2≠ .cell
 free:∀y∈scope.names,y.2= .free->X.env.kindOf y.1=some .cell\/ X.env.kindOf y.1=some .free
 len:N.length=k+cI.length
 cI:∀j i,cI[j]? =some i->∃y,N[k+j]? =some y/\X.N[i]? =some y/\scope.names.lookup y=some .free
theorem wC {k:Nat} {cI:List Nat} {σ:St} {j:Nat} {v:V} (h:(eY k cI σ)[j]? =some (some v)):∃q i,j=k+q/\cI[q]? =some i/\σ[i]? =some (some v):=by
 unfold eY at h
 by_cases hj:j<k
 ·rw[getElem?_append_left (by simpa using hj),List.getElem?_replicate]at h
  split at h<;>cases h
 ·rw[getElem?_append_right (by simpa using hj),length_replicate,getElem?_map]at h
  cases q:cI[j - k]? with
  |none=>rw[q]at h;cases h
  |some i=>
   rw[q]at h
   have h':(σ[i]?).getD none=some v:=Option.some.inj h
   refine⟨j - k,i,by omega,q,?_⟩
   cases r:σ[i]? with
   |none=>rw[r]at h';cases h'
   |some o=>rw[r]at h';have:o=some v:=h';rw[this]
theorem m5.but {h h':Heap} (x:m5 P w H h) (hC:H C=none) (k:∀b o,b≠C->h.get? b=some o->h'.get? b=some o):m5 P w H h':=fun b u e=>by
 have nit:∀b u,H b=some u->b≠C:=fun b u e z=>by rw[z,hC]at e;cases e
 refine(x b u e).aH (fun c v hc q=>k c v ?_ q) (fun _ q=>q) fun _ _ q=>q
 rcases hc with z|z
 ·rw[z];exact nit b u e
 ·exact nit c _ z
section
variable {X:Cx} {elt tg iter:Expr} {ifs:List Expr} {scope:Scope} {pos:Pos} {wi:TI} {g:TG} {tt:TT} {te:TE} {N:List Str} {k:Nat} {cI:List Nat}
theorem sT (S:gA X scope N k cI) (I2:Inv X pins σ H2 s2)
  (hcl1:∀y c,cl.lookup y=some c->X.env.cells.lookup y=some c) (hcl2:∀y,(y,NameKind.free)∈scope.names->(cl.lookup y).isSome=true) (hC:s2.heap.objs.size<=C)
  (hf:∀b∈fp,pO X pins H2 b) (ho:∀b∈fp,b<s2.heap.objs.size):(bI X scope N ⟨cl,C,s2,H2,fp⟩).Ok where
 mod:=I2.ok.mod
 kind:=S.kind
 glob:=I2.ok.glob
 blt:=I2.ok.blt
 above:=hC
 inj:=fun x y c h1 h2=>I2.ok.inj x y c (hcl1 x c h1) (hcl1 y c h2)
 has:=fun x h=>by
  have h':(x,NameKind.free)∈scope.names:=jC (env:=X.env) S.cell h
  exact isSome_iff_exists.mp (hcl2 x h')
 ZL:=fun _ _ z=>by cases z
 hd:=I2.ok.hd
 frames:=I2.ok.frames
 stk:=.inl rfl
 exf:=fun b hb=>⟨ne_of_lt (lt_of_lt_of_le (ho b hb) hC),fun x c e=>(hf b hb).2.2.2.2.1 x c (hcl1 x c e)⟩
 bs:=I2.bs
 SG:=le_trans I2.ok.SG I2.sz
 G4:=fun b o e hb=>by
  rcases(hf b hb).2.2.2.1 with z|z
  ·exact I2.ok.G4 b o e z
  ·exact absurd (lt_of_lt_of_le (lt_size e) (le_trans I2.ok.SG z)) (lt_irrefl _)
 z6:=fun b hb hb'=>by
  rcases mem_cons.mp (I2.EF b hb')with z|z
  ·exact(hf b hb).2.1 z
  ·exact(hf b hb).2.2.1 z
 rH:=I2.stack
 UW:=I2.EK
theorem GF {h1:Heap} {tk:Nat} {m0:Str->Option Value} (S:gA X scope N k cI) (I2:Inv X pins σ H2 s2)
  (hcl1:∀y c,cl.lookup y=some c->X.env.cells.lookup y=some c) (hcl2:∀y,(y,NameKind.free)∈scope.names->(cl.lookup y).isSome=true) (hC:C=s2.heap.objs.size+1)
  (hf:∀b∈fp,pO X pins H2 b) (ho:∀b∈fp,b<s2.heap.objs.size) (hk:∀b o,s2.heap.get? b=some o->h1.get? b=some o) (hD:h1.get? s2.heap.objs.size=some {cls:=.type "list",data:=.seq #[] 0}) (hns:h1.Ns C m0):
  Inv (bI X scope N ⟨cl,C,s2,H2,fp⟩) [] (eY k cI σ) (upd H2 s2.heap.objs.size (.lst [])) {s2 with heap:=h1,toks:=tk}:=by
 have fr:H2 s2.heap.objs.size=none:=I2.bP.fresh (le_refl _)
 have hCf:H2 C=none:=I2.bP.fresh (hC▸le_succ _)
 refine⟨sT S I2 hcl1 hcl2 (hC▸le_succ _) hf ho,rfl,I2.bare,Un.laid hk (le_refl _) fr,⟨m0,hns,fun i y v e1 e2 e3=>?_⟩,fun x c e=>?_,?_,fun x c e=>?_,fun p hp=>absurd (show p∈([]:List (Addr×Obj))from hp) (by simp),I2.bP.laid hk (le_refl _) ?_,?_⟩
 ·obtain⟨q,j,rfl,hj,hv⟩:=wC e2
  obtain⟨z,hz1,hz2,hz3⟩:=S.cI q j hj
  have e1':N[k+q]? =some y:=e1
  rw[hz1]at e1'
  cases e1'
  obtain⟨m,hn,hl⟩:=I2.loc
  have hfr:=S.free (y,.free) (PySem.mem_of_lookup hz3) rfl
  obtain⟨u,r,l⟩:=hl j y v hz2 hv (by rcases hfr with z|z;exact .inr (.inl z);exact .inr (.inr z))
  refine⟨u,r,.inr ⟨eS (env:=X.env) hz3,?_⟩⟩
  obtain⟨c,hc⟩:=isSome_iff_exists.mp (hcl2 y (PySem.mem_of_lookup hz3))
  rcases l with⟨hk',_⟩|⟨_,c',hc',hcell⟩
  ·rcases hfr with z|z<;>(rw[hk']at z;cases z)
  ·have e:=hcl1 y c hc
   rw[hc']at e
   cases e
   obtain⟨o,ho',hd⟩:=hcell
   exact⟨_,hc,o,hk _ _ ho',hd⟩
 ·obtain⟨v,o,ho',hd⟩:=I2.cell x c (hcl1 x c e)
  exact⟨v,o,hk _ _ ho',hd⟩
 ·show upd H2 s2.heap.objs.size (.lst []) C=none
  rw[aS (ne_of_gt (hC▸lt_succ_self _))]
  exact hCf
 ·have e':=hcl1 x c e
  obtain⟨v,q⟩:=I2.cell x c e'
  rw[aS (ne_of_lt q.lt)]
  exact I2.l7 x c e'
 ·exact⟨zero_le _,[],0,.nil,hD⟩
 ·show(eY k cI σ).length=N.length
  unfold eY
  rw[length_append,length_replicate,length_map,S.len]
theorem O2 (hc:X.calm=true) (S:gA X scope N k cI) (hi:PI X tg iter wi) (hg:∀c,PG (bI X scope N c) tg g) (ht:∀c,T9 (bI X scope N c) ifs tt) (he:∀c,PE (bI X scope N c) elt te)
  (hs:∀x,foldedSetIterable iter X.env x=pure x:=by intro _;rfl):PE X (.ListComp elt [⟨tg,iter,ifs,0⟩] scope pos) (vK wi k cI g tt te):=by
 intro pins s σ H Q I h
 rw[eval_ListComp]
 obtain⟨cl,hclos,hcl1,hcl2⟩:=jP (scope:=scope) (env:=X.env) (fun p hp hf=>I.ok.has p.1 (S.free p hp hf))
 refine wpAny_comprehension_free (use:=none) rfl hs hclos S.kind S.names (cP (hi pins s σ H _ I h) fun v s1 h1=>cP h1 fun itv s2 h2=>?_)
 obtain⟨it,fp,tn,J,H2,e,I2,T,st2,f2,q2⟩:=h2
 subst e
 obtain⟨W,⟨m0,w0⟩,turn⟩:=q2 s2.heap.objs.size (I2.bP.fresh (le_refl _))
 have hob:∀b∈fp,b<s2.heap.objs.size:=fun b hb=>let⟨o,e,_⟩:=T.obj _ _ st2 b hb;lt_size e
 refine wpAny_newObj_type (wpAny_newFunctionEnv S.cell (by intro y hy;simp at hy) (fun h₁ hns₁ hsb₁=>?_) S.kind)
 dsimp only at hns₁ hsb₁⊢
 generalize hHH:s2.heap.push {cls:=.type "list",dict:=none,data:=.seq ([]:List Value).toArray}=HH at hns₁ hsb₁⊢
 have hCC:HH.objs.size=s2.heap.objs.size+1:=by rw[<-hHH,size_push]
 have old:∀b o,s2.heap.get? b=some o->h₁.get? b=some o:=fun b o e=>hsb₁.extBut b o (ne_of_lt (hCC▸lt_succ_of_lt (lt_size e))) (get?_push_of_some _ (hHH▸get?_push_of_some _ e))
 have hD:h₁.get? s2.heap.objs.size=some {cls:=.type "list",data:=.seq #[] 0}:=hsb₁.extBut _ _ (ne_of_lt (hCC▸lt_succ_self _)) (get?_push_of_some _ (hHH▸get?_push_size _ rfl))
 have I4:=fun tk=>GF (tk:=tk) S I2 hcl1 hcl2 hCC f2 hob old hD hns₁
 have X':=bI X scope N ⟨cl,HH.objs.size,s2,H2,fp⟩
 have stat:∀{H':Hp},(∀b∈fp,H' b=none)->∀b∈fp,pO (bI X scope N ⟨cl,HH.objs.size,s2,H2,fp⟩) [] H' b:=fun hn b hb=>
  ⟨hn b hb,ne_of_lt (hCC▸lt_succ_of_lt (hob b hb)),(sT S I2 hcl1 hcl2 (hCC▸le_succ _) f2 hob).z6 b hb,.inl hb,fun x c e=>(f2 b hb).2.2.2.2.1 x c (hcl1 x c e),fun p hp=>absurd (show p∈([]:List (Addr×Obj))from hp) (by simp)⟩
 have loop:∀s₃:Shared,s₃={s2 with heap:=h₁,toks:=s2.toks+([]:List (Str×Value)).length}->
   codeAny (model X.prog X.w) X.A (.compLoop (.ListComp elt [⟨tg,iter,ifs,0⟩] scope pos) 0 (.ref it) (.ref s2.heap.objs.size) (compEnvC scope cl HH.objs.size X.env))
    (compPost (model X.prog X.w) X.A X.xe none (EP X pins σ Q) (.ref s2.heap.objs.size) HH.objs.size) s₃:=by
  rintro s₃ rfl
  refine wA (fun n s'=>∃i σ' H',Inv (bI X scope N ⟨cl,HH.objs.size,s2,H2,fp⟩) [] σ' H' s'/\tn i s'.heap/\(∀b∈fp,H' b=none)/\W i n σ' H') ?_ m0
   ⟨0,eY k cI σ,_,I4 _,T.keep _ _ _ st2 fun b _ o e=>old b o e,fun b hb=>by rw[aS (ne_of_lt (hob b hb))];exact(f2 b hb).1,w0⟩
  rintro n s3 ⟨i,σ3,H3,I3,st3,fr3,w3⟩
  rcases turn i n σ3 H3 w3 with⟨stop,qn⟩|⟨go,NN,hN,step⟩
  ·refine cP (T.done (bI X scope N ⟨cl,HH.objs.size,s2,H2,fp⟩) rfl rfl rfl hc i [] s3 σ3 H3 _ I3 (stat fr3) st3 stop) fun r s4 ⟨hr,J4⟩=>?_
   subst hr
   obtain⟨m,hn,_⟩:=J4.loc
   refine⟨m,hn,fun h' hs'=>?_⟩
   have keepC:∀b o,b≠HH.objs.size->s4.heap.get? b=some o->h'.get? b=some o:=fun b o hb e=>hs'.extBut b o hb e
   have gB:∀b o,s2.heap.get? b=some o->b≠HH.objs.size:=fun b o e=>ne_of_lt (hCC▸lt_succ_of_lt (lt_size e))
   have u:=J4.base
   have u':Un (HJ X.stack) fp H2 H3 s2.heap h':=⟨fun b o q n hb hx=>keepC b o (gB b o q) (u.keep b o q n hb hx),fun b o q n hb hx=>by
     obtain⟨sl,e⟩:=u.slot b o q n hb hx
     exact⟨sl,keepC b _ (gB b o q) e⟩,u.free,fun b o q hx=>by
     obtain⟨o',e⟩:=u.there b o q hx
     exact⟨o',keepC b _ (gB b o q) e⟩,u.vB,u.tD,u.u5⟩
   refine⟨.ref s2.heap.objs.size,H3,I2.MK (ch:=fp) J4.os u' (J4.bP.but J4.free keepC) J4.bare fun b hb=>?_,rfl,qn⟩
   obtain⟨_,f1,_,f3,f4,f5⟩:=f2 b hb
   exact⟨f3,f1,f4,f5⟩
  ·refine cP (T.item (bI X scope N ⟨cl,HH.objs.size,s2,H2,fp⟩) rfl rfl rfl hc i [] s3 σ3 H3 _ I3 (stat fr3) st3 go) fun r s4 ⟨u,hr,h4⟩=>?_
   subst hr
   refine cP h4 fun _ s5 ⟨x,H5,I5,r5,y5,st5,fr5⟩=>?_
   have I5':=I5.pinned (stat fr5) (T.obj _ _ st5)
   have again:∀{s7:Shared} {σ7:St} {H7:Hp},Inv (bI X scope N ⟨cl,HH.objs.size,s2,H2,fp⟩) ([]++nN fp s5.heap) σ7 H7 s7->NN σ7 H7->
     ∃m,m<n/\∃i σ' H',Inv (bI X scope N ⟨cl,HH.objs.size,s2,H2,fp⟩) [] σ' H' s7/\tn i s7.heap/\(∀b∈fp,H' b=none)/\W i m σ' H':=fun{s7 σ7 H7} I7 n7=>by
    obtain⟨m',hm,w7⟩:=hN σ7 H7 n7
    refine⟨m',hm,i+1,σ7,H7,I7.j8,T.keep _ _ _ st5 fun b hb o e=>(I7.pin (b,o) (mem_append_right _ (mem_append_right _ (eJ hb e)))).1,fun b hb=>?_,w7⟩
    obtain⟨o,e,d⟩:=T.obj _ _ st5 b hb
    exact(I7.pin (b,o) (mem_append_right _ (mem_append_right _ (eJ hb e)))).2.1
   refine cP (hg _ _ s5 σ3 H5 x u _ I5' r5 (step x H5 y5)) fun _ s6 ⟨σ6,H6,I6,q6⟩=>?_
   refine cP (ht _ _ s6 σ6 H6 _ I6 q6) fun b s7 ⟨H7,I7,q7⟩=>?_
   cases b with
   |false=>exact again I7 q7
   |true=>
    refine cP (he _ _ s7 σ6 H7 _ I7 q7) fun y s8 ⟨yv,H8,I8,r8,xs,hl,hz,n8⟩=>?_
    refine cP (eL _ s8 σ6 H8 (.ref s2.heap.objs.size) [yv] (.ref s2.heap.objs.size) [y] (fun _ H9=>NN σ6 H9) I8 rfl (.cons r8 .nil) ⟨_,xs,yv,rfl,rfl,hl,hz,n8⟩) fun _ s9 ⟨_,H9,I9,_,q9⟩=>?_
    exact again I9 q9
 exact codeAny_compStart_list (loop _ rfl) (T.self X.A 0 _ _ _ (T.keep _ _ _ st2 fun b _ o e=>old b o e) (loop _ rfl))
end
noncomputable def ZS (z:Str):It:=⟨fun i _=>i<z.cps.size,fun i H x H'=>H'=H/\∃c,z.cps[i]? =some c/\x= .str ⟨#[c]⟩,fun i _=>z.cps.size<=i⟩
theorem HW (z:Str) (t:Tok) (it:Addr):Turn P w K tg (ZS z) [it] it (fun i h=>h.IsStrIter it "str_ascii_iterator" z t i)where
 mem:=by simp
 obj:=fun i h st b hb=>by
  have e:b=it:=by simpa using hb
  subst e
  obtain⟨o,e,c,d⟩:=st
  exact⟨o,e,fun v z=>by rw[d]at z;cases z⟩
 keep:=fun i h h' st k=>let⟨o,e,r⟩:=st;⟨o,k it (by simp) o e,r⟩
 item:=by
  intro X hP hw hK hc i pins s σ H E I hf st hg
  subst hP hw hK
  obtain⟨f0,f1,f2,f3,f4,f5⟩:=hf it (by simp)
  have hg':i<z.cps.size:=hg
  refine wpAny_pyNext_ascii_item st (c:=z.cps[i]) (by simp[hg']) fun h' st' sb=>?_
  have I1:Inv X pins σ H {s with heap:=h',toks:=s.toks+1}:=I.turned (fun b o hb e=>(sb.2 b hb).trans e) f0 f1 f3 f4 f5
  obtain⟨o,e,c,d⟩:=id st'
  exact⟨_,rfl,wX (s:={s with heap:=h',toks:=s.toks+1}) e c d (by decide) ⟨.str ⟨#[z.cps[i]]⟩,H,I1,⟨_,rfl⟩,⟨rfl,_,by simp[hg'],rfl⟩,st',fun b hb=>(hf b hb).1⟩⟩
 done:=by
  intro X hP hw hK hc i pins s σ H E I hf st hg
  subst hP hw hK
  obtain⟨f0,f1,f2,f3,f4,f5⟩:=hf it (by simp)
  exact wpAny_pyNext_ascii_end (I.ok.hd hc) st (Array.getElem?_eq_none hg) fun h' eb=>⟨rfl,I.turned (t':=s.toks) (fun b o hb e=>eb b o hb e) f0 f1 f3 f4 f5⟩
 self:=fun A i s Q E st h=>by
  refine wpAny_pyIter_slot st.typeIs F.slot_str_ascii_iterator_iter (wpAny_call_entry F.slot_str_ascii_iterator_iter st.typeIs F.entry_str_ascii_iterator_iter ?_ (F.args_str_ascii_iterator_iter_1 _))
  show wpAny _ _ (ret (.ref it)) _ _ s
  exact wpAny_pure ⟨_,rfl,"str_ascii_iterator",_,st.typeIs,F.slot_str_ascii_iterator_next.lookup,h⟩
theorem IX (z:Str) (t:Tok) (it:Addr):Turn P w K tg (ZS z) [it] it (fun i h=>h.IsStrIter it "str_iterator" z t i)where
 mem:=by simp
 obj:=fun i h st b hb=>by
  have e:b=it:=by simpa using hb
  subst e
  obtain⟨o,e,c,d⟩:=st
  exact⟨o,e,fun v z=>by rw[d]at z;cases z⟩
 keep:=fun i h h' st k=>let⟨o,e,r⟩:=st;⟨o,k it (by simp) o e,r⟩
 item:=by
  intro X hP hw hK hc i pins s σ H E I hf st hg
  subst hP hw hK
  obtain⟨f0,f1,f2,f3,f4,f5⟩:=hf it (by simp)
  have hg':i<z.cps.size:=hg
  refine wpAny_pyNext_wide_item st (c:=z.cps[i]) (by simp[hg']) fun h' st' sb=>?_
  have I1:Inv X pins σ H {s with heap:=h',toks:=s.toks+1}:=I.turned (fun b o hb e=>(sb.2 b hb).trans e) f0 f1 f3 f4 f5
  obtain⟨o,e,c,d⟩:=id st'
  exact⟨_,rfl,wX (s:={s with heap:=h',toks:=s.toks+1}) e c d (by decide) ⟨.str ⟨#[z.cps[i]]⟩,H,I1,⟨_,rfl⟩,⟨rfl,_,by simp[hg'],rfl⟩,st',fun b hb=>(hf b hb).1⟩⟩
 done:=by
  intro X hP hw hK hc i pins s σ H E I hf st hg
  subst hP hw hK
  obtain⟨f0,f1,f2,f3,f4,f5⟩:=hf it (by simp)
  exact wpAny_pyNext_wide_end (I.ok.hd hc) st (Array.getElem?_eq_none hg) fun h' eb=>⟨rfl,I.turned (t':=s.toks) (fun b o hb e=>eb b o hb e) f0 f1 f3 f4 f5⟩
 self:=fun A i s Q E st h=>by
  refine wpAny_pyIter_slot st.typeIs F.slot_str_iterator_iter (wpAny_call_entry F.slot_str_iterator_iter st.typeIs F.entry_str_iterator_iter ?_ (F.args_str_iterator_iter_1 _))
  show wpAny _ _ (ret (.ref it)) _ _ s
  exact wpAny_pure ⟨_,rfl,"str_iterator",_,st.typeIs,F.slot_str_iterator_next.lookup,h⟩
noncomputable def BP (bs:List Bool):List V:=bs.map V.bl
theorem TC {bs:List Bool} {its:List Value} (r:Vals (BP bs) its):∀i:Nat,its[i]? =(bs[i]?).map Value.bool:=by
 induction bs generalizing its with
 |nil=>cases r;intro i;simp
 | cons b bs ih=>
  cases r with
  |cons r rr=>
   cases r
   intro i
   cases i with
   |zero=>rfl
   |succ i=>exact ih rr i
theorem range_all {n:Nat} {f:Nat->Bool} {l:List Bool} (hn:l.length=n) (h:∀i b,l[i]? =some b->f i=b):(List.range n).all f=l.all id:=by
 induction l generalizing n f with
 |nil=>subst hn;rfl
 |cons b l ih=>
  subst hn
  rw[length_cons,List.range_succ_eq_map,all_cons,all_map,all_cons,h 0 b rfl,ih (n:=l.length) (f:=f∘Nat.succ) rfl fun i b e=>h (i+1) b e]
  rfl
theorem range_any {n:Nat} {f:Nat->Bool} {l:List Bool} (hn:l.length=n) (h:∀i b,l[i]? =some b->f i=b):(List.range n).any f=l.any id:=by
 induction l generalizing n f with
 |nil=>subst hn;rfl
 |cons b l ih=>
  subst hn
  rw[length_cons,List.range_succ_eq_map,any_cons,any_map,any_cons,h 0 b rfl,ih (n:=l.length) (f:=f∘Nat.succ) rfl fun i b e=>h (i+1) b e]
  rfl
section
variable {X:Cx}
theorem J0 (hc:X.calm=true):cH X (.builtin "all") (fun xs H Q=>∃p bs,xs=[.ref p]/\iB X.K H p (BP bs)/\Q (.bl (bs.all id)) H):=by
 intro pins s σ H xs us Q I r h
 obtain⟨p,bs,rfl,hq,q⟩:=h
 obtain⟨u,rfl,rx⟩:=vals1 r
 cases rx
 obtain⟨its,rv,pl,hz⟩:=I.list hq
 have hg:=TC rv
 have hlen:bs.length=its.length:=by have:=rv.length;simpa [BP]using this
 refine call_all_walk (wpAny_pyIter_list pl.isList ?_)
 have hlt:p<s.heap.objs.size:=let⟨o,_,e,_⟩:=pl;lt_size e
 refine⟨s.heap.objs.size,_,_,_,_,_,fun i=>(bs[i]?).getD false,rfl,Walks.list (by exact I.ok.hd hc) s.heap.objs.size p (ne_of_lt hlt) its.toArray,⟨⟨_,get?_push_size _ rfl,rfl,rfl⟩,pl.isList.at fun o e=>get?_push_of_some _ e⟩,?_,?_⟩
 ·intro i v s' Q' E' hv hq'
  have hv':its[i]? =some v:=by simpa using hv
  rw[hg i]at hv'
  cases e:bs[i]? with
  |none=>rw[e]at hv';cases hv'
  |some b=>
   dsimp only at hq'
   rw[e]at hv' hq'
   cases hv'
   exact wpAny_truthy_bool hq'
 ·intro h' tk hk
  have e1:(List.range its.toArray.size).all (fun i=>(bs[i]?).getD false)=bs.all id:=range_all (by simpa using hlen) (fun i b e=>by rw[e];rfl)
  rw[e1]
  have I1:Inv X pins σ H {s with heap:=s.heap.push {cls:=.type "list_iterator",data:=.fields #[.ref p,.int 0 0]},toks:=s.toks}:=I.kept fun b o e=>get?_push_of_some _ e
  have f1:=I.qG (H':=H) (le_refl _) (I.bP.fresh (le_refl _))
  obtain⟨f0,f1,f2,f3,f4,f5⟩:=f1
  exact⟨.bl _,H,I1.turned (it:=s.heap.objs.size) (fun b o hb e=>hk b o (by simpa using hb) e) f0 f1 f3 f4 f5,rfl,q⟩
theorem KI (hc:X.calm=true):cH X (.builtin "any") (fun xs H Q=>∃p bs,xs=[.ref p]/\iB X.K H p (BP bs)/\Q (.bl (bs.any id)) H):=by
 intro pins s σ H xs us Q I r h
 obtain⟨p,bs,rfl,hq,q⟩:=h
 obtain⟨u,rfl,rx⟩:=vals1 r
 cases rx
 obtain⟨its,rv,pl,hz⟩:=I.list hq
 have hg:=TC rv
 have hlen:bs.length=its.length:=by have:=rv.length;simpa [BP]using this
 refine call_any_walk (wpAny_pyIter_list pl.isList ?_)
 have hlt:p<s.heap.objs.size:=let⟨o,_,e,_⟩:=pl;lt_size e
 refine⟨s.heap.objs.size,_,_,_,_,_,fun i=>(bs[i]?).getD false,rfl,Walks.list (by exact I.ok.hd hc) s.heap.objs.size p (ne_of_lt hlt) its.toArray,⟨⟨_,get?_push_size _ rfl,rfl,rfl⟩,pl.isList.at fun o e=>get?_push_of_some _ e⟩,?_,?_⟩
 ·intro i v s' Q' E' hv hq'
  have hv':its[i]? =some v:=by simpa using hv
  rw[hg i]at hv'
  cases e:bs[i]? with
  |none=>rw[e]at hv';cases hv'
  |some b=>
   dsimp only at hq'
   rw[e]at hv' hq'
   cases hv'
   exact wpAny_truthy_bool hq'
 ·intro h' tk hk
  have e1:(List.range its.toArray.size).any (fun i=>(bs[i]?).getD false)=bs.any id:=range_any (by simpa using hlen) (fun i b e=>by rw[e];rfl)
  rw[e1]
  have I1:Inv X pins σ H {s with heap:=s.heap.push {cls:=.type "list_iterator",data:=.fields #[.ref p,.int 0 0]},toks:=s.toks}:=I.kept fun b o e=>get?_push_of_some _ e
  have f1:=I.qG (H':=H) (le_refl _) (I.bP.fresh (le_refl _))
  obtain⟨f0,f1,f2,f3,f4,f5⟩:=f1
  exact⟨.bl _,H,I1.turned (it:=s.heap.objs.size) (fun b o hb e=>hk b o (by simpa using hb) e) f0 f1 f3 f4 f5,rfl,q⟩
theorem UQ:JD X (fun x lo hi H Q=>∃z,x= .str z/\z.length<=sizeLine/\Q (.str (Txt.slice z lo hi)) H):=by
 intro pins s σ H x v vl vu lo hi sl Q I rx hs pl pu h
 obtain⟨z,rfl,hz,q⟩:=h
 obtain⟨t,rfl⟩:=rx
 refine⟨"str",_,F.slot_str_getitem.lookup,typeIs_str _ _ _,?_⟩
 obtain⟨o,ho,hc,hd⟩:=hs
 have fin:∀(t':Tok) (k:Nat),EP X pins σ Q (.str (Txt.slice z lo hi) t') {s with toks:=k}:=fun t' k=>⟨.str (Txt.slice z lo hi),H,I.tok k,⟨t',rfl⟩,q⟩
 have hle:=le_trans (Txt.slice_le z lo hi) hz
 cases pl with
 |none=>cases pu with
  |none=>exact wpAny_getItem_str_slice (l:=none) (u:=none) (st:=none) ⟨o,ho,hc,hd⟩ rfl (post_val_or_str ⟨hle,fun t' k=>fin t' k⟩)
  |int j uj=>exact wpAny_getItem_str_slice (l:=none) (u:=some (j,uj)) (st:=none) ⟨o,ho,hc,hd⟩ rfl (post_val_or_str ⟨hle,fun t' k=>fin t' k⟩)
 |int i ui=>cases pu with
  |none=>exact wpAny_getItem_str_slice (l:=some (i,ui)) (u:=none) (st:=none) ⟨o,ho,hc,hd⟩ rfl (post_val_or_str ⟨hle,fun t' k=>fin t' k⟩)
  |int j uj=>exact wpAny_getItem_str_slice (l:=some (i,ui)) (u:=some (j,uj)) (st:=none) ⟨o,ho,hc,hd⟩ rfl (post_val_or_str ⟨hle,fun t' k=>fin t' k⟩)
theorem sF:∀{ys:List Str} {its:List Value},Vals (ys.map V.str) its->StrsAre its ys
 |[],_,r=>by cases r;exact .nil
 | y::ys,_,r=>by
  cases r with
  |cons r rr=>
   obtain⟨t,rfl⟩:=r
   exact .cons y t (sF rr)
noncomputable def rJoin (K:Frag):V->List V->Hp->VK->Prop:=fun x vs H Q=>∃z p ys,x= .str z/\vs=[.ref p]/\iB K H p (ys.map V.str)/\(ys.map (·.length)).sum+ys.length*z.length<=16777216/\Q (.str (Txt.join z ys)) H
theorem R8:MtR X "str.join" (rJoin X.K):=by
 intro pins s σ H x vs v us Q I rx rv h
 obtain⟨z,p,ys,rfl,rfl,hq,hz,q⟩:=h
 obtain⟨t,rfl⟩:=rx
 obtain⟨u,rfl,rp⟩:=vals1 rv
 cases rp
 obtain⟨its,r,pl,_⟩:=I.list hq
 exact join_list pl.isList (by simpa using sF r) hz fun t' k=>⟨.str (Txt.join z ys),H,I.tok k,⟨t',rfl⟩,q⟩
theorem oT:iV X (binaryOp .Pow) (rI (fun i j=>0<=j/\(Builtin.Int.intBits i:Int)*j<=2^27) fun i j=>.int (i^j.toNat)):=opI fun _ _ _ _ _ _ _ hc q=>pow_int hc.1 hc.2 q
end
noncomputable def pJ (XN:List Str) (xs scope:Scope) (N:List Str) (k:Nat) (cI:List Nat):Bool:=
 scope.kind== .function && (scope.names.all fun y=>y.2 != .local||scope.names.lookup y.1==some .local) && (scope.names.all fun y=>y.2 != .cell) &&
 (scope.names.all fun y=>y.2 != .free||xs.names.lookup y.1==some .cell||xs.names.lookup y.1==some .free) && N.length==k+cI.length &&
 (List.range cI.length).all fun j=>match cI[j]?,N[k+j]? with
  |some i,some y=>XN[i]? ==some y && scope.names.lookup y==some .free
  |_,_=>false
theorem lH {XN:List Str} {xs:Scope} {N:List Str} {k:Nat} {cI:List Nat} (hN:X.N=XN) (hs:X.env.scope=xs) (h:pJ XN xs scope N k cI=true):gA X scope N k cI:=by
 subst hN hs
 unfold pJ at h
 simp only[and_eq_true,all_eq_true,or_eq_true,bne_iff_ne,ne_eq,beq_iff_eq]at h
 obtain⟨⟨⟨⟨⟨h1,h2⟩,h3⟩,h4⟩,h5⟩,h6⟩:=h
 refine⟨h1,fun y hy e=>(h2 y hy).resolve_left (fun z=>z e),h3,fun y hy e=>?_,h5,fun j i e=>?_⟩
 ·rcases h4 y hy with(z|z)|z
  ·exact absurd e z
  ·exact .inl z
  ·exact .inr z
 ·have hj:j<cI.length:=(List.getElem?_eq_some_iff.mp e).1
  have q:=h6 j (mem_range.mpr hj)
  rw[e]at q
  cases r:N[k+j]? with
  |none=>rw[r]at q;cases q
  |some y=>
   rw[r]at q
   simp only[and_eq_true,beq_iff_eq]at q
   exact⟨y,rfl,q.1,q.2⟩
section
variable {X:Cx} {elt tg iter:Expr} {ifs:List Expr} {scope:Scope} {pos:Pos} {wi:TI} {g:TG} {tt:TT} {te:TE} {N:List Str} {k:Nat} {cI:List Nat} {XN:List Str} {xs:Scope}
theorem mG (N:List Str) (k:Nat) (cI:List Nat) (XN:List Str) (xs:Scope) (hc:X.calm=true) (hN:X.N=XN) (hx:X.env.scope=xs) (hi:PI X tg iter wi) (chk:pJ XN xs scope N k cI=true)
  (hg:∀c,PG (bI X scope N c) tg g) (ht:∀c,T9 (bI X scope N c) ifs tt) (he:∀c,PE (bI X scope N c) elt te)
  (hs:∀x,foldedSetIterable iter X.env x=pure x:=by intro _;rfl):PE X (.ListComp elt [⟨tg,iter,ifs,0⟩] scope pos) (vK wi k cI g tt te):=O2 hc (lH hN hx chk) hi hg ht he hs
end
structure Def (K:Frag) (mg:Str->Option Value) (x:Str) (st:Stmt) (ps:List Str) (f:Addr) (fd:FuncData):Prop where
 F:XY K x x st f fd
 m:mg x=some (.ref f)
 b:Binds K fd ps []
section
variable {X:Cx} {x:Str} {st:Stmt} {ps:List Str} {f:Addr} {fd:FuncData} {j k:Nat} {sp:Sp} {e:Expr} {es:List Expr} {t:TA} {p pos:Pos}
theorem ab4 (D:Def X.K X.mg x st ps f fd) (G:pA X.prog X.w X.K X.mg X.base OR j f fd ps sp) (hr:dX k X.A) (hjk:j<=k) (hg:Gl X x) (ha:PA X (e::es) t) (hdb:(x==("__debug__":Str))=false:=by decide)
  (he:starEach (e::es) X.env=(false,eval e X.env)::starEach es X.env:=by rfl) (hpl:(backTo pos (starEach es X.env)).any (·.1)=false:=by rfl):
  PE X (.Call (.Name x p) (e::es) [] pos) (BO sp [] E0 t):=QL G (hr.mono hjk) hg D.m D.F.kp D.b .nil abB ha hdb he hpl
end
theorem Vals.get':∀{xs:List V} {us:List Value} {i:Nat} {u:Value},Vals xs us->us[i]? =some u->∃x,xs[i]? =some x/\RelV x u
 |_,_,_,_,.nil,h=>by simp at h
 |_,_,0,_,.cons r _,h=>by simp at h;subst h;exact⟨_,rfl,r⟩
 |_,_,i+1,_,.cons _ t,h=>Vals.get' (i:=i) t (by simpa using h)
theorem UO:bootBuiltins "all"=some (.builtin "all"):=by decide+kernel
theorem X2:bootBuiltins "any"=some (.builtin "any"):=by decide+kernel
theorem jN:bootBuiltins "isinstance"=some (.builtin "isinstance"):=by decide+kernel
theorem kK:bootBuiltins "len"=some (.builtin "len"):=by decide+kernel
theorem tE:bootBuiltins "min"=some (.builtin "min"):=by decide+kernel
theorem iC:bootBuiltins "sorted"=some (.builtin "sorted"):=by decide+kernel
theorem X8:bootBuiltins "int"=some (.type "int"):=by decide+kernel
theorem P7:bootBuiltins "bool"=some (.type "bool"):=by decide+kernel
theorem K5:bootBuiltins "str"=some (.type "str"):=by decide+kernel
theorem E1:bootBuiltins "list"=some (.type "list"):=by decide+kernel
theorem eK:bootBuiltins "tuple"=some (.type "tuple"):=by decide+kernel
theorem xT:bootBuiltins "enumerate"=some (.type "enumerate"):=by decide+kernel
theorem aZ.upd {l:Addr} {o:HO} (h:H l=none):aZ H (upd H l o):=fun b u e=>by rw[aS (cA e h)];exact e
theorem szt {n:Nat} (h:n<16777216):n<sizeLine:=by rw[PySem.sizeLine_eq];exact h
theorem Q6 (z:Str):z.cps.toList.length=z.length:=by simp[Str.length]
theorem OL {z:Str} {d:Int} (h0:0<=d) (h:d<(z.length:Int)):∃c,c∈z.cps.toList/\oN z.cps.toList d=some c:=by
 obtain⟨j,rfl⟩:∃j:Nat,d=(j:Int):=⟨d.toNat,by omega⟩
 have hj:j<z.cps.toList.length:=by have e:=Q6 z;omega
 exact⟨z.cps.toList[j],getElem_mem hj,gX (by simp[hj])⟩
theorem SJ {α:Type} {xs:List α} {d:Int} (h0:0<=d) (h:d<(xs.length:Int)):∃c,c∈xs/\oN xs d=some c:=by
 obtain⟨j,rfl⟩:∃j:Nat,d=(j:Int):=⟨d.toNat,by omega⟩
 have hj:j<xs.length:=by omega
 exact⟨xs[j],getElem_mem hj,gX (by simp[hj])⟩
theorem joined {ys:List Str}:(Txt.join (Str.ofString "") ys).length<=(ys.map (·.length)).sum:=by
 show(Builtin.Str.glued _ ys).length<=_
 rw[StrLaws.glued_eq_join]
 have h:=StrLaws.join_length_le (Str.ofString "") ys
 have e:(Str.ofString "").length=0:=by decide+kernel
 rw[e]at h
 omega
noncomputable def BZ (K:Frag):Sp:=fun vs H Q _=>∃(a:Addr) (ns:List Int),vs=[.ref a]/\iB K H a (ns.map V.int)/\ns.length<=63/\∀H',Q (.bl true) H'
end L2
namespace PySem
open Sem (wp)
open AutoSeq1 (wpAny_loadPart')
variable {it l:Addr} {i:Nat} {Q:Value->Shared->Prop}
section
variable {prog:Program} {w:World} {A:Around} {E:Value->Shared->Prop} {s:Shared}
theorem lB {t:Addr} {items} {x:Value} (hit:s.heap.IsTupleIter it t i)
  (ht:s.heap.IsTuple t items) (hx:items[i]? =some x)
  (hQ:∀h',h'.IsTupleIter it t (i+1)->Heap.SameBut it s.heap h'->Q x {s with heap:=h'}):
  wpAny (model prog w) A (Builtin.SmallTypes.nextOf (.ref it)) Q E s:=by
 obtain⟨o,ho,hc,hd⟩:=id hit
 obtain⟨ol,hol,_,nl,hdl⟩:=ht
 unfold Builtin.SmallTypes.nextOf
 refine wpAny_bind (wpAny_callSpecial?_slot (name:=Str.ofString "__next__") hit.typeIs F.slot_tuple_iterator_next
  (wpAny_call_entry F.slot_tuple_iterator_next hit.typeIs F.entry_tuple_iterator_next ?_ (F.args_tuple_iterator_next_1 _)))
 show wpAny _ _ (field (.ref it) 0>>=_) _ _ s
 refine wpAny_bind (wpAny_field ho hd (x:=.ref t) rfl ?_)
 show wpAny _ _ (if(Value.ref t==Value.none)=true then _ else _) _ _ s
 rw[if_neg (show¬((Value.ref t==Value.none)=true)from Bool.false_ne_true)]
 show wpAny _ _ (field (.ref it) 1>>=_) _ _ s
 refine wpAny_bind (wpAny_field ho hd (x:=.int i 0) rfl ?_)
 show wpAny _ _ (seqItems? (.ref t)>>=_) _ _ s
 refine wpAny_bind (wpAny_seqItems hol hdl ?_)
 simp only[toNat_natCast,hx]
 refine wpAny_bind (wpAny_setField ho hd (by simp) (wpAny_pure ⟨x,rfl,wpAny_pure (hQ _ ?_ (Heap.SameBut.update ..))⟩))
 exact⟨_,get?_update_self _ ho (Obj.isFreed_of_fields (Obj.data_mapFields hd _)),(Obj.cls_mapFields ..).trans hc,by
  rw[Obj.data_mapFields hd];simp[rawInt]⟩
theorem lM {items} (hh:A.handled=none)
  (hit:s.heap.IsTupleIter it l i) (hl:s.heap.IsTuple l items) (hx:items[i]? =none)
  (hE:∀h' e,Heap.ExtBut it s.heap h'->(∃o,h'.get? e=some o/\o.cls= .type "StopIteration")->E (.ref e) {s with heap:=h'}):
  wpAny (model prog w) A (Builtin.SmallTypes.nextOf (.ref it)) Q E s:=by
 obtain⟨o,ho,hc,hd⟩:=id hit
 obtain⟨ol,hol,_,nl,hdl⟩:=hl
 unfold Builtin.SmallTypes.nextOf
 refine wpAny_bind (wpAny_callSpecial?_slot (name:=Str.ofString "__next__") hit.typeIs F.slot_tuple_iterator_next
  (wpAny_call_entry F.slot_tuple_iterator_next hit.typeIs F.entry_tuple_iterator_next ?_ (F.args_tuple_iterator_next_1 _)))
 show wpAny _ _ (field (.ref it) 0>>=_) _ _ s
 refine wpAny_bind (wpAny_field ho hd (x:=.ref l) rfl ?_)
 show wpAny _ _ (if(Value.ref l==Value.none)=true then _ else _) _ _ s
 rw[if_neg (show¬((Value.ref l==Value.none)=true)from Bool.false_ne_true)]
 show wpAny _ _ (field (.ref it) 1>>=_) _ _ s
 refine wpAny_bind (wpAny_field ho hd (x:=.int i 0) rfl ?_)
 show wpAny _ _ (seqItems? (.ref l)>>=_) _ _ s
 refine wpAny_bind (wpAny_seqItems hol hdl ?_)
 simp only[toNat_natCast,hx]
 refine wpAny_bind (wpAny_rule (wpAny_bind (wpAny_setField ho hd (by simp) ?_)))
 show wpAny _ _ (newExc (.type "StopIteration") []>>=_) _ _ _
 refine wpAny_bind ?_
 simp only[newExc,newTuple]
 refine wpAny_bind (wpAny_newObj_type ?_ (by size_fits))
 refine wpAny_bind (m:=firstArgMember _ _) (wpAny_of_eq (a:=Value.none) (by first|rfl|(simp only[firstArgMember];rfl)) ?_)
 refine wpAny_newObj_type ?_ (by size_fits)
 simp only[raiseNew]
 refine wpAny_bind (wpAny_handled ?_)
 first|rw[show A.in1.handled=none from hh]|rw[hh]
 refine wpAny_bind (wpAny_pure (wpAny_throw ?_))
 exact hE _ _ (((Heap.SameBut.update ..).extBut.push _).push _) ⟨_,get?_push_size _ rfl,rfl⟩
end
theorem jU {prog:Program} {w:World} {A:Around} (hh:A.handled=none) (it l:Addr) (hne:l≠it) (items:Array Value):
  Draws prog w A it [it,l] items.size (fun i v=>items[i]? =some v) (fun i h=>h.IsTupleIter it l i/\h.IsTuple l items)where
 live:=fun _ _ st=>let⟨o,ho,_⟩:=st.1;⟨o,ho⟩
 frame:=fun _ _ _ st hk=>⟨st.1.at fun o e=>hk it (by simp) o e,let⟨o,e,r⟩:=st.2;⟨o,hk l (by simp) o e,r⟩⟩
 item:=fun i s Q E hi st hQ=>by
  refine lB st.1 st.2 (x:=items[i]) (by simp[hi]) fun h' hit' hs'=>?_
  exact hQ _ h' s.toks (by simp[hi]) ⟨hit',st.2.extBut hs'.extBut hne⟩ hs'
 done:=fun s Q E st hE=>lM hh st.1 st.2 (by simp) hE
theorem iX (l:Addr) (items:Array Value) (n:Nat) (a8:Option Addr) (sl:Array (Option Value)):
  Meets (Builtin.«enumerate.__new__» ⟨[.type "enumerate",.ref l],[]⟩) (fun _ R s=>s.heap.get? l=some {cls:=.type "tuple",dict:=a8,data:=.seq items n,slots:=sl}/\
   R (.ok (.ret (.ref (s.heap.push {cls:=.type "tuple_iterator",data:=.fields #[.ref l,.int 0 0]}).objs.size)))
    {s with heap:=(s.heap.push {cls:=.type "tuple_iterator",data:=.fields #[.ref l,.int 0 0]}).push {cls:=.type "enumerate",data:=.fields #[.none,.bool false,.ref s.heap.objs.size,rawInt 0,.none,.none]}}):=
 .of_wp fun prog w A R s h=>by
  obtain⟨hp,g,d,tk,os⟩:=s;obtain⟨hl,h⟩:=h
  have hsub:=sub_enumerate
  have hL:Heap.IsTuple (Shared.heap ⟨hp,g,d,tk,os⟩) l items:=⟨_,hl,rfl,n,rfl⟩
  wp_walk using wpAny_loadPart' hl
  refine wpAny_stack_any fun st=>wpAny_pure ?_
  split
  ·rename_i c _ _ _ _ _
   cases(c==Value.type "enumerate")
   ·wp_walk using wpAny_loadPart' hl,wpAny_pyIter_tuple hL
    exact⟨_,rfl,h⟩
   ·wp_walk using wpAny_loadPart' hl,wpAny_pyIter_tuple hL
    exact⟨_,rfl,h⟩
  ·wp_walk using wpAny_loadPart' hl,wpAny_pyIter_tuple hL
   exact⟨_,rfl,h⟩
section
variable {prog:Program} {w:World} {A:Around} {E:Value->Shared->Prop} {s:Shared}
theorem iW {items:Array Value} (hL:s.heap.IsTuple l items)
  (h:∀h',IsEnum h' (s.heap.objs.size+1) s.heap.objs.size 0 .none->h'.IsTupleIter s.heap.objs.size l 0->h'.objs.size=s.heap.objs.size+2->
   (∀b o,s.heap.get? b=some o->h'.get? b=some o)->Q (.ref (s.heap.objs.size+1)) {s with heap:=h'}):
  wpAny (model prog w) A (call (.type "enumerate") [.ref l]) Q E s:=by
 obtain⟨⟨c,a8,dt,sl⟩,hl,hc,n,hd⟩:=hL
 replace hc:c= .type "tuple":=hc
 replace hd:dt= .seq items n:=hd
 subst hc hd
 refine callType_new F.called_enumerate (by decide) (F.typeCall_enumerate_1 _) (F.newCall_enumerate_1 _) (fun obj=>F.args_object_init_2 obj _) F.entry_enumerate_new
  (iX l items n a8 sl) ⟨hl,?_⟩
 have hz:(s.heap.push {cls:=.type "tuple_iterator",data:=.fields #[.ref l,.int 0 0]}).objs.size=s.heap.objs.size+1:=size_push ..
 show _/\_
 rw[hz]
 have he:IsEnum ((s.heap.push {cls:=.type "tuple_iterator",data:=.fields #[.ref l,.int 0 0]}).push
   {cls:=.type "enumerate",data:=.fields #[.none,.bool false,.ref s.heap.objs.size,rawInt 0,.none,.none]}) (s.heap.objs.size+1) s.heap.objs.size 0 .none:=by
  have:=get?_push_size (s.heap.push {cls:=.type "tuple_iterator",data:=.fields #[.ref l,.int 0 0]})
   (o:={cls:=.type "enumerate",data:=.fields #[.none,.bool false,.ref s.heap.objs.size,rawInt 0,.none,.none]}) rfl
  rw[hz]at this;exact this
 refine⟨⟨_,he,rfl⟩,h _ he ⟨_,get?_push_of_some _ (get?_push_size _ rfl),rfl,rfl⟩ (by rw[size_push,hz]) fun b o x=>get?_push_of_some _ (get?_push_of_some _ x)⟩
end
end PySem
namespace L2
open PySem PySem.Spec PyProof.Rows
variable {X:Cx} {h':Heap} {H:Hp} {pins:List (Addr×Obj)} {fp:List Addr} {es:List Expr} {t':Nat} {pos:Pos} {K:Frag} {s:Shared} {σ:St}
theorem Inv.F0 (I:Inv X pins σ H s) (k:∀b o,b∉fp->s.heap.get? b=some o->h'.get? b=some o) (hf:∀b∈fp,pO X pins H b):
  Inv X pins σ H {s with heap:=h',toks:=t'}:=by
 have nit:∀b u,H b=some u->b∉fp:=fun b u e z=>by rw[(hf b z).1]at e;cases e
 refine I.step (g':=s.gens) (d':=s.drawn) (ch:=fp) (fun b hb=>?_) (fun b o _ _ hc e _=>k b o hc e) (fun b o _ _ hc e _=>⟨o.slots,k b o hc e⟩) (fun _ _ _ _ n=>n)
  (fun b o hc e=>⟨o,k b o hc e⟩) (fun _ _ e=>e) (fun _ _ _ e=>e) (fun b ps e=>⟨#[],by rw[e];simp⟩) (fun m hm=>?_) (fun b u e=>?_) I.bare
 ·obtain⟨_,f1,_,f3,f4,f5⟩:=hf b hb
  exact⟨f3,f1,f4,f5⟩
 ·obtain⟨o,es,ep,ho,r⟩:=hm
  exact⟨o,es,ep,k _ o (fun z=>(hf _ z).2.1 rfl) ho,r⟩
 ·refine(I.bP b u e).aH (fun c v hc q=>k c v ?_ q) (fun _ q=>q) fun _ _ q=>q
  rcases hc with z|z
  ·rw[z];exact nit b u e
  ·exact nit c _ z
theorem Inv.un2 {xs:List V} (I:Inv X pins σ H s) (k:∀b o,b∉fp->s.heap.get? b=some o->h'.get? b=some o) (hf:∀b∈fp,pO X pins H b)
  (hfr:H s.heap.objs.size=none) (hno:s.heap.objs.size∉fp) (new:dI X.prog X.w (upd H s.heap.objs.size (.tup xs)) h' s.heap.objs.size (.tup xs)) (ht:∀b∈fp,∀o,s.heap.get? b=some o->∃o',h'.get? b=some o'):
  Inv X pins σ (upd H s.heap.objs.size (.tup xs)) {s with heap:=h',toks:=t'}:=by
 have nit:∀b u,H b=some u->b∉fp:=fun b u e z=>by rw[(hf b z).1]at e;cases e
 have nT:∀b o,s.heap.get? b=some o->b≠s.heap.objs.size:=fun b o e=>ne_of_lt (lt_size e)
 refine I.step (g':=s.gens) (d':=s.drawn) (ch:=fp) (fun b hb=>?_) (fun b o _ _ hc e _=>k b o hc e) (fun b o _ _ hc e _=>⟨o.slots,k b o hc e⟩) (fun b o _ e n=>by rw[aS (nT b o e)];exact n)
  (fun b o hc e=>⟨o,k b o hc e⟩) (fun b ys e=>by rw[aS (cA e hfr)];exact e) (fun b o u e=>by rw[aS (cA e hfr)];exact e) (fun b ps e=>⟨#[],by rw[aS (cA e hfr),e];simp⟩) (fun m hm=>?_) (fun b u e=>?_) I.bare
 ·obtain⟨_,f1,_,f3,f4,f5⟩:=hf b hb
  exact⟨f3,f1,f4,f5⟩
 ·obtain⟨o,es,ep,ho,r⟩:=hm
  exact⟨o,es,ep,k _ o (fun z=>(hf _ z).2.1 rfl) ho,r⟩
 ·by_cases hb:b=s.heap.objs.size
  ·subst hb;rw[aU]at e;cases e;exact new
  ·rw[aS hb]at e
   refine(I.bP b u e).aH (fun c v hc q=>k c v ?_ q) (fun c q=>by rw[aS (cA q hfr)];exact q) fun c ys q=>by rw[aS (cA q hfr)];exact q
   rcases hc with z|z
   ·rw[z];exact nit b u e
   ·exact nit c _ z
noncomputable def Ite (K:Frag) (a:Addr):It:=
 ⟨fun i H=>∃xs x,nE K H a xs/\xs[i]? =some x,fun i H v H'=>∃t,H t=none/\v= .ref t/\∀xs,nE K H a xs->∃x,xs[i]? =some x/\H'=upd H t (.tup [.int i,x]),fun i H=>∃xs,nE K H a xs/\xs.length=i⟩
theorem D1 {P:Program} {w:World} {elts:List Expr} {x1} (a it e:Addr) (hei:e≠it):Turn P w K (.Tuple elts x1 pos) (Ite K a) [e,it] e (fun i h=>(∃old,IsEnum h e it i old)/\h.IsTupleIter it a i)where
 mem:=by simp
 obj:=fun i h st b hb=>by
  obtain⟨⟨old,he⟩,o,ho,c,d⟩:=st
  rcases mem_cons.mp hb with z|z
  ·subst z;exact⟨_,he,fun v z=>by cases z⟩
  ·have z:b=it:=by simpa using z
   subst z;exact⟨o,ho,fun v z=>by rw[d]at z;cases z⟩
 keep:=fun i h h' st k=>⟨let⟨old,he⟩:=st.1;⟨old,k e (by simp) _ he⟩,st.2.at fun o q=>k it (by simp) o q⟩
 item:=by
  intro X hP hw hK hc i pins s σ H E I hf st hg
  subst hP hw hK
  obtain⟨xs,x,hq,hx⟩:=hg
  obtain⟨its,rv,p,hz⟩:=I.tuple hq
  obtain⟨u,hu,ru⟩:=rv.get hx
  obtain⟨⟨old,he⟩,ht⟩:=st
  have hne:a≠it:=fun z=>by
   obtain⟨o,ho,c,_⟩:=ht
   obtain⟨o',ho',c',_⟩:=p
   subst z
   rw[ho]at ho';cases ho'
   rw[c]at c'
   exact absurd (Value.type.inj c') (by decide)
  have hae:a≠e:=fun z=>by
   obtain⟨o',ho',c',_⟩:=p
   subst z
   rw[he]at ho';cases ho'
   exact absurd (Value.type.inj c') (by decide)
  have hlt:i<its.toArray.size:=by have:=(List.getElem?_eq_some_iff.mp hu).1;simpa using this
  refine wpAny_pyNext_enum_itemD (jU (A:=X.A.in1) (by exact I.ok.hd hc) it a hne its.toArray) he ⟨ht,p⟩ hlt hei (by simp[hei,Ne.symm hae]) fun v h' tk hPv ho' st' htup hsz hk=>?_
  have ev:v=u:=by
   have h1:its[i]? =some v:=by simpa using hPv
   rw[hu]at h1;exact(Option.some.inj h1).symm
  subst ev
  refine⟨_,rfl,wpAny_letOwnedTupleGo_enum (s:={s with heap:=h',toks:=tk+1}) ho' fun h2 he2 sb=>?_⟩
  have hTe:s.heap.objs.size≠e:=fun z=>by
   have:=lt_size he;rw[<-z]at this;exact lt_irrefl _ this
  have hTi:s.heap.objs.size≠it:=fun z=>by
   obtain⟨o,ho,_⟩:=ht
   have:=lt_size ho;rw[<-z]at this;exact lt_irrefl _ this
  have hk2:∀b o,b∉[e,it]->s.heap.get? b=some o->h2.get? b=some o:=fun b o hb q=>
   sb.extBut b o (fun z=>hb (by simp[z])) (hk b o (fun z=>hb (by simp[z])) (fun z=>hb (by simp[z])) q)
  have I1:Inv X pins σ H {s with heap:=h2,toks:=tk+1}:=I.F0 hk2 hf
  have hfr:H s.heap.objs.size=none:=I.bP.fresh (le_refl _)
  have htup2:h2.get? s.heap.objs.size=some {cls:=.type "tuple",data:=.seq #[.int i tk,v]}:=sb.extBut _ _ hTe htup
  have I2:Inv X pins σ (upd H s.heap.objs.size (.tup [.int i,x])) {s with heap:=h2,toks:=tk+1}:=by
   refine I.un2 hk2 hf hfr (by simp[hTe,hTi]) ⟨by show 2<=sizeLine;decide,[.int i tk,v],.cons ⟨_,rfl⟩ (.cons ru .nil),pG.of htup2⟩ (fun b hb o q=>?_)
   rcases mem_cons.mp hb with r|r
   ·subst r;exact⟨_,he2⟩
   ·have r:b=it:=by simpa using r
    subst r
    obtain⟨o',ho',_⟩:=st'.1.extBut sb.extBut (Ne.symm hei)
    exact⟨o',ho'⟩
  refine⟨.ref s.heap.objs.size,_,I2,rfl,⟨s.heap.objs.size,hfr,rfl,fun ys hy=>⟨x,by rw[I.vW hy hq];exact hx,rfl⟩⟩,⟨⟨_,he2⟩,st'.1.extBut sb.extBut (Ne.symm hei)⟩,fun b hb=>?_⟩
  have hbT:b≠s.heap.objs.size:=fun z=>by
   rcases mem_cons.mp hb with r|r
   ·exact hTe (z▸r)
   ·have r:b=it:=by simpa using r
    exact hTi (z▸r)
  rw[aS hbT]
  exact(hf b hb).1
 done:=by
  intro X hP hw hK hc i pins s σ H E I hf st hg
  subst hP hw hK
  obtain⟨xs,hq,hx⟩:=hg
  obtain⟨its,rv,p,hz⟩:=I.tuple hq
  obtain⟨⟨old,he⟩,ht⟩:=st
  have hl:=rv.length
  have hne:a≠it:=fun z=>by
   obtain⟨o,ho,c,_⟩:=ht
   obtain⟨o',ho',c',_⟩:=p
   subst z
   rw[ho]at ho';cases ho'
   rw[c]at c'
   exact absurd (Value.type.inj c') (by decide)
  have ei:(i:Nat)=its.toArray.size:=by simp;omega
  subst ei
  obtain⟨f0,f1,f2,f3,f4,f5⟩:=hf it (by simp)
  exact wpAny_pyNext_enum_endD (jU (A:=X.A.in1) (by exact I.ok.hd hc) it a hne its.toArray) he ⟨ht,p⟩ fun h' eb=>⟨rfl,I.turned (t':=s.toks) (fun b o hb e=>eb b o hb e) f0 f1 f3 f4 f5⟩
 self:=fun _ _ _ _ _ st h=>let⟨_,he⟩:=st.1;wpAny_pyIter_enum he h
section
variable {X:Cx} {k:Nat}
theorem ixL (K:Frag) (h:X.K=K:=by rfl):DP X (YH K):=h▸RS
theorem ixT (K:Frag) (h:X.K=K:=by rfl):DP X (WE K):=h▸YT
theorem slL (K:Frag) (h:X.K=K:=by rfl):JD X (VV K):=h▸OY
noncomputable def aaT (K:Frag):List V->Hp->VK->Prop:=fun xs H Q=>∃p bs,xs=[.ref p]/\iB K H p (BP bs)/\Q (.bl (bs.all id)) H
noncomputable def aaA (K:Frag):List V->Hp->VK->Prop:=fun xs H Q=>∃p bs,xs=[.ref p]/\iB K H p (BP bs)/\Q (.bl (bs.any id)) H
theorem adX (K:Frag) (hc:X.calm=true) (h:X.K=K:=by rfl):cH X (.builtin "all") (aaT K):=h▸J0 hc
theorem ac1 (K:Frag) (hc:X.calm=true) (h:X.K=K:=by rfl):cH X (.builtin "any") (aaA K):=h▸KI hc
noncomputable def L8 (K:Frag):List V->Hp->VK->Prop:=fun xs H Q=>∃p ys,xs=[.ref p]/\(iB K H p ys\/ nE K H p ys)/\∀l,H l=none->Q (.ref l) (upd H l (.lst ys))
theorem aaI (K:Frag) (h:X.K=K:=by rfl):cH X (.type "list") (L8 K):=h▸yH
theorem abC (K:Frag) (h:X.K=K:=by rfl):MtR X "str.join" (rJoin K):=h▸R8
theorem e8 (K:Frag) {j:Nat} {t:DV} {n:Nat} (hc:X.calm=true) (h:PGs X es t) (hK:X.K=K:=by rfl)
  (hn:(assignEach es X.env).length=n:=by rfl) (hst:(assignEach es X.env).findIdx? (·.1)=none:=by rfl):PG X (.Tuple es j pos) (IJ K n t):=hK▸YB hc h hn hst
theorem jR (K:Frag) {o e:Expr} {to:TE} {t:TA} {name:Str} {apos cpos:Pos} {T id:String} {r:V->List V->Hp->VK->Prop} (pa:PlainAttrs T) (slot:Slot T name id) (hty:typeOf (.builtin id)=pure (.type "method_descriptor")) (hm:MtR X id r) (ho:PE X o to) (ha:PA X (e::es) t) (hK:X.K=K:=by rfl)
  (hbase:attributeBase o name X.env (eval o X.env)=eval o X.env:=by rfl)
  (hfew:((backTo cpos (starEach (e::es) X.env)).all (fun x=>!x.1) && (backToKw cpos (keywordEach [] X.env)).all (fun x=>x.1.isSome)
   && decide ((e::es).length+([]:List Keyword).length+(if([]:List Keyword).isEmpty then 0 else 1)<30))=true:=by rfl)
  (hline:(apos.endLine==cpos.line)=true:=by rfl) (hs:starEach (e::es) X.env=(false,eval e X.env)::starEach es X.env:=by rfl) (hplain:(backTo cpos (starEach es X.env)).any (·.1)=false:=by rfl):
  PE X (.Call (.Attribute o name apos) (e::es) [] cpos) (ZR K T r to t):=hK▸ZX pa slot hty hm ho ha hbase hfew hline hs hplain
end
inductive Kd where
 |bA|bl|int|str|lst|tup|a8
 deriving DecidableEq
noncomputable def Kd.nm:Kd->String
 | .bA=>"NoneType"| .bl=>"bool"| .int=>"int"| .str=>"str"| .lst=>"list"| .tup=>"tuple"| .a8=>"dict"
theorem YO (k:Kd):kitOne K (.type k.nm) (.type "str")=some (decide (k= .str)):=by cases k<;>kernel_rfl
theorem VH (k:Kd):kitOne K (.type k.nm) (.type "tuple")=some (decide (k= .tup)):=by cases k<;>kernel_rfl
theorem UM (k:Kd):kitOne K (.type k.nm) (.type "int")=some (decide (k= .int)||decide (k= .bl)):=by cases k<;>kernel_rfl
theorem SF (k:Kd):kitOne K (.type k.nm) (.type "bool")=some (decide (k= .bl)):=by cases k<;>kernel_rfl
end L2
namespace HT
open PySem PySem.Spec PyProof.Rows
variable {t:Addr} {Q:Value->Shared->Prop}
section
variable {prog:Program} {w:World} {A:Around} {E:Value->Shared->Prop} {s:Shared}
theorem o9 {sl:Addr} {items:Array Value} {vl vu:Value} {lo hi:Option Int} (ht:IsTup s.heap t items) (hs:s.heap.IsSliceOf sl vl vu .none) (pl:IsPart vl lo) (pu:IsPart vu hi)
  (hw:eT items.size 0 lo=0/\eT items.size items.size hi=items.size) (h:Q (.ref t) s):wpAny (model prog w) A (getItem (.ref t) (.ref sl)) Q E s:=by
 obtain⟨os,hos,hcs,hds⟩:=id hs
 have hTs:s.TypeIs (.ref sl) "slice":=⟨os,hos,hcs⟩
 unfold getItem
 try with_reducible refine wpAny_holding ?_
 first|refine wpAny_bind (wpAny_pure ?_)|skip
 refine wpAny_bind (wpAny_sequenceKey ht.typeIs (by decide) ?_)
 refine wpAny_bind (wpAny_callSpecial?_slot (name:=Str.ofString "__getitem__") ht.typeIs PyProof.Rows.slot_tuple_getitem
  (wpAny_call_entry PyProof.Rows.slot_tuple_getitem ht.typeIs entry_tuple_getitem ?_ (args_tuple_getitem _ _)))
 show wpAny _ _ (Builtin.Tuple.tupleItemsOf (.ref t)>>=_) _ _ s
 refine wpAny_bind (tupleItemsOf_ ht ?_)
 refine wpAny_bind (wpAny_typeOf hTs ?_)
 rw[if_pos (by decide)]
 refine wpAny_bind (kC hs pl pu ?_)
 have hyes:(((eT items.size 0 lo:Nat):Int)==0 && (1:Int)==1 && (eT items.size items.size hi - eT items.size 0 lo)==items.size)=true:=by
  rw[hw.1,hw.2];simp
 show wpAny _ _ (if(((eT items.size 0 lo:Nat):Int)==0 && (1:Int)==1 && (eT items.size items.size hi - eT items.size 0 lo)==items.size)=true then _ else _) _ _ s
 rw[if_pos hyes]
 refine wpAny_bind (wpAny_bind (wpAny_typeOf ht.typeIs (wpAny_pure ?_)))
 rw[if_pos (by decide)]
 refine wpAny_bind (wpAny_rule ?_)
 first
  |exact wpAny_pure ⟨_,rfl,wpAny_pure h⟩
  |exact wpAny_bind (wpAny_pure ⟨_,rfl,wpAny_pure h⟩)
theorem R3 {b:Addr} {vs ws:List Value} (ht:IsTup s.heap t vs.toArray) (hb:IsTup s.heap b ws.toArray)
  (h0:vs=[]->Q (.ref b) s) (h1:ws=[]->Q (.ref t) s) (h2:vs≠[]->ws≠[]->Q (.ref s.heap.objs.size) {s with heap:=s.heap.push {cls:=.type "tuple",data:=.seq (vs++ws).toArray}})
  (hsz:vs.length+ws.length<=sizeLine):wpAny (model prog w) A (binaryOp .Add (.ref t) (.ref b)) Q E s:=by
 by_cases hv:vs=[]
 ·obtain⟨⟨cls,dd,data,sl⟩,ho,hc,n,hd⟩:=id ht
  obtain⟨⟨cls2,dd2,data2,sl2⟩,ho2,hc2,n2,hd2⟩:=id hb
  simp only at hc hd hc2 hd2
  subst hc hd hc2 hd2
  exact concat_meets ⟨_,ho,rfl⟩ ⟨_,ho2,rfl⟩ noFill_tuple_add seq_tuple_add slot_tuple_add entry_tuple_add (args_tuple_add_2 _ _)
   (tuple_addW0 t b vs.toArray ws.toArray n n2 dd dd2 sl sl2 (by simp[hv])) ⟨ho,ho2,h0 hv⟩
 ·exact QE ht hb hv h1 (h2 hv) hsz
end
end HT
namespace L2
open PySem PySem.Spec PyProof.Rows
variable {a b l:Addr} {p:Array Nat} {R:Array Nat->Prop} {r r' r'':Bool} {X:Cx} {h':Heap} {H H':Hp} {A:KeyOrd} {pins:List (Addr×Obj)} {xs:List (List Key×Addr×Value)} {kvs:List (List Key×V)} {vs:List Value} {ep i j k m n x:Nat} {ans:Nat->Nat->Bool} {pos py spos:Pos} {P:Program} {s:Shared} {σ:St} {y:Str} {α β:Type} {u:Value} {Q:Value->Shared->Prop} {w:World}
section
variable {X:Cx}
noncomputable def T2 (i j:Int):Prop:=0<j/\j<2^200
theorem sU:iV X (binaryOp .FloorDiv) (rI T2 fun i j=>.int (i / j)):=opI fun i j _ _ _ _ _ hc q=>by
 have h1:(0:Int)<j:=hc.1
 have h2:j<2^200:=hc.2
 refine floordiv_int (by omega) (by rw[Int.fdiv_eq_ediv_of_nonneg i (by omega)];exact q) (.inl (PyProof.noPylong_of_log2 ?_))
 have h3:j.natAbs<2^200:=by omega
 have h4:j.natAbs.log2<200:=(Nat.log2_lt (by omega)).mpr h3
 omega
end
section
variable {κ:Type} [DecidableEq κ]
noncomputable def eM (kvs:List (κ×V)) (k:κ):Option V:=(kvs.find? fun kv=>decide (kv.1=k)).map (·.2)
noncomputable def putK (kvs:List (κ×V)) (k:κ) (v:V):List (κ×V):=
 if(kvs.any fun kv=>decide (kv.1=k))=true then kvs.map (fun kv=>if kv.1=k then(kv.1,v)else kv)else kvs++[(k,v)]
theorem tI {p:κ×V} {r:List (κ×V)} {k:κ} (e:p.1=k):eM (p::r) k=some p.2:=by simp[eM,find?_cons,e]
theorem sW {p:κ×V} {r:List (κ×V)} {k:κ} (e:¬p.1=k):eM (p::r) k=eM r k:=by simp[eM,find?_cons,e]
theorem B8 (k:κ):∀kvs:List (κ×V),(kvs.any fun kv=>decide (kv.1=k))=(eM kvs k).isSome
 |[]=>rfl
 |p::r=>by
  rw[any_cons]
  by_cases e:p.1=k
  ·simp only[tI e,decide_eq_true e,Bool.true_or,Option.isSome_some]
  ·rw[sW e,decide_eq_false e,Bool.false_or];exact B8 k r
theorem jD (kvs:List (κ×V)) (k:κ) (v:V):(putK kvs k v).length<=kvs.length+1:=by
 unfold putK
 split
 ·rw[length_map];omega
 ·rw[length_append,length_cons,length_nil];omega
theorem rN.kG {o:Option V} {u:Option Value} (r:rN o u):o.isSome=u.isSome:=by
 cases o with
 |none=>cases u with
  |none=>rfl
  |some _=>exact(show False from r).elim
 |some _=>cases u with
  |none=>exact(show False from r).elim
  |some _=>rfl
theorem rN.getD {o:Option V} {u:Option Value} {d:V} {d':Value} (r:rN o u) (rd:RelV d d'):RelV (o.getD d) (u.getD d'):=by
 cases o with
 |none=>cases u with
  |none=>exact rd
  |some _=>exact(show False from r).elim
 |some _=>cases u with
  |none=>exact(show False from r).elim
  |some _=>exact r
theorem KV.val {kvs:List (κ×V)} {vs:List (κ×Value)} (r:KV kvs vs) (k:κ):rN (eM kvs k) (valueAt vs k):=by
 unfold KV at r
 induction r with
 |nil=>exact True.intro
 | @cons p q ps qs h t ih=>
  obtain⟨h1,h2⟩:=h
  by_cases e:p.1=k
  ·have e':q.1=k:=h1.symm.trans e
   have b:valueAt (q::qs) k=some q.2:=by simp[valueAt,find?_cons,e']
   rw[tI e,b];exact h2
  ·have e':¬q.1=k:=fun z=>e (h1.trans z)
   have b:valueAt (q::qs) k=valueAt qs k:=by simp[valueAt,find?_cons,e']
   rw[sW e,b];exact ih
theorem KV.any {kvs:List (κ×V)} {vs:List (κ×Value)} (r:KV kvs vs) (k:κ):(kvs.any fun kv=>decide (kv.1=k))=vs.any fun kv=>decide (kv.1=k):=by
 unfold KV at r
 induction r with
 |nil=>rfl
 |cons h t ih=>rw[any_cons,any_cons,ih,h.1]
theorem KV.C3 {kvs:List (κ×V)} {vs:List (κ×Value)} (r:KV kvs vs) (k:κ) {y:V} (ry:RelV y u):
  KV (kvs.map fun kv=>if kv.1=k then(kv.1,y)else kv) (vs.map fun kv=>if kv.1=k then(kv.1,u)else kv):=by
 unfold KV at r⊢
 induction r with
 |nil=>exact .nil
 | @cons p q ps qs h t ih=>
  rw[map_cons,map_cons]
  refine .cons ?_ ih
  obtain⟨h1,h2⟩:=h
  by_cases e:p.1=k
  ·rw[if_pos e,if_pos (h1.symm.trans e)];exact⟨h1,ry⟩
  ·rw[if_neg e,if_neg (fun z=>e (h1.trans z))];exact⟨h1,h2⟩
theorem KV.put {kvs:List (κ×V)} {vs:List (κ×Value)} (r:KV kvs vs) (k:κ) {y:V} (ry:RelV y u):KV (putK kvs k y) (stored vs k u):=by
 unfold putK stored
 rw[r.any k]
 by_cases e:(vs.any fun kv=>decide (kv.1=k))=true
 ·rw[if_pos e,if_pos e];exact r.C3 k ry
 ·rw[if_neg e,if_neg e];exact Paired.snoc r ⟨rfl,ry⟩
theorem KV.keys {kvs:List (κ×V)} {vs:List (κ×Value)} (r:KV kvs vs):kvs.map (·.1)=vs.map (·.1):=by
 unfold KV at r
 induction r with
 |nil=>rfl
 |cons h t ih=>rw[map_cons,map_cons,ih,h.1]
theorem KV.length {kvs:List (κ×V)} {vs:List (κ×Value)} (r:KV kvs vs):kvs.length=vs.length:=Paired.length r
end
theorem pE {k:Key} {u:Value} (r:RelV (kV k) u):(bT P w).is k u=true:=by
 cases k with
 |inl i=>obtain⟨t,e⟩:=(show∃t,u=Value.int i t from r);subst e;exact AK P w i t
 |inr x=>obtain⟨t,e⟩:=(show∃t,u=Value.str x t from r);subst e;exact zV P w x t
theorem vT:∀{ks:List Key} {us:List Value},Vals (ks.map kV) us->ItemsAre (bT P w) ks us
 |[],_,r=>by rw[map_nil]at r;cases r;exact .nil
 |k::ks,_,r=>by
  rw[map_cons]at r
  cases r with
  |cons h t=>exact .cons (pE h) (vT t)
noncomputable abbrev KT (H:Hp):List (List Key×V)->List (List Key×Addr×Value)->Prop:=Paired fun p q=>p.1=q.1/\H q.2.1=some (.tup (p.1.map kV))/\RelV p.2 q.2.2
theorem KT.val (r:KT H kvs xs) (k:List Key):rN (eM kvs k) ((atKey xs k).map (·.2)):=by
 induction r with
 |nil=>exact True.intro
 | @cons p q ps qs h t ih=>
  obtain⟨h1,_,h2⟩:=h
  by_cases e:p.1=k
  ·have e':q.1=k:=h1.symm.trans e
   have b:atKey (q::qs) k=some q.2:=by simp[atKey,find?_cons,e']
   rw[tI e,b];exact h2
  ·have e':¬q.1=k:=fun z=>e (h1.trans z)
   have b:atKey (q::qs) k=atKey qs k:=by simp[atKey,find?_cons,e']
   rw[sW e,b];exact ih
theorem KT.C3 (r:KT H kvs xs) (k:List Key) {y:V} (ry:RelV y u):
  KT H (kvs.map fun kv=>if kv.1=k then(kv.1,y)else kv) (xs.map (putAt k u)):=by
 induction r with
 |nil=>exact .nil
 | @cons p q ps qs h t ih=>
  rw[map_cons,map_cons]
  refine .cons ?_ ih
  obtain⟨h1,h2,h3⟩:=h
  unfold putAt
  by_cases e:p.1=k
  ·rw[if_pos e,if_pos (h1.symm.trans e)];exact⟨h1,h2,ry⟩
  ·rw[if_neg e,if_neg (fun z=>e (h1.trans z))];exact⟨h1,h2,h3⟩
theorem KT.put (r:KT H kvs xs) (k:List Key) {y:V} (hb:H b=some (.tup (k.map kV))) (ry:RelV y u):
  KT H (putK kvs k y) (storedH xs k b u):=by
 have e:(kvs.any fun kv=>decide (kv.1=k))=(atKey xs k).isSome:=by
  rw[B8,(r.val k).kG,isSome_map]
 unfold putK storedH
 rw[e]
 by_cases q:(atKey xs k).isSome=true
 ·rw[if_pos q,if_pos q];exact r.C3 k ry
 ·rw[if_neg q,if_neg q];exact Paired.snoc r ⟨rfl,hb,ry⟩
theorem KT.keeps (r:KT H kvs xs) (ht:∀b ys,H b=some (.tup ys)->H' b=some (.tup ys)):KT H' kvs xs:=
 Paired.WD r fun _ _ z=>⟨z.1,ht _ _ z.2.1,z.2.2⟩
noncomputable def xA (H:Hp) (a:Addr) (kvs:List (Key×V)):Prop:=∃ep,Rd H a (.dK kvs ep)
noncomputable def tK (H:Hp) (a:Addr) (kvs:List (Key×V)):Prop:=∃ep,H a=some (.dK kvs ep)
theorem tK.rd {kvs:List (Key×V)} (h:tK H a kvs):xA H a kvs:=let⟨ep,e⟩:=h;⟨ep,.inl e⟩
theorem tK.mut {kvs:List (Key×V)} (h:tK H a kvs):ZJ (H a):=by obtain⟨_,e⟩:=h;rw[e];exact True.intro
section
variable {P:Program} {w:World} {H:Hp} {h:Heap} {a:Addr}
theorem T7 {u:HO} (ok:m5 P w H h) (e:Rd H a u):dI P w H h a u:=e.ok ok
theorem tO {kvs:List (Key×V)} (ok:m5 P w H h) (e:Rd H a (.dK kvs ep)):kvs.length<=sizeLine/\(a==sysModules)=false/\∃vs,KV kvs vs/\h.DictAt (bT P w) a vs ep:=
 show dI P w H h a (.dK kvs ep)from T7 ok e
theorem gR {kvs:List (Key×V)} (ok:m5 P w H h) (e:xA H a kvs):kvs.length<=sizeLine/\(a==sysModules)=false/\∃vs,KV kvs vs/\h.DictOf (bT P w) a vs:=
 let⟨_,e⟩:=e;let⟨z,y,vs,r,d⟩:=tO ok e;⟨z,y,vs,r,d.dictOf⟩
theorem J1 {kvs:List (Key×V)} (ok:m5 P w H h) (e:tK H a kvs):kvs.length<=sizeLine/\(a==sysModules)=false/\∃vs,KV kvs vs/\h.DictOf (bT P w) a vs:=gR ok e.rd
theorem nU {ks:List Key} (ok:m5 P w H h) (e:H a=some (.tup (ks.map kV))):(tupleKind (bT P w)).is h ks a:=by
 obtain⟨_,its,r,⟨o,h1,h2,n,h3⟩,_⟩:=(show dI P w H h a (.tup (ks.map kV))from ok a _ e)
 exact⟨o,its.toArray,n,h1,h2,h3,by simpa using vT r⟩
theorem qO {kvs:List (List Key×V)} (ok:m5 P w H h) (e:Rd H a (.dT kvs)):kvs.length<=sizeLine/\(a==sysModules)=false/\
  ∃xs,KT H kvs xs/\h.DictOfH (tupleKind (bT P w)) a xs:=by
 obtain⟨z,y,xs,r,o,es,ep,h1,h2,h3,h4,h5⟩:=(show dI P w H h a (.dT kvs)from T7 ok e)
 refine⟨z,y,xs,r,o,es,ep,h1,h2,h3,h4,fun x hx=>?_,h5⟩
 have all:∀{l:List (List Key×V)} {m:List (List Key×Addr×Value)},KT H l m->∀x∈m,(tupleKind (bT P w)).is h x.1 x.2.1:=by
  intro l m q
  induction q with
  |nil=>intro x hx;exact nomatch hx
  | @cons p q ps qs hq t ih=>
   intro x hx
   rcases mem_cons.mp hx with e|hx
   ·subst e
    exact nU ok (by rw[<-hq.1];exact hq.2.1)
   ·exact ih x hx
 exact all r x hx
theorem abV (ok:m5 P w H h) (e:H a=some (.dT kvs)):kvs.length<=sizeLine/\(a==sysModules)=false/\
  ∃xs,KT H kvs xs/\h.DictOfH (tupleKind (bT P w)) a xs:=qO ok (.inl e)
end
noncomputable def xS (H:Hp) (a:Addr) (y:V) (r:Option V):Prop:=
 (∃kvs k,xA H a kvs/\y=kV k/\r=eM kvs k)\/ ∃kvs k b,Rd H a (.dT kvs)/\y= .ref b/\H b=some (.tup (k.map kV))/\r=eM kvs k
noncomputable def aaC (H:Hp) (a:Addr) (y v:V) (Q:Hp->Prop):Prop:=
 (∃kvs k,tK H a kvs/\y=kV k/\kvs.length<sizeLine/\∀ep,Q (upd H a (.dK (putK kvs k v) ep)))\/
 ∃kvs k b,H a=some (.dT kvs)/\y= .ref b/\H b=some (.tup (k.map kV))/\kvs.length<sizeLine/\Q (upd H a (.dT (putK kvs k v)))
section
variable {X:Cx} {pins:List (Addr×Obj)} {σ:St} {H:Hp} {s:Shared} {a:Addr} {y v:V} {u r:Value} {o:Option V} {A:Around} {E:Value->Shared->Prop}
theorem Inv.big (I:Inv X pins σ H s):sysModules<s.heap.objs.size:=by
 have h:mainGlobals<s.heap.objs.size:=(I.mod.glob.keeps I.bk).lt
 exact lt_trans (by decide) h
theorem IB (hu:A.units+1<cLine) (I:Inv X pins σ H s) (g:xS H a y (some v)) (ry:RelV y u) (h:∀w' s',Inv X pins σ H s'->RelV v w'->Q w' s'):
  wpAny (model X.prog X.w) A (getItem (.ref a) u) Q E s:=by
 rcases g with⟨kvs,k,e,ey,l⟩|⟨kvs,k,b,e,ey,eb,l⟩
 ·subst ey
  obtain⟨z,hd,vs,rel,dd⟩:=gR I.bP e
  obtain⟨w',hw,rw'⟩:=rN.some_of (v:=v) (o:=valueAt vs k) (by rw[l];exact rel.val k)
  exact wpAny_getItem_of (pE ry) dd.mapOf hw (h w' _ (I.tok _) rw')
 ·subst ey
  cases(show u=Value.ref b from ry)
  obtain⟨z,hd,xs,rel,dd⟩:=qO I.bP e
  obtain⟨w',hw,rw'⟩:=rN.some_of (v:=v) (o:=(atKey xs k).map (·.2)) (by rw[l];exact rel.val k)
  obtain⟨p,hp,hp2⟩:=map_eq_some_iff.mp hw
  refine wpAny_getItem_heap (tupleKind_room_in1 hu) (nU I.bP eb) dd hp ?_
  rw[hp2]
  exact h w' _ (I.tok _) rw'
theorem ad7 (hu:A.units+1<cLine) (I:Inv X pins σ H s) (g:xS H a y o) (ry:RelV y u) (h:∀s',Inv X pins σ H s'->Q (.bool o.isSome) s'):
  wpAny (model X.prog X.w) A (compareOp .In u (.ref a)) Q E s:=by
 rcases g with⟨kvs,k,e,ey,l⟩|⟨kvs,k,b,e,ey,eb,l⟩
 ·subst ey
  obtain⟨z,hd,vs,rel,dd⟩:=gR I.bP e
  refine wpAny_in_of (pE ry) hd dd.mapOf ?_
  rw[<-(rel.val k).kG,<-l]
  exact h _ (I.tok _)
 ·subst ey
  cases(show u=Value.ref b from ry)
  obtain⟨z,hd,xs,rel,dd⟩:=qO I.bP e
  refine wpAny_in_heap (tupleKind_room_in1 hu) (nU I.bP eb) hd dd ?_
  have q:=(rel.val k).kG
  rw[isSome_map]at q
  rw[<-q,<-l]
  exact h _ (I.tok _)
theorem R1 (hu:A.units+1<cLine) (I:Inv X pins σ H s) (g:xS H a y o) (ry:RelV y u) (h:∀s',Inv X pins σ H s'->Q (.bool (!o.isSome)) s'):
  wpAny (model X.prog X.w) A (compareOp .NotIn u (.ref a)) Q E s:=by
 rcases g with⟨kvs,k,e,ey,l⟩|⟨kvs,k,b,e,ey,eb,l⟩
 ·subst ey
  obtain⟨z,hd,vs,rel,dd⟩:=gR I.bP e
  refine wpAny_notIn_of (pE ry) hd dd.mapOf ?_
  rw[<-(rel.val k).kG,<-l]
  exact h _ (I.tok _)
 ·subst ey
  cases(show u=Value.ref b from ry)
  obtain⟨z,hd,xs,rel,dd⟩:=qO I.bP e
  refine wpAny_notIn_heap (tupleKind_room_in1 hu) (nU I.bP eb) hd dd ?_
  have q:=(rel.val k).kG
  rw[isSome_map]at q
  rw[<-q,<-l]
  exact h _ (I.tok _)
theorem sE {t':Nat} {ob:HO} (I:Inv X pins σ H s) (mu:ZJ (H a)) (hs:Heap.SameBut a s.heap h') (he:∃q,h'.get? a=some q) (new:dI X.prog X.w (upd H a ob) h' a ob):
  Inv X pins σ (upd H a ob) {s with heap:=h',toks:=t'}:=
 I.write (x:=a) (e:=a) mu (.inl rfl) (fun b q hb z=>(hs.2 b hb).trans z) he new
theorem DN {kvs:List (Key×V)} {vs:List (Key×Value)} (z:kvs.length<=sizeLine) (hd:(a==sysModules)=false) (rel:KV kvs vs) (dd:h'.DictAt (bT P w) a vs ep):
  dI P w H' h' a (.dK kvs ep):=⟨z,hd,vs,rel,dd⟩
theorem JB {Z:Hp->Prop} {Q:Unit->Shared->Prop} (hu:A.units+1<cLine) (I:Inv X pins σ H s) (g:aaC H a y v Z) (ry:RelV y u) (rv:RelV v r) (h:∀H' s',Inv X pins σ H' s'->Z H'->Q () s'):
  wpAny (model X.prog X.w) A (setItem (.ref a) u r) Q E s:=by
 rcases g with⟨kvs,k,e,ey,l,eH⟩|⟨kvs,k,b,e,ey,eb,l,eH⟩
 ·subst ey
  obtain⟨z,hd,vs,rel,dd⟩:=J1 I.bP e
  have hz:vs.length<=sizeLine:=by rw[<-rel.length];exact z
  have hl:(putK kvs k v).length<=sizeLine:=by have:=jD kvs k v;omega
  refine wpAny_setItem_pairs (hsz:=hz) (pE ry) dd fun h' dd' hs=>?_
  obtain⟨ep,da⟩:=dd'.dictAt
  refine h _ _ ?_ (eH ep)
  have he:∃q,h'.get? a=some q:=let⟨q,_,_,hq,_⟩:=dd';⟨q,hq⟩
  exact sE I e.mut hs he (DN hl hd (rel.put k rv) da)
 ·subst ey
  cases(show u=Value.ref b from ry)
  obtain⟨z,hd,xs,rel,dd⟩:=abV I.bP e
  have hz:xs.length<=sizeLine:=by rw[<-Paired.length rel];exact z
  have hl:(putK kvs k v).length<=sizeLine:=by have:=jD kvs k v;omega
  refine wpAny_setItem_heap (hsz:=hz) (tupleKind_room_in1 hu) (nU I.bP eb) dd fun h' dd' hs=>h _ _ ?_ eH
  obtain⟨q,es,ep,hq,h2,h3,h4,_,h5⟩:=dd'
  refine sE I (by rw[e];exact True.intro) hs ⟨q,hq⟩ ⟨hl,hd,_,(rel.put k eb rv).keeps fun c ys ec=>?_,q,es,ep,hq,h2,h3,h4,h5⟩
  rw[aS (JY ec e (fun z=>nomatch z))]
  exact ec
end
theorem BD {y:V} {o:Option V} (I:Inv X pins σ H s) (g:xS H a y o):s.TypeIs (.ref a) "dict":=by
 rcases g with⟨kvs,k,e,_,_⟩|⟨kvs,k,b,e,_,_,_⟩
 ·obtain⟨_,_,vs,_,dd⟩:=gR I.bP e
  exact dd.typeIs
 ·obtain⟨_,_,xs,_,dd⟩:=qO I.bP e
  exact dd.typeIs
noncomputable def eQ (td ty tv:TE):TS:=fun D σ H=>tv σ H fun v H1=>td σ H1 fun x H2=>ty σ H2 fun y H3=>∃a,x= .ref a/\aaC H3 a y v (D.nx σ)
section
variable {X:Cx} {o i e value:Expr} {pos pos' tpos:Pos} {td ty tv:TE}
theorem c8 (hu:X.A.units+1<cLine) (ho:PE X o td) (hi:PE X i ty) (hv:PE X value tv) (hs:swapsWith value (some (.Subscript o i pos')) pos.line X.env=pure false):
  PS X (.Assign [.Subscript o i pos'] value pos) (eQ td ty tv):=by
 intro pins s σ H D I h
 refine wpAny_Assign_Subscript (cP (hv pins s σ H _ I h) fun r s1 ⟨v,H1,I1,rv,q1⟩=>cP (ho pins s1 σ H1 _ I1 q1) fun u s2 ⟨x,H2,I2,rx,q2⟩=>cP (hi pins s2 σ H2 _ I2 q2) fun iv s3 ⟨y,H3,I3,ry,a,ex,g⟩=>?_) hs
 subst ex
 obtain rfl:u=Value.ref a:=rx
 exact JB hu I3 g ry rv fun H4 s4 I4 q3=>⟨σ,H4,I4,q3⟩
end
theorem LP (h:Heap) (hb:sysModules<h.objs.size):dI P w H (h.push {cls:=.type "dict",data:=.dict #[]}) h.objs.size (.dK [] 0):=
 ⟨zero_le _,beq_eq_false_iff_ne.mpr (Ne.symm (ne_of_lt hb)),[],.nil,_, #[],get?_push_size _ rfl,⟨rfl,rfl,rfl⟩,rfl,(fun _ he=>by simp at he),PySem.Pairs.nil,nodup_nil⟩
noncomputable def yB:TE:=fun _ H Q=>∀p,H p=none->Q (.ref p) (upd H p (.dK [] 0))
section
variable {X:Cx} {pos:Pos}
theorem fT:PE X (.Dict [] [] pos) yB:=fun pins s σ H Q I h=>
 wpAny_Dict_empty ⟨.ref s.heap.objs.size,_,I.laid (a:=s.heap.objs.size) (o:=.dK [] 0) (t':=s.toks) (fun _ _ q=>get?_push_of_some _ q) (le_refl _) (LP s.heap I.big),rfl,h _ (I.bP.fresh (le_refl _))⟩
end
structure M1 (X:Cx) (o:Expr) (m:Str) (apos:Pos) (e:Expr) (cpos:Pos):Prop where
 base:attributeBase o m X.env (eval o X.env)=eval o X.env
 few:((backTo cpos (starEach [e] X.env)).all (fun x=>!x.1) && (backToKw cpos (keywordEach [] X.env)).all (fun x=>x.1.isSome)
  && decide (([e]:List Expr).length+([]:List Keyword).length+(if([]:List Keyword).isEmpty then 0 else 1)<30))=true
 line:(apos.endLine==cpos.line)=true
 trees:backTo cpos (starEach [e] X.env)=[(false,eval e X.env)]
structure M2 (X:Cx) (o:Expr) (m:Str) (apos:Pos) (e f:Expr) (cpos:Pos):Prop where
 base:attributeBase o m X.env (eval o X.env)=eval o X.env
 few:((backTo cpos (starEach [e,f] X.env)).all (fun x=>!x.1) && (backToKw cpos (keywordEach [] X.env)).all (fun x=>x.1.isSome)
  && decide (([e,f]:List Expr).length+([]:List Keyword).length+(if([]:List Keyword).isEmpty then 0 else 1)<30))=true
 line:(apos.endLine==cpos.line)=true
 trees:backTo cpos (starEach [e,f] X.env)=[(false,eval e X.env),(false,eval f X.env)]
noncomputable def IsD (H:Hp) (a:Addr):Prop:=(∃kvs,xA H a kvs)\/ ∃kvs,Rd H a (.dT kvs)
theorem DK (I:Inv X pins σ H s) (d:IsD H a):
  s.TypeIs (.ref a) "dict"/\(∀b,Value.ref a= .ref b->∃ob,s.heap.get? b=some ob/\ob.dict=none)/\(a==sysModules)=false:=by
 rcases d with⟨kvs,e⟩|⟨kvs,e⟩
 ·obtain⟨_,hd,vs,_,dd⟩:=gR I.bP e
  refine⟨dd.typeIs,fun b q=>?_,hd⟩
  cases q
  obtain⟨ob,_,_,h1,h2,_⟩:=dd
  exact⟨ob,h1,h2.2.1⟩
 ·obtain⟨_,hd,xs,_,dd⟩:=qO I.bP e
  refine⟨dd.typeIs,fun b q=>?_,hd⟩
  cases q
  obtain⟨ob,_,_,h1,h2,_⟩:=dd
  exact⟨ob,h1,h2.2.1⟩
section
variable {X:Cx} {pins:List (Addr×Obj)} {σ:St} {H:Hp} {s:Shared} {a:Addr} {y d:V} {u r:Value} {o:Option V} {A:Around} {E:Value->Shared->Prop}
theorem VL (hu:A.units+1<cLine) (I:Inv X pins σ H s) (g:xS H a y o) (ry:RelV y u) (h:∀w' s',Inv X pins σ H s'->RelV (o.getD .bA) w'->Q w' s'):
  wpAny (model X.prog X.w) A (call (.builtin "dict.get") [.ref a,u]) Q E s:=by
 rcases g with⟨kvs,k,e,ey,l⟩|⟨kvs,k,b,e,ey,eb,l⟩
 ·subst ey
  obtain⟨z,hd,vs,rel,dd⟩:=gR I.bP e
  refine call_meetsIn slot_dict_get dd.typeIs entry_dict_get (PySem.F.args_dict_get_2 _ _) (meets_dict_get (bT X.prog X.w) a (pE ry) hd) ⟨_,dd.mapOf,h _ _ (I.tok _) ?_⟩
  rw[l]
  exact(rel.val k).getD rfl
 ·subst ey
  cases(show u=Value.ref b from ry)
  obtain⟨z,hd,xs,rel,dd⟩:=qO I.bP e
  refine call_meetsIn slot_dict_get dd.typeIs entry_dict_get (PySem.F.args_dict_get_2 _ _) (meetsH_dict_get (tupleKind (bT X.prog X.w)) a b hd) ⟨tupleKind_room_in1 hu,k,xs,nU I.bP eb,dd,h _ _ (I.tok _) ?_⟩
  rw[l]
  exact(rel.val k).getD rfl
theorem WW (hu:A.units+1<cLine) (I:Inv X pins σ H s) (g:xS H a y o) (ry:RelV y u) (rd:RelV d r) (h:∀w' s',Inv X pins σ H s'->RelV (o.getD d) w'->Q w' s'):
  wpAny (model X.prog X.w) A (call (.builtin "dict.get") [.ref a,u,r]) Q E s:=by
 rcases g with⟨kvs,k,e,ey,l⟩|⟨kvs,k,b,e,ey,eb,l⟩
 ·subst ey
  obtain⟨z,hd,vs,rel,dd⟩:=gR I.bP e
  refine call_meetsIn slot_dict_get dd.typeIs entry_dict_get (PySem.F.args_dict_get_3 _ _ _) (meets_dict_get_default (bT X.prog X.w) a (pE ry) hd r) ⟨_,dd.mapOf,h _ _ (I.tok _) ?_⟩
  rw[l]
  exact(rel.val k).getD rd
 ·subst ey
  cases(show u=Value.ref b from ry)
  obtain⟨z,hd,xs,rel,dd⟩:=qO I.bP e
  refine call_meetsIn slot_dict_get dd.typeIs entry_dict_get (PySem.F.args_dict_get_3 _ _ _) (meetsH_dict_get_default (tupleKind (bT X.prog X.w)) a b hd r) ⟨tupleKind_room_in1 hu,k,xs,nU I.bP eb,dd,h _ _ (I.tok _) ?_⟩
  rw[l]
  exact(rel.val k).getD rd
end
noncomputable def NC (td ty:TE):TE:=fun σ H Q=>td σ H fun x H1=>∃a,x= .ref a/\IsD H1 a/\ty σ H1 fun y H2=>∃o,xS H2 a y o/\Q (o.getD .bA) H2
noncomputable def J9 (td ty tx:TE):TE:=fun σ H Q=>td σ H fun x H1=>∃a,x= .ref a/\IsD H1 a/\ty σ H1 fun y H2=>tx σ H2 fun z H3=>∃o,xS H3 a y o/\Q (o.getD z) H3
section
variable {X:Cx} {o e f:Expr} {apos cpos:Pos} {td ty tx:TE}
theorem AD (hu:X.A.units+1<cLine) (ho:PE X o td) (he:PE X e ty) (m:M1 X o "get" apos e cpos):PE X (.Call (.Attribute o "get" apos) [e] [] cpos) (NC td ty):=by
 intro pins s σ H Q I h
 refine wpAny_Call_method m.base m.few m.line plainAttrs_dict slot_dict_get type_dict_get (cP (ho pins s σ H _ I h) fun u s1 ⟨x,H1,I1,rx,a,ex,d,q1⟩=>?_)
 subst ex
 obtain rfl:u=Value.ref a:=rx
 obtain⟨t1,t2,_⟩:=DK I1 d
 refine⟨t1,t2,?_⟩
 rw[m.trees]
 refine Calls.callWith_builtin rfl (Calls.evalArgs_plain (Calls.spliced_cons (cP (he pins s1 σ H1 _ I1 q1) fun iv s2 ⟨y,H2,I2,ry,ov,g,q2⟩=>Calls.spliced_nil ?_)))
 exact VL hu I2 g ry fun w' s3 I3 rw'=>⟨_,H2,I3,rw',q2⟩
theorem KN (hu:X.A.units+1<cLine) (ho:PE X o td) (he:PE X e ty) (hf:PE X f tx) (m:M2 X o "get" apos e f cpos):PE X (.Call (.Attribute o "get" apos) [e,f] [] cpos) (J9 td ty tx):=by
 intro pins s σ H Q I h
 refine wpAny_Call_method m.base m.few m.line plainAttrs_dict slot_dict_get type_dict_get (cP (ho pins s σ H _ I h) fun u s1 ⟨x,H1,I1,rx,a,ex,d,q1⟩=>?_)
 subst ex
 obtain rfl:u=Value.ref a:=rx
 obtain⟨t1,t2,_⟩:=DK I1 d
 refine⟨t1,t2,?_⟩
 rw[m.trees]
 refine Calls.callWith_builtin rfl (Calls.evalArgs_plain (Calls.spliced_cons (cP (he pins s1 σ H1 _ I1 q1) fun iv s2 ⟨y,H2,I2,ry,q2⟩=>
  Calls.spliced_cons (cP (hf pins s2 σ H2 _ I2 q2) fun fv s3 ⟨z,H3,I3,rz,ov,g,q3⟩=>Calls.spliced_nil ?_))))
 exact WW hu I3 g ry rz fun w' s4 I4 rw'=>⟨_,H3,I4,rw',q3⟩
end
section
variable {X:Cx} {es:List Expr} {te:TE} {t:TA}
theorem adZ {a b c} (ha:PE X (.Constant a b c) te) (hr:PA X es t):PA X (.Constant a b c::es) (dQ te t):=aA ha hr rfl
theorem acP {a b} (ha:PE X (.Name a b) te) (hr:PA X es t):PA X (.Name a b::es) (dQ te t):=aA ha hr rfl
theorem ad3 {a b c d} (ha:PE X (.BinOp a b c d) te) (hr:PA X es t):PA X (.BinOp a b c d::es) (dQ te t):=aA ha hr rfl
theorem acZ {a b c} (ha:PE X (.Subscript a b c) te) (hr:PA X es t):PA X (.Subscript a b c::es) (dQ te t):=aA ha hr rfl
end
section
variable {X:Cx} {elt tg iter:Expr} {ifs:List Expr} {scope:Scope} {pos:Pos} {wi:TI} {g:TG} {tt:TT} {te:TE} {N:List Str} {k:Nat} {cI:List Nat}
theorem QY {iy:Nat} (hc:X.calm=true) (hNd:X.N.Nodup) (hiy:X.N[iy]? =some y) (hy:X.env.scope.names.lookup y=some .local)
  (S:gA X scope N k cI) (hi:PI X tg iter wi) (hg:∀c,PG (bI X scope N c) tg g) (ht:∀c,T9 (bI X scope N c) ifs tt) (he:∀c,PE (bI X scope N c) elt te)
  (hsw:swapsWith (.ListComp elt [⟨tg,iter,ifs,0⟩] scope pos) (some (.Name y py)) spos.line X.env=pure true)
  (hs:∀x,foldedSetIterable iter X.env x=pure x:=by intro _;rfl):PS X (.Assign [.Name y py] (.ListComp elt [⟨tg,iter,ifs,0⟩] scope pos) spos) (m6 (vK wi k cI g tt te) (gJ iy)):=by
 intro pins s σ H D I h
 rw[exec_Assign_Name_used _ _ _ _ hsw]
 refine wpAny_bind (wpAny_standAt (wpAny_bind ?_))
 obtain⟨cl,hclos,hcl1,hcl2⟩:=jP (scope:=scope) (env:=X.env) (fun p hp hf=>I.ok.has p.1 (S.free p hp hf))
 show wpAny _ X.A (do let _<-comprehension (.ListComp elt [⟨tg,iter,ifs,0⟩] scope pos) scope X.env _ (newList []) false (eval iter X.env) (some (assign (.Name y py) X.env))) _ _ s
 refine wpAny_bind (wpAny_mono (wpAny_comprehension_free (use:=some (assign (.Name y py) X.env)) (Q:=fun _ s'=>SP X pins D .next s') rfl hs hclos S.kind S.names (cP (hi pins s σ H _ I h) fun v s1 h1=>cP h1 fun itv s2 h2=>?_)) (fun _ s' hq=>wpAny_pure (wpAny_pure hq)) fun _ _ e=>e)
 obtain⟨it,fp,tn,J,H2,e,I2,T,st2,f2,q2⟩:=h2
 subst e
 obtain⟨W,⟨m0,w0⟩,turn⟩:=q2 s2.heap.objs.size (I2.bP.fresh (le_refl _))
 have hob:∀b∈fp,b<s2.heap.objs.size:=fun b hb=>let⟨o,e,_⟩:=T.obj _ _ st2 b hb;lt_size e
 refine wpAny_newObj_type (wpAny_newFunctionEnv S.cell (by intro y hy;simp at hy) (fun h₁ hns₁ hsb₁=>?_) S.kind)
 dsimp only at hns₁ hsb₁⊢
 generalize hHH:s2.heap.push {cls:=.type "list",dict:=none,data:=.seq ([]:List Value).toArray}=HH at hns₁ hsb₁⊢
 have hCC:HH.objs.size=s2.heap.objs.size+1:=by rw[<-hHH,size_push]
 have old:∀b o,s2.heap.get? b=some o->h₁.get? b=some o:=fun b o e=>hsb₁.extBut b o (ne_of_lt (hCC▸lt_succ_of_lt (lt_size e))) (get?_push_of_some _ (hHH▸get?_push_of_some _ e))
 have hD:h₁.get? s2.heap.objs.size=some {cls:=.type "list",data:=.seq #[] 0}:=hsb₁.extBut _ _ (ne_of_lt (hCC▸lt_succ_self _)) (get?_push_of_some _ (hHH▸get?_push_size _ rfl))
 have I4:=fun tk=>GF (tk:=tk) S I2 hcl1 hcl2 hCC f2 hob old hD hns₁
 have X':=bI X scope N ⟨cl,HH.objs.size,s2,H2,fp⟩
 have stat:∀{H':Hp},(∀b∈fp,H' b=none)->∀b∈fp,pO (bI X scope N ⟨cl,HH.objs.size,s2,H2,fp⟩) [] H' b:=fun hn b hb=>
  ⟨hn b hb,ne_of_lt (hCC▸lt_succ_of_lt (hob b hb)),(sT S I2 hcl1 hcl2 (hCC▸le_succ _) f2 hob).z6 b hb,.inl hb,fun x c e=>(f2 b hb).2.2.2.2.1 x c (hcl1 x c e),fun p hp=>absurd (show p∈([]:List (Addr×Obj))from hp) (by simp)⟩
 have loop:∀s₃:Shared,s₃={s2 with heap:=h₁,toks:=s2.toks+([]:List (Str×Value)).length}->
   codeAny (model X.prog X.w) X.A (.compLoop (.ListComp elt [⟨tg,iter,ifs,0⟩] scope pos) 0 (.ref it) (.ref s2.heap.objs.size) (compEnvC scope cl HH.objs.size X.env))
    (compPost (model X.prog X.w) X.A X.xe (some (assign (.Name y py) X.env)) (fun _ s'=>SP X pins D .next s') (.ref s2.heap.objs.size) HH.objs.size) s₃:=by
  rintro s₃ rfl
  refine wA (fun n s'=>∃i σ' H',Inv (bI X scope N ⟨cl,HH.objs.size,s2,H2,fp⟩) [] σ' H' s'/\tn i s'.heap/\(∀b∈fp,H' b=none)/\W i n σ' H') ?_ m0
   ⟨0,eY k cI σ,_,I4 _,T.keep _ _ _ st2 fun b _ o e=>old b o e,fun b hb=>by rw[aS (ne_of_lt (hob b hb))];exact(f2 b hb).1,w0⟩
  rintro n s3 ⟨i,σ3,H3,I3,st3,fr3,w3⟩
  rcases turn i n σ3 H3 w3 with⟨stop,qn⟩|⟨go,NN,hN,step⟩
  ·refine cP (T.done (bI X scope N ⟨cl,HH.objs.size,s2,H2,fp⟩) rfl rfl rfl hc i [] s3 σ3 H3 _ I3 (stat fr3) st3 stop) fun r s4 ⟨hr,J4⟩=>?_
   subst hr
   obtain⟨m,hn,_⟩:=J4.loc
   obtain⟨oC,es,ep,hoC,hdC,rC⟩:=hn
   have gB:∀b o,s2.heap.get? b=some o->b≠HH.objs.size:=fun b o e=>ne_of_lt (hCC▸lt_succ_of_lt (lt_size e))
   have szC:s2.heap.objs.size<=HH.objs.size:=hCC▸le_succ _
   have u:=J4.base
   have I4x:Inv X pins σ H3 s4:=I2.MK (ch:=fp) J4.os u J4.bP J4.bare fun b hb=>by
    obtain⟨_,f1,_,f3,f4,f5⟩:=f2 b hb
    exact⟨f3,f1,f4,f5⟩
   have lC:HH.objs.size≠X.env.locals:=ne_of_gt (lt_of_lt_of_le I2.lt szC)
   have I4p:Inv X ((HH.objs.size,oC)::pins) σ H3 s4:=I4x.sL fun p hp=>by
    rcases mem_cons.mp hp with r|r
    ·rw[r]
     exact⟨hoC,J4.free,lC,I2.abK szC,fun v z=>by rw[hdC]at z;cases z⟩
    ·exact I4x.pin p (mem_append_right _ r)
   show wpAny _ X.A (assign (.Name y py) X.env (.ref s2.heap.objs.size)) _ _ _
   refine wpAny_assign_Name (lR I4p hNd hiy (.inl hy) (v:=.ref s2.heap.objs.size) rfl (fun s5 I5=>?_) (.inr hy))
   have hC5:=I5.pin (HH.objs.size,oC) (mem_append_right _ mem_cons_self)
   refine⟨m,⟨oC,es,ep,hC5.1,hdC,rC⟩,fun h' hs'=>⟨_,H3,?_,qn⟩⟩
   have I6:Inv X pins (σ.set iy (some (.ref s2.heap.objs.size))) H3 s5:=I5.sL fun p hp=>I5.pin p (mem_append_right _ (mem_cons_of_mem _ hp))
   refine I6.turned (it:=HH.objs.size) (t':=s5.toks) (fun b o hb e=>hs'.extBut b o hb e) J4.free lC (.inr (le_trans I2.sz szC)) (fun x c e=>?_) (fun p hp=>?_)
   ·obtain⟨v,q⟩:=I2.cell x c e
    exact ne_of_lt (lt_of_lt_of_le q.lt szC)
   ·exact gB p.1 p.2 (I2.pin p hp).1
  ·refine cP (T.item (bI X scope N ⟨cl,HH.objs.size,s2,H2,fp⟩) rfl rfl rfl hc i [] s3 σ3 H3 _ I3 (stat fr3) st3 go) fun r s4 ⟨u,hr,h4⟩=>?_
   subst hr
   refine cP h4 fun _ s5 ⟨x,H5,I5,r5,y5,st5,fr5⟩=>?_
   have I5':=I5.pinned (stat fr5) (T.obj _ _ st5)
   have again:∀{s7:Shared} {σ7:St} {H7:Hp},Inv (bI X scope N ⟨cl,HH.objs.size,s2,H2,fp⟩) ([]++nN fp s5.heap) σ7 H7 s7->NN σ7 H7->
     ∃m,m<n/\∃i σ' H',Inv (bI X scope N ⟨cl,HH.objs.size,s2,H2,fp⟩) [] σ' H' s7/\tn i s7.heap/\(∀b∈fp,H' b=none)/\W i m σ' H':=fun{s7 σ7 H7} I7 n7=>by
    obtain⟨m',hm,w7⟩:=hN σ7 H7 n7
    refine⟨m',hm,i+1,σ7,H7,I7.j8,T.keep _ _ _ st5 fun b hb o e=>(I7.pin (b,o) (mem_append_right _ (mem_append_right _ (eJ hb e)))).1,fun b hb=>?_,w7⟩
    obtain⟨o,e,d⟩:=T.obj _ _ st5 b hb
    exact(I7.pin (b,o) (mem_append_right _ (mem_append_right _ (eJ hb e)))).2.1
   refine cP (hg _ _ s5 σ3 H5 x u _ I5' r5 (step x H5 y5)) fun _ s6 ⟨σ6,H6,I6,q6⟩=>?_
   refine cP (ht _ _ s6 σ6 H6 _ I6 q6) fun b s7 ⟨H7,I7,q7⟩=>?_
   cases b with
   |false=>exact again I7 q7
   |true=>
    refine cP (he _ _ s7 σ6 H7 _ I7 q7) fun y s8 ⟨yv,H8,I8,r8,xs,hl,hz,n8⟩=>?_
    refine cP (eL _ s8 σ6 H8 (.ref s2.heap.objs.size) [yv] (.ref s2.heap.objs.size) [y] (fun _ H9=>NN σ6 H9) I8 rfl (.cons r8 .nil) ⟨_,xs,yv,rfl,rfl,hl,hz,n8⟩) fun _ s9 ⟨_,H9,I9,_,q9⟩=>?_
    exact again I9 q9
 exact codeAny_compStart_list (loop _ rfl) (T.self X.A 0 _ _ _ (T.keep _ _ _ st2 fun b _ o e=>old b o e) (loop _ rfl))
theorem pF (N:List Str) (k:Nat) (cI:List Nat) (XN:List Str) (xs:Scope) (hc:X.calm=true) (hN:X.N=XN) (hx:X.env.scope=xs) (hNd:X.N.Nodup) (hiy:X.N[i]? =some y) (hy:X.env.scope.names.lookup y=some .local)
  (hi:PI X tg iter wi) (chk:pJ XN xs scope N k cI=true) (hg:∀c,PG (bI X scope N c) tg g) (ht:∀c,T9 (bI X scope N c) ifs tt) (he:∀c,PE (bI X scope N c) elt te)
  (hsw:swapsWith (.ListComp elt [⟨tg,iter,ifs,0⟩] scope pos) (some (.Name y py)) spos.line X.env=pure true:=by rfl)
  (hs:∀x,foldedSetIterable iter X.env x=pure x:=by intro _;rfl):PS X (.Assign [.Name y py] (.ListComp elt [⟨tg,iter,ifs,0⟩] scope pos) spos) (m6 (vK wi k cI g tt te) (gJ i)):=
 QY hc hNd hiy hy (lH hN hx chk) hi hg ht he hsw hs
end
section
variable {X:Cx} {es:List Expr} {e:Expr} {te tk tv:TE} {t:TA}
structure Q9 (X:Cx) (e:Expr) (t:TE):Prop where
 h:PE X e t
structure MA (X:Cx) (es:List Expr) (t:TA):Prop where
 h:PA X es t
theorem ew (h:PE X e te):Q9 X e te:=⟨h⟩
theorem MG:MA X [] m9:=⟨aD⟩
theorem YC {a b} (ha:Q9 X (.Name a b) te) (hr:MA X es t):MA X (.Name a b::es) (dQ te t):=⟨acP ha.h hr.h⟩
theorem ac6 {a b c} (ha:Q9 X (.Constant a b c) te) (hr:MA X es t):MA X (.Constant a b c::es) (dQ te t):=⟨adZ ha.h hr.h⟩
theorem aeA {a b c d} (ha:Q9 X (.BinOp a b c d) te) (hr:MA X es t):MA X (.BinOp a b c d::es) (dQ te t):=⟨ad3 ha.h hr.h⟩
theorem Z0 {a b c} (ha:Q9 X (.Subscript a b c) te) (hr:MA X es t):MA X (.Subscript a b c::es) (dQ te t):=⟨acZ ha.h hr.h⟩
theorem acV {k} (h:MA X es t):Q9 X (.Tuple es k pos) (LX t):=⟨bU h.h⟩
theorem ad2 (h:MA X es t):Q9 X (.List es pos) (JK t):=⟨fB h.h⟩
end
noncomputable def G5 (A:Around) (s:Shared) (x y:Value) (c:Bool):Prop:=
 ∀(prog:Program) (w:World) (E:Value->Shared->Prop) (Q:Value->Shared->Prop),Q (.bool c) s->wpAny (model prog w) A (richCompare .Lt x y) Q E s
inductive AF (A:Around) (s:Shared) (fin:Bool):List (Value×Value)->Bool->Prop
 |done:AF A s fin [] fin
 |same {p q:Value} {r:List (Value×Value)} {c:Bool}:SeqAt.EqAt A s p q true->AF A s fin r c->AF A s fin ((p,q)::r) c
 |less {p q:Value} {r:List (Value×Value)} {c:Bool}:SeqAt.EqAt A s p q false->G5 A s p q c->AF A s fin ((p,q)::r) c
section
open PySem.SeqAt
open PySem.AutoSeq1 (wpAny_loadPart')
open PySem.MeetsSeq PySem.MeetsSeq2 PySem.MeetsSeq3
theorem ZF (l b:Addr) (us vs:Array Value) (n m:Nat) (d1 d2:Option Addr) (k1 k2:Array (Option Value)) (c:Bool):
  Meets (Builtin.«tuple.__lt__» ⟨[.ref l,.ref b],[]⟩) (fun A R s=>s.heap.get? l=some ⟨.type "tuple",d1,.seq us n,k1⟩/\s.heap.get? b=some ⟨.type "tuple",d2,.seq vs m,k2⟩/\
   AF A.in1 s (decide (us.size<vs.size)) (us.toList.zip vs.toList) c/\R (.ok (.ret (.bool c))) s):=
 .of_wp fun prog w A R s h=>by
  obtain⟨hp,gg,dd,tk,os⟩:=s
  obtain⟨hl,hb,hx,hr⟩:=h
  have f2:=AutoSeq1.sub_tuple_tuple
  wp_walk using wpAny_loadPart' hl,wpAny_loadPart' hb,wpAny_forIn_list _ (fun rest acc s'=>acc.1=none/\s'=⟨hp,gg,dd,tk,os⟩/\AF A.in1 ⟨hp,gg,dd,tk,os⟩ (decide (us.size<vs.size)) rest c) _
  case turn=>
   rintro⟨y,x⟩ rest acc s' ⟨ha,rfl,hx'⟩
   cases hx' with
   |same he hrest=>
    refine wpAny_bind (he prog w _ _ ?_)
    wp_walk
    exact⟨rfl,rfl,hrest⟩
   |less he hlt=>
    refine wpAny_bind (he prog w _ _ ?_)
    have hq:=hlt prog w
    wp_walk using hq
    exact⟨_,rfl,by simpa using hr⟩
  case fin=>
   rintro⟨b1,b2⟩ s' ⟨ha,rfl,hx'⟩
   simp only at ha
   subst ha
   cases hx'
   wp_walk
   exact⟨_,rfl,by simpa [Builtin.Tuple.tupleCompareSizes]using hr⟩
  case h=>exact⟨rfl,rfl,hx⟩
end
theorem V1 {A:Around} {us vs:Array Value} {c:Bool} (hl:IsTup s.heap l us) (hb:IsTup s.heap b vs) (hu:A.units<cLine) (hx:AF A.in1 s (decide (us.size<vs.size)) (us.toList.zip vs.toList) c):
  G5 A s (.ref l) (.ref b) c:=by
 intro prog w E Q q
 obtain⟨⟨c1,d1,t1,k1⟩,g1,e1,n,r1⟩:=id hl
 obtain⟨⟨c2,d2,t2,k2⟩,g2,e2,m,r2⟩:=id hb
 simp only at e1 r1 e2 r2
 subst e1 r1 e2 r2
 exact richCompare_meets_room (op:=.Lt) ⟨_,g1,rfl⟩ ⟨_,g2,rfl⟩ PySem.F.slot_tuple_lt PySem.F.entry_tuple_lt (PySem.F.args_tuple_lt_2 _ _) (ZF l b us vs n m d1 d2 k1 k2 c) ⟨g1,g2,hx,(fun x=>nomatch x),q⟩ hu
section
open PySem.W
noncomputable def Al (n:Nat) (P:α->Prop):KasT α->Prop
 | .ret a=>P a
 | .ask i j k=>i<n/\j<n/\∀b,Al n P (k b)
theorem Al.bind {P:α->Prop} {R:β->Prop} {f:α->KasT β}:∀{t:KasT α},Al n P t->(∀a,P a->Al n R (f a))->Al n R (t.bind f)
 | .ret a,h,hf=>hf a h
 | .ask _ _ _,h,hf=>⟨h.1,h.2.1,fun b=>Al.bind (h.2.2 b) hf⟩
noncomputable def oK (n:Nat) (p:Array Nat):Prop:=p.Perm (List.toArray (List.range n))
theorem oK.lt (h0:0<n) (h:oK n p) (i:Nat):p.getD i 0<n:=by
 by_cases hi:i<p.size
 ·have e:p.getD i 0=p[i]:=by simp[Array.getD,hi]
  rw[e]
  have hm:p[i]∈p:=Array.getElem_mem hi
  have:=(h.mem_iff).mp hm
  simpa using this
 ·have e:p.getD i 0=0:=by simp[Array.getD,hi]
  omega
theorem oK.rev (h:oK n p) (i j:Nat):oK n (kas_rev p i j):=(mirror_perm p i j ((j - i) / 2)).trans h
theorem oK.bub (h:oK n p) (i j:Nat):oK n (bubble p i j):=(bubble_perm p i j).trans h
theorem DM (h0:0<n) (h:oK n p):∀f m,Al n (fun _=>True) (kas_asc p f m)
 |0,m=>trivial
 |f+1,m=>⟨h.lt h0 _,h.lt h0 _,fun b=>by
  cases b with
  |true=>exact trivial
  |false=>exact DM h0 h f (m+1)⟩
theorem sH (h0:0<n):∀f (p:Array Nat) m q,oK n p->Al n (fun r:Array Nat×Nat×Nat=>oK n r.1) (kas_desc f p m q)
 |0,p,m,q,h=>h
 | f+1,p,m,q,h=>⟨h.lt h0 _,h.lt h0 _,fun b=>by
  cases b with
  |true=>
   show Al n _ (if q>0 then _ else _)
   split
   ·exact sH h0 f _ _ _ (h.rev _ _)
   ·exact sH h0 f _ _ _ h
  |false=>
   refine⟨h.lt h0 _,h.lt h0 _,fun d=>?_⟩
   cases d with
   |true=>exact h
   |false=>exact sH h0 f _ _ _ h⟩
theorem AZ (h0:0<n) (h:oK n p) (m k:Nat):Al n (fun r:Nat×Array Nat=>oK n r.2) (kas_tail3 m k p):=
 (DM h0 (h.rev 0 m) _ _).bind fun _ _=>h.rev 0 m
theorem qM (h0:0<n) (h:oK n p) (m k:Nat):Al n (fun r:Nat×Array Nat=>oK n r.2) (kas_descPart m k p):=by
 refine(sH h0 _ _ _ _ h).bind fun r hr=>?_
 split
 ·exact AZ h0 (hr.rev _ _) _ _
 ·exact AZ h0 hr _ _
theorem KZ (h0:0<n) (h:oK n p) (k:Nat):Al n (fun r:Nat×Array Nat=>oK n r.2) (kas_count k p):=by
 refine(DM h0 h _ _).bind fun m _=>?_
 split
 ·exact h
 ·split
  ·refine⟨h.lt h0 _,h.lt h0 _,fun b=>?_⟩
   cases b with
   |true=>exact h
   |false=>exact qM h0 (h.rev _ _) _ _
  ·exact qM h0 h _ _
theorem uN (h0:0<n) (h:oK n p) (k:Nat):∀f l r,Al n (fun _=>True) (kas_place p k f l r)
 |0,_,_=>trivial
 | f+1,l,r=>by
  unfold kas_place
  split
  ·exact trivial
  ·refine⟨h.lt h0 _,h.lt h0 _,fun b=>?_⟩
   cases b with
   |true=>exact uN h0 h k f _ _
   |false=>exact uN h0 h k f _ _
theorem MF (h0:0<n):∀f (p:Array Nat) k,oK n p->Al n (oK n) (kas_bin f p k)
 |0,_,_,h=>h
 |f+1,p,k,h=>(uN h0 h k _ _ _).bind fun l _=>MF h0 f _ _ (h.bub _ _)
theorem GH (h0:0<n):Al n (oK n) (kas_sort n):=by
 refine(KZ h0 (show oK n _ from Array.Perm.refl _) n).bind fun r hr=>?_
 split
 ·exact MF h0 _ _ _ hr
 ·exact hr
theorem oK.perm (h:oK vs.length p):(p.toList.map fun i=>vs.getD i Value.none).Perm vs:=by
 have h1:p.toList.Perm (List.range vs.length):=by simpa using Array.perm_iff_toList_perm.mp h
 have h2:=h1.map fun i=>vs.getD i Value.none
 have e:(List.range vs.length).map (fun i=>vs.getD i Value.none)=vs:=by
  apply ext_getElem
  ·simp
  ·intro i a1 a2
   simp[getElem?_eq_getElem a2]
 rw[e]at h2
 exact h2
end
section
variable {X:Cx}
theorem kZ:∀{us:List Value} {ss:List Str},StrsAre us ss->Vals (ss.map V.str) us
 |[],_,.nil=>.nil
 |_::_,_,.cons x t r=>.cons ⟨t,rfl⟩ (kZ r)
noncomputable def CY (K:Frag):List V->Hp->VK->Prop:=fun xs H Q=>∃p ss,xs=[.ref p]/\iB K H p (ss.map V.str)/\ss.length<64/\∀l out,out.Perm ss->sortedS out=true->H l=none->Q (.ref l) (upd H l (.lst (out.map V.str)))
theorem GZ (K:Frag) (hK:X.K=K:=by rfl):cH X (.builtin "sorted") (CY K):=by
 subst hK
 intro pins s σ H xs us Q I r ⟨p,ss,e,hq,h64,q⟩
 subst e
 obtain⟨u,rfl,rx⟩:=vals1 r
 cases rx
 obtain⟨vs,rv,pl,hz⟩:=I.list hq
 have hlen:=rv.length
 rw[length_map]at hlen hz
 refine sorted_strs pl.isList (sF rv) (by omega) fun out ss' h1 h2 h3=>?_
 obtain⟨c,hat⟩:=sortedAll_at s.heap vs out
 exact⟨.ref (s.heap.objs.size+1),_,I.laid (t':=s.toks) (o:=.lst (ss'.map V.str)) (fun b o e=>sortedAll_old e) (le_succ _) ⟨by rw[length_map,h2.length_eq];exact hz,out.toList,c,kZ h1,hat⟩,rfl,q _ ss' h2 h3 (I.bP.fresh (le_succ _))⟩
end
section
open PySem.W
noncomputable def pR (ans:Nat->Nat->Bool) (P:α->Prop):KasT α->Prop
 | .ret a=>P a
 | .ask i j k=>pR ans P (k (ans i j))
theorem pR.bind {P:α->Prop} {R:β->Prop} {f:α->KasT β}:∀{t:KasT α},pR ans P t->(∀a,P a->pR ans R (f a))->pR ans R (t.bind f)
 | .ret a,h,hf=>hf a h
 | .ask i j k,h,hf=>pR.bind (t:=k (ans i j)) h hf
theorem pR.mono {P R:α->Prop} (hf:∀a,P a->R a):∀{t:KasT α},pR ans P t->pR ans R t
 | .ret a,h=>hf a h
 | .ask i j k,h=>pR.mono hf (t:=k (ans i j)) h
theorem pR.run {P R:α->Prop} {cmp:Nat->Nat->(Bool->Shared->Prop)->Shared->Prop} {G:α->Shared->Prop}
  (hc:∀i j (C:Bool->Shared->Prop),i<n->j<n->C (ans i j) s->cmp i j C s) (hg:∀a,P a->R a->G a s):∀{t:KasT α},Al n P t->pR ans R t->t.kasWp cmp G s
 | .ret a,h,h'=>hg a h h'
 | .ask i j _,h,h'=>hc i j _ h.1 h.2.1 (pR.run hc hg (h.2.2 _) h')
variable (O:KeyOrd) (key:Nat->O.α)
noncomputable def Ky (p:Array Nat) (i:Nat):O.α:=key (p.getD i 0)
noncomputable def lX (p:Array Nat) (k:Nat):Prop:=∀i j,i<=j->j<k->O.kle (Ky O key p i) (Ky O key p j)
noncomputable def jJ (p:Array Nat) (k:Nat):Prop:=∀i j,i<=j->j<k->O.kle (Ky O key p j) (Ky O key p i)
noncomputable abbrev DE (i j:Nat):Bool:=O.blt (key i) (key j)
variable {O} {key}
theorem AM {q:Array Nat} (h:p[i]? =q[j]?):Ky O key p i=Ky O key q j:=by
 unfold Ky
 rw[getD_eq_getD_getElem?,getD_eq_getD_getElem?,h]
theorem D2 (hj:j<=p.size) (k:Nat):Ky O key (kas_rev p i j) k=if i<=k/\k<j then Ky O key p (i+j - 1 - k)else Ky O key p k:=by
 have e:=getElem?_mirror_all (xs:=p) (i:=i) hj k
 split
 ·rename_i h;rw[if_pos h]at e;exact AM e
 ·rename_i h;rw[if_neg h]at e;exact AM e
theorem iJ (p:Array Nat) (i j:Nat):(kas_rev p i j).size=p.size:=mirror_size ..
theorem y6 (hj:j<=p.size) (he:∀k,i<=k->k<j->Ky O key p k=Ky O key p (j - 1)) (k:Nat):Ky O key (kas_rev p i j) k=Ky O key p k:=by
 rw[D2 hj]
 split
 ·rename_i h;rw[he _ (by omega) (by omega),he k h.1 h.2]
 ·rfl
theorem lX.more (h:lX O key p x) (hx:1<=x) (hl:O.kle (Ky O key p (x - 1)) (Ky O key p x)):lX O key p (x+1):=by
 intro i j hij hj
 by_cases h1:j<x
 ·exact h i j hij h1
 ·have e:j=x:=by omega
  subst e
  by_cases h2:i=j
  ·subst h2;exact KeyOrd.kle_refl _
  ·exact KeyOrd.kle_trans (h i (j - 1) (by omega) (by omega)) hl
theorem jJ.more (h:jJ O key p x) (hx:1<=x) (hl:O.kle (Ky O key p x) (Ky O key p (x - 1))):jJ O key p (x+1):=by
 intro i j hij hj
 by_cases h1:j<x
 ·exact h i j hij h1
 ·have e:j=x:=by omega
  subst e
  by_cases h2:i=j
  ·subst h2;exact KeyOrd.kle_refl _
  ·exact KeyOrd.kle_trans hl (h i (j - 1) (by omega) (by omega))
theorem OM {p:Array Nat}:∀(f m:Nat),1<=m->lX O key p m->pR (DE O key) (fun r=>m<=r/\r<=m+f/\lX O key p r/\(r=m+f\/ O.klt (Ky O key p r) (Ky O key p (r - 1)))) (kas_asc p f m)
 |0,m,_,h=>⟨le_refl _,le_refl _,h,.inl rfl⟩
 | f+1,m,h1,h=>by
  show pR (DE O key) _ (if O.blt (Ky O key p m) (Ky O key p (m - 1))=true then _ else _)
  cases e:O.blt (Ky O key p m) (Ky O key p (m - 1))with
  |true=>
   rw[if_pos rfl]
   exact⟨le_refl _,by omega,h,.inr e⟩
  |false=>
   rw[if_neg Bool.false_ne_true]
   refine(OM f (m+1) (by omega) (h.more h1 e)).mono fun r ⟨a,b,c,d⟩=>⟨by omega,by omega,c,?_⟩
   rcases d with d|d
   ·exact .inl (by omega)
   ·exact .inr d
noncomputable def WU (O:KeyOrd) (key:Nat->O.α) (p:Array Nat) (m q:Nat):Prop:=q+1<=m/\∀i,m - (q+1)<=i->i<m->Ky O key p i=Ky O key p (m - 1)
theorem WU.none (h:1<=m):WU O key p m 0:=⟨by omega,fun i h1 h2=>by rw[show i=m - 1 by omega]⟩
theorem xF:∀(f:Nat) (p:Array Nat) (m q:Nat),1<=m->m+f<=p.size->jJ O key p m->WU O key p m q->pR (DE O key) (fun r:Array Nat×Nat×Nat=>r.1.size=p.size/\m<=r.2.1/\r.2.1<=m+f/\jJ O key r.1 r.2.1/\WU O key r.1 r.2.1 r.2.2) (kas_desc f p m q)
 |0,p,m,q,_,_,h,he=>⟨rfl,le_refl _,le_refl _,h,he⟩
 | f+1,p,m,q,h1,hz,h,he=>by
  show pR (DE O key) _ (if O.blt (Ky O key p m) (Ky O key p (m - 1))=true then(if q>0 then kas_desc f (kas_rev p (m - (q+1)) m) (m+1) 0 else kas_desc f p (m+1) 0)else _)
  cases e:O.blt (Ky O key p m) (Ky O key p (m - 1))with
  | true=>
   rw[if_pos rfl]
   have hd:=h.more h1 (KeyOrd.kle_of_klt e)
   split
   ·have ev:∀k,Ky O key (kas_rev p (m - (q+1)) m) k=Ky O key p k:=y6 (by omega) he.2
    have hd':jJ O key (kas_rev p (m - (q+1)) m) (m+1):=fun i j a b=>by rw[ev,ev];exact hd i j a b
    refine(xF f _ (m+1) 0 (by omega) (by rw[iJ];omega) hd' (WU.none (by omega))).mono fun r ⟨a,b,c,d,z⟩=>⟨by rw[a,iJ],by omega,by omega,d,z⟩
   ·exact(xF f p (m+1) 0 (by omega) (by omega) hd (WU.none (by omega))).mono fun r ⟨a,b,c,d,z⟩=>⟨a,by omega,by omega,d,z⟩
  | false=>
   rw[if_neg Bool.false_ne_true]
   show pR (DE O key) _ (if O.blt (Ky O key p (m - 1)) (Ky O key p m)=true then _ else _)
   cases e2:O.blt (Ky O key p (m - 1)) (Ky O key p m)with
   |true=>
    rw[if_pos rfl]
    exact⟨rfl,le_refl _,Nat.le_add_right m (f+1),h,he⟩
   |false=>
    rw[if_neg Bool.false_ne_true]
    have eq:Ky O key p m=Ky O key p (m - 1):=KeyOrd.kle_antisymm e2 e
    refine(xF f p (m+1) (q+1) (by omega) (by omega) (h.more h1 (by rw[eq];exact KeyOrd.kle_refl _)) ⟨by have:=he.1;omega,fun i a b=>?_⟩).mono fun r ⟨a,b,c,d,z⟩=>⟨a,by omega,by omega,d,z⟩
    rw[show m+1 - 1=m by omega]
    by_cases hi:i=m
    ·rw[hi]
    ·rw[eq];exact he.2 i (by omega) (by omega)
theorem GO (h1:1<=m) (hk:m<=k) (hz:k<=p.size) (h:jJ O key p m):pR (DE O key) (fun r:Nat×Array Nat=>1<=r.1/\r.1<=k/\r.2.size=p.size/\lX O key r.2 r.1) (kas_tail3 m k p):=by
 have hu:lX O key (kas_rev p 0 m) m:=fun i j a b=>by
  rw[D2 (by omega),D2 (by omega),if_pos (by omega),if_pos (by omega)]
  exact h _ _ (by omega) (by omega)
 exact(OM (k - m) m h1 hu).bind fun r ⟨a,b,c,_⟩=>⟨by omega,by omega,iJ ..,c⟩
theorem uR (hk:m+1<=k) (hz:k<=p.size) (h:jJ O key p (m+1)):pR (DE O key) (fun r:Nat×Array Nat=>1<=r.1/\r.1<=k/\r.2.size=p.size/\lX O key r.2 r.1) (kas_descPart m k p):=by
 refine(xF (k - (m+1)) p (m+1) 0 (by omega) (by omega) h (WU.none (by omega))).bind fun r ⟨a,b,c,d,z⟩=>?_
 split
 ·have ev:∀i,Ky O key (kas_rev r.1 (r.2.1 - (r.2.2+1)) r.2.1) i=Ky O key r.1 i:=y6 (by omega) z.2
  refine(GO (p:=kas_rev r.1 (r.2.1 - (r.2.2+1)) r.2.1) (by omega) (by omega) (by rw[iJ];omega) fun i j x y=>?_).mono fun r' ⟨x,y,w,v⟩=>⟨x,y,by rw[w,iJ,a],v⟩
  rw[ev,ev];exact d i j x y
 ·exact(GO (by omega) (by omega) (by omega) d).mono fun r' ⟨x,y,w,v⟩=>⟨x,y,by rw[w,a],v⟩
theorem R6 {p:Array Nat} (h1:1<=k) (hz:k<=p.size):pR (DE O key) (fun r:Nat×Array Nat=>1<=r.1/\r.1<=k/\r.2.size=p.size/\lX O key r.2 r.1) (kas_count k p):=by
 have u1:lX O key p 1:=fun i j a b=>by rw[show i=j by omega];exact KeyOrd.kle_refl _
 refine(OM (k - 1) 1 (le_refl _) u1).bind fun m ⟨a,b,c,d⟩=>?_
 by_cases hm:m=k
 ·rw[if_pos (by simpa using hm)]
  exact⟨a,by omega,rfl,c⟩
 ·rw[if_neg (by simpa using hm)]
  have lt:O.klt (Ky O key p m) (Ky O key p (m - 1)):=d.resolve_left (by omega)
  by_cases h2:m>1
  ·rw[if_pos h2]
   show pR (DE O key) _ (if O.blt (Ky O key p 0) (Ky O key p (m - 1))=true then _ else _)
   cases e:O.blt (Ky O key p 0) (Ky O key p (m - 1))with
   |true=>
    rw[if_pos rfl]
    exact⟨a,by omega,rfl,c⟩
   | false=>
    rw[if_neg Bool.false_ne_true]
    have al:∀i,0<=i->i<m->Ky O key p i=Ky O key p (m - 1):=fun i _ hi=>
     KeyOrd.kle_antisymm (c i (m - 1) (by omega) (by omega)) (KeyOrd.kle_trans e (c 0 i (by omega) hi))
    have ev:∀i,Ky O key (kas_rev p 0 m) i=Ky O key p i:=y6 (by omega) al
    have dm:jJ O key p m:=fun i j x y=>by rw[al i (by omega) (by omega),al j (by omega) y];exact KeyOrd.kle_refl _
    have dn:=dm.more a (KeyOrd.kle_of_klt lt)
    refine(uR (p:=kas_rev p 0 m) (by omega) (by rw[iJ];omega) fun i j x y=>?_).mono fun r' ⟨x,y,w,v⟩=>⟨x,y,by rw[w,iJ],v⟩
    rw[ev,ev];exact dn i j x y
  ·rw[if_neg h2]
   have e1:m=1:=by omega
   subst e1
   have d1:jJ O key p 1:=fun i j x y=>by rw[show i=j by omega];exact KeyOrd.kle_refl _
   exact uR (by omega) hz (d1.more (le_refl _) (KeyOrd.kle_of_klt lt))
theorem xR {p:Array Nat} {k:Nat} (h:lX O key p k):∀(f l r:Nat),l<=r->r<=k->r - l<=f->(∀i,i<l->O.kle (Ky O key p i) (Ky O key p k))->(∀i,r<=i->i<k->O.klt (Ky O key p k) (Ky O key p i))->
  pR (DE O key) (fun l=>l<=k/\(∀i,i<l->O.kle (Ky O key p i) (Ky O key p k))/\∀i,l<=i->i<k->O.klt (Ky O key p k) (Ky O key p i)) (kas_place p k f l r)
 |0,l,r,h1,h2,h3,ha,hb=>by
  have e:l=r:=by omega
  subst e
  exact⟨h2,ha,hb⟩
 | f+1,l,r,h1,h2,h3,ha,hb=>by
  unfold kas_place
  split
  ·have e:l=r:=by omega
   subst e
   exact⟨h2,ha,hb⟩
  ·show pR (DE O key) _ (if O.blt (Ky O key p k) (Ky O key p ((l+r) / 2))=true then _ else _)
   cases e:O.blt (Ky O key p k) (Ky O key p ((l+r) / 2))with
   |true=>
    rw[if_pos rfl]
    exact xR h f l ((l+r) / 2) (by omega) (by omega) (by omega) ha fun i a b=>KeyOrd.klt_of_klt_of_kle e (h _ _ a b)
   |false=>
    rw[if_neg Bool.false_ne_true]
    exact xR h f ((l+r) / 2+1) r (by omega) h2 (by omega) (fun i a=>KeyOrd.kle_trans (h i ((l+r) / 2) (by omega) (by omega)) e) hb
theorem MR {d:Nat} (hk:k<p.size) (hd:d<=k) (i:Nat):Ky O key (bubble p k d) i=if i=k - d then Ky O key p k else if k - d<i/\i<=k then Ky O key p (i - 1)else Ky O key p i:=by
 have e:=getElem?_bubble hk d hd i
 by_cases h1:i=k - d
 ·rw[if_pos h1]at e⊢;exact AM e
 ·rw[if_neg h1]at e⊢
  by_cases h2:k - d<i/\i<=k
  ·rw[if_pos h2]at e⊢;exact AM e
  ·rw[if_neg h2]at e⊢;exact AM e
theorem TK:∀(f:Nat) (p:Array Nat) (k:Nat),k+f<=p.size->lX O key p k->pR (DE O key) (fun q=>lX O key q (k+f)) (kas_bin f p k)
 |0,p,k,_,h=>h
 | f+1,p,k,hz,h=>by
  refine(xR h k 0 k (by omega) (le_refl _) (by omega) (fun i hi=>by omega) (fun i a b=>by omega)).bind fun l ⟨hl,ha,hb⟩=>?_
  have hu:lX O key (bubble p k (k - l)) (k+1):=fun i j x y=>by
   rw[MR (by omega) (by omega),MR (by omega) (by omega),show k - (k - l)=l by omega]
   by_cases j1:j=l
   ·rw[if_pos j1]
    by_cases i1:i=l
    ·rw[if_pos i1];exact KeyOrd.kle_refl _
    ·rw[if_neg i1,if_neg (show¬(l<i/\i<=k) by omega)];exact ha i (by omega)
   ·rw[if_neg j1]
    by_cases j2:l<j
    ·rw[if_pos (show l<j/\j<=k from⟨j2,by omega⟩)]
     by_cases i1:i=l
     ·rw[if_pos i1];exact KeyOrd.kle_of_klt (hb (j - 1) (by omega) (by omega))
     ·rw[if_neg i1]
      by_cases i2:l<i
      ·rw[if_pos (show l<i/\i<=k from⟨i2,by omega⟩)];exact h _ _ (by omega) (by omega)
      ·rw[if_neg (show¬(l<i/\i<=k) by omega)];exact h _ _ (by omega) (by omega)
    ·rw[if_neg (show¬(l<j/\j<=k) by omega),if_neg (show¬i=l by omega),if_neg (show¬(l<i/\i<=k) by omega)];exact h _ _ x (by omega)
  have:=TK f (bubble p k (k - l)) (k+1) (by rw[bubble_size];omega) hu
  rw[show k+1+f=k+(f+1) by omega]at this
  exact this
theorem LI (h1:1<=n):pR (DE O key) (fun q=>lX O key q n) (kas_sort n):=by
 have hs:(List.toArray (List.range n)).size=n:=by simp
 refine(R6 h1 (p:=List.toArray (List.range n)) (by rw[hs];exact le_refl _)).bind fun r ⟨a,b,c,d⟩=>?_
 rw[hs]at c
 split
 ·have:=TK (n - max r.1 1) r.2 (max r.1 1) (by omega) (by rw[show max r.1 1=r.1 by omega];exact d)
  rw[show max r.1 1+(n - max r.1 1)=n by omega]at this
  exact this
 ·have e:r.1=n:=by omega
  rw[e]at d
  exact d
end
section
open PySem.W
variable {prog:Program} {w:World} {A:Around} {E:Value->Shared->Prop} {s:Shared}
theorem IE (vs:List Value):(List.range vs.length).map (fun i=>vs.getD i Value.none)=vs:=by
 apply ext_getElem
 ·simp
 ·intro i a1 a2
  simp[getElem?_eq_getElem a2]
noncomputable def DU (prog:Program) (w:World) (A:Around) (vs:List Value) (R:Array Nat->Prop) (s:Shared):Prop:=
 ∃κ:SortKind,(∀(Q:SortKind->Shared->Prop) (E:Value->Shared->Prop),Q κ s->wpAny (model prog w) A (keyKind' vs.toArray) Q E s)/\
  ∀G:Array Nat->Shared->Prop,(∀p,oK vs.length p->R p->G p s)->(kas_sort vs.length).kasWp (kas_ask prog w A κ vs) G s
theorem w5 {a:Addr} {P:PySem.Fin->Shared->Prop} (ho:s.heap.get? a=some (seqObj "list" vs.toArray n)) (h64:vs.length<64)
  (hk:2<=vs.length->∀h':Heap,(∀b o,b≠a->s.heap.get? b=some o->h'.get? b=some o)->DU prog w A vs R {s with heap:=h'}) (hR:vs.length<2->R (List.range vs.length).toArray)
  (h:∀(out:Array Value) (p:Array Nat),oK vs.length p->R p->out.toList=p.toList.map (fun i=>vs.getD i Value.none)->P (.done (.ret .none)) {s with heap:=sortedHeap s.heap a vs out}):wpAny (model prog w) A (Builtin.«list.sort» ⟨[.ref a],[]⟩) P E s:=by
 have la:a<s.heap.objs.size:=lt_size ho
 have small:vs.length<=sizeLine:=by rw[sizeLine_eq];omega
 obtain⟨e1,k1⟩:∃e1,(s.heap.update a (Obj.mapSeq fun _=>(#[]:Array Value))).get? a=some (seqObj "list" #[] e1):=⟨_,get?_update_seq ho fun _=> #[]⟩
 generalize hU:s.heap.update a (Obj.mapSeq fun _=>(#[]:Array Value))=U at k1
 have zU:U.objs.size=s.heap.objs.size:=by rw[<-hU];exact Heap.size_update ..
 have kp:∀b o,b≠a->s.heap.get? b=some o->((U.push (seqObj "tuple" vs.toArray 0)).push (seqObj "list" #[] 0)).get? b=some o:=fun b o nb gb=>by
  refine get?_push_of_some _ (get?_push_of_some _ ?_)
  rw[<-hU,Heap.get?_update_ne _ _ _ _ nb];exact gb
 have k2:((U.push (seqObj "tuple" vs.toArray 0)).push (seqObj "list" #[] 0)).get? a=some (seqObj "list" #[] e1):=get?_push_of_some _ (get?_push_of_some _ k1)
 rw[list_sort_plain]
 refine wpAny_bind (listItems_at ho rfl (wpAny_bind (listUpdate_at ho rfl ?_ (by simpa using small) (zero_le _))))
 have k1':=k1
 rw[<-hU]at k1'
 refine wpAny_bind (seqEpoch_at k1' rfl (wpAny_bind (wpAny_newTuple (wpAny_bind (wpAny_newList (wpAny_holding ?_) (zero_le _))) (by simpa using small))))
 rw[hU]
 show wpAny (model prog w) A _ P E {s with heap:=(U.push (seqObj "tuple" vs.toArray 0)).push (seqObj "list" #[] 0)}
 have fin:∀(out:Array Value) (p:Array Nat),oK vs.length p->R p->out.toList=p.toList.map (fun i=>vs.getD i Value.none)->P (.done (.ret .none)) {s with heap:=((U.push (seqObj "tuple" vs.toArray 0)).push (seqObj "list" #[] 0)).update a (Obj.mapSeq fun _=>out)}:=fun out p h1 h2 h3=>by
  have:=h out p h1 h2 h3
  unfold sortedHeap at this
  rw[hU]at this
  exact this
 dsimp only
 by_cases h2:vs.toArray.size<2
 ·rw[if_pos h2,if_pos h2]
  refine wpAny_bind (wpAny_pure ?_)
  rw[StateT.run_pure]
  refine wpAny_bind (wpAny_pure ?_)
  dsimp only
  have ev:((vs.toArray.zip vs.toArray).map fun x=>x.2).toList=vs:=by simp[List.map_snd_zip]
  refine wpAny_bind (seqEpoch_at k2 rfl (wpAny_bind (listUpdate_at k2 rfl ?_ (zero_le _) ?_)))
  ·simp only[bne_self_eq_false,false_eq_true,if_false]
   exact wpAny_pure (fin _ (List.range vs.length).toArray (Array.Perm.refl _) (hR (by rw[size_toArray]at h2;exact h2)) (by rw[show(arrOf (SortSt.mk' general' (vs.toArray.zip vs.toArray) #[] 7 none))=vs.toArray.zip vs.toArray from rfl,ev,toList_toArray,IE]))
  ·rw[<-length_toList,show(arrOf (SortSt.mk' general' (vs.toArray.zip vs.toArray) #[] 7 none))=vs.toArray.zip vs.toArray from rfl,ev];exact le_succ_of_le small
 ·rw[if_neg h2,if_neg h2]
  have l2:2<=vs.length:=by rw[size_toArray]at h2;omega
  obtain⟨κ,kd,ak⟩:=hk l2 _ kp
  refine wpAny_bind (kd _ _ ?_)
  refine wpAny_bind (wpAny_mono (kat_run (ks:=vs) (vs:=vs) (Q:=fun st' s'=>s'={s with heap:=(U.push (seqObj "tuple" vs.toArray 0)).push (seqObj "list" #[] 0)}/\∃p:Array Nat,(oK vs.length p/\R p)/\arrOf st'=p.map (kas_item (vs.toArray.zip vs.toArray))/\failedOf st'=none)
   (G:=fun p s'=>s'={s with heap:=(U.push (seqObj "tuple" vs.toArray 0)).push (seqObj "list" #[] 0)}/\oK vs.length p/\R p) rfl l2 h64 (fun p st' s' _ ar fl g=>⟨g.1,p,g.2,ar,fl⟩) (ak _ fun p h1 h2=>⟨rfl,h1,h2⟩)) ?_ fun _ _ e=>e)
  rintro⟨⟨⟩,st'⟩ s' ⟨rfl,p,⟨hp,hr⟩,ar,fl⟩
  dsimp only
  have out:=kat_snds rfl ar
  have pm:=hp.perm
  rw[out]
  refine wpAny_bind (seqEpoch_at k2 rfl (wpAny_bind (listUpdate_at k2 rfl ?_ (zero_le _) ?_)))
  ·rw[fl]
   simp only[bne_self_eq_false,false_eq_true,if_false]
   exact wpAny_pure (fin _ p hp hr (by simp))
  ·rw[size_toArray,pm.length_eq];exact le_succ_of_le small
theorem BI (hl:s.heap.IsList l vs.toArray) (h64:vs.length<64)
  (hk:2<=vs.length->∀h':Heap,(∀b o,s.heap.get? b=some o->h'.get? b=some o)->DU prog w A.in1.in1 vs R {s with heap:=h'}) (hR:vs.length<2->R (List.range vs.length).toArray)
  (h:∀(out:Array Value) (p:Array Nat),oK vs.length p->R p->out.toList=p.toList.map (fun i=>vs.getD i Value.none)->Q (.ref (s.heap.objs.size+1)) {s with heap:=sortedAll s.heap vs out}):wpAny (model prog w) A (call (.builtin "sorted") [.ref l]) Q E s:=by
 have small:vs.length<=sizeLine:=by rw[sizeLine_eq];omega
 refine Calls.call_function_entry kind_sorted plain_sorted entry_sorted (args_sorted1 _) ?_
 unfold Builtin.«sorted»
 refine wpAny_bind (m:=checkCount "sorted" 1 1 _) (wpAny_pure (wpAny_bind (collect_list hl (wpAny_bind (wpAny_newList ?_ (by simpa using small))) (by simpa using small))))
 generalize hU:(s.heap.push (seqObj "list" #[] 0)).update s.heap.objs.size (Obj.mapSeq (·++vs.toArray))=U
 have zU:U.objs.size=s.heap.objs.size+1:=by rw[<-hU,Heap.size_update];exact size_push' ..
 have kU:∀b o,s.heap.get? b=some o->U.get? b=some o:=fun b o gb=>by
  rw[<-hU,Heap.get?_update_ne _ _ _ _ (ne_of_lt (lt_size gb))]
  exact get?_push_of_some _ gb
 have at':(U.push (seqObj "list" vs.toArray 0)).get? (s.heap.objs.size+1)=some (seqObj "list" vs.toArray 0):=by rw[<-zU];exact get?_push_size _ rfl
 show wpAny _ _ _ _ _ {s with heap:=U.push (seqObj "list" vs.toArray 0)}
 rw[zU]
 refine wpAny_bind (wpAny_holding (wpAny_call_entry slot_list_sort ⟨_,at',rfl⟩ entry_list_sort ?bd (args_list_sort _)))
 case bd=>
  refine w5 at' h64 (fun l2 h' kp=>hk l2 h' fun b o gb=>kp b o (ne_of_lt (lt_succ_of_lt (lt_size gb))) (get?_push_of_some _ (kU b o gb))) hR fun out p p1 p2 p3=>⟨_,rfl,wpAny_pure ⟨_,rfl,?_⟩⟩
  have:=h out p p1 p2 p3
  unfold sortedAll at this
  rw[hU]at this
  exact this
end
section
open PySem.W
variable {X:Cx} {pins:List (Addr×Obj)} {σ:St} {H:Hp} {s:Shared} {k:Nat}
theorem uQ {ys:List V} {vs:List Value} (r:Vals ys vs):∀ps:List Nat,(∀i∈ps,i<vs.length)->Vals (ps.map fun i=>ys.getD i .bA) (ps.map fun i=>vs.getD i Value.none)
 |[],_=>.nil
 |i::ps,h=>by
  have hlen:=r.length
  have hi:=h i mem_cons_self
  obtain⟨x,hx,rx⟩:=r.get' (show vs[i]? =some vs[i] by simp)
  refine .cons ?_ (uQ r ps fun j hj=>h j (mem_cons_of_mem _ hj))
  dsimp only
  rw[getD_eq_getElem?_getD,hx,getD_eq_getElem?_getD,getElem?_eq_getElem hi]
  exact rx
end
noncomputable def C6:KeyOrd where
 α:=Int
 blt a b:=decide (a<b)
 irrefl a:=decide_eq_false (by omega)
 trans a b c h1 h2:=decide_eq_true (by have:=of_decide_eq_true h1;have:=of_decide_eq_true h2;omega)
 negTrans a b c h:=by
  have h:=of_decide_eq_true h
  by_cases g:a<b
  ·exact .inl (decide_eq_true g)
  ·exact .inr (decide_eq_true (by omega))
 total a b h1 h2:=by have:=of_decide_eq_false h1;have:=of_decide_eq_false h2;omega
theorem xO {a b:A.α} (h:A.blt a b=true):A.blt b a=false:=KeyOrd.klt_asymm (O:=A) h
theorem fS {A:KeyOrd} (a b:A.α):(A.blt a b=true/\A.blt b a=false)\/ (A.blt b a=true/\A.blt a b=false)\/ (a=b):=by
 cases h1:A.blt a b with
 |true=>exact .inl ⟨rfl,xO h1⟩
 |false=>
  cases h2:A.blt b a with
  |true=>exact .inr (.inl ⟨rfl,rfl⟩)
  |false=>exact .inr (.inr (A.total a b h1 h2))
noncomputable def gN (A:KeyOrd) (a b:A.α) (r:Bool):Bool:=A.blt a b||(!A.blt b a && r)
theorem eV {a b:A.α} (h:A.blt a b=true):gN A a b r=true:=by unfold gN;rw[h];rfl
theorem kI {a b:A.α} (h:A.blt b a=true):gN A a b r=false:=by unfold gN;rw[h,xO h];rfl
theorem gL {a:A.α}:gN A a a r=r:=by unfold gN;rw[A.irrefl];rfl
theorem B5 {A:KeyOrd} {a b c:A.α} (hr:r=true->r'=true->r''=true) (h1:gN A a b r=true) (h2:gN A b c r'=true):gN A a c r''=true:=by
 rcases fS (A:=A) a b with⟨x,_⟩|⟨x,_⟩|x
 ·rcases fS (A:=A) b c with⟨y,_⟩|⟨y,_⟩|y
  ·exact eV (A.trans _ _ _ x y)
  ·rw[kI y]at h2;cases h2
  ·rw[<-y];exact eV x
 ·rw[kI x]at h1;cases h1
 ·subst x
  rw[gL]at h1
  rcases fS (A:=A) a c with⟨y,_⟩|⟨y,_⟩|y
  ·exact eV y
  ·rw[kI y]at h2;cases h2
  ·subst y
   rw[gL]at h2⊢
   exact hr h1 h2
theorem IZ {A:KeyOrd} {a b c:A.α} (hr:r''=true->r=true\/ r'=true) (h:gN A a c r''=true):gN A a b r=true\/ gN A b c r'=true:=by
 rcases fS (A:=A) a b with⟨x,_⟩|⟨x,_⟩|x
 ·exact .inl (eV x)
 ·right
  rcases fS (A:=A) a c with⟨y,_⟩|⟨y,_⟩|y
  ·exact eV (A.trans _ _ _ x y)
  ·rw[kI y]at h;cases h
  ·rw[<-y];exact eV x
 ·subst x
  rcases fS (A:=A) a c with⟨y,_⟩|⟨y,_⟩|y
  ·exact .inr (eV y)
  ·rw[kI y]at h;cases h
  ·subst y
   rw[gL]at h⊢
   rw[gL]
   exact hr h
theorem A0 {A:KeyOrd} {a b:A.α} (h1:gN A a b r=false) (h2:gN A b a r'=false):a=b/\r=false/\r'=false:=by
 rcases fS (A:=A) a b with⟨x,_⟩|⟨x,_⟩|x
 ·rw[eV x]at h1;cases h1
 ·rw[eV x]at h2;cases h2
 ·subst x
  rw[gL]at h1 h2
  exact⟨rfl,h1,h2⟩
noncomputable def j4 (A:KeyOrd):List A.α->List A.α->Bool
 |[],[]=>false
 |[],_::_=>true
 |_::_,[]=>false
 |x::xs,y::ys=>gN A x y (j4 A xs ys)
theorem vR:∀xs:List A.α,j4 A xs xs=false
 |[]=>rfl
 |x::xs=>by unfold j4;rw[gL];exact vR xs
theorem rB:∀xs ys zs:List A.α,j4 A xs ys=true->j4 A ys zs=true->j4 A xs zs=true
 |[],[],_,h,_=>by cases h
 |[],_::_,[],_,h=>by cases h
 |[],_::_,_::_,_,_=>rfl
 |_::_,[],_,h,_=>by cases h
 |_::_,_::_,[],_,h=>by cases h
 |x::xs,y::ys,z::zs,h1,h2=>B5 (rB xs ys zs) h1 h2
theorem wK:∀xs ys zs:List A.α,j4 A xs zs=true->j4 A xs ys=true\/ j4 A ys zs=true
 |[],[],zs,h=>.inr h
 |[],_::_,_,_=>.inl rfl
 |_::_,_,[],h=>by cases h
 |_::_,[],_::_,_=>.inr rfl
 |x::xs,y::ys,z::zs,h=>IZ (wK xs ys zs) h
theorem qU:∀xs ys:List A.α,j4 A xs ys=false->j4 A ys xs=false->xs=ys
 |[],[],_,_=>rfl
 |[],_::_,h,_=>by cases h
 |_::_,[],_,h=>by cases h
 |x::xs,y::ys,h1,h2=>by
  obtain⟨a,b,c⟩:=A0 h1 h2
  rw[a,qU xs ys b c]
noncomputable def abN (A:KeyOrd):KeyOrd:=⟨List A.α,j4 A,vR,rB,wK,qU⟩
theorem E3 {a b:Str} (h:a.cps.toList=b.cps.toList):a=b:=by
 cases a with
 |mk x=>
  cases b with
  |mk y=>congr 1;exact toList_inj.mp h
end L2
namespace Mr
open PySem L2
variable {a l:Addr} {e ei:En} {f fa fb fv:FE} {fg:FG} {fi:FI} {g:FS} {fc:FT} {o ob:HO} {H H' H1 H2:Hp} {k:Key} {kvs:List (Key×PV)} {ys:List (Key×V)} {ms:List (Nat×Nat)} {ks:List Kd} {cI:List Nat} {ps:List PV} {xs:List V} {i n:Nat} {p:PV} {s:Sl} {σ:St} {t ta tb tv:TE} {wi:TI} {c u:TT} {α β:Type} {v:V} {W:WS} {E:XK} {L L1 M O Z Z':aI}
inductive PV where
 |bA|bl (b:Bool)|int (i:Int)|str (x:Str)|ty (n:String)
 |tup (xs:List PV)|lst (xs:List PV)|a8 (kvs:List (Key×PV))
noncomputable abbrev aI:=Addr->Prop
noncomputable def aW (A B:aI):aI:=fun a=>A a\/ B a
noncomputable def one (l:Addr):aI:=fun a=>a=l
noncomputable def cT:aI:=fun _=>False
structure WS where
 w:Nat->aI
 old:aI
instance:CoeFun WS (fun _=>Nat->aI):=⟨WS.w⟩
noncomputable def aw (W:WS):aI:=fun a=>∃i,W i a
noncomputable def TupAt (K:Frag) (H:Hp) (a:Addr) (xs:List V):Prop:=H a=some (.tup xs)\/
  ∃(o:Obj) (its:Array Value) (n:Nat),K.lookup a=some o/\o.cls= .type "tuple"/\o.dict=none/\o.data= .seq its n/\its.size<=sizeLine/\Vals xs its.toList
noncomputable def X6 (K:Frag) (a:Addr) (xs:List V):Prop:=
  ∃(o:Obj) (its:Array Value) (n:Nat),K.lookup a=some o/\o.cls= .type "list"/\o.dict=none/\o.data= .seq its n/\its.size<=sizeLine/\Vals xs its.toList
theorem TupAt.sq {K:Frag} (h:TupAt K H a xs):nE K H a xs:=h.elim nE.of fun⟨o,its,n,a,b,_,c⟩=>.inr ⟨o,its,n,a,b,c⟩
mutual
inductive Rep (K:Frag) (Z:aI) (H:Hp):PV->V->Prop
 |bA:Rep K Z H .bA .bA
 |bl (b:Bool):Rep K Z H (.bl b) (.bl b)
 |int (i:Int):Rep K Z H (.int i) (.int i)
 |str (x:Str):Rep K Z H (.str x) (.str x)
 |ty (n:String):Rep K Z H (.ty n) (.ty n)
 |tup {a:Addr} {xs:List V} {ps:List PV}:TupAt K H a xs->bH K Z H ps xs->Rep K Z H (.tup ps) (.ref a)
 |lst {a:Addr} {xs:List V} {ps:List PV}:Rd H a (.lst xs)->¬Z a->bH K Z H ps xs->Rep K Z H (.lst ps) (.ref a)
 |a8 {a:Addr} {ep:Nat} {ys:List (Key×V)} {kvs:List (Key×PV)}:Rd H a (.dK ys ep)->¬Z a->ys.map (·.1)=kvs.map (·.1)->bH K Z H (kvs.map (·.2)) (ys.map (·.2))->Rep K Z H (.a8 kvs) (.ref a)
inductive bH (K:Frag) (Z:aI) (H:Hp):List PV->List V->Prop
 |nil:bH K Z H [] []
 |cons {p:PV} {v:V} {ps:List PV} {vs:List V}:Rep K Z H p v->bH K Z H ps vs->bH K Z H (p::ps) (v::vs)
end
structure cS (Z Z':aI) (H H':Hp):Prop where
 tup:∀a xs,H a=some (.tup xs)->H' a=some (.tup xs)
 obj:∀a o,H a=some o->¬Z a->H' a=some o/\¬Z' a
theorem cS.rd (k:cS Z Z' H H') (h:Rd H a o) (n:¬Z a):Rd H' a o/\¬Z' a:=by
 rcases h with h|⟨u,h⟩
 ·exact⟨.inl (k.obj _ _ h n).1,(k.obj _ _ h n).2⟩
 ·exact⟨.inr ⟨u,(k.obj _ _ h n).1⟩,(k.obj _ _ h n).2⟩
mutual
theorem Rep.aH {K:Frag} {Z Z':aI} {H H':Hp} (k:cS Z Z' H H'):∀{p:PV} {v:V},Rep K Z H p v->Rep K Z' H' p v
 |_,_,.bA=>.bA
 |_,_,.bl b=>.bl b
 |_,_,.int b=>.int b
 |_,_,.str b=>.str b
 |_,_,.ty b=>.ty b
 |_,_,.tup h r=>.tup (h.elim (fun h=>.inl (k.tup _ _ h)) .inr) (bH.aH k r)
 |_,_,.lst h n r=>.lst (k.rd h n).1 (k.rd h n).2 (bH.aH k r)
 |_,_,.a8 h n e r=>.a8 (k.rd h n).1 (k.rd h n).2 e (bH.aH k r)
theorem bH.aH {K:Frag} {Z Z':aI} {H H':Hp} (k:cS Z Z' H H'):∀{p:List PV} {v:List V},bH K Z H p v->bH K Z' H' p v
 |_,_,.nil=>.nil
 |_,_,.cons h r=>.cons (Rep.aH k h) (bH.aH k r)
end
theorem cS.same (s:aZ H H'):cS Z Z H H':=⟨fun _ _ h=>s _ _ h,fun _ _ h n=>⟨s _ _ h,n⟩⟩
theorem cS.less (h:∀a,Z' a->Z a):cS Z Z' H H:=⟨fun _ _ h=>h,fun _ _ e n=>⟨e,fun z=>n (h _ z)⟩⟩
theorem cS.new (s:aZ H H') (hl:H l=none):cS Z (aW Z (one l)) H H':=
 ⟨fun _ _ h=>s _ _ h,fun a o h n=>⟨s _ _ h,fun z=>z.elim n fun e=>by rw[show a=l from e,hl]at h;cases h⟩⟩
theorem bH.length {K:Frag}:∀{ps:List PV} {vs:List V},bH K Z H ps vs->ps.length=vs.length
 |_,_,.nil=>rfl
 |_,_,.cons _ r=>by rw[length_cons,length_cons,bH.length r]
theorem bH.get {K:Frag}:∀{ps:List PV} {vs:List V} {i:Nat} {p:PV},bH K Z H ps vs->ps[i]? =some p->∃v,vs[i]? =some v/\Rep K Z H p v
 |_,_,_,_,.nil,h=>by simp at h
 |_,_,0,_,.cons h _,e=>by simp at e;subst e;exact⟨_,rfl,h⟩
 |_,_,i+1,_,.cons _ r,e=>by
  obtain⟨v,h1,h2⟩:=bH.get (i:=i) r (by simpa using e)
  exact⟨v,by simpa using h1,h2⟩
theorem bH.app {K:Frag}:∀{ps qs:List PV} {vs ws:List V},bH K Z H ps vs->bH K Z H qs ws->bH K Z H (ps++qs) (vs++ws)
 |_,_,_,_,.nil,s=>s
 |_,_,_,_,.cons h r,s=>.cons h (bH.app r s)
theorem bH.drop {K:Frag}:∀{ps:List PV} {vs:List V} (n:Nat),bH K Z H ps vs->bH K Z H (ps.drop n) (vs.drop n)
 |_,_,0,h=>h
 |_,_,_+1,.nil=>.nil
 |_,_,n+1,.cons _ r=>bH.drop n r
theorem bH.take {K:Frag}:∀{ps:List PV} {vs:List V} (n:Nat),bH K Z H ps vs->bH K Z H (ps.take n) (vs.take n)
 |_,_,0,_=>.nil
 |_,_,_+1,.nil=>.nil
 |_,_,n+1,.cons h r=>.cons h (bH.take n r)
theorem bH.set {K:Frag} (h:Rep K Z H p v):∀{ps:List PV} {vs:List V} (n:Nat),bH K Z H ps vs->bH K Z H (ps.set n p) (vs.set n v)
 |_,_,_,.nil=>.nil
 |_,_,0,.cons _ r=>.cons h r
 |_,_,n+1,.cons q r=>.cons q (bH.set h n r)
noncomputable def LstAt (K:Frag) (H:Hp) (a:Addr) (xs:List V):Prop:=Rd H a (.lst xs)\/ X6 K a xs
theorem LstAt.sq {K:Frag} (h:LstAt K H a xs):iB K H a xs:=h
inductive Red (K:Frag) (Z:aI) (H:Hp):PV->V->Prop
 |rep {p:PV} {v:V}:Rep K Z H p v->Red K Z H p v
 |lst {a:Addr} {xs:List V} {ps:List PV}:LstAt K H a xs->bH K Z H ps xs->Red K Z H (.lst ps) (.ref a)
 |a8 {a:Addr} {ep:Nat} {ys:List (Key×V)} {kvs:List (Key×PV)}:Rd H a (.dK ys ep)->ys.map (·.1)=kvs.map (·.1)->bH K Z H (kvs.map (·.2)) (ys.map (·.2))->Red K Z H (.a8 kvs) (.ref a)
section
variable {K:Frag} {Z:aI} {H:Hp} {v:V}
theorem Red.int {i:Int} (h:Red K Z H (.int i) v):v= .int i:=by cases h with|rep h=>cases h;rfl
theorem Red.str {i:Str} (h:Red K Z H (.str i) v):v= .str i:=by cases h with|rep h=>cases h;rfl
theorem Red.bl {i:Bool} (h:Red K Z H (.bl i) v):v= .bl i:=by cases h with|rep h=>cases h;rfl
theorem Red.bA (h:Red K Z H .bA v):v= .bA:=by cases h with|rep h=>cases h;rfl
theorem Red.ty {n:String} (h:Red K Z H (.ty n) v):v= .ty n:=by cases h with|rep h=>cases h;rfl
theorem Red.tup (h:Red K Z H (.tup ps) v):∃a xs,v= .ref a/\TupAt K H a xs/\bH K Z H ps xs:=by
 cases h with|rep h=>cases h with|tup h r=>exact⟨_,_,rfl,h,r⟩
theorem Red.lZ (h:Red K Z H (.lst ps) v):∃a xs,v= .ref a/\LstAt K H a xs/\bH K Z H ps xs:=by
 cases h with
 |rep h=>cases h with|lst h _ r=>exact⟨_,_,rfl,.inl h,r⟩
 |lst h r=>exact⟨_,_,rfl,h,r⟩
theorem Red.rR (h:Red K Z H (.a8 kvs) v):∃a ys,v= .ref a/\xA H a ys/\ys.map (·.1)=kvs.map (·.1)/\bH K Z H (kvs.map (·.2)) (ys.map (·.2)):=by
 cases h with
 |rep h=>cases h with|a8 h _ e r=>exact⟨_,_,rfl,⟨_,h⟩,e,r⟩
 |a8 h e r=>exact⟨_,_,rfl,⟨_,h⟩,e,r⟩
end
inductive Sl where
 |val (p:PV)|own (p:PV)|loc (p:PV)|bor (p:PV)
noncomputable def Sl.pv:Sl->PV
 | .val p=>p| .own p=>p| .loc p=>p| .bor p=>p
noncomputable def Sl.cX:Sl->Bool
 | .own _=>true| .loc _=>true|_=>false
noncomputable abbrev En:=List (Option Sl)
inductive gY (K:Frag) (Z:aI) (H:Hp) (a:Addr):PV->Prop
 |lst {xs:List V} {ps:List PV}:H a=some (.lst xs)->bH K Z H ps xs->gY K Z H a (.lst ps)
 |a8 {ep:Nat} {ys:List (Key×V)} {kvs:List (Key×PV)}:H a=some (.dK ys ep)->ys.map (·.1)=kvs.map (·.1)->bH K Z H (kvs.map (·.2)) (ys.map (·.2))->gY K Z H a (.a8 kvs)
theorem gY.red {K:Frag} (h:gY K Z H a p):Red K Z H p (.ref a):=by
 cases h with
 |lst e r=>exact .lst (.inl (.inl e)) r
 |a8 e k r=>exact .a8 (.inl e) k r
theorem gY.rep {K:Frag} (h:gY K Z H a p) (n:¬Z a):Rep K Z H p (.ref a):=by
 cases h with
 |lst e r=>exact .lst (.inl e) n r
 |a8 e k r=>exact .a8 (.inl e) n k r
theorem gY.there {K:Frag} (h:gY K Z H a p):∃o,H a=some o/\∀xs,o≠ .tup xs:=by
 cases h with
 |lst e r=>exact⟨_,e,fun _ z=>nomatch z⟩
 |a8 e k r=>exact⟨_,e,fun _ z=>nomatch z⟩
theorem gY.aH {K:Frag} (k:cS Z Z' H H') (e:∀o,H a=some o->H' a=some o) (h:gY K Z H a p):gY K Z' H' a p:=by
 cases h with
 |lst h r=>exact .lst (e _ h) (r.aH k)
 |a8 h q r=>exact .a8 (e _ h) q (r.aH k)
inductive rL (K:Frag) (Z:aI) (W:WS) (L:aI) (H:Hp) (a:Addr):PV->Prop
 |lst {xs:List V} {ps:List PV}:Rd H a (.lst xs)->W.old a->¬aw W a->¬L a->bH K Z H ps xs->rL K Z W L H a (.lst ps)
 |dO {xs:List V} {ps:List PV}:X6 K a xs->bH K Z H ps xs->rL K Z W L H a (.lst ps)
 |a8 {ep:Nat} {ys:List (Key×V)} {kvs:List (Key×PV)}:Rd H a (.dK ys ep)->W.old a->¬aw W a->¬L a->ys.map (·.1)=kvs.map (·.1)->bH K Z H (kvs.map (·.2)) (ys.map (·.2))->rL K Z W L H a (.a8 kvs)
theorem rL.red {K:Frag} (h:rL K Z W L H a p):Red K Z H p (.ref a):=by
 cases h with
 |lst e _ _ _ r=>exact .lst (.inl e) r
 |dO e r=>exact .lst (.inr e) r
 |a8 e _ _ _ k r=>exact .a8 e k r
noncomputable def i4 (K:Frag) (Z:aI) (W:WS) (L:aI) (H:Hp) (i:Nat) (v:V):Sl->Prop
 | .val p=>Rep K Z H p v
 | .own p=>∃a,v= .ref a/\W i a/\gY K Z H a p
 | .loc p=>∃a,v= .ref a/\L a/\gY K Z H a p
 | .bor p=>∃a,v= .ref a/\rL K Z W L H a p
theorem i4.red {K:Frag} {s:Sl} (h:i4 K Z W L H i v s):Red K Z H s.pv v:=by
 cases s with
 |val p=>exact .rep h
 |own p=>obtain⟨a,rfl,_,c⟩:=h;exact c.red
 |loc p=>obtain⟨a,rfl,_,c⟩:=h;exact c.red
 |bor p=>obtain⟨a,rfl,c⟩:=h;exact c.red
structure aP (K:Frag) (Z:aI) (W:WS) (L:aI) (H:Hp) (σ:St) (e:En):Prop where
 len:e.length=σ.length
 at':∀(i:Nat) s,e[i]? =some (some s)->∃v,σ[i]? =some (some v)/\i4 K Z W L H i v s
 mW:∀(i j:Nat) s t,i≠j->e[i]? =some (some s)->e[j]? =some (some t)->s.cX=true->t.cX=true->σ[i]?≠σ[j]?
structure jS (O M:aI) (W:WS) (L:aI) (H:Hp):Prop where
 old:∀a,O a->H a≠none
 mo:∀a,M a->O a
 wm:∀i a,W i a->M a
 loc:∀a,L a->H a≠none/\¬O a
structure bX (W:WS) (L:aI) (H H':Hp):Prop where
 obj:∀a o,H a=some o->¬aw W a->¬L a->H' a=some o
 tup:∀a xs,H a=some (.tup xs)->H' a=some (.tup xs)
 cC:∀a,H a≠none->H' a≠none
theorem bX.refl:bX W L H H:=⟨fun _ _ h _ _=>h,fun _ _ h=>h,fun _ h=>h⟩
theorem bX.trans (a:bX W L H H1) (b:bX W L H1 H2):bX W L H H2:=⟨fun c o h n m=>b.obj c o (a.obj c o h n m) n m,fun c o h=>b.tup c o (a.tup c o h),fun c h=>b.cC c (a.cC c h)⟩
theorem bX.same {H:Hp} (s:aZ H H'):bX W L H H':=⟨fun _ _ h _ _=>s _ _ h,fun _ _ h=>s _ _ h,fun a h=>by
 cases e:H a with
 |none=>exact absurd e h
 |some o=>rw[s _ _ e];exact fun z=>nomatch z⟩
theorem jS.keep (o:jS O M W L H) (d:∀a,H a≠none->H' a≠none):jS O M W L H':=⟨fun a h=>d a (o.old a h),o.mo,o.wm,fun a h=>⟨d a (o.loc a h).1,(o.loc a h).2⟩⟩
theorem bX.aH (o:jS O M W L H) (k:bX W L H H'):cS (aW M L) (aW M L) H H':=
 ⟨k.tup,fun a u h n=>⟨k.obj a u h (fun⟨i,z⟩=>n (.inl (o.wm i a z))) fun z=>n (.inr z),n⟩⟩
theorem aP.aH {K:Frag} {e:En} (h:aP K Z W L H σ e) (k:cS Z Z' H H') (ow:∀a o,aw W a\/ L a->H a=some o->H' a=some o) (bo:∀a o,H a=some o->¬aw W a->¬L a->H' a=some o):aP K Z' W L H' σ e:=
 ⟨h.len,fun i s q=>by
  obtain⟨v,h1,h2⟩:=h.at' i s q
  refine⟨v,h1,?_⟩
  cases s with
  |val p=>exact Rep.aH k h2
  |own p=>obtain⟨a,e,w,c⟩:=h2;exact⟨a,e,w,c.aH k fun o q=>ow a o (.inl ⟨_,w⟩) q⟩
  |loc p=>obtain⟨a,e,w,c⟩:=h2;exact⟨a,e,w,c.aH k fun o q=>ow a o (.inr w) q⟩
  |bor p=>
   obtain⟨a,e,c⟩:=h2
   refine⟨a,e,?_⟩
   cases c with
   |lst e od n m r=>exact .lst (e.elim (fun e=>.inl (bo _ _ e n m)) fun⟨u,e⟩=>.inr ⟨u,bo _ _ e n m⟩) od n m (r.aH k)
   |dO e r=>exact .dO e (r.aH k)
   |a8 e od n m kk r=>exact .a8 (e.elim (fun e=>.inl (bo _ _ e n m)) fun⟨u,e⟩=>.inr ⟨u,bo _ _ e n m⟩) od n m kk (r.aH k),h.mW⟩
theorem aP.same {K:Frag} (h:aP K Z W L H σ e) (s:aZ H H'):aP K Z W L H' σ e:=h.aH (.same s) (fun a o _ q=>s a o q) fun a o q _ _=>s a o q
noncomputable def MC (σ:St) (e:En) (a:Addr):Prop:=∀(i:Nat) s,e[i]? =some (some s)->s.cX=true->σ[i]?≠some (some (.ref a))
theorem Rd.ne (h:Rd H a o) (hl:H l=none):a≠l:=by
 rintro rfl
 rcases h with h|⟨_,h⟩<;>(rw[hl]at h;cases h)
theorem aP.new {K:Frag} {e:En} (h:aP K (aW M L) W L H σ e) (s:aZ H H') (hl:H l=none):aP K (aW M (aW L (one l))) W (aW L (one l)) H' σ e/\MC σ e l:=by
 have k:cS (aW M L) (aW M (aW L (one l))) H H':=⟨fun _ _ h=>s _ _ h,fun a o h n=>⟨s _ _ h,fun z=>by
  rcases z with z|z|z
  ·exact n (.inl z)
  ·exact n (.inr z)
  ·rw[show a=l from z,hl]at h;cases h⟩⟩
 refine⟨⟨h.len,fun i sl q=>?_,h.mW⟩,fun i sl q hm e=>?_⟩
 ·obtain⟨v,h1,h2⟩:=h.at' i sl q
  refine⟨v,h1,?_⟩
  cases sl with
  |val p=>exact Rep.aH k h2
  |own p=>obtain⟨a,e,w,c⟩:=h2;exact⟨a,e,w,c.aH k fun o q=>s _ _ q⟩
  |loc p=>obtain⟨a,e,w,c⟩:=h2;exact⟨a,e,.inl w,c.aH k fun o q=>s _ _ q⟩
  |bor p=>
   obtain⟨a,e,c⟩:=h2
   refine⟨a,e,?_⟩
   cases c with
   |lst e od n m r=>exact .lst (e.elim (fun e=>.inl (s _ _ e)) fun⟨u,e⟩=>.inr ⟨u,s _ _ e⟩) od n (fun z=>z.elim m (Rd.ne e hl)) (r.aH k)
   |dO e r=>exact .dO e (r.aH k)
   |a8 e od n m kk r=>exact .a8 (e.elim (fun e=>.inl (s _ _ e)) fun⟨u,e⟩=>.inr ⟨u,s _ _ e⟩) od n (fun z=>z.elim m (Rd.ne e hl)) kk (r.aH k)
 ·obtain⟨v,h1,h2⟩:=h.at' i sl q
  rw[h1]at e
  cases e
  cases sl with
  |val p=>cases hm
  |bor p=>cases hm
  |own p=>obtain⟨a,e,w,c⟩:=h2;cases e;obtain⟨o,e,_⟩:=c.there;rw[hl]at e;cases e
  |loc p=>obtain⟨a,e,w,c⟩:=h2;cases e;obtain⟨o,e,_⟩:=c.there;rw[hl]at e;cases e
theorem aP.UA {K:Frag} {e:En} (h:aP K (aW M (aW L (one l))) W (aW L (one l)) H σ e) (f:MC σ e l):aP K (aW M L) W L H σ e:=by
 have k:cS (aW M (aW L (one l))) (aW M L) H H:=.less fun a z=>z.elim .inl fun z=>.inr (.inl z)
 refine⟨h.len,fun i sl q=>?_,h.mW⟩
 obtain⟨v,h1,h2⟩:=h.at' i sl q
 refine⟨v,h1,?_⟩
 cases sl with
 |val p=>exact Rep.aH k h2
 |own p=>obtain⟨a,e,w,c⟩:=h2;exact⟨a,e,w,c.aH k fun o q=>q⟩
 |loc p=>
  obtain⟨a,e,w,c⟩:=h2
  refine⟨a,e,w.elim id fun z=>?_,c.aH k fun o q=>q⟩
  exfalso
  have z:a=l:=z
  subst z e
  exact f i _ q rfl h1
 |bor p=>
  obtain⟨a,e,c⟩:=h2
  refine⟨a,e,?_⟩
  cases c with
  |lst e od n m r=>exact .lst e od n (fun z=>m (.inl z)) (r.aH k)
  |dO e r=>exact .dO e (r.aH k)
  |a8 e od n m kk r=>exact .a8 e od n (fun z=>m (.inl z)) kk (r.aH k)
inductive Bv where
 |val (p:PV)|slot (i:Nat)|new (p:PV)
noncomputable def rd (e:En) (i:Nat):Option PV:=match e[i]? with
 |some (some s)=>some s.pv
 |_=>none
noncomputable def Bv.get (e:En):Bv->Option PV
 | .val p=>some p
 | .new p=>some p
 | .slot i=>rd e i
noncomputable def Bv.weak:Bv->Bv
 | .new p=>.val p
 |b=>b
noncomputable def Bv.put:Bv->Option PV
 | .val p=>some p
 | .new p=>some p
 | .slot _=>none
noncomputable def RB (K:Frag) (O M:aI) (W:WS) (L:aI) (H:Hp) (σ:St) (e:En) (v:V):Bv->Prop
 | .val p=>aP K (aW M L) W L H σ e/\Rep K (aW M L) H p v
 | .slot i=>aP K (aW M L) W L H σ e/\σ[i]? =some (some v)
 | .new p=>∃a,v= .ref a/\¬O a/\¬L a/\aP K (aW M (aW L (one a))) W (aW L (one a)) H σ e/\MC σ e a/\gY K (aW M (aW L (one a))) H a p
theorem RB.weak {K:Frag} {b:Bv} (o:jS O M W L H) (h:RB K O M W L H σ e v b):RB K O M W L H σ e v b.weak:=by
 cases b with
 |val p=>exact h
 |slot i=>exact h
 |new p=>
  obtain⟨a,rfl,n1,n2,h1,hf,h2⟩:=h
  exact⟨h1.UA hf,(h2.aH (.less fun _ z=>z.elim .inl fun z=>.inr (.inl z)) fun _ q=>q).rep fun z=>z.elim (fun z=>n1 (o.mo _ z)) n2⟩
theorem RB.en {K:Frag} {b:Bv} (o:jS O M W L H) (h:RB K O M W L H σ e v b):aP K (aW M L) W L H σ e:=by
 cases b with
 |val p=>exact h.1
 |slot i=>exact h.1
 |new p=>exact(RB.weak (b:=.new p) o h).1
noncomputable def RV (K:Frag) (Z:aI) (H:Hp) (σ:St) (v:V):Bv->Prop
 | .val p=>Rep K Z H p v
 | .slot i=>σ[i]? =some (some v)
 | .new _=>False
theorem RB.rv {K:Frag} {b:Bv} (o:jS O M W L H) (h:RB K O M W L H σ e v b):RV K (aW M L) H σ v b.weak:=by
 have h:=h.weak o
 cases b with
 |val p=>exact h.2
 |slot i=>exact h.2
 |new p=>exact h.2
theorem RV.keep {K:Frag} {b:Bv} (o:jS O M W L H) (k:bX W L H H') (h:RV K (aW M L) H σ v b):RV K (aW M L) H' σ v b:=by
 cases b with
 |val p=>exact Rep.aH (k.aH o) h
 |slot i=>exact h
 |new p=>exact h
theorem aP.rd {K:Frag} {e:En} {i:Nat} (h:aP K Z W L H σ e) (g:rd e i=some p) (hv:σ[i]? =some (some v)):Red K Z H p v:=by
 unfold Mr.rd at g
 cases q:e[i]? with
 |none=>rw[q]at g;cases g
 | some s=>
  cases s with
  |none=>rw[q]at g;cases g
  |some s=>
   rw[q]at g
   cases g
   obtain⟨w,h1,h2⟩:=h.at' i s q
   rw[hv]at h1
   cases h1
   exact h2.red
theorem RV.red {K:Frag} {b:Bv} (h:RV K Z H σ v b) (he:aP K Z W L H σ e) (g:b.get e=some p):Red K Z H p v:=by
 cases b with
 |val q=>cases g;exact .rep h
 |slot i=>exact he.rd g h
 |new q=>exact h.elim
noncomputable abbrev FE:=En->Option (Bv×En)
noncomputable abbrev FT:=En->Option (Bool×En)
noncomputable abbrev FA:=En->Option (List Bv×En)
noncomputable def Fr (H:Hp) (v:V):Bv->Prop
 | .new _=>∀a,v= .ref a->H a=none
 |_=>True
theorem Fr.back {H:Hp} {b:Bv} (d:∀a,H a≠none->H1 a≠none) (h:Fr H1 v b):Fr H v b:=by
 cases b with
 |val p=>trivial
 |slot i=>trivial
 |new p=>
  intro a e
  cases z:H a with
  |none=>rfl
  |some o=>exact absurd (h a e) (d a (by rw[z];exact fun z=>nomatch z))
noncomputable def Ref (K:Frag) (t:TE) (f:FE):Prop:=∀(O M:aI) (W:WS) (L:aI) (σ:St) (H:Hp) (e e':En) (b:Bv) (Q:VK),jS O M W L H->aP K (aW M L) W L H σ e->f e=some (b,e')->
 (∀v H',bX W L H H'->RB K O M W L H' σ e' v b->Fr H v b->Q v H')->t σ H Q
noncomputable def jY (K:Frag) (t:TT) (f:FT):Prop:=∀(O M:aI) (W:WS) (L:aI) (σ:St) (H:Hp) (e e':En) (b:Bool) (Q:Bool->Hp->Prop),jS O M W L H->aP K (aW M L) W L H σ e->f e=some (b,e')->
 (∀H',bX W L H H'->aP K (aW M L) W L H' σ e'->Q b H')->t σ H Q
inductive BN (K:Frag) (Z:aI) (H:Hp) (σ:St):List Bv->List V->Prop
 |nil:BN K Z H σ [] []
 |cons {b:Bv} {v:V} {bs:List Bv} {vs:List V}:RV K Z H σ v b->BN K Z H σ bs vs->BN K Z H σ (b::bs) (v::vs)
noncomputable def rE (K:Frag) (t:TA) (f:FA):Prop:=∀(O M:aI) (W:WS) (L:aI) (σ:St) (H:Hp) (e e':En) (bs:List Bv) (Q:List V->Hp->Prop),jS O M W L H->aP K (aW M L) W L H σ e->f e=some (bs,e')->
 (∀vs H',bX W L H H'->aP K (aW M L) W L H' σ e'->BN K (aW M L) H' σ bs vs->Q vs H')->t σ H Q
noncomputable def bE (r:Option (α×En)) (k:α->En->Option β):Option β:=match r with
 |some (a,e)=>k a e
 |none=>none
noncomputable def bO (r:Option α) (k:α->Option β):Option β:=match r with
 |some a=>k a
 |none=>none
theorem aM {r:Option (α×En)} {k:α->En->Option β} {b:β} (h:bE r k=some b):∃a e,r=some (a,e)/\k a e=some b:=by
 cases r with
 |none=>cases h
 |some x=>exact⟨x.1,x.2,rfl,h⟩
theorem aF {r:Option α} {k:α->Option β} {b:β} (h:bO r k=some b):∃a,r=some a/\k a=some b:=by
 cases r with
 |none=>cases h
 |some x=>exact⟨x,rfl,h⟩
theorem CH {a:α} {k:α->En->Option β}:bE (some (a,e)) k=k a e:=rfl
theorem rS {a:α} {k:α->Option β}:bO (some a) k=k a:=rfl
noncomputable def bB (c:Bool) (x y:β):β:=match c with|true=>x|false=>y
noncomputable def aQ (c:Bool) (k:Option β):Option β:=match c with|true=>k|false=>none
theorem aL {c:Bool} {k:Option β} {b:β} (h:aQ c k=some b):c=true/\k=some b:=by
 cases c with
 |false=>cases h
 |true=>exact⟨rfl,h⟩
noncomputable def RN (K:Frag) (Z:aI) (H H':Hp) (v:V):Bv->Prop
 | .val p=>Rep K Z H' p v
 | .new p=>∃a,v= .ref a/\H a=none/\gY K (aW Z (one a)) H' a p
 | .slot _=>False
theorem RN.rb {K:Frag} {b:Bv} (o:jS O M W L H) (he:aP K (aW M L) W L H σ e) (s:aZ H H') (h:RN K (aW M L) H H' v b):RB K O M W L H' σ e v b:=by
 cases b with
 |val p=>exact⟨he.same s,h⟩
 |slot i=>exact h.elim
 |new p=>
  obtain⟨a,rfl,n,c⟩:=h
  have w:=he.new s n
  exact⟨a,rfl,fun z=>o.old a z n,fun z=>(o.loc a z).1 n,w.1,w.2,c.aH (.less fun _ z=>by rcases z with z|z|z;exact .inl (.inl z);exact .inl (.inr z);exact .inr z) fun _ q=>q⟩
theorem RN.fr {K:Frag} {H0:Hp} {b:Bv} (d:∀a,H0 a≠none->H a≠none) (h:RN K Z H H' v b):Fr H0 v b:=by
 refine Fr.back d ?_
 cases b with
 |val p=>trivial
 |slot i=>trivial
 |new p=>
  obtain⟨a,rfl,n,c⟩:=h
  intro a' e
  cases e
  exact n
noncomputable def dZ (K:Frag) (r:R2) (g:PV->PV->Option Bv):Prop:=∀(Z:aI) (H:Hp) (x y:V) (p q:PV) (b:Bv) (Q:VK),Red K Z H p x->Red K Z H q y->g p q=some b->(∀v H',aZ H H'->RN K Z H H' v b->Q v H')->r x y H Q
noncomputable def ZY (K:Frag) (r:V->Hp->VK->Prop) (g:PV->Option Bv):Prop:=∀(Z:aI) (H:Hp) (x:V) (p:PV) (b:Bv) (Q:VK),Red K Z H p x->g p=some b->(∀v H',aZ H H'->RN K Z H H' v b->Q v H')->r x H Q
inductive u9 (K:Frag) (Z:aI) (H:Hp):List PV->List V->Prop
 |nil:u9 K Z H [] []
 |cons {p:PV} {v:V} {ps:List PV} {vs:List V}:Red K Z H p v->u9 K Z H ps vs->u9 K Z H (p::ps) (v::vs)
noncomputable def gP (K:Frag) (r:List V->Hp->VK->Prop) (g:List PV->Option Bv):Prop:=∀(Z:aI) (H:Hp) (vs:List V) (ps:List PV) (b:Bv) (Q:VK),u9 K Z H ps vs->g ps=some b->(∀v H',aZ H H'->RN K Z H H' v b->Q v H')->r vs H Q
noncomputable def Y0 (K:Frag) (r:V->List V->Hp->VK->Prop) (g:PV->List PV->Option Bv):Prop:=∀(Z:aI) (H:Hp) (x:V) (vs:List V) (p:PV) (ps:List PV) (b:Bv) (Q:VK),Red K Z H p x->u9 K Z H ps vs->g p ps=some b->(∀v H',aZ H H'->RN K Z H H' v b->Q v H')->r x vs H Q
noncomputable def getL (e:En):List Bv->Option (List PV)
 |[]=>some []
 |b::bs=>bO (b.get e) fun p=>bO (getL e bs) fun ps=>some (p::ps)
theorem BN.red {K:Frag} (he:aP K Z W L H σ e):∀{bs:List Bv} {vs:List V} {ps:List PV},BN K Z H σ bs vs->getL e bs=some ps->u9 K Z H ps vs
 |_,_,_,.nil,g=>by cases g;exact .nil
 |_,_,_,.cons h r,g=>by
  obtain⟨p,g1,g⟩:=aF g
  obtain⟨ps,g2,g⟩:=aF g
  cases g
  exact .cons (h.red he g1) (BN.red he r g2)
section
variable {K:Frag}
noncomputable def aC (i:Nat):FE:=fun e=>match e[i]? with
 |some (some (.val p))=>some (.val p,e)
 |some (some _)=>some (.slot i,e)
 |_=>none
theorem QX (i:Nat):Ref K (yL i) (aC i):=by
 intro O M W L σ H e e' b Q o he hf q
 unfold aC at hf
 cases g:e[i]? with
 |none=>rw[g]at hf;cases hf
 | some s=>
  cases s with
  |none=>rw[g]at hf;cases hf
  |some s=>
   rw[g]at hf
   obtain⟨v,h1,h2⟩:=he.at' i s g
   cases s with
   |val p=>cases hf;exact⟨v,h1,q v H .refl ⟨he,h2⟩ trivial⟩
   |own p=>cases hf;exact⟨v,h1,q v H .refl ⟨he,h1⟩ trivial⟩
   |loc p=>cases hf;exact⟨v,h1,q v H .refl ⟨he,h1⟩ trivial⟩
   |bor p=>cases hf;exact⟨v,h1,q v H .refl ⟨he,h1⟩ trivial⟩
noncomputable def fC (p:PV):FE:=fun e=>some (.val p,e)
theorem zY (h:∀Z H,Rep K Z H p v):Ref K (tC v) (fC p):=by
 intro O M W L σ H e e' b Q o he hf q
 cases hf
 exact q v H .refl ⟨he,h _ _⟩ trivial
theorem P2 (i:Int):Ref K (tC (.int i)) (fC (.int i)):=zY fun _ _=>.int i
theorem Q7 (i:Str):Ref K (tC (.str i)) (fC (.str i)):=zY fun _ _=>.str i
theorem VF (i:Bool):Ref K (tC (.bl i)) (fC (.bl i)):=zY fun _ _=>.bl i
theorem RL:Ref K (tC .bA) (fC .bA):=zY fun _ _=>.bA
theorem XF (n:String):Ref K (tC (.ty n)) (fC (.ty n)):=zY fun _ _=>.ty n
noncomputable def bF (g:PV->PV->Option Bv) (fa fb:FE):FE:=fun e=>bE (fa e) fun x e1=>bE (fb e1) fun y e2=>bO (x.weak.get e2) fun p=>bO (y.weak.get e2) fun q=>bO (g p q) fun b=>some (b,e2)
theorem XA {r:R2} {g:PV->PV->Option Bv} (hg:dZ K r g) (ha:Ref K ta fa) (hb:Ref K tb fb):Ref K (ZT r ta tb) (bF g fa fb):=by
 intro O M W L σ H e e' b Q o he hf q
 obtain⟨x,e1,f1,hf⟩:=aM hf
 obtain⟨y,e2,f2,hf⟩:=aM hf
 obtain⟨p,g1,hf⟩:=aF hf
 obtain⟨p',g2,hf⟩:=aF hf
 obtain⟨c,g3,hf⟩:=aF hf
 cases hf
 refine ha O M W L σ H e e1 x _ o he f1 fun v1 H1 k1 r1 fr=>?_
 have o1:=o.keep k1.cC
 refine hb O M W L σ H1 e1 _ y _ o1 (r1.en o1) f2 fun v2 H2 k2 r2 fr=>?_
 have o2:=o1.keep k2.cC
 have en:=r2.en o2
 refine hg _ H2 v1 v2 p p' _ Q (((r1.rv o1).keep o1 k2).red en g1) ((r2.rv o2).red en g2) g3 fun v H' s rn=>?_
 exact q v H' ((k1.trans k2).trans (.same s)) (rn.rb o2 en s) (rn.fr (k1.trans k2).cC)
noncomputable def fUn (g:PV->Option Bv) (fa:FE):FE:=fun e=>bE (fa e) fun x e1=>bO (x.weak.get e1) fun p=>bO (g p) fun b=>some (b,e1)
theorem U1 {r:V->Hp->VK->Prop} {g:PV->Option Bv} (hg:ZY K r g) (ha:Ref K ta fa):Ref K (tUn r ta) (fUn g fa):=by
 intro O M W L σ H e e' b Q o he hf q
 obtain⟨x,e1,f1,hf⟩:=aM hf
 obtain⟨p,g1,hf⟩:=aF hf
 obtain⟨c,g3,hf⟩:=aF hf
 cases hf
 refine ha O M W L σ H e _ x _ o he f1 fun v1 H1 k1 r1 fr=>?_
 have o1:=o.keep k1.cC
 have en:=r1.en o1
 refine hg _ H1 v1 p _ Q ((r1.rv o1).red en g1) g3 fun v H' s rn=>?_
 exact q v H' (k1.trans (.same s)) (rn.rb o1 en s) (rn.fr k1.cC)
noncomputable def aK:FA:=fun e=>some ([],e)
noncomputable def aB (fa:FE) (fr:FA):FA:=fun e=>bE (fa e) fun x e1=>bE (fr e1) fun xs e2=>some (x.weak::xs,e2)
theorem O1:rE K m9 aK:=by
 intro O M W L σ H e e' b Q o he hf q
 cases hf
 exact q [] H .refl he .nil
theorem M4 {tr:TA} {fr:FA} (ha:Ref K ta fa) (hr:rE K tr fr):rE K (dQ ta tr) (aB fa fr):=by
 intro O M W L σ H e e' b Q o he hf q
 obtain⟨x,e1,f1,hf⟩:=aM hf
 obtain⟨xs,e2,f2,hf⟩:=aM hf
 cases hf
 refine ha O M W L σ H e e1 x _ o he f1 fun v1 H1 k1 r1 fr=>?_
 have o1:=o.keep k1.cC
 refine hr O M W L σ H1 e1 _ xs _ o1 (r1.en o1) f2 fun vs H2 k2 en2 r2=>?_
 exact q (v1::vs) H2 (k1.trans k2) en2 (.cons ((r1.rv o1).keep o1 k2) r2)
noncomputable def jX (g:List PV->Option Bv) (fa:FA):FE:=fun e=>bE (fa e) fun xs e1=>bO (getL e1 xs) fun ps=>bO (g ps) fun b=>some (b,e1)
theorem XI {r:List V->Hp->VK->Prop} {g:List PV->Option Bv} {ta:TA} {fa:FA} (hg:gP K r g) (ha:rE K ta fa):Ref K (ZM r ta) (jX g fa):=by
 intro O M W L σ H e e' b Q o he hf q
 obtain⟨x,e1,f1,hf⟩:=aM hf
 obtain⟨p,g1,hf⟩:=aF hf
 obtain⟨c,g3,hf⟩:=aF hf
 cases hf
 refine ha O M W L σ H e _ x _ o he f1 fun v1 H1 k1 en r1=>?_
 have o1:=o.keep k1.cC
 refine hg _ H1 v1 p _ Q (r1.red en g1) g3 fun v H' s rn=>?_
 exact q v H' (k1.trans (.same s)) (rn.rb o1 en s) (rn.fr k1.cC)
noncomputable def fBM (g:PV->List PV->Option Bv) (fo:FE) (fa:FA):FE:=fun e=>bE (fo e) fun x e0=>match x with
 | .val (.str z)=>bE (fa e0) fun xs e1=>bO (getL e1 xs) fun ps=>bO (g (.str z) ps) fun b=>some (b,e1)
 |_=>none
theorem VZ {r:V->List V->Hp->VK->Prop} {g:PV->List PV->Option Bv} {to:TE} {ta:TA} {fo:FE} {fa:FA} (hg:Y0 K r g) (ho:Ref K to fo) (ha:rE K ta fa):Ref K (ZR K "str" r to ta) (fBM g fo fa):=by
 intro O M W L σ H e e' b Q o he hf q
 obtain⟨x,e0,f0,hf⟩:=aM hf
 cases x with
 |slot i=>cases hf
 |new p=>cases hf
 | val p=>
  cases p with
  |str z=>
   obtain⟨xs,e1,f1,hf⟩:=aM hf
   obtain⟨p,g1,hf⟩:=aF hf
   obtain⟨c,g3,hf⟩:=aF hf
   cases hf
   refine ho O M W L σ H e e0 _ _ o he f0 fun v0 H0 k0 r0 fr=>?_
   have o0:=o.keep k0.cC
   obtain⟨en0,r0⟩:=r0
   cases r0
   refine⟨rfl,ha O M W L σ H0 e0 _ xs _ o0 en0 f1 fun v1 H1 k1 en r1=>?_⟩
   have o1:=o0.keep k1.cC
   refine hg _ H1 (.str z) v1 (.str z) p _ Q (.rep (.str z)) (r1.red en g1) g3 fun v H' s rn=>?_
   exact q v H' ((k0.trans k1).trans (.same s)) (rn.rb o1 en s) (rn.fr (k0.trans k1).cC)
  |_=>cases hf
noncomputable def adB (g:PV->List PV->Option Bv) (fo:FE):FE:=fun e=>bE (fo e) fun x e0=>match x with
 | .val (.str z)=>bO (g (.str z) []) fun b=>some (b,e0)
 |_=>none
noncomputable def putL:List Bv->Option (List PV)
 |[]=>some []
 |b::bs=>bO b.put fun p=>bO (putL bs) fun ps=>some (p::ps)
theorem BN.put:∀{bs:List Bv} {vs:List V} {ps:List PV},BN K Z H σ bs vs->putL bs=some ps->bH K Z H ps vs
 |_,_,_,.nil,g=>by cases g;exact .nil
 |b::_,_,_,.cons h r,g=>by
  obtain⟨p,g1,g⟩:=aF g
  obtain⟨ps,g2,g⟩:=aF g
  cases g
  cases b with
  |val p=>cases g1;exact .cons h (BN.put r g2)
  |slot i=>cases g1
  |new p=>exact h.elim
theorem iQ (h:decide (n<1000000)=true):n<sizeLine:=szt (by have:=of_decide_eq_true h;omega)
noncomputable def dY (fa:FA):FE:=fun e=>bE (fa e) fun xs e1=>bO (putL xs) fun ps=>aQ (decide (ps.length<1000000)) (some (.val (.tup ps),e1))
theorem R0 {ta:TA} {fa:FA} (ha:rE K ta fa):Ref K (LX ta) (dY fa):=by
 intro O M W L σ H e e' b Q o he hf q
 obtain⟨x,e1,f1,hf⟩:=aM hf
 obtain⟨ps,g1,hf⟩:=aF hf
 obtain⟨g2,hf⟩:=aL hf
 cases hf
 refine ha O M W L σ H e _ x _ o he f1 fun vs H1 k1 en r1=>?_
 have rl:=r1.put g1
 refine⟨by rw[<-rl.length];exact le_of_lt (iQ g2),fun p hp=>?_⟩
 have s:aZ H1 (upd H1 p (.tup vs)):=aZ.upd hp
 exact q _ _ (k1.trans (.same s)) ⟨en.same s,.tup (.inl aU) (rl.aH (.same s))⟩ trivial
noncomputable def gZ (fa:FA):FE:=fun e=>bE (fa e) fun xs e1=>bO (putL xs) fun ps=>aQ (decide (ps.length<1000000)) (some (.new (.lst ps),e1))
theorem OV {ta:TA} {fa:FA} (ha:rE K ta fa):Ref K (JK ta) (gZ fa):=by
 intro O M W L σ H e e' b Q o he hf q
 obtain⟨x,e1,f1,hf⟩:=aM hf
 obtain⟨ps,g1,hf⟩:=aF hf
 obtain⟨g2,hf⟩:=aL hf
 cases hf
 refine ha O M W L σ H e _ x _ o he f1 fun vs H1 k1 en r1=>?_
 have o1:=o.keep k1.cC
 have rl:=r1.put g1
 refine⟨by rw[<-rl.length];exact le_of_lt (iQ g2),fun p hp=>?_⟩
 have s:aZ H1 (upd H1 p (.lst vs)):=aZ.upd hp
 exact q _ _ (k1.trans (.same s)) ⟨p,rfl,fun z=>o1.old p z hp,fun z=>(o1.loc p z).1 hp,(en.new s hp).1,(en.new s hp).2,.lst aU (rl.aH ⟨fun _ _ h=>s _ _ h,fun a o h n=>⟨s _ _ h,fun z=>by
  rcases z with z|z|z
  ·exact n (.inl z)
  ·exact n (.inr z)
  ·rw[show a=p from z,hp]at h;cases h⟩⟩)⟩ (Fr.back (b:=.new (.lst ps)) k1.cC fun a e=>by cases e;exact hp)
noncomputable def mK:FE:=fun e=>some (.new (.a8 []),e)
theorem NA:Ref K yB mK:=by
 intro O M W L σ H e e' b Q o he hf q
 cases hf
 intro p hp
 have s:aZ H (upd H p (.dK [] 0)):=aZ.upd hp
 exact q _ _ (.same s) ⟨p,rfl,fun z=>o.old p z hp,fun z=>(o.loc p z).1 hp,(he.new s hp).1,(he.new s hp).2,.a8 aU rfl .nil⟩ fun a e=>by cases e;exact hp
noncomputable def bL (f:FE):FT:=fun e=>bE (f e) fun b e1=>match b with
 | .val (.bl c)=>some (c,e1)
 |_=>none
theorem zT (h:Ref K t f):jY K (TU t) (bL f):=by
 intro O M W L σ H e e' b Q o he hf q
 obtain⟨x,e1,f1,hf⟩:=aM hf
 cases x with
 |slot i=>cases hf
 |new p=>cases hf
 | val p=>
  cases p with
  |bl c=>
   cases hf
   refine h O M W L σ H e _ _ _ o he f1 fun v1 H1 k1 r1 fr=>?_
   obtain⟨en,r⟩:=r1
   cases r
   exact⟨b,rfl,q H1 k1 en⟩
  |_=>cases hf
theorem UX (h:Ref K t f):jY K (tB t) (bL f):=zT h
noncomputable def vA (f g:FT):FT:=fun e=>bE (f e) fun b e1=>bB b (g e1) (some (false,e1))
noncomputable def S0 (f g:FT):FT:=fun e=>bE (f e) fun b e1=>bB b (some (true,e1)) (g e1)
noncomputable def L4 (f:FT):FT:=fun e=>bE (f e) fun b e1=>some (!b,e1)
theorem SS {t:TT} {f g:FT} (h:jY K t f) (h2:jY K u g):jY K (aaL t u) (vA f g):=by
 intro O M W L σ H e e' b Q o he hf q
 obtain⟨x,e1,f1,hf⟩:=aM hf
 refine h O M W L σ H e _ _ _ o he f1 fun H1 k1 en=>?_
 cases x with
 |true=>rw[if_pos rfl];exact h2 O M W L σ H1 e1 _ _ _ (o.keep k1.cC) en hf fun H2 k2 en2=>q H2 (k1.trans k2) en2
 |false=>cases hf;rw[if_neg Bool.false_ne_true];exact q H1 k1 en
theorem VX {t:TT} {f g:FT} (h:jY K t f) (h2:jY K u g):jY K (tOr t u) (S0 f g):=by
 intro O M W L σ H e e' b Q o he hf q
 obtain⟨x,e1,f1,hf⟩:=aM hf
 refine h O M W L σ H e _ _ _ o he f1 fun H1 k1 en=>?_
 cases x with
 |true=>cases hf;rw[if_pos rfl];exact q H1 k1 en
 |false=>rw[if_neg Bool.false_ne_true];exact h2 O M W L σ H1 e1 _ _ _ (o.keep k1.cC) en hf fun H2 k2 en2=>q H2 (k1.trans k2) en2
theorem QF {t:TT} {f:FT} (h:jY K t f):jY K (abD t) (L4 f):=by
 intro O M W L σ H e e' b Q o he hf q
 obtain⟨x,e1,f1,hf⟩:=aM hf
 cases hf
 exact h O M W L σ H e _ _ _ o he f1 fun H1 k1 en=>q H1 k1 en
noncomputable def dM:FT:=fun e=>some (true,e)
theorem KG:jY K S6 dM:=by
 intro O M W L σ H e e' b Q o he hf q
 cases hf
 exact q H .refl he
noncomputable def zC:Bv->Option Bool
 | .val (.bl c)=>some c
 |_=>none
theorem IQ {x:Bv} {c:Bool} (h:zC x=some c):x= .val (.bl c):=by
 unfold zC at h
 split at h
 ·cases h;rfl
 ·cases h
noncomputable def vL (fa fb:FE):FE:=fun e=>bE (fa e) fun b e1=>bO (zC b) fun c=>bB c (fb e1) (some (.val (.bl false),e1))
noncomputable def adJ (fa fb:FE):FE:=fun e=>bE (fa e) fun b e1=>bO (zC b) fun c=>bB c (some (.val (.bl true),e1)) (fb e1)
noncomputable def aaF (fa:FE):FE:=fun e=>bE (fa e) fun b e1=>bO (zC b) fun c=>some (.val (.bl (!c)),e1)
theorem J5 (ha:Ref K ta fa) (hb:Ref K tb fb):Ref K (T6 ta tb) (vL fa fb):=by
 intro O M W L σ H e e' b Q o he hf q
 obtain⟨x,e1,f1,hf⟩:=aM hf
 obtain⟨c,gc,hf⟩:=aF hf
 have ec:=IQ gc
 subst ec
 refine ha O M W L σ H e _ _ _ o he f1 fun v1 H1 k1 r1 fr=>?_
 obtain⟨en,r⟩:=r1
 cases r
 refine⟨c,rfl,?_⟩
 cases c with
 |true=>rw[if_pos rfl];exact hb O M W L σ H1 e1 _ _ _ (o.keep k1.cC) en hf fun v2 H2 k2 r2 fr=>q v2 H2 (k1.trans k2) r2 (fr.back k1.cC)
 |false=>cases hf;rw[if_neg Bool.false_ne_true];exact q _ H1 k1 ⟨en,.bl _⟩ trivial
noncomputable def SY (fc:FT) (fa fb:FE):FE:=fun e=>bE (fc e) fun b e1=>bB b (fa e1) (fb e1)
theorem VU {tc:TT} (hc:jY K tc fc) (ha:Ref K ta fa) (hb:Ref K tb fb):Ref K (tIf tc ta tb) (SY fc fa fb):=by
 intro O M W L σ H e e' b Q o he hf q
 obtain⟨x,e1,f1,hf⟩:=aM hf
 refine hc O M W L σ H e _ _ _ o he f1 fun H1 k1 en=>?_
 cases x with
 |true=>rw[if_pos rfl];exact ha O M W L σ H1 e1 _ _ _ (o.keep k1.cC) en hf fun v2 H2 k2 r2 fr=>q v2 H2 (k1.trans k2) r2 (fr.back k1.cC)
 |false=>rw[if_neg Bool.false_ne_true];exact hb O M W L σ H1 e1 _ _ _ (o.keep k1.cC) en hf fun v2 H2 k2 r2 fr=>q v2 H2 (k1.trans k2) r2 (fr.back k1.cC)
noncomputable abbrev FO:=En->Option (Option Int×En)
noncomputable def O8 (K:Frag) (t:TO) (f:FO):Prop:=∀(O M:aI) (W:WS) (L:aI) (σ:St) (H:Hp) (e e':En) (b:Option Int) (Q:Option Int->Hp->Prop),jS O M W L H->aP K (aW M L) W L H σ e->f e=some (b,e')->
 (∀H',bX W L H H'->aP K (aW M L) W L H' σ e'->Q b H')->t σ H Q
noncomputable def fR:FO:=fun e=>some (none,e)
noncomputable def l0 (f:FE):FO:=fun e=>bE (f e) fun b e1=>match b with
 | .val (.int i)=>some (some i,e1)
 |_=>none
theorem DS:O8 K FQ fR:=by
 intro O M W L σ H e e' b Q o he hf q
 cases hf
 exact q H .refl he
theorem K8 (h:Ref K t f):O8 K (S1 t) (l0 f):=by
 intro O M W L σ H e e' b Q o he hf q
 obtain⟨x,e1,f1,hf⟩:=aM hf
 cases x with
 |slot i=>cases hf
 |new p=>cases hf
 | val p=>
  cases p with
  |int c=>
   cases hf
   refine h O M W L σ H e _ _ _ o he f1 fun v1 H1 k1 r1 fr=>?_
   obtain⟨en,r⟩:=r1
   cases r
   exact⟨c,rfl,q H1 k1 en⟩
  |_=>cases hf
noncomputable def aa0 (K:Frag) (r:V->Option Int->Option Int->Hp->VK->Prop) (g:PV->Option Int->Option Int->Option Bv):Prop:=∀(Z:aI) (H:Hp) (x:V) (p:PV) (lo hi:Option Int) (b:Bv) (Q:VK),Red K Z H p x->g p lo hi=some b->(∀v H',aZ H H'->RN K Z H H' v b->Q v H')->r x lo hi H Q
noncomputable def KA (g:PV->Option Int->Option Int->Option Bv) (fa:FE) (fl fh:FO):FE:=fun e=>bE (fa e) fun x e1=>bE (fl e1) fun lo e2=>bE (fh e2) fun hi e3=>bO (x.weak.get e3) fun p=>bO (g p lo hi) fun b=>some (b,e3)
theorem XO {r:V->Option Int->Option Int->Hp->VK->Prop} {g:PV->Option Int->Option Int->Option Bv} {tl th:TO} {fl fh:FO} (hg:aa0 K r g) (ha:Ref K ta fa) (hl:O8 K tl fl) (hh:O8 K th fh):Ref K (tSl r ta tl th) (KA g fa fl fh):=by
 intro O M W L σ H e e' b Q o he hf q
 obtain⟨x,e1,f1,hf⟩:=aM hf
 obtain⟨lo,e2,f2,hf⟩:=aM hf
 obtain⟨hi,e3,f3,hf⟩:=aM hf
 obtain⟨p,g1,hf⟩:=aF hf
 obtain⟨c,g3,hf⟩:=aF hf
 cases hf
 refine ha O M W L σ H e e1 x _ o he f1 fun v1 H1 k1 r1 fr=>?_
 have o1:=o.keep k1.cC
 refine hl O M W L σ H1 e1 e2 lo _ o1 (r1.en o1) f2 fun H2 k2 en2=>?_
 have o2:=o1.keep k2.cC
 refine hh O M W L σ H2 e2 _ hi _ o2 en2 f3 fun H3 k3 en3=>?_
 have o3:=o2.keep k3.cC
 refine hg _ H3 v1 p lo hi _ Q ((((r1.rv o1).keep o1 k2).keep o2 k3).red en3 g1) g3 fun v H' s rn=>?_
 exact q v H' (((k1.trans k2).trans k3).trans (.same s)) (rn.rb o3 en3 s) (rn.fr ((k1.trans k2).trans k3).cC)
end
inductive Out where
 |nx (e:En)|rt (b:Bv) (e:En)|bk (e:En)|ct (e:En)
noncomputable abbrev FS:=En->Option Out
structure lL (W:WS) (L L':aI) (H H':Hp):Prop where
 obj:∀a o,H a=some o->¬aw W a->¬L a->H' a=some o
 tup:∀a xs,H a=some (.tup xs)->H' a=some (.tup xs)
 cC:∀a,H a≠none->H' a≠none
 new:∀a,L' a->L a\/ H a=none
theorem lL.refl:lL W L L H H:=⟨fun _ _ h _ _=>h,fun _ _ h=>h,fun _ h=>h,fun _ h=>.inl h⟩
theorem lL.keep (k:bX W L H H'):lL W L L H H':=⟨k.obj,k.tup,k.cC,fun _ h=>.inl h⟩
theorem lL.trans {L2:aI} {H:Hp} (a:lL W L L1 H H1) (b:lL W L1 L2 H1 H2):lL W L L2 H H2:=
 ⟨fun c o h n m=>b.obj c o (a.obj c o h n m) n fun z=>(a.new c z).elim m fun z=>(by rw[h]at z;cases z),fun c xs h=>b.tup c xs (a.tup c xs h),fun c h=>b.cC c (a.cC c h),fun c h=>by
  rcases b.new c h with z|z
  ·exact a.new c z
  ·refine .inr ?_
   cases e:H c with
   |none=>rfl
   |some o=>exact absurd z (a.cC c (by rw[e];exact fun z=>nomatch z))⟩
noncomputable def QD (K:Frag) (O M:aI) (W:WS) (L:aI) (H:Hp) (D:Ends):Out->Prop
 | .nx e'=>∀L' σ' H',lL W L L' H H'->jS O M W L' H'->aP K (aW M L') W L' H' σ' e'->D.nx σ' H'
 | .bk e'=>∀L' σ' H',lL W L L' H H'->jS O M W L' H'->aP K (aW M L') W L' H' σ' e'->D.bk σ' H'
 | .ct e'=>∀L' σ' H',lL W L L' H H'->jS O M W L' H'->aP K (aW M L') W L' H' σ' e'->D.ct σ' H'
 | .rt b e'=>∀L' σ' H' v,lL W L L' H H'->jS O M W L' H'->RB K O M W L' H' σ' e' v b->D.rt v H'
theorem QD.later {K:Frag} {D:Ends} {r:Out} (g:lL W L L1 H H1) (h:QD K O M W L H D r):QD K O M W L1 H1 D r:=by
 cases r with
 |nx e=>exact fun L' σ' H' g'=>h L' σ' H' (g.trans g')
 |bk e=>exact fun L' σ' H' g'=>h L' σ' H' (g.trans g')
 |ct e=>exact fun L' σ' H' g'=>h L' σ' H' (g.trans g')
 |rt b e=>exact fun L' σ' H' v g'=>h L' σ' H' v (g.trans g')
noncomputable def fJ (K:Frag) (t:TS) (f:FS):Prop:=∀(O M:aI) (W:WS) (L:aI) (σ:St) (H:Hp) (e:En) (r:Out) (D:Ends),jS O M W L H->aP K (aW M L) W L H σ e->f e=some r->QD K O M W L H D r->t D σ H
section
variable {K:Frag}
noncomputable def dA:FS:=fun e=>some (.nx e)
theorem JS:fJ K BE dA:=by
 intro O M W L σ H e r D o he hf q
 cases hf
 exact q L σ H .refl o he
noncomputable def VD:FS:=fun e=>some (.bk e)
noncomputable def aaD:FS:=fun e=>some (.ct e)
noncomputable def aT (f g:FS):FS:=fun e=>match f e with
 |some (.nx e1)=>g e1
 |r=>r
theorem GJ {t u:TS} {f:FS} (h1:fJ K t f) (h2:fJ K u g):fJ K (CV t u) (aT f g):=by
 intro O M W L σ H e r D o he hf q
 unfold aT at hf
 cases c:f e with
 |none=>rw[c]at hf;cases hf
 |some r1=>
  rw[c]at hf
  cases r1 with
  |nx e1=>exact h1 O M W L σ H e _ _ o he c fun L' σ' H' g' o' he'=>h2 O M W L' σ' H' e1 r D o' he' hf (q.later g')
  |rt b e1=>cases hf;exact h1 O M W L σ H e _ _ o he c q
  |bk e1=>cases hf;exact h1 O M W L σ H e _ _ o he c q
  |ct e1=>cases hf;exact h1 O M W L σ H e _ _ o he c q
noncomputable def cR (f:FE):FS:=fun e=>bE (f e) fun b e1=>some (.rt b e1)
theorem SQ (h:Ref K t f):fJ K (WH t) (cR f):=by
 intro O M W L σ H e r D o he hf q
 obtain⟨x,e1,f1,hf⟩:=aM hf
 cases hf
 exact h O M W L σ H e _ _ _ o he f1 fun v H' k rb fr=>q L σ H' v (.keep k) (o.keep k.cC) rb
noncomputable def aaJ:FS:=fun e=>some (.rt (.val .bA) e)
noncomputable def aaX (f:FE):FS:=fun e=>bE (f e) fun b e1=>some (.nx e1)
noncomputable def pW (fc:FT) (f g:FS):FS:=fun e=>bE (fc e) fun b e1=>bB b (f e1) (g e1)
theorem O3 {t u:TS} {f:FS} (hc:jY K c fc) (h1:fJ K t f) (h2:fJ K u g):fJ K (Y2 c t u) (pW fc f g):=by
 intro O M W L σ H e r D o he hf q
 obtain⟨x,e1,f1,hf⟩:=aM hf
 refine hc O M W L σ H e _ _ _ o he f1 fun H1 k1 en=>?_
 cases x with
 |true=>rw[if_pos rfl];exact h1 O M W L σ H1 e1 r D (o.keep k1.cC) en hf (q.later (.keep k1))
 |false=>rw[if_neg Bool.false_ne_true];exact h2 O M W L σ H1 e1 r D (o.keep k1.cC) en hf (q.later (.keep k1))
theorem eO {l:List α} {j:Nat} {x y:α} (h:(l.set i x)[j]? =some y):(i=j/\i<l.length/\x=y)\/ (i≠j/\l[j]? =some y):=by
 by_cases e:i=j
 ·subst e
  have hl:i<l.length:=by
   have:=(List.getElem?_eq_some_iff.mp h).1
   simpa using this
  rw[getElem?_set_self hl]at h
  exact .inl ⟨rfl,hl,Option.some.inj h⟩
 ·rw[getElem?_set_ne e]at h
  exact .inr ⟨e,h⟩
theorem aP.put {e:En} (h:aP K Z W L H σ e) (hm:s.cX=false) (hs:i4 K Z W L H i v s):aP K Z W L H (σ.set i (some v)) (e.set i (some s)):=by
 refine⟨by rw[length_set,length_set];exact h.len,fun j t q=>?_,fun j k s1 s2 hjk q1 q2 m1 m2=>?_⟩
 ·rcases eO q with⟨rfl,hl,e⟩|⟨hn,q⟩
  ·cases e
   exact⟨v,by rw[getElem?_set_self (by rw[<-h.len];exact hl)],hs⟩
  ·rw[getElem?_set_ne hn]
   exact h.at' j t q
 ·rcases eO q1 with⟨rfl,hl,e⟩|⟨hn1,q1⟩
  ·cases e;rw[hm]at m1;cases m1
  ·rcases eO q2 with⟨rfl,hl,e⟩|⟨hn2,q2⟩
   ·cases e;rw[hm]at m2;cases m2
   ·rw[getElem?_set_ne hn1,getElem?_set_ne hn2]
    exact h.mW j k s1 s2 hjk q1 q2 m1 m2
theorem aP.putL {e:En} (h:aP K (aW M (aW L (one a))) W (aW L (one a)) H σ e) (hf:MC σ e a) (hc:gY K (aW M (aW L (one a))) H a p):
  aP K (aW M (aW L (one a))) W (aW L (one a)) H (σ.set i (some (.ref a))) (e.set i (some (.loc p))):=by
 refine⟨by rw[length_set,length_set];exact h.len,fun j t q=>?_,fun j k s1 s2 hjk q1 q2 m1 m2=>?_⟩
 ·rcases eO q with⟨rfl,hl,e⟩|⟨hn,q⟩
  ·cases e
   exact⟨_,by rw[getElem?_set_self (by rw[<-h.len];exact hl)],a,rfl,.inr rfl,hc⟩
  ·rw[getElem?_set_ne hn]
   exact h.at' j t q
 ·rcases eO q1 with⟨rfl,hl,e⟩|⟨hn1,q1⟩
  ·rcases eO q2 with⟨rfl,hl,e⟩|⟨hn2,q2⟩
   ·exact absurd rfl hjk
   ·rw[getElem?_set_ne hn2,getElem?_set_self (by rw[<-h.len];exact hl)]
    exact fun z=>hf k s2 q2 m2 z.symm
  ·rcases eO q2 with⟨rfl,hl,e⟩|⟨hn2,q2⟩
   ·rw[getElem?_set_ne hn1,getElem?_set_self (by rw[<-h.len];exact hl)]
    exact fun z=>hf j s1 q1 m1 z
   ·rw[getElem?_set_ne hn1,getElem?_set_ne hn2]
    exact h.mW j k s1 s2 hjk q1 q2 m1 m2
noncomputable def bY (i:Nat) (f:FE):FS:=fun e=>bE (f e) fun b e1=>match b with
 | .val p=>some (.nx (e1.set i (some (.val p))))
 | .new p=>some (.nx (e1.set i (some (.val p))))
 | .slot j=>match e1[j]? with
  |some (some (.bor p))=>some (.nx (e1.set i (some (.bor p))))
  |_=>none
theorem QC (h:Ref K t f):fJ K (m6 t (gJ i)) (bY i f):=by
 intro O M W L σ H e r D o he hf q
 obtain⟨x,e1,f1,hf⟩:=aM hf
 refine h O M W L σ H e _ _ _ o he f1 fun v H' k rb fr=>?_
 have o1:=o.keep k.cC
 cases x with
 |val p=>cases hf;exact q L _ H' (.keep k) o1 (aP.put rb.1 rfl rb.2)
 |new p=>cases hf;have rb:=rb.weak o1;exact q L _ H' (.keep k) o1 (aP.put (s:=.val p) rb.1 rfl rb.2)
 | slot j=>
  dsimp only at hf
  cases c:e1[j]? with
  |none=>rw[c]at hf;cases hf
  | some s=>
   cases s with
   |none=>rw[c]at hf;cases hf
   | some s=>
    rw[c]at hf
    cases s with
    |bor p=>
     cases hf
     obtain⟨u,h1,h2⟩:=rb.1.at' j _ c
     rw[rb.2]at h1
     cases h1
     exact q L _ H' (.keep k) o1 (aP.put (s:=.bor p) rb.1 rfl h2)
    |_=>cases hf
noncomputable def eX (i:Nat) (f:FE):FS:=fun e=>bE (f e) fun b e1=>match b with
 | .new p=>some (.nx (e1.set i (some (.loc p))))
 |_=>none
theorem JL (h:Ref K t f):fJ K (m6 t (gJ i)) (eX i f):=by
 intro O M W L σ H e r D o he hf q
 obtain⟨x,e1,f1,hf⟩:=aM hf
 cases x with
 |val p=>cases hf
 |slot j=>cases hf
 |new p=>
  cases hf
  refine h O M W L σ H e _ _ _ o he f1 fun v H' k rb fr=>?_
  obtain⟨a,rfl,nO,nL,en,fe,c⟩:=rb
  obtain⟨ob,hob,_⟩:=c.there
  have o1:=o.keep k.cC
  have new:H a=none:=fr a rfl
  exact q (aW L (one a)) _ H' ⟨k.obj,k.tup,k.cC,fun b z=>z.elim .inl fun z=>.inr (by rw[show b=a from z];exact new)⟩ ⟨o1.old,o1.mo,o1.wm,fun b z=>z.elim (o1.loc b) fun z=>(by rw[show b=a from z];exact⟨(by rw[hob];exact fun z=>nomatch z),nO⟩)⟩ (aP.putL en fe c)
noncomputable def rel (i:Nat) (e:En):Option En:=match e[i]? with
 |some (some (.loc p))=>some (e.set i (some (.val p)))
 |some (some (.val p))=>some e
 |_=>none
theorem aP.rel {e:En} {i:Nat} (o:jS O M W L H) (h:aP K (aW M L) W L H σ e) (hi:e[i]? =some (some (.loc p))):∃L',(∀a,L' a->L a)/\aP K (aW M L') W L' H σ (e.set i (some (.val p))):=by
 obtain⟨v,h1,a,rfl,la,c⟩:=h.at' i _ hi
 refine⟨fun b=>L b/\b≠a,fun b z=>z.1,by rw[length_set];exact h.len,fun j t q=>?_,fun j k s1 s2 hjk q1 q2 m1 m2=>?_⟩
 ·have k:cS (aW M L) (aW M fun b=>L b/\b≠a) H H:=.less fun b z=>z.elim .inl fun z=>.inr z.1
  rcases eO q with⟨rfl,hl,e⟩|⟨hn,q⟩
  ·cases e
   refine⟨_,h1,(c.aH k fun _ q=>q).rep fun z=>?_⟩
   rcases z with z|z
   ·exact(o.loc a la).2 (o.mo a z)
   ·exact z.2 rfl
  ·obtain⟨v,g1,g2⟩:=h.at' j t q
   refine⟨v,g1,?_⟩
   cases t with
   |val p=>exact Rep.aH k g2
   |own p=>obtain⟨b,e,w,c⟩:=g2;exact⟨b,e,w,c.aH k fun o q=>q⟩
   |loc p=>
    obtain⟨b,e,w,c⟩:=g2
    refine⟨b,e,⟨w,fun z=>?_⟩,c.aH k fun o q=>q⟩
    subst z
    subst e
    exact h.mW i j _ _ hn hi q rfl rfl (h1.trans g1.symm)
   |bor p=>
    obtain⟨b,e,c⟩:=g2
    refine⟨b,e,?_⟩
    cases c with
    |lst e od n m r=>exact .lst e od n (fun z=>m z.1) (r.aH k)
    |dO e r=>exact .dO e (r.aH k)
    |a8 e od n m kk r=>exact .a8 e od n (fun z=>m z.1) kk (r.aH k)
 ·rcases eO q1 with⟨rfl,hl,e⟩|⟨hn1,q1⟩
  ·cases e;cases m1
  ·rcases eO q2 with⟨rfl,hl,e⟩|⟨hn2,q2⟩
   ·cases e;cases m2
   ·exact h.mW j k s1 s2 hjk q1 q2 m1 m2
noncomputable def VJ (i:Nat) (f:FS):FS:=fun e=>bO (rel i e) f
theorem SR {t:TS} {f:FS} (i:Nat) (h:fJ K t f):fJ K t (VJ i f):=by
 intro O M W L σ H e r D o he hf q
 obtain⟨e1,f1,hf⟩:=aF hf
 unfold Mr.rel at f1
 cases c:e[i]? with
 |none=>rw[c]at f1;cases f1
 | some s=>
  cases s with
  |none=>rw[c]at f1;cases f1
  | some s=>
   rw[c]at f1
   cases s with
   |loc p=>
    cases f1
    obtain⟨L',hL,en⟩:=he.rel o c
    refine h O M W L' σ H _ r D ⟨o.old,o.mo,o.wm,fun a z=>o.loc a (hL a z)⟩ en hf (q.later ⟨fun _ _ h _ _=>h,fun _ _ h=>h,fun _ h=>h,fun a z=>.inl (hL a z)⟩)
   |val p=>cases f1;exact h O M W L σ H _ r D o he hf q
   |_=>cases f1
noncomputable def cB (e:En) (i:Nat) (p:PV):En:=match e[i]? with
 |some (some (.own _))=>e.set i (some (.own p))
 |_=>e.set i (some (.loc p))
noncomputable def ownAt (e:En) (i:Nat):Option PV:=match e[i]? with
 |some (some (.own p))=>some p
 |some (some (.loc p))=>some p
 |_=>none
theorem bQ (h:ownAt e i=some p):(e[i]? =some (some (.own p))\/ e[i]? =some (some (.loc p))):=by
 unfold ownAt at h
 split at h
 ·cases h;exact .inl (by assumption)
 ·cases h;exact .inr (by assumption)
 ·cases h
theorem aP.own {i:Nat} (h:aP K Z W L H σ e) (g:ownAt e i=some p):∃a,σ[i]? =some (some (.ref a))/\(aw W a\/ L a)/\gY K Z H a p:=by
 rcases bQ g with g|g
 ·obtain⟨v,h1,a,rfl,w,c⟩:=h.at' i _ g
  exact⟨a,h1,.inl ⟨i,w⟩,c⟩
 ·obtain⟨v,h1,a,rfl,w,c⟩:=h.at' i _ g
  exact⟨a,h1,.inr w,c⟩
theorem cS.write (z:Z a) (h:H a=some ob) (nt:∀xs,ob≠ .tup xs):cS Z Z H (upd H a o):=
 ⟨fun b xs e=>by rw[aS (JY e h fun z=>nt _ z.symm)];exact e,fun b u e n=>⟨by rw[aS (fun q:b=a=>n (by rw[q];exact z))];exact e,n⟩⟩
theorem aP.write {i:Nat} {q:PV} (wm:∀i a,W i a->M a) (h:aP K (aW M L) W L H σ e) (g:ownAt e i=some p) (ha:σ[i]? =some (some (.ref a))) (c:gY K (aW M L) (upd H a ob) a q):
  aP K (aW M L) W L (upd H a ob) σ (cB e i q):=by
 obtain⟨a',h1,hz,c0⟩:=h.own g
 rw[ha]at h1
 cases h1
 have za:aW M L a:=hz.elim (fun⟨i,w⟩=>.inl (wm i a w)) .inr
 obtain⟨o0,e0,nt⟩:=c0.there
 have k:cS (aW M L) (aW M L) H (upd H a ob):=.write za e0 nt
 have hl:i<e.length:=by
  rcases bQ g with g|g<;>exact(List.getElem?_eq_some_iff.mp g).1
 have hm:∃s,e[i]? =some (some s)/\s.cX=true:=by
  rcases bQ g with g|g<;>exact⟨_,g,rfl⟩
 obtain⟨s0,hs0,hm0⟩:=hm
 have key:∀s',(cB e i q)[i]? =some (some s')->∃v,σ[i]? =some (some v)/\i4 K (aW M L) W L (upd H a ob) i v s':=fun s' z=>by
  unfold cB at z
  rcases bQ g with g|g
  ·rw[g]at z
   rw[getElem?_set_self hl]at z
   cases z
   obtain⟨v,h1,a',rfl,w,_⟩:=h.at' i _ g
   rw[ha]at h1;cases h1
   exact⟨_,ha,a,rfl,w,c⟩
  ·rw[g]at z
   rw[getElem?_set_self hl]at z
   cases z
   obtain⟨v,h1,a',rfl,w,_⟩:=h.at' i _ g
   rw[ha]at h1;cases h1
   exact⟨_,ha,a,rfl,w,c⟩
 have oth:∀j,i≠j->(cB e i q)[j]? =e[j]?:=fun j hj=>by
  unfold cB
  rcases bQ g with g|g<;>(rw[g];exact getElem?_set_ne hj)
 refine⟨?_,fun j t z=>?_,fun j l s1 s2 hjk q1 q2 m1 m2=>?_⟩
 ·rw[<-h.len];unfold cB;rcases bQ g with g|g<;>(rw[g];exact length_set)
 ·by_cases hj:i=j
  ·subst hj;exact key t z
  ·rw[oth j hj]at z
   obtain⟨v,g1,g2⟩:=h.at' j t z
   refine⟨v,g1,?_⟩
   cases t with
   |val p=>exact Rep.aH k g2
   |own p=>
    obtain⟨b,e',w,c⟩:=g2
    subst e'
    have hb:b≠a:=fun z'=>h.mW i j s0 _ hj hs0 z hm0 rfl (by rw[ha,g1,z'])
    exact⟨b,rfl,w,c.aH k fun o q=>by rw[aS hb];exact q⟩
   |loc p=>
    obtain⟨b,e',w,c⟩:=g2
    subst e'
    have hb:b≠a:=fun z'=>h.mW i j s0 _ hj hs0 z hm0 rfl (by rw[ha,g1,z'])
    exact⟨b,rfl,w,c.aH k fun o q=>by rw[aS hb];exact q⟩
   | bor p=>
    obtain⟨b,e',c⟩:=g2
    refine⟨b,e',?_⟩
    cases c with
    |lst e od n m r=>
     have hb:b≠a:=fun z'=>hz.elim (fun w=>n (z'▸w)) fun w=>m (z'▸w)
     exact .lst (e.elim (fun e=>.inl (by rw[aS hb];exact e)) fun⟨u,e⟩=>.inr ⟨u,by rw[aS hb];exact e⟩) od n m (r.aH k)
    |dO e r=>exact .dO e (r.aH k)
    |a8 e od n m kk r=>
     have hb:b≠a:=fun z'=>hz.elim (fun w=>n (z'▸w)) fun w=>m (z'▸w)
     exact .a8 (e.elim (fun e=>.inl (by rw[aS hb];exact e)) fun⟨u,e⟩=>.inr ⟨u,by rw[aS hb];exact e⟩) od n m kk (r.aH k)
 ·have cX:∀(j:Nat) (s:Sl),(cB e i q)[j]? =some (some s)->s.cX=true->∃s':Sl,e[j]? =some (some s')/\s'.cX=true:=fun j s z m=>by
   by_cases hj:i=j
   ·subst hj;exact⟨s0,hs0,hm0⟩
   ·rw[oth j hj]at z;exact⟨s,z,m⟩
  obtain⟨t1,w1,n1⟩:=cX j s1 q1 m1
  obtain⟨t2,w2,n2⟩:=cX l s2 q2 m2
  exact h.mW j l t1 t2 hjk w1 w2 n1 n2
theorem bX.write (hz:aw W a\/ L a) (h:H a=some ob) (nt:∀xs,ob≠ .tup xs):bX W L H (upd H a o):=
 ⟨fun b u e n m=>by rw[aS (fun q:b=a=>hz.elim (fun z=>n (by rw[q];exact z)) fun z=>m (by rw[q];exact z))];exact e,fun b xs e=>by rw[aS (JY e h fun z=>nt _ z.symm)];exact e,fun b e=>by
  by_cases hb:b=a
  ·subst hb;rw[aU];exact fun z=>nomatch z
  ·rw[aS hb];exact e⟩
noncomputable def vE (i:Nat) (f:FE):FS:=fun e=>bO (ownAt e i) fun p0=>match p0 with
 | .lst _=>bE (f e) fun b e1=>bO b.put fun p=>match ownAt e1 i with
  |some (.lst ps)=>aQ (decide (ps.length<1000000)) (some (.nx (cB e1 i (.lst (ps++[p])))))
  |_=>none
 |_=>none
theorem RB.put {b:Bv} (o:jS O M W L H) (h:RB K O M W L H σ e v b) (g:b.put=some p):aP K (aW M L) W L H σ e/\Rep K (aW M L) H p v:=by
 have h:=h.weak o
 cases b with
 |val q=>cases g;exact h
 |new q=>cases g;exact h
 |slot i=>cases g
theorem R4 {i:Nat} (h:Ref K t f):fJ K (JM (ZR K "list" sI (yL i) (dQ t m9))) (vE i f):=by
 intro O M W L σ H e r D o he hf q
 obtain⟨p0,g0,hf⟩:=aF hf
 cases p0 with
 | lst ps0=>
  obtain⟨x,e1,f1,hf⟩:=aM hf
  obtain⟨p,g1,hf⟩:=aF hf
  cases c:ownAt e1 i with
  |none=>rw[c]at hf;cases hf
  | some q1=>
   rw[c]at hf
   cases q1 with
   | lst ps=>
    obtain⟨g2,hf⟩:=aL hf
    cases hf
    obtain⟨a,ha,hz,ct⟩:=he.own g0
    refine⟨_,ha,.inl ⟨rfl,?_⟩,?_⟩
    ·cases ct with|lst e r=>exact⟨_,iB.of e⟩
    refine h O M W L σ H e _ _ _ o he f1 fun v H' k rb fr=>?_
    have o1:=o.keep k.cC
    obtain⟨en,rp⟩:=rb.put o1 g1
    obtain⟨a',ha',hz',ct'⟩:=en.own c
    rw[ha]at ha'
    cases ha'
    cases ct' with
    |lst e2 r2=>
     rename_i xs
     refine⟨a,xs,v,rfl,rfl,e2,by rw[<-r2.length];exact iQ g2,?_⟩
     have kw:bX W L H' (upd H' a (.lst (xs++[v]))):=.write hz e2 fun _ z=>nomatch z
     have st:cS (aW M L) (aW M L) H' (upd H' a (.lst (xs++[v]))):=.write (hz.elim (fun⟨i,w⟩=>.inl (o.wm i a w)) .inr) e2 fun _ z=>nomatch z
     exact q L σ _ (.keep (k.trans kw)) (o1.keep kw.cC) (aP.write o.wm en c ha (.lst aU ((r2.aH st).app (.cons (rp.aH st) .nil))))
   |_=>cases hf
 |_=>cases hf
noncomputable def yM (i:Nat) (fi fv:FE):FS:=fun e=>bE (fv e) fun b e1=>bO b.put fun p=>bO (ownAt e1 i) fun _=>bE (fi e1) fun k e2=>match k with
 | .val (.int k)=>match ownAt e2 i with
  |some (.lst ps)=>bO (rY ps.length k) fun j=>some (.nx (cB e2 i (.lst (ps.set j p))))
  |_=>none
 |_=>none
theorem HY {i:Nat} {ti:TE} {fi:FE} (hv:Ref K tv fv) (hi:Ref K ti fi):fJ K (m6 tv (zE (yL i) ti UC)) (yM i fi fv):=by
 intro O M W L σ H e r D o he hf q
 obtain⟨x,e1,f1,hf⟩:=aM hf
 obtain⟨p,g1,hf⟩:=aF hf
 obtain⟨p0,g0,hf⟩:=aF hf
 obtain⟨y,e2,f2,hf⟩:=aM hf
 cases y with
 |slot i=>cases hf
 |new p=>cases hf
 | val y=>
  cases y with
  | int k=>
   dsimp only at hf
   cases c:ownAt e2 i with
   |none=>rw[c]at hf;cases hf
   | some q1=>
    rw[c]at hf
    cases q1 with
    | lst ps=>
     obtain⟨j,g2,hf⟩:=aF hf
     cases hf
     refine hv O M W L σ H e _ _ _ o he f1 fun v H1 k1 rb fr=>?_
     have o1:=o.keep k1.cC
     obtain⟨en,rp⟩:=rb.put o1 g1
     obtain⟨a,ha,_,_⟩:=en.own g0
     refine⟨_,ha,hi O M W L σ H1 e1 _ _ _ o1 en f2 fun v2 H2 k2 rb2 fr2=>?_⟩
     obtain⟨en2,r2⟩:=rb2
     cases r2
     have o2:=o1.keep k2.cC
     obtain⟨a',ha',hz,ct⟩:=en2.own c
     rw[ha]at ha'
     cases ha'
     cases ct with
     |lst e3 r3=>
      rename_i xs
      refine⟨a,xs,k,j,rfl,rfl,e3,by rw[<-r3.length];exact g2,?_⟩
      have kw:bX W L H2 (upd H2 a (.lst (xs.set j v))):=.write hz e3 fun _ z=>nomatch z
      have st:cS (aW M L) (aW M L) H2 (upd H2 a (.lst (xs.set j v))):=.write (hz.elim (fun⟨i,w⟩=>.inl (o.wm i a w)) .inr) e3 fun _ z=>nomatch z
      exact q L σ _ (.keep ((k1.trans k2).trans kw)) (o2.keep kw.cC) (aP.write o.wm en2 c ha (.lst aU ((r3.aH st).set ((rp.aH (k2.aH o1)).aH st) j)))
    |_=>cases hf
  |_=>cases hf
end
noncomputable def cG (kvs:List (Key×PV)) (k:Key):Option PV:=(kvs.find? fun kv=>decide (kv.1=k)).map (·.2)
noncomputable def eR (kvs:List (Key×PV)) (k:Key) (v:PV):List (Key×PV):=
 if(kvs.any fun kv=>decide (kv.1=k))=true then kvs.map (fun kv=>if kv.1=k then(kv.1,v)else kv)else kvs++[(k,v)]
section
variable {K:Frag} {Z:aI} {H:Hp}
noncomputable def dU (K:Frag) (Z:aI) (H:Hp) (kvs:List (Key×PV)) (ys:List (Key×V)):Prop:=ys.map (·.1)=kvs.map (·.1)/\bH K Z H (kvs.map (·.2)) (ys.map (·.2))
theorem dU.cases {kvs:List (Key×PV)} {ys:List (Key×V)} (h:dU K Z H kvs ys):(kvs=[]/\ys=[])\/ ∃k p v r s,kvs=(k,p)::r/\ys=(k,v)::s/\Rep K Z H p v/\dU K Z H r s:=by
 obtain⟨h1,h2⟩:=h
 cases kvs with
 |nil=>
  cases ys with
  |nil=>exact .inl ⟨rfl,rfl⟩
  |cons y ys=>cases h1
 | cons x kvs=>
  cases ys with
  |nil=>cases h1
  |cons y ys=>
   obtain⟨a,p⟩:=x
   obtain⟨b,v⟩:=y
   rw[map_cons,map_cons]at h1
   have h1':=List.cons.inj h1
   have e:b=a:=h1'.1
   subst e
   cases h2 with
   |cons h2 r2=>exact .inr ⟨b,p,v,kvs,ys,rfl,rfl,h2,h1'.2,r2⟩
theorem dU.cons {r:List (Key×PV)} {s:List (Key×V)} (h:Rep K Z H p v) (hr:dU K Z H r s):dU K Z H ((k,p)::r) ((k,v)::s):=
 ⟨by rw[map_cons,map_cons,hr.1],.cons h hr.2⟩
theorem dU.val:∀{kvs:List (Key×PV)} {ys:List (Key×V)} (k:Key),dU K Z H kvs ys->(cG kvs k=none/\eM ys k=none)\/ ∃p v,cG kvs k=some p/\eM ys k=some v/\Rep K Z H p v
 |[],ys,k,h=>by
  rcases h.cases with⟨_,rfl⟩|⟨_,_,_,_,_,e,_⟩
  ·exact .inl ⟨rfl,rfl⟩
  ·cases e
 | x::kvs,ys,k,h=>by
  rcases h.cases with⟨e,_⟩|⟨j,p,v,r,s,e,e',hp,hr⟩
  ·cases e
  ·cases e
   subst e'
   by_cases hj:j=k
   ·exact .inr ⟨p,v,by simp[cG,find?_cons,hj],by simp[eM,find?_cons,hj],hp⟩
   ·have a:cG ((j,p)::kvs) k=cG kvs k:=by simp[cG,find?_cons,hj]
    have b:eM ((j,v)::s) k=eM s k:=by simp[eM,find?_cons,hj]
    rw[a,b]
    exact dU.val k hr
theorem dU.any (k:Key) (h:dU K Z H kvs ys):(kvs.any fun kv=>decide (kv.1=k))=ys.any fun kv=>decide (kv.1=k):=by
 have e1:(kvs.any fun kv=>decide (kv.1=k))=(kvs.map (·.1)).any fun j=>decide (j=k):=by rw[any_map];rfl
 have e2:(ys.any fun kv=>decide (kv.1=k))=(ys.map (·.1)).any fun j=>decide (j=k):=by rw[any_map];rfl
 rw[e1,e2,h.1]
theorem dU.C3 (hp:Rep K Z H p v) (k:Key):∀{kvs:List (Key×PV)} {ys:List (Key×V)},dU K Z H kvs ys->dU K Z H (kvs.map fun kv=>if kv.1=k then(kv.1,p)else kv) (ys.map fun kv=>if kv.1=k then(kv.1,v)else kv)
 |[],ys,h=>by
  rcases h.cases with⟨_,rfl⟩|⟨_,_,_,_,_,e,_⟩
  ·exact h
  ·cases e
 | x::kvs,ys,h=>by
  rcases h.cases with⟨e,_⟩|⟨j,q,u,r,s,e,e',hq,hr⟩
  ·cases e
  ·cases e
   subst e'
   rw[map_cons,map_cons]
   by_cases hj:j=k
   ·rw[if_pos hj,if_pos hj];exact .cons hp (dU.C3 hp k hr)
   ·rw[if_neg hj,if_neg hj];exact .cons hq (dU.C3 hp k hr)
theorem dU.put (k:Key) (h:dU K Z H kvs ys) (hp:Rep K Z H p v):dU K Z H (eR kvs k p) (putK ys k v):=by
 unfold eR putK
 rw[h.any k]
 split
 ·exact h.C3 hp k
 ·exact⟨by rw[map_append,map_append,h.1];rfl,by rw[map_append,map_append];exact h.2.app (.cons hp .nil)⟩
end
noncomputable def keyOf:PV->Option Key
 | .int i=>some (.inl i)
 | .str x=>some (.inr x)
 |_=>none
section
variable {K:Frag}
theorem Red.key {p:PV} (h:Red K Z H p v) (g:keyOf p=some k):v=kV k:=by
 cases p with
 |int i=>cases g;exact h.int
 |str i=>cases g;exact h.str
 |_=>cases g
noncomputable def eQ (i:Nat) (fk fv:FE):FS:=fun e=>bE (fv e) fun b e1=>bO b.put fun p=>bO (ownAt e1 i) fun _=>bE (fk e1) fun k e2=>bO (k.weak.get e2) fun kp=>bO (keyOf kp) fun key=>match ownAt e2 i with
  |some (.a8 kvs)=>aQ (decide (kvs.length<1000000)) (some (.nx (cB e2 i (.a8 (eR kvs key p)))))
  |_=>none
theorem KO {i:Nat} {tk:TE} {fk:FE} (hv:Ref K tv fv) (hk:Ref K tk fk):fJ K (L2.eQ (yL i) tk tv) (eQ i fk fv):=by
 intro O M W L σ H e r D o he hf q
 obtain⟨x,e1,f1,hf⟩:=aM hf
 obtain⟨p,g1,hf⟩:=aF hf
 obtain⟨p0,g0,hf⟩:=aF hf
 obtain⟨y,e2,f2,hf⟩:=aM hf
 obtain⟨kp,g3,hf⟩:=aF hf
 obtain⟨key,g4,hf⟩:=aF hf
 cases c:ownAt e2 i with
 |none=>rw[c]at hf;cases hf
 | some q1=>
  rw[c]at hf
  cases q1 with
  | a8 kvs=>
   obtain⟨g2,hf⟩:=aL hf
   cases hf
   refine hv O M W L σ H e _ _ _ o he f1 fun v H1 k1 rb fr=>?_
   have o1:=o.keep k1.cC
   obtain⟨en,rp⟩:=rb.put o1 g1
   obtain⟨a,ha,_,_⟩:=en.own g0
   refine⟨_,ha,hk O M W L σ H1 e1 _ _ _ o1 en f2 fun v2 H2 k2 rb2 fr2=>?_⟩
   have o2:=o1.keep k2.cC
   have en2:=rb2.en o2
   have ek:=((rb2.rv o2).red en2 g3).key g4
   subst ek
   obtain⟨a',ha',hz,ct⟩:=en2.own c
   rw[ha]at ha'
   cases ha'
   cases ct with
   |a8 e3 kk r3=>
    rename_i ys
    have hl:ys.length=kvs.length:=by have:=congrArg List.length kk;simpa using this
    refine⟨a,rfl,.inl ⟨_,_,⟨_,e3⟩,rfl,by rw[hl];exact iQ g2,fun ep=>?_⟩⟩
    have kw:bX W L H2 (upd H2 a (.dK (putK ys key v) ep)):=.write hz e3 fun _ z=>nomatch z
    have st:cS (aW M L) (aW M L) H2 (upd H2 a (.dK (putK ys key v) ep)):=.write (hz.elim (fun⟨i,w⟩=>.inl (o.wm i a w)) .inr) e3 fun _ z=>nomatch z
    have rd:dU K (aW M L) (upd H2 a (.dK (putK ys key v) ep)) (eR kvs key p) (putK ys key v):=dU.put key ⟨kk,r3.aH st⟩ ((rp.aH (k2.aH o1)).aH st)
    exact q L σ _ (.keep ((k1.trans k2).trans kw)) (o2.keep kw.cC) (aP.write o.wm en2 c ha (.a8 aU rd.1 rd.2))
  |_=>cases hf
noncomputable abbrev FG:=PV->En->Option En
noncomputable abbrev F4:=List PV->En->Option En
noncomputable def yS (K:Frag) (g:TG) (f:FG):Prop:=∀(O M:aI) (W:WS) (L:aI) (σ:St) (H:Hp) (e e':En) (p:PV) (v:V) (Q:St->Hp->Prop),jS O M W L H->aP K (aW M L) W L H σ e->Rep K (aW M L) H p v->f p e=some e'->(∀σ',aP K (aW M L) W L H σ' e'->Q σ' H)->g v σ H Q
noncomputable def EV (K:Frag) (g:DV) (f:F4):Prop:=∀(O M:aI) (W:WS) (L:aI) (σ:St) (H:Hp) (e e':En) (p:List PV) (v:List V) (Q:St->Hp->Prop),jS O M W L H->aP K (aW M L) W L H σ e->bH K (aW M L) H p v->f p e=some e'->(∀σ',aP K (aW M L) W L H σ' e'->Q σ' H)->g v σ H Q
noncomputable def aO (i:Nat):FG:=fun p e=>some (e.set i (some (.val p)))
theorem HL (i:Nat):yS K (gJ i) (aO i):=by
 intro O M W L σ H e e' p v Q o he hp hf q
 cases hf
 exact q _ (aP.put he rfl hp)
noncomputable def jG:F4:=fun ps e=>match ps with|[]=>some e|_=>none
noncomputable def b8 (f:FG) (g:F4):F4:=fun ps e=>match ps with|p::ps=>bO (f p e) (g ps)|[]=>none
theorem NT:EV K N9 jG:=by
 intro O M W L σ H e e' p v Q o he hp hf q
 cases p with
 |nil=>cases hf;cases hp;exact⟨rfl,q σ he⟩
 |cons p ps=>cases hf
theorem GU {g:TG} {gs:DV} {f:FG} {fs:F4} (h1:yS K g f) (h2:EV K gs fs):EV K (wH g gs) (b8 f fs):=by
 intro O M W L σ H e e' p v Q o he hp hf q
 cases p with
 |nil=>cases hf
 |cons p ps=>
  obtain⟨e1,f1,hf⟩:=aF hf
  cases hp with
  |cons hp hr=>exact⟨_,_,rfl,h1 O M W L σ H e e1 p _ _ o he hp f1 fun σ' he'=>h2 O M W L σ' H e1 e' ps _ _ o he' hr hf q⟩
noncomputable def jI (n:Nat) (f:F4):FG:=fun p e=>match p with
 | .tup ps=>aQ (decide (ps.length=n)) (f ps e)
 |_=>none
theorem JN {g:DV} {f:F4} (h:EV K g f):yS K (IJ K n g) (jI n f):=by
 intro O M W L σ H e e' p v Q o he hp hf q
 cases p with
 |tup ps=>
  obtain⟨g1,hf⟩:=aL hf
  cases hp with
  |tup ha hr=>exact⟨_,_,rfl,ha.sq,by rw[<-hr.length];exact of_decide_eq_true g1,h O M W L σ H e e' ps _ Q o he hr hf q⟩
 |_=>cases hf
noncomputable def SI (f:FE) (fg:FG):FS:=fun e=>bE (f e) fun b e1=>bO b.put fun p=>bO (fg p e1) fun e2=>some (.nx e2)
theorem O0 {g:TG} (h:Ref K t f) (hg:yS K g fg):fJ K (m6 t g) (SI f fg):=by
 intro O M W L σ H e r D o he hf q
 obtain⟨x,e1,f1,hf⟩:=aM hf
 obtain⟨p,g1,hf⟩:=aF hf
 obtain⟨e2,f2,hf⟩:=aF hf
 cases hf
 refine h O M W L σ H e _ _ _ o he f1 fun v H1 k1 rb fr=>?_
 have o1:=o.keep k1.cC
 obtain⟨en,rp⟩:=rb.put o1 g1
 exact hg O M W L σ H1 e1 e2 p v _ o1 en rp f2 fun σ' he'=>q L σ' H1 (.keep k1) o1 he'
noncomputable def ac4 (i j:Nat) (fa:FA):FS:=fun e=>bE (fa e) fun bs e1=>bO (putL bs) fun ps=>match ps with
 |[p,q]=>some (.nx ((e1.set i (some (.val p))).set j (some (.val q))))
 |_=>none
noncomputable def NW (K:Frag) (M L Wr:aI) (H:Hp) (J:It) (items:List PV):Prop:=∀L' H',(∀a o,H a=some o->¬Wr a->H' a=some o)->(∀a xs,H a=some (.tup xs)->H' a=some (.tup xs))->(∀a,L' a->L a\/ H a=none)->
 (∀k p,items[k]? =some p->J.go k H'/\∀x H3,J.ZQ k H' x H3->aZ H' H3/\Rep K (aW M L') H3 p x)/\J.stop items.length H'
noncomputable abbrev FI:=(Nat->Bool)->En->Option (List PV×En)
noncomputable def uB (K:Frag) (wi:TI) (f:FI):Prop:=∀(st:Nat->Bool) (O M:aI) (W:WS) (L:aI) (σ:St) (H:Hp) (e e':En) (ps:List PV) (R:It->Hp->Prop),jS O M W L H->aP K (aW M L) W L H σ e->f st e=some (ps,e')->
 (∀J H',bX W L H H'->aP K (aW M L) W L H' σ e'->
  (∀Wr:aI,(∀a,Wr a->aw W a\/ L a)->(∀(i:Nat) a s,st i=true->e'[i]? =some (some s)->s.cX=true->σ[i]? =some (some (.ref a))->¬Wr a)->NW K M L Wr H' J ps)->R J H')->wi σ H R
noncomputable def nH (body:PV->En->Option Out):List PV->En->Option Out
 |[],e=>some (.nx e)
 |x::xs,e=>match body x e with
  |some (.nx e1)=>nH body xs e1
  |some (.ct e1)=>nH body xs e1
  |some (.bk e1)=>some (.nx e1)
  |some (.rt b e1)=>some (.rt b e1)
  |none=>none
noncomputable def iI (fi:FI) (fg:FG) (fb:FS):FS:=fun e=>bE (fi (fun _=>false) e) fun ps e1=>nH (fun x e=>bO (fg x e) fb) ps e1
theorem SA {g:TG} {tb:TS} {fg:FG} {fb:FS} (hi:uB K wi fi) (hg:yS K g fg) (hb:fJ K tb fb):fJ K (U4 wi g tb) (iI fi fg fb):=by
 intro O M W L σ H e r D o he hf q
 obtain⟨ps,e1,f1,hf⟩:=aM hf
 refine hi (fun _=>false) O M W L σ H e e1 ps _ o he f1 fun J H1 k1 en it=>?_
 have it:=it (aW (aw W) L) (fun a z=>z) fun i a s z=>nomatch z
 have o1:=o.keep k1.cC
 have q1:=q.later (.keep k1)
 let N:Nat->St->Hp->Prop:=fun i σ' H'=>∃L' e',lL W L L' H1 H'/\jS O M W L' H'/\aP K (aW M L') W L' H' σ' e'/\nH (fun x e=>bO (fg x e) fb) (ps.drop i) e'=some r
 refine⟨fun i m σ' H'=>m=ps.length - i/\i<=ps.length/\N i σ' H',⟨ps.length,by simp,zero_le _,L,e1,.refl,o1,en,by rw[drop_zero];exact hf⟩,?_⟩
 rintro i m σ2 H2 ⟨rfl,hil,L2,e2,g2,o2,en2,f2⟩
 obtain⟨itm,its⟩:=it L2 H2 (fun a ob h n=>g2.obj a ob h (fun z=>n (.inl z)) fun z=>n (.inr z)) g2.tup g2.new
 by_cases hlt:i<ps.length
 ·refine .inr ?_
  obtain⟨go,yl⟩:=itm i ps[i] (by simp[hlt])
  refine⟨go,N (i+1),fun σ' H' n=>⟨ps.length - (i+1),by omega,rfl,hlt,n⟩,fun x H3 y=>?_⟩
  obtain⟨s3,rp⟩:=yl x H3 y
  rw[drop_eq_getElem_cons hlt]at f2
  unfold nH at f2
  have k3:bX W L2 H2 H3:=.same s3
  have o3:=o2.keep k3.cC
  have g3:lL W L L2 H1 H3:=g2.trans (.keep k3)
  cases c1:fg ps[i] e2 with
  |none=>rw[c1]at f2;cases f2
  | some e3=>
   rw[c1]at f2
   refine hg O M W L2 σ2 H3 e2 e3 _ x _ o3 (en2.same s3) rp c1 fun σ3 en3=>?_
   cases c2:fb e3 with
   |none=>rw[rS,c2]at f2;cases f2
   |some r1=>
    rw[rS,c2]at f2
    refine hb O M W L2 σ3 H3 e3 r1 _ o3 en3 c2 ?_
    cases r1 with
    |nx e4=>exact fun L' σ' H' g' o' en'=>⟨L',e4,g3.trans g',o',en',f2⟩
    |ct e4=>exact fun L' σ' H' g' o' en'=>⟨L',e4,g3.trans g',o',en',f2⟩
    |bk e4=>cases f2;exact fun L' σ' H' g' o' en'=>q1 L' σ' H' (g3.trans g') o' en'
    |rt b e4=>cases f2;exact fun L' σ' H' v g' o' en'=>q1 L' σ' H' v (g3.trans g') o' en'
 ·have e:i=ps.length:=by omega
  subst e
  rw[drop_length]at f2
  cases f2
  exact .inl ⟨its,q1 L2 σ2 H2 g2 o2 en2⟩
noncomputable def lO (fc:FT) (fb:FS):Nat->En->Option Out
 |0,_=>none
 | n+1,e=>bE (fc e) fun b e1=>match b with
  |false=>some (.nx e1)
  |true=>match fb e1 with
   |some (.nx e2)=>lO fc fb n e2
   |some (.ct e2)=>lO fc fb n e2
   |some (.bk e2)=>some (.nx e2)
   |some (.rt b e2)=>some (.rt b e2)
   |none=>none
theorem IA {tb:TS} {fb:FS} (n:Nat) (hc:jY K c fc) (hb:fJ K tb fb):fJ K (KD c tb) (lO fc fb n):=by
 intro O M W L σ H e r D o he hf q
 let N:Nat->St->Hp->Prop:=fun m σ' H'=>∃L' e',lL W L L' H H'/\jS O M W L' H'/\aP K (aW M L') W L' H' σ' e'/\lO fc fb m e'=some r
 refine⟨N,⟨n,L,e,.refl,o,he,hf⟩,?_⟩
 rintro m σ2 H2 ⟨L2,e2,g2,o2,en2,f2⟩
 cases m with
 |zero=>cases f2
 | succ m=>
  obtain⟨b,e3,c1,f2⟩:=aM f2
  refine hc O M W L2 σ2 H2 e2 e3 b _ o2 en2 c1 fun H3 k3 en3=>?_
  have o3:=o2.keep k3.cC
  have g3:lL W L L2 H H3:=g2.trans (.keep k3)
  cases b with
  |false=>cases f2;rw[if_neg Bool.false_ne_true];exact q L2 σ2 H3 g3 o3 en3
  | true=>
   rw[if_pos rfl]
   refine⟨N m,fun σ' H' z=>⟨m,lt_succ_self m,z⟩,?_⟩
   dsimp only at f2
   cases c2:fb e3 with
   |none=>rw[c2]at f2;cases f2
   |some r1=>
    rw[c2]at f2
    refine hb O M W L2 σ2 H3 e3 r1 _ o3 en3 c2 ?_
    cases r1 with
    |nx e4=>exact fun L' σ' H' g' o' en'=>⟨L',e4,g3.trans g',o',en',f2⟩
    |ct e4=>exact fun L' σ' H' g' o' en'=>⟨L',e4,g3.trans g',o',en',f2⟩
    |bk e4=>cases f2;exact fun L' σ' H' g' o' en'=>q L' σ' H' (g3.trans g') o' en'
    |rt b e4=>cases f2;exact fun L' σ' H' v g' o' en'=>q L' σ' H' v (g3.trans g') o' en'
end
noncomputable def zH (e:En) (ms:List (Nat×Nat)) (i j:Nat):Option Sl:=match e[i]? with
 |some (some (.val p))=>some (.val p)
 |some (some (.bor p))=>some (.bor p)
 |some (some (.own p))=>if ms.contains (i,j)then some (.own p)else if ms.any (fun z=>z.1==i)then none else some (.bor p)
 |some (some (.loc p))=>if ms.contains (i,j)then some (.own p)else if ms.any (fun z=>z.1==i)then none else some (.bor p)
 |_=>none
noncomputable def y3 (e:En) (ms:List (Nat×Nat)):Nat->List Nat->En
 |_,[]=>[]
 |j,i::r=>zH e ms i j::y3 e ms (j+1) r
noncomputable def n6 (k:Nat) (cI:List Nat) (ms:List (Nat×Nat)) (e:En):En:=List.replicate k none++y3 e ms k cI
theorem CC:∀{cI:List Nat} {j q:Nat},(y3 e ms j cI)[q]? =(cI[q]?).map fun i=>zH e ms i (j+q)
 |[],j,q=>by simp[y3]
 |i::r,j,0=>by simp[y3]
 |i::r,j,q+1=>by
  rw[y3,List.getElem?_cons_succ,CC,List.getElem?_cons_succ]
  congr 1
  funext i
  rw[show j+1+q=j+(q+1) by omega]
theorem uE:∀{cI:List Nat} {j:Nat},(y3 e ms j cI).length=cI.length
 |[],j=>rfl
 |i::r,j=>by rw[y3,length_cons,length_cons,uE]
theorem j0 {k:Nat} {cI:List Nat} {j:Nat} (h:(n6 k cI ms e)[j]? =some (some s)):∃q i,j=k+q/\cI[q]? =some i/\zH e ms i j=some s:=by
 unfold n6 at h
 by_cases hj:j<k
 ·rw[getElem?_append_left (by simpa using hj),List.getElem?_replicate]at h
  split at h<;>cases h
 ·rw[getElem?_append_right (by simpa using hj),length_replicate,CC]at h
  cases q:cI[j - k]? with
  |none=>rw[q]at h;cases h
  |some i=>
   rw[q]at h
   have h':zH e ms i (k+(j - k))=some s:=Option.some.inj h
   rw[show k+(j - k)=j by omega]at h'
   exact⟨j - k,i,by omega,q,h'⟩
theorem j5 {k:Nat} {q:Nat} (h:cI[q]? =some i) (hv:σ[i]? =some (some v)):(eY k cI σ)[k+q]? =some (some v):=by
 unfold eY
 rw[getElem?_append_right (by simp),length_replicate,getElem?_map,show k+q - k=q by omega,h]
 show some ((σ[i]?).getD none)=_
 rw[hv];rfl
noncomputable def iO (fg:FG) (ft:FT) (fe:FE):List PV->En->Option (List PV×En)
 |[],e=>some ([],e)
 |x::xs,e=>bO (fg x e) fun e1=>bE (ft e1) fun b e2=>match b with
  |false=>iO fg ft fe xs e2
  |true=>bE (fe e2) fun r e3=>bO r.put fun p=>bE (iO fg ft fe xs e3) fun ys e4=>some (p::ys,e4)
noncomputable def nA (ei:En):List (Nat×Nat)->En->Option En
 |[],e=>some e
 |(i,j)::r,e=>bO (ownAt ei j) fun p=>bO (ownAt e i) fun _=>nA ei r (cB e i p)
noncomputable def fI (fi:FI) (k:Nat) (cI:List Nat) (ms:List (Nat×Nat)) (fg:FG) (ft:FT) (fe:FE):FE:=fun e=>
 bE (fi (fun i=>!(ms.any fun z=>z.1==i)) e) fun items e1=>aQ (decide (items.length<1000000)) (bE (iO fg ft fe items (n6 k cI ms e1)) fun ys ei=>bO (nA ei ms e1) fun e2=>some (.new (.lst ys),e2))
structure x8 (K:Frag) (Z:aI) (W:WS) (L:aI) (H:Hp) (σ:St) (T:Nat->Prop) (e:En):Prop where
 len:e.length=σ.length
 at':∀(i:Nat) s,e[i]? =some (some s)->∃v,σ[i]? =some (some v)/\((¬T i\/ s.cX=false)->i4 K Z W L H i v s)/\(s.cX=true->∃a,v= .ref a/\((∃p,s= .own p/\W i a)\/ ∃p,s= .loc p/\L a))
 mW:∀(i j:Nat) s t,i≠j->e[i]? =some (some s)->e[j]? =some (some t)->s.cX=true->t.cX=true->σ[i]?≠σ[j]?
theorem l4 {K:Frag}:∀{ms:List (Nat×Nat)} {e e':En},x8 K Z W L H σ (fun i=>∃j,(i,j)∈ms) e->(∀i j p a,(i,j)∈ms->ownAt ei j=some p->σ[i]? =some (some (.ref a))->gY K Z H a p)->nA ei ms e=some e'->aP K Z W L H σ e'
 |[],e,e',h,hc,g=>by
  cases g
  exact⟨h.len,fun i s q=>let⟨v,h1,h2,_⟩:=h.at' i s q;⟨v,h1,h2 (.inl fun⟨j,z⟩=>nomatch z)⟩,h.mW⟩
 | (i,j)::r,e,e',h,hc,g=>by
  obtain⟨p,g1,g⟩:=aF g
  obtain⟨p0,g2,g⟩:=aF g
  refine l4 (e:=cB e i p) ?_ (fun i' j' p' a' hm=>hc i' j' p' a' (mem_cons_of_mem _ hm)) g
  have hl:i<e.length:=by
   rcases bQ g2 with g|g<;>exact(List.getElem?_eq_some_iff.mp g).1
  have oth:∀l,i≠l->(cB e i p)[l]? =e[l]?:=fun l hj=>by
   unfold cB
   rcases bQ g2 with g|g<;>(rw[g];exact getElem?_set_ne hj)
  have own:∃s0 s1 a,e[i]? =some (some s0)/\s0.cX=true/\(cB e i p)[i]? =some (some s1)/\σ[i]? =some (some (.ref a))/\i4 K Z W L H i (.ref a) s1/\((∃p,s1= .own p/\W i a)\/ ∃p,s1= .loc p/\L a):=by
   rcases bQ g2 with g|g
   ·obtain⟨v,h1,_,h3⟩:=h.at' i _ g
    obtain⟨a,rfl,h4⟩:=h3 rfl
    have c:=hc i j p a mem_cons_self g1 h1
    rcases h4 with⟨q,e1,w⟩|⟨q,e1,w⟩
    ·exact⟨_,.own p,a,g,rfl,by unfold cB;rw[g];exact getElem?_set_self hl,h1,⟨a,rfl,w,c⟩,.inl ⟨p,rfl,w⟩⟩
    ·cases e1
   ·obtain⟨v,h1,_,h3⟩:=h.at' i _ g
    obtain⟨a,rfl,h4⟩:=h3 rfl
    have c:=hc i j p a mem_cons_self g1 h1
    rcases h4 with⟨q,e1,w⟩|⟨q,e1,w⟩
    ·cases e1
    ·exact⟨_,.loc p,a,g,rfl,by unfold cB;rw[g];exact getElem?_set_self hl,h1,⟨a,rfl,w,c⟩,.inr ⟨p,rfl,w⟩⟩
  obtain⟨s0,s1,a,hs0,hm0,hs1,ha,hrep,hwl⟩:=own
  refine⟨?_,fun l s q=>?_,fun l1 l2 t1 t2 hn q1 q2 m1 m2=>?_⟩
  ·rw[<-h.len];unfold cB;rcases bQ g2 with g|g<;>(rw[g];exact length_set)
  ·by_cases hil:i=l
   ·subst hil
    rw[hs1]at q
    cases q
    exact⟨_,ha,fun _=>hrep,fun _=>⟨a,rfl,hwl⟩⟩
   ·rw[oth l hil]at q
    obtain⟨v,h1,h2,h3⟩:=h.at' l s q
    refine⟨v,h1,fun z=>h2 (z.elim (fun z=>.inl fun⟨j',hm⟩=>?_) .inr),h3⟩
    rcases mem_cons.mp hm with hm|hm
    ·cases hm;exact hil rfl
    ·exact z ⟨j',hm⟩
  ·have cX:∀(l:Nat) (s:Sl),(cB e i p)[l]? =some (some s)->s.cX=true->∃s':Sl,e[l]? =some (some s')/\s'.cX=true:=fun l s z m=>by
    by_cases hj:i=l
    ·subst hj;exact⟨s0,hs0,hm0⟩
    ·rw[oth l hj]at z;exact⟨s,z,m⟩
   obtain⟨u1,w1,n1⟩:=cX l1 t1 q1 m1
   obtain⟨u2,w2,n2⟩:=cX l2 t2 q2 m2
   exact h.mW l1 l2 u1 u2 hn w1 w2 n1 n2
theorem k6:∀{ms:List (Nat×Nat)} {e e':En},nA ei ms e=some e'->∀(i:Nat) (s:Sl),e'[i]? =some (some s)->s.cX=true->∃s':Sl,e[i]? =some (some s')/\s'.cX=true
 |[],e,e',g=>by cases g;exact fun i s h m=>⟨s,h,m⟩
 | (i,j)::r,e,e',g=>by
  obtain⟨p,g1,g⟩:=aF g
  obtain⟨p0,g2,g⟩:=aF g
  intro l s h m
  obtain⟨s',h',m'⟩:=k6 g l s h m
  by_cases hj:i=l
  ·subst hj
   rcases bQ g2 with g|g<;>exact⟨_,g,rfl⟩
  ·have oth:(cB e i p)[l]? =e[l]?:=by
    unfold cB
    rcases bQ g2 with g|g<;>(rw[g];exact getElem?_set_ne hj)
   rw[oth]at h'
   exact⟨s',h',m'⟩
section
variable {K:Frag}
theorem N2 {g:TG} {tt:TT} {te:TE} {k:Nat} (ms:List (Nat×Nat)) {ft:FT} {fe:FE} (hms:∀i j1 j2,(i,j1)∈ms->(i,j2)∈ms->j1=j2) (hms2:∀i1 i2 j,(i1,j)∈ms->(i2,j)∈ms->i1=i2) (hi:uB K wi fi) (hg:yS K g fg) (ht:jY K tt ft) (he:Ref K te fe):Ref K (vK wi k cI g tt te) (fI fi k cI ms fg ft fe):=by
 intro O M W L σ H e e' b Q o hen hf q
 obtain⟨items,e1,f1,hf⟩:=aM hf
 obtain⟨hsz,hf⟩:=aL hf
 obtain⟨ys,ei,f2,hf⟩:=aM hf
 obtain⟨e2,f3,hf⟩:=aF hf
 cases hf
 have hsz:=of_decide_eq_true hsz
 refine hi (fun i=>!(ms.any fun z=>z.1==i)) O M W L σ H e e1 items _ o hen f1 fun J H1 k1 en it=>?_
 have o1:=o.keep k1.cC
 let W':WS:=⟨fun j a=>∃i s,(i,j)∈ms/\e1[i]? =some (some s)/\s.cX=true/\σ[i]? =some (some (.ref a)),fun a=>H1 a≠none⟩
 have whose:∀(i:Nat) s a,e1[i]? =some (some s)->s.cX=true->σ[i]? =some (some (.ref a))->(aw W a\/ L a)/\∃ob,H1 a=some ob/\∀xs,ob≠ .tup xs:=fun i s a hs hm ha=>by
  obtain⟨v,h1,h2⟩:=en.at' i s hs
  rw[ha]at h1
  cases h1
  cases s with
  |val p=>cases hm
  |bor p=>cases hm
  |own p=>obtain⟨b,e,w,c⟩:=h2;cases e;exact⟨.inl ⟨i,w⟩,c.there⟩
  |loc p=>obtain⟨b,e,w,c⟩:=h2;cases e;exact⟨.inr w,c.there⟩
 have wsub:∀a,aw W' a->(aw W a\/ L a)/\∃ob,H1 a=some ob/\∀xs,ob≠ .tup xs:=fun a ⟨j,i,s,hm,hs,hmine,ha⟩=>whose i s a hs hmine ha
 have it:=it (aw W') (fun a z=>(wsub a z).1) fun i a s hst hs hm ha ⟨j,i',s',hm',hs',hmine',ha'⟩=>by
  have ne:i'≠i:=fun z=>by
   subst z
   have:(ms.any fun z=>z.1==i')=true:=any_eq_true.mpr ⟨(i',j),hm',by simp⟩
   rw[this]at hst
   cases hst
  exact en.mW i' i s' s ne hs' hs hmine' hm (by rw[ha',ha])
 intro l hl
 have zl:∀a ob,H1 a=some ob->a≠l:=fun a ob h=>cA h hl
 let M':aI:=aW M (aW L (one l))
 let O':aI:=fun a=>H1 a≠none\/ a=l
 have s0:aZ H1 (upd H1 l (.lst [])):=aZ.upd hl
 have ML:∀a,(aw W a\/ L a)->aW M L a:=fun a z=>z.elim (fun⟨i,w⟩=>.inl (o.wm i a w)) .inr
 have k0:cS (aW M L) (aW M' cT) H1 (upd H1 l (.lst [])):=⟨fun a xs h=>s0 _ _ h,fun a ob h n=>⟨s0 _ _ h,fun z=>by
  rcases z with(z|z|z)|z
  ·exact n (.inl z)
  ·exact n (.inr z)
  ·exact zl a ob h z
  ·exact z⟩⟩
 have okc0:∀H2,(∀a,H1 a≠none\/ a=l->H2 a≠none)->jS O' M' W' cT H2:=fun H2 d=>⟨d,fun a z=>by
   rcases z with z|z|z
   ·exact .inl (o1.old a (o1.mo a z))
   ·exact .inl (o1.loc a z).1
   ·exact .inr z,fun j a z=>by
   rcases ML a (wsub a ⟨j,z⟩).1 with z|z
   ·exact .inl z
   ·exact .inr (.inl z),fun a z=>z.elim⟩
 have lenS:(n6 k cI ms e1).length=(eY k cI σ).length:=by
  unfold n6 eY
  rw[length_append,length_append,uE,length_map,length_replicate,length_replicate]
 have en0:aP K (aW M' cT) W' cT (upd H1 l (.lst [])) (eY k cI σ) (n6 k cI ms e1):=by
  have lend:∀(i:Nat) s p a,e1[i]? =some (some s)->(s= .own p\/ s= .loc p)->σ[i]? =some (some (.ref a))->gY K (aW M L) H1 a p->¬(∃j,(i,j)∈ms)->rL K (aW M' cT) W' cT (upd H1 l (.lst [])) a p:=fun i s p a hs hp ha c nm=>by
   have hm:s.cX=true:=by rcases hp with rfl|rfl<;>rfl
   have nw:¬aw W' a:=fun⟨j,i',s',hm',hs',hmine',ha'⟩=>by
    have ne:i'≠i:=fun z=>nm ⟨j,z▸hm'⟩
    exact en.mW i' i s' s ne hs' hs hmine' hm (by rw[ha',ha])
   have c':=c.aH k0 fun ob h=>s0 _ _ h
   cases c' with
   |lst h r=>exact .lst (.inl h) (by obtain⟨ob,h1,_⟩:=c.there;show H1 a≠none;rw[h1];exact fun z=>nomatch z) nw (fun z=>z) r
   |a8 h kk r=>exact .a8 (.inl h) (by obtain⟨ob,h1,_⟩:=c.there;show H1 a≠none;rw[h1];exact fun z=>nomatch z) nw (fun z=>z) kk r
  have bors:∀p a,rL K (aW M L) W L H1 a p->rL K (aW M' cT) W' cT (upd H1 l (.lst [])) a p:=fun p a c=>by
   cases c with
   |lst h od n m r=>exact .lst (h.elim (fun h=>.inl (s0 _ _ h)) fun⟨u,h⟩=>.inr ⟨u,s0 _ _ h⟩) (fun z=>Rd.ne h z rfl) (fun z=>(wsub a z).1.elim n m) (fun z=>z) (r.aH k0)
   |dO h r=>exact .dO h (r.aH k0)
   |a8 h od n m kk r=>exact .a8 (h.elim (fun h=>.inl (s0 _ _ h)) fun⟨u,h⟩=>.inr ⟨u,s0 _ _ h⟩) (fun z=>Rd.ne h z rfl) (fun z=>(wsub a z).1.elim n m) (fun z=>z) kk (r.aH k0)
  have row:∀(i j:Nat) s,zH e1 ms i j=some s->∃v,σ[i]? =some (some v)/\i4 K (aW M' cT) W' cT (upd H1 l (.lst [])) j v s/\(s.cX=true->(i,j)∈ms/\∃s',e1[i]? =some (some s')/\s'.cX=true):=fun i j s h=>by
   unfold zH at h
   have nc:∀{p:PV},ms.contains (i,j)=true->(i,j)∈ms:=fun z=>contains_iff_mem.mp z
   cases c:e1[i]? with
   |none=>rw[c]at h;cases h
   | some s'=>
    cases s' with
    |none=>rw[c]at h;cases h
    | some s'=>
     rw[c]at h
     obtain⟨v,h1,h2⟩:=en.at' i s' c
     refine⟨v,h1,?_⟩
     cases s' with
     |val p=>cases h;exact⟨Rep.aH k0 h2,fun z=>nomatch z⟩
     |bor p=>cases h;obtain⟨a,e,c⟩:=h2;exact⟨⟨a,e,bors p a c⟩,fun z=>nomatch z⟩
     | own p=>
      obtain⟨a,e,w,ct⟩:=h2
      subst e
      dsimp only at h
      cases d:ms.contains (i,j)with
      |true=>
       rw[d,if_pos rfl]at h
       cases h
       have hm:=contains_iff_mem.mp d
       exact⟨⟨a,rfl,⟨i,_,hm,c,rfl,h1⟩,ct.aH k0 fun ob h=>s0 _ _ h⟩,fun _=>⟨hm,_,rfl,rfl⟩⟩
      | false=>
       rw[d,if_neg Bool.false_ne_true]at h
       cases d2:ms.any (fun z=>z.1==i)with
       |true=>rw[d2,if_pos rfl]at h;cases h
       |false=>
        rw[d2,if_neg Bool.false_ne_true]at h
        cases h
        refine⟨⟨a,rfl,lend i _ p a c (.inl rfl) h1 ct fun⟨j',hm'⟩=>?_⟩,fun z=>nomatch z⟩
        have:(ms.any fun z=>z.1==i)=true:=any_eq_true.mpr ⟨(i,j'),hm',by simp⟩
        rw[d2]at this
        cases this
     | loc p=>
      obtain⟨a,e,w,ct⟩:=h2
      subst e
      dsimp only at h
      cases d:ms.contains (i,j)with
      |true=>
       rw[d,if_pos rfl]at h
       cases h
       have hm:=contains_iff_mem.mp d
       exact⟨⟨a,rfl,⟨i,_,hm,c,rfl,h1⟩,ct.aH k0 fun ob h=>s0 _ _ h⟩,fun _=>⟨hm,_,rfl,rfl⟩⟩
      | false=>
       rw[d,if_neg Bool.false_ne_true]at h
       cases d2:ms.any (fun z=>z.1==i)with
       |true=>rw[d2,if_pos rfl]at h;cases h
       |false=>
        rw[d2,if_neg Bool.false_ne_true]at h
        cases h
        refine⟨⟨a,rfl,lend i _ p a c (.inr rfl) h1 ct fun⟨j',hm'⟩=>?_⟩,fun z=>nomatch z⟩
        have:(ms.any fun z=>z.1==i)=true:=any_eq_true.mpr ⟨(i,j'),hm',by simp⟩
        rw[d2]at this
        cases this
  refine⟨lenS,fun j s hj=>?_,fun j1 j2 s t hn h1 h2 m1 m2=>?_⟩
  ·obtain⟨q,i,rfl,hc,hs⟩:=j0 hj
   obtain⟨v,h1,h2,_⟩:=row i _ s hs
   exact⟨v,j5 hc h1,h2⟩
  ·obtain⟨q1,i1,rfl,c1,hs1⟩:=j0 h1
   obtain⟨q2,i2,rfl,c2,hs2⟩:=j0 h2
   obtain⟨v1,a1,_,b1⟩:=row i1 _ s hs1
   obtain⟨v2,a2,_,b2⟩:=row i2 _ t hs2
   obtain⟨w1,s1,d1,n1⟩:=b1 m1
   obtain⟨w2,s2,d2,n2⟩:=b2 m2
   rw[j5 c1 a1,j5 c2 a2]
   have ne:i1≠i2:=fun z=>by subst z;exact hn (hms _ _ _ w1 w2)
   have:=en.mW i1 i2 s1 s2 ne d1 d2 n1 n2
   rw[a1,a2]at this
   exact this
 have dl:∀a xs,H1 a=some (.tup xs)->a≠l:=fun a xs h=>zl a _ h
 let N:Nat->St->Hp->Prop:=fun i σ' H'=>∃ei' acc rest vs,bX W' (one l) (upd H1 l (.lst [])) H'/\H' l=some (.lst vs)/\bH K (aW M' cT) H' acc vs/\aP K (aW M' cT) W' cT H' σ' ei'/\acc.length<=i/\
  iO fg ft fe (items.drop i) ei'=some (rest,ei)/\ys=acc++rest
 have k0':∀H',bX W' (one l) (upd H1 l (.lst [])) H'->∀a,H1 a≠none\/ a=l->H' a≠none:=fun H' kk a z=>kk.cC a (by
  rcases z with z|z
  ·cases e:H1 a with
   |none=>exact absurd e z
   |some u=>rw[s0 _ _ e];exact fun z=>nomatch z
  ·rw[z,aU];exact fun z=>nomatch z)
 refine⟨fun i m σ' H'=>m=items.length - i/\i<=items.length/\N i σ' H',⟨items.length,by simp,zero_le _,n6 k cI ms e1,[],ys,[],.refl,aU,.nil,en0,le_refl _,by rw[drop_zero];exact f2,rfl⟩,?_⟩
 rintro i m σ2 H2 ⟨rfl,hil,ei2,acc,rest,vs,kk,hl2,ra,en2,hacc,f4,hys⟩
 have oki:=okc0 H2 (k0' H2 kk)
 obtain⟨itm,its⟩:=it (aW L (one l)) H2 (fun a ob h n=>kk.obj a ob (s0 _ _ h) n (zl a ob h)) (fun a xs h=>kk.tup a xs (s0 _ _ h)) (fun a z=>z.elim .inl fun z=>.inr (by rw[show a=l from z];exact hl))
 by_cases hlt:i<items.length
 ·refine .inr ?_
  obtain⟨go,yl⟩:=itm i items[i] (by simp[hlt])
  refine⟨go,N (i+1),fun σ' H' n=>⟨items.length - (i+1),by omega,rfl,hlt,n⟩,fun x H3 y=>?_⟩
  obtain⟨s3,rp⟩:=yl x H3 y
  rw[drop_eq_getElem_cons hlt]at f4
  obtain⟨e4,c1,f4⟩:=aF f4
  have oki3:=oki.keep (H':=H3) (bX.same (W:=W') (L:=cT) s3).cC
  have rp':Rep K (aW M' cT) H3 items[i] x:=rp.aH (.less fun a z=>z.elim id fun z=>z.elim)
  refine hg O' M' W' cT σ2 H3 ei2 e4 _ x _ oki3 (en2.same s3) rp' c1 fun σ3 en3=>?_
  obtain⟨b,e5,c2,f4⟩:=aM f4
  refine ht O' M' W' cT σ3 H3 e4 e5 b _ oki3 en3 c2 fun H4 k4 en4=>?_
  have oki4:=oki3.keep k4.cC
  have nlw:¬aw W' l:=fun z=>by obtain⟨_,ob,h,_⟩:=wsub l z;rw[hl]at h;cases h
  have kL:∀{A B:Hp},bX W' cT A B->bX W' (one l) A B:=fun k=>⟨fun a ob h n m=>k.obj a ob h n fun z=>z,k.tup,k.cC⟩
  have st:∀{A B:Hp},bX W' cT A B->jS O' M' W' cT A->cS (aW M' cT) (aW M' cT) A B:=fun k ok=>k.aH ok
  have k34:bX W' cT H2 H4:=(bX.same s3).trans k4
  cases b with
  |false=>
   rw[if_neg Bool.false_ne_true]
   exact⟨e5,acc,rest,vs,kk.trans (kL k34),k34.obj l _ hl2 nlw (fun z=>z),ra.aH (st k34 oki),en4,le_succ_of_le hacc,f4,hys⟩
  | true=>
   rw[if_pos rfl]
   obtain⟨rv,e6,c3,f4⟩:=aM f4
   obtain⟨p,c4,f4⟩:=aF f4
   obtain⟨rest',e7,c5,f4⟩:=aM f4
   cases f4
   refine he O' M' W' cT σ3 H4 e5 e6 rv _ oki4 en4 c3 fun v H5 k5 rb fr=>?_
   have oki5:=oki4.keep k5.cC
   obtain⟨en5,rp5⟩:=rb.put oki5 c4
   have k35:bX W' cT H2 H5:=k34.trans k5
   have hl5:=k35.obj l _ hl2 nlw (fun z=>z)
   have ra5:=ra.aH (st k35 oki)
   refine⟨vs,hl5,szt (by have:=ra.length;omega),?_⟩
   have stw:cS (aW M' cT) (aW M' cT) H5 (upd H5 l (.lst (vs++[v]))):=.write (.inl (.inr (.inr rfl))) hl5 fun _ z=>nomatch z
   have kw:bX W' (one l) H5 (upd H5 l (.lst (vs++[v]))):=.write (.inr rfl) hl5 fun _ z=>nomatch z
   refine⟨e6,acc++[p],rest',vs++[v],(kk.trans (kL k35)).trans kw,aU,(ra5.aH stw).app (.cons (rp5.aH stw) .nil),?_,by rw[length_append];exact Nat.succ_le_succ hacc,c5,by rw[hys,append_assoc];rfl⟩
   refine⟨en5.len,fun j s hj=>?_,en5.mW⟩
   obtain⟨u,g1,g2⟩:=en5.at' j s hj
   refine⟨u,g1,?_⟩
   cases s with
   |val p=>exact Rep.aH stw g2
   |own p=>
    obtain⟨a,e,w,c⟩:=g2
    exact⟨a,e,w,c.aH stw fun ob h=>by rw[aS (fun z:a=l=>nlw (by rw[<-z];exact⟨j,w⟩))];exact h⟩
   |loc p=>obtain⟨a,e,w,c⟩:=g2;exact w.elim
   |bor p=>
    obtain⟨a,e,c⟩:=g2
    refine⟨a,e,?_⟩
    have ne:W'.old a->a≠l:=fun od z=>od (by rw[z];exact hl)
    cases c with
    |lst h od n m r=>exact .lst (h.elim (fun h=>.inl (by rw[aS (ne od)];exact h)) fun⟨u,h⟩=>.inr ⟨u,by rw[aS (ne od)];exact h⟩) od n m (r.aH stw)
    |dO h r=>exact .dO h (r.aH stw)
    |a8 h od n m kk r=>exact .a8 (h.elim (fun h=>.inl (by rw[aS (ne od)];exact h)) fun⟨u,h⟩=>.inr ⟨u,by rw[aS (ne od)];exact h⟩) od n m kk (r.aH stw)
 ·have e:i=items.length:=by omega
  subst e
  rw[drop_length]at f4
  cases f4
  rw[append_nil]at hys
  subst hys
  have kout:bX W L H1 H2:=⟨fun a ob h n m=>kk.obj a ob (s0 _ _ h) (fun z=>(wsub a z).1.elim n m) (zl a ob h),fun a xs h=>kk.tup a xs (s0 _ _ h),fun a h=>k0' H2 kk a (.inl h)⟩
  have kf:cS (aW M L) (aW M (aW L (one l))) H1 H2:=⟨kout.tup,fun a ob h n=>⟨kk.obj a ob (s0 _ _ h) (fun z=>n (ML a (wsub a z).1)) (zl a ob h),fun z=>by
   rcases z with z|z|z
   ·exact n (.inl z)
   ·exact n (.inr z)
   ·exact zl a ob h z⟩⟩
  have pend:x8 K (aW M (aW L (one l))) W (aW L (one l)) H2 σ (fun i=>∃j,(i,j)∈ms) e1:=by
   refine⟨en.len,fun i s hs=>?_,en.mW⟩
   obtain⟨v,h1,h2⟩:=en.at' i s hs
   have keepM:∀a,s.cX=true->¬(∃j,(i,j)∈ms)->v= .ref a->∀ob,H1 a=some ob->H2 a=some ob:=fun a hm nt ev ob h=>by
    subst ev
    refine kk.obj a ob (s0 _ _ h) (fun⟨j,i',s',hm',hs',hmine',ha'⟩=>?_) (zl a ob h)
    have ne:i'≠i:=fun z=>nt ⟨j,z▸hm'⟩
    exact en.mW i' i s' s ne hs' hs hmine' hm (by rw[ha',h1])
   refine⟨v,h1,fun z=>?_,fun hm=>?_⟩
   ·cases s with
    |val p=>exact Rep.aH kf h2
    |own p=>
     obtain⟨a,e,w,c⟩:=h2
     exact⟨a,e,w,c.aH kf fun ob h=>keepM a rfl (z.elim id fun z=>nomatch z) e ob h⟩
    |loc p=>
     obtain⟨a,e,w,c⟩:=h2
     exact⟨a,e,.inl w,c.aH kf fun ob h=>keepM a rfl (z.elim id fun z=>nomatch z) e ob h⟩
    |bor p=>
     obtain⟨a,e,c⟩:=h2
     refine⟨a,e,?_⟩
     cases c with
     |lst h od n m r=>exact .lst (h.elim (fun h=>.inl (kout.obj _ _ h n m)) fun⟨u,h⟩=>.inr ⟨u,kout.obj _ _ h n m⟩) od n (fun z=>z.elim m (Rd.ne h hl)) (r.aH kf)
     |dO h r=>exact .dO h (r.aH kf)
     |a8 h od n m kk r=>exact .a8 (h.elim (fun h=>.inl (kout.obj _ _ h n m)) fun⟨u,h⟩=>.inr ⟨u,kout.obj _ _ h n m⟩) od n (fun z=>z.elim m (Rd.ne h hl)) kk (r.aH kf)
   ·cases s with
    |val p=>cases hm
    |bor p=>cases hm
    |own p=>obtain⟨a,e,w,c⟩:=h2;exact⟨a,e,.inl ⟨p,rfl,w⟩⟩
    |loc p=>obtain⟨a,e,w,c⟩:=h2;exact⟨a,e,.inr ⟨p,rfl,.inl w⟩⟩
  have enf:aP K (aW M (aW L (one l))) W (aW L (one l)) H2 σ e':=l4 pend (fun i j p a hm hp ha=>by
   rcases bQ hp with g|g
   ·obtain⟨v,h1,a',rfl,⟨i',s',hm',_,_,ha'⟩,c⟩:=en2.at' j _ g
    have ei:=hms2 i i' j hm hm'
    subst ei
    rw[ha]at ha'
    cases ha'
    exact c.aH (.less fun a z=>.inl z) fun _ h=>h
   ·obtain⟨v,h1,a',rfl,w,c⟩:=en2.at' j _ g
    exact w.elim) f3
  refine .inl ⟨its,q _ _ (k1.trans kout) ⟨l,rfl,fun z=>o1.old l z hl,fun z=>(o1.loc l z).1 hl,enf,fun i s hs hm e=>?_,.lst hl2 (ra.aH (.less fun a z=>.inl z))⟩ (Fr.back (b:=.new (.lst _)) k1.cC fun a e=>by cases e;exact hl)⟩
  obtain⟨s',hs',hm'⟩:=k6 f3 i s hs hm
  obtain⟨_,ob,h,_⟩:=whose i s' l hs' hm' e
  rw[hl]at h
  cases h
end
inductive Kd where
 |v|b|m
 deriving DecidableEq
noncomputable def DT:Kd->PV->Sl
 | .v,p=>.val p
 | .m,p=>.own p
 | .b,.lst ps=>.bor (.lst ps)
 | .b,.a8 ps=>.bor (.a8 ps)
 | .b,p=>.val p
noncomputable def mX:List Kd->List PV->En
 |k::ks,p::ps=>some (DT k p)::mX ks ps
 |_,_=>[]
noncomputable def oG (ks:List Kd) (vs:List V) (H:Hp):WS:=⟨fun i a=>ks[i]? =some .m/\vs[i]? =some (.ref a),fun a=>H a≠none⟩
noncomputable def MJ:List Kd->List V->List V
 | .m::ks,v::vs=>v::MJ ks vs
 |_::ks,_::vs=>MJ ks vs
 |_,_=>[]
noncomputable def zM (K:Frag) (Z:aI) (H:Hp) (ks:List Kd) (vs:List V) (qs:List PV):Prop:=∀(n:Nat) v q,(MJ ks vs)[n]? =some v->qs[n]? =some q->∃a,v= .ref a/\gY K Z H a q
noncomputable def Z9 (K:Frag) (M:aI) (H H':Hp) (ks:List Kd) (vs:List V) (r:PV) (qs:List PV) (v:V):Bool->Prop
 |false=>Rep K M H' r v/\zM K M H' ks vs qs
 |true=>∃a,v= .ref a/\H a=none/\gY K (aW M (one a)) H' a r/\zM K (aW M (one a)) H' ks vs qs
noncomputable abbrev FN:=List PV->Option (PV×List PV)
noncomputable def S7 (K:Frag) (ks:List Kd) (fr:Bool) (f:FN):Sp:=fun vs H Q _=>∃(M:aI) (ps:List PV) (r:PV) (qs:List PV),(∀a,M a->H a≠none)/\vs.length=ks.length/\ps.length=ks.length/\
 (∀(i:Nat) k p v,ks[i]? =some k->ps[i]? =some p->vs[i]? =some v->i4 K M (oG ks vs H) cT H i v (DT k p))/\
 (∀(i j:Nat),i≠j->ks[i]? =some .m->ks[j]? =some .m->vs[i]?≠vs[j]?)/\(∀i a,oG ks vs H i a->M a)/\
 f ps=some (r,qs)/\∀v H',bX (oG ks vs H) cT H H'->Z9 K M H H' ks vs r qs v fr->Q v H'
noncomputable def abU (e:En):Bool->Bv->Option PV
 |false,.val p=>some p
 |_,.new p=>some p
 |_,.slot i=>match e[i]? with
  |some (some (.loc p))=>some p
  |_=>none
 |true,.val _=>none
noncomputable def qW (e:En):Nat->List Kd->Option (List PV)
 |_,[]=>some []
 |j,.m::ks=>match e[j]? with
  |some (some (.own q))=>bO (qW e (j+1) ks) fun qs=>some (q::qs)
  |_=>none
 |j,_::ks=>qW e (j+1) ks
noncomputable def XC (ks:List Kd) (fr:Bool):Out->Option (PV×List PV)
 | .rt b e=>bO (abU e fr b) fun r=>bO (qW e 0 ks) fun qs=>some (r,qs)
 | .nx e=>match fr with
  |false=>bO (qW e 0 ks) fun qs=>some (.bA,qs)
  |true=>none
 |_=>none
noncomputable def nF (ks:List Kd) (nl:Nat) (fr:Bool) (g:FS):FN:=fun ps=>bO (g (mX ks ps++List.replicate nl none)) (XC ks fr)
theorem AJ:∀{ks:List Kd} {ps:List PV} {i:Nat} {s:Sl},(mX ks ps)[i]? =some (some s)->∃k p,ks[i]? =some k/\ps[i]? =some p/\s=DT k p
 |[],ps,i,s,h=>by simp[mX]at h
 |k::ks,[],i,s,h=>by simp[mX]at h
 |k::ks,p::ps,0,s,h=>by simp[mX]at h;exact⟨k,p,rfl,rfl,h.symm⟩
 |k::ks,p::ps,i+1,s,h=>by
  rw[mX,List.getElem?_cons_succ]at h
  obtain⟨k',p',h1,h2,h3⟩:=AJ h
  exact⟨k',p',by simpa using h1,by simpa using h2,h3⟩
theorem AE:∀{ks:List Kd} {ps:List PV},ps.length=ks.length->(mX ks ps).length=ks.length
 |[],ps,h=>rfl
 |k::ks,[],h=>by simp at h
 |k::ks,p::ps,h=>by rw[mX,length_cons,length_cons,AE (by simpa using h)]
theorem mT:∀{ks:List Kd} {vs:List V} {j:Nat} {qs:List PV} {n:Nat} {v:V} {q:PV},qW e j ks=some qs->(MJ ks vs)[n]? =some v->qs[n]? =some q->∃i,ks[i]? =some .m/\vs[i]? =some v/\e[j+i]? =some (some (.own q))
 |[],vs,j,qs,n,v,q,h,h1,h2=>by cases h;simp at h2
 | .m::ks,[],j,qs,n,v,q,h,h1,h2=>by simp[MJ]at h1
 | .v::ks,[],j,qs,n,v,q,h,h1,h2=>by simp[MJ]at h1
 | .b::ks,[],j,qs,n,v,q,h,h1,h2=>by simp[MJ]at h1
 | .v::ks,x::vs,j,qs,n,v,q,h,h1,h2=>by
  obtain⟨i,a,b,c⟩:=mT (ks:=ks) (vs:=vs) (j:=j+1) h h1 h2
  exact⟨i+1,by simpa using a,by simpa using b,by rw[show j+(i+1)=j+1+i by omega];exact c⟩
 | .b::ks,x::vs,j,qs,n,v,q,h,h1,h2=>by
  obtain⟨i,a,b,c⟩:=mT (ks:=ks) (vs:=vs) (j:=j+1) h h1 h2
  exact⟨i+1,by simpa using a,by simpa using b,by rw[show j+(i+1)=j+1+i by omega];exact c⟩
 | .m::ks,x::vs,j,qs,n,v,q,h,h1,h2=>by
  unfold qW at h
  split at h
  ·rename_i q0 he
   obtain⟨qs',g,h⟩:=aF h
   cases h
   cases n with
   |zero=>
    simp[MJ]at h1 h2
    subst h1 h2
    exact⟨0,rfl,rfl,he⟩
   |succ n=>
    obtain⟨i,a,b,c⟩:=mT (ks:=ks) (vs:=vs) (j:=j+1) g (by simpa [MJ]using h1) (by simpa using h2)
    exact⟨i+1,by simpa using a,by simpa using b,by rw[show j+(i+1)=j+1+i by omega];exact c⟩
  ·cases h
section
variable {K:Frag}
theorem i4.cT {s:Sl} (h:i4 K M W L H i v s):i4 K (aW M cT) W L H i v s:=by
 have k:cS M (aW M Mr.cT) H H:=.less fun a z=>z.elim id fun z=>z.elim
 cases s with
 |val p=>exact Rep.aH k h
 |own p=>obtain⟨a,e,w,c⟩:=h;exact⟨a,e,w,c.aH k fun _ h=>h⟩
 |loc p=>obtain⟨a,e,w,c⟩:=h;exact⟨a,e,w,c.aH k fun _ h=>h⟩
 |bor p=>
  obtain⟨a,e,c⟩:=h
  refine⟨a,e,?_⟩
  cases c with
  |lst e od n m r=>exact .lst e od n m (r.aH k)
  |dO e r=>exact .dO e (r.aH k)
  |a8 e od n m kk r=>exact .a8 e od n m kk (r.aH k)
theorem YS {nl:Nat} {fr:Bool} {t:TS} {N:List Str} (h:fJ K t g) (hN:N.length=ks.length+nl) {vs:List V} {Q:VK} (hs:S7 K ks fr (nF ks nl fr g) vs H Q E):t {nx:=fun _ H'=>Q .bA H',rt:=Q} (L2.start N vs) H:=by
 obtain⟨M,ps,r,qs,hM,hvl,hpl,har,hdis,hwm,hf,q⟩:=hs
 obtain⟨out,g1,hf⟩:=aF hf
 let O:aI:=fun a=>H a≠none
 have o:jS O M (oG ks vs H) cT H:=⟨fun a h=>h,hM,hwm,fun a z=>z.elim⟩
 have hvN:N.length - vs.length=nl:=by omega
 have st:∀(i:Nat) v,vs[i]? =some v->(L2.start N vs)[i]? =some (some v):=fun i v hv=>by
  unfold L2.start
  have hi:=(List.getElem?_eq_some_iff.mp hv).1
  rw[getElem?_append_left (by simpa using hi),getElem?_map,hv]
  rfl
 have sl:∀(i:Nat) s,(mX ks ps++List.replicate nl none)[i]? =some (some s)->∃k p v,ks[i]? =some k/\ps[i]? =some p/\vs[i]? =some v/\s=DT k p:=fun i s hi=>by
  by_cases hl:i<(mX ks ps).length
  ·rw[getElem?_append_left hl]at hi
   obtain⟨k,p,h1,h2,h3⟩:=AJ hi
   have:i<vs.length:=by have:=(List.getElem?_eq_some_iff.mp h1).1;omega
   exact⟨k,p,vs[i],h1,h2,by simp,h3⟩
  ·rw[getElem?_append_right (by omega),List.getElem?_replicate]at hi
   split at hi<;>cases hi
 have mk:∀k p,(DT k p).cX=true->k= .m:=fun k p hm=>by
  cases k with
  |v=>cases hm
  |m=>rfl
  |b=>cases p<;>cases hm
 have en:aP K (aW M cT) (oG ks vs H) cT H (L2.start N vs) (mX ks ps++List.replicate nl none):=by
  refine⟨?_,fun i s hi=>?_,fun i j s s' hij h1 h2 m1 m2=>?_⟩
  ·unfold L2.start
   rw[length_append,length_append,length_replicate,length_replicate,AE hpl,length_map,hvN,hvl]
  ·obtain⟨k,p,v,h1,h2,h3,rfl⟩:=sl i s hi
   exact⟨v,st i v h3,(har i k p v h1 h2 h3).cT⟩
  ·obtain⟨k,p,v,a1,a2,a3,rfl⟩:=sl i s h1
   obtain⟨k',p',v',b1,b2,b3,rfl⟩:=sl j s' h2
   rw[st i v a3,st j v' b3]
   have e1:=mk _ _ m1
   have e2:=mk _ _ m2
   subst e1 e2
   have:=hdis i j hij a1 b1
   rw[a3,b3]at this
   exact fun z=>this (by cases z;rfl)
 have gk:∀{L':aI} {H':Hp},lL (oG ks vs H) cT L' H H'->bX (oG ks vs H) cT H H':=fun gr=>⟨gr.obj,gr.tup,gr.cC⟩
 have mu:∀{Z Zf:aI} {L':aI} {H':Hp} {σ':St} {e':En} {qs:List PV},aP K Z (oG ks vs H) L' H' σ' e'->(∀a,Zf a->Z a)->qW e' 0 ks=some qs->zM K Zf H' ks vs qs:=fun en' hz hm n v q' h1 h2=>by
  obtain⟨i,a1,a2,a3⟩:=mT hm h1 h2
  rw[zero_add]at a3
  obtain⟨u,h3,a,rfl,⟨_,w⟩,c⟩:=en'.at' i _ a3
  rw[a2]at w
  cases w
  exact⟨a,rfl,c.aH (.less hz) fun _ h=>h⟩
 refine h O M (oG ks vs H) cT (L2.start N vs) H _ out _ o en g1 ?_
 cases out with
 |bk e'=>cases hf
 |ct e'=>cases hf
 | nx e'=>
  cases fr with
  |true=>cases hf
  |false=>
   obtain⟨qs',g2,hf⟩:=aF hf
   cases hf
   exact fun L' σ' H' gr o' en'=>q .bA H' (gk gr) ⟨.bA,mu en' (fun a z=>.inl z) g2⟩
 | rt b e'=>
  obtain⟨r',g2,hf⟩:=aF hf
  obtain⟨qs',g3,hf⟩:=aF hf
  cases hf
  intro L' σ' H' v gr o' rb
  refine q v H' (gk gr) ?_
  cases b with
  | val p=>
   cases fr with
   |true=>cases g2
   |false=>
    cases g2
    exact⟨rb.2.aH (.less fun a z=>.inl z),mu rb.1 (fun a z=>.inl z) g3⟩
  | new p=>
   cases fr with
   |false=>
    cases g2
    have rb:=rb.weak o'
    exact⟨Rep.aH (.less fun a z=>.inl z) rb.2,mu rb.1 (fun a z=>.inl z) g3⟩
   |true=>
    cases g2
    obtain⟨a,rfl,n1,n2,en',fe,c⟩:=rb
    exact⟨a,rfl,Classical.byContradiction n1,c.aH (.less fun a z=>z.elim .inl fun z=>.inr (.inr z)) fun _ h=>h,mu en' (fun a z=>z.elim .inl fun z=>.inr (.inr z)) g3⟩
  | slot i=>
   have g2':(match e'[i]? with|some (some (.loc p))=>some p|_=>none)=some r:=by
    cases fr<;>exact g2
   cases c:e'[i]? with
   |none=>rw[c]at g2';cases g2'
   | some s=>
    cases s with
    |none=>rw[c]at g2';cases g2'
    | some s=>
     rw[c]at g2'
     cases s with
     |loc p=>
      cases g2'
      obtain⟨u,h1,a,rfl,la,ct⟩:=rb.1.at' i _ c
      have:=rb.2
      rw[h1]at this
      cases this
      have nO:H a=none:=Classical.byContradiction (o'.loc a la).2
      cases fr with
      |false=>exact⟨(ct.aH (.less fun a z=>.inl z) fun _ h=>h).rep fun z=>absurd nO (hM a z),mu rb.1 (fun a z=>.inl z) g3⟩
      |true=>exact⟨a,rfl,nO,ct.aH (.less fun b z=>z.elim .inl fun z=>.inr (by rw[show b=a from z];exact la)) fun _ h=>h,mu rb.1 (fun b z=>z.elim .inl fun z=>.inr (by rw[show b=a from z];exact la)) g3⟩
     |_=>cases g2'
noncomputable def ED (e:En):Kd->Bv->Option PV
 | .v,b=>b.put
 | .b,b=>b.get e
 | .m,.slot i=>ownAt e i
 | .m,_=>none
noncomputable def G3 (e:En):List Kd->List Bv->Option (List PV)
 |[],[]=>some []
 |k::ks,b::bs=>bO (ED e k b) fun p=>bO (G3 e ks bs) fun ps=>some (p::ps)
 |_,_=>none
noncomputable def bZ:List Kd->List Bv->List Nat
 | .m::ks,.slot i::bs=>i::bZ ks bs
 |_::ks,_::bs=>bZ ks bs
 |_,_=>[]
noncomputable def nY:List Kd->List Bv->List Nat
 | .b::ks,.slot i::bs=>i::nY ks bs
 |_::ks,_::bs=>nY ks bs
 |_,_=>[]
noncomputable def resB (r:PV):Bool->Bv
 |true=>.new r
 |false=>.val r
noncomputable def bC (ks:List Kd) (fr:Bool) (f:FN) (fa:FA):FE:=fun e=>bE (fa e) fun bs e1=>bO (G3 e1 ks bs) fun ps=>
 aQ (decide ((bZ ks bs).Nodup) && (nY ks bs).all fun i=>!(bZ ks bs).contains i) (bO (f ps) fun rq=>bO (nA (rq.2.map fun q=>some (.own q)) (bZ ks bs).zipIdx e1) fun e2=>some (resB rq.1 fr,e2))
theorem BV:∀{ks:List Kd} {bs:List Bv} {ps:List PV},G3 e ks bs=some ps->ps.length=ks.length/\bs.length=ks.length/\∀(i:Nat) k b p,ks[i]? =some k->bs[i]? =some b->ps[i]? =some p->ED e k b=some p
 |[],[],ps,h=>by cases h;exact⟨rfl,rfl,fun i k b p h=>by simp at h⟩
 |[],_::_,ps,h=>by cases h
 |_::_,[],ps,h=>by cases h
 |k::ks,b::bs,ps,h=>by
  obtain⟨p,g1,h⟩:=aF h
  obtain⟨ps',g2,h⟩:=aF h
  cases h
  obtain⟨a1,a2,a3⟩:=BV g2
  refine⟨by rw[length_cons,length_cons,a1],by rw[length_cons,length_cons,a2],fun i k' b' p' h1 h2 h3=>?_⟩
  cases i with
  |zero=>simp at h1 h2 h3;subst h1 h2 h3;exact g1
  |succ i=>exact a3 i k' b' p' (by simpa using h1) (by simpa using h2) (by simpa using h3)
theorem BN.get:∀{bs:List Bv} {vs:List V} {i:Nat} {v:V},BN K Z H σ bs vs->vs[i]? =some v->∃b,bs[i]? =some b/\RV K Z H σ v b
 |_,_,_,_,.nil,h=>by simp at h
 |_,_,0,_,.cons h _,e=>by simp at e;subst e;exact⟨_,rfl,h⟩
 |_,_,i+1,_,.cons _ r,e=>by
  obtain⟨b,h1,h2⟩:=BN.get (i:=i) r (by simpa using e)
  exact⟨b,by simpa using h1,h2⟩
theorem BN.length:∀{bs:List Bv} {vs:List V},BN K Z H σ bs vs->bs.length=vs.length
 |_,_,.nil=>rfl
 |_,_,.cons _ r=>by rw[length_cons,length_cons,BN.length r]
theorem mL:∀{ks:List Kd} {bs:List Bv} {i j:Nat},ks[i]? =some .m->bs[i]? =some (.slot j)->∃n:Nat,(bZ ks bs)[n]? =some j
 |[],bs,i,j,h,_=>by simp at h
 |k::ks,[],i,j,_,h=>by simp at h
 |k::ks,b::bs,0,j,h1,h2=>by simp at h1 h2;subst h1 h2;exact⟨0,rfl⟩
 | k::ks,b::bs,i+1,j,h1,h2=>by
  obtain⟨n,h⟩:=mL (ks:=ks) (bs:=bs) (i:=i) (by simpa using h1) (by simpa using h2)
  cases k with
  |v=>exact⟨n,h⟩
  |b=>exact⟨n,h⟩
  |m=>
   cases b with
   |val p=>exact⟨n,h⟩
   |new p=>exact⟨n,h⟩
   |slot l=>exact⟨n+1,by simpa [bZ]using h⟩
theorem wI:∀{ks:List Kd} {bs:List Bv} {i j:Nat},ks[i]? =some .b->bs[i]? =some (.slot j)->j∈nY ks bs
 |[],bs,i,j,h,_=>by simp at h
 |k::ks,[],i,j,_,h=>by simp at h
 |k::ks,b::bs,0,j,h1,h2=>by simp at h1 h2;subst h1 h2;exact mem_cons_self
 | k::ks,b::bs,i+1,j,h1,h2=>by
  have h:=wI (ks:=ks) (bs:=bs) (i:=i) (j:=j) (by simpa using h1) (by simpa using h2)
  cases k with
  |v=>exact h
  |m=>exact h
  |b=>
   cases b with
   |val p=>exact h
   |new p=>exact h
   |slot l=>exact mem_cons_of_mem _ h
theorem tH:∀{ks:List Kd} {bs:List Bv} {i1 i2 j:Nat},(bZ ks bs).Nodup->i1≠i2->ks[i1]? =some .m->ks[i2]? =some .m->bs[i1]? =some (.slot j)->bs[i2]? =some (.slot j)->False
 |[],bs,i1,i2,j,_,_,h,_,_,_=>by simp at h
 |k::ks,[],i1,i2,j,_,_,_,_,h,_=>by simp at h
 |k::ks,b::bs,0,0,j,_,n,_,_,_,_=>n rfl
 |k::ks,b::bs,0,i2+1,j,nd,n,h1,h2,h3,h4=>by
  simp at h1 h3
  subst h1 h3
  obtain⟨q,h⟩:=mL (ks:=ks) (bs:=bs) (i:=i2) (j:=j) (by simpa using h2) (by simpa using h4)
  rw[bZ,nodup_cons]at nd
  exact nd.1 (mem_of_getElem? h)
 |k::ks,b::bs,i1+1,0,j,nd,n,h1,h2,h3,h4=>by
  simp at h2 h4
  subst h2 h4
  obtain⟨q,h⟩:=mL (ks:=ks) (bs:=bs) (i:=i1) (j:=j) (by simpa using h1) (by simpa using h3)
  rw[bZ,nodup_cons]at nd
  exact nd.1 (mem_of_getElem? h)
 | k::ks,b::bs,i1+1,i2+1,j,nd,n,h1,h2,h3,h4=>by
  refine tH (ks:=ks) (bs:=bs) (i1:=i1) (i2:=i2) (j:=j) ?_ (fun z=>n (by rw[z])) (by simpa using h1) (by simpa using h2) (by simpa using h3) (by simpa using h4)
  cases k with
  |v=>exact nd
  |b=>exact nd
  |m=>
   cases b with
   |val p=>exact nd
   |new p=>exact nd
   |slot l=>rw[bZ,nodup_cons]at nd;exact nd.2
theorem pH:∀{ks:List Kd} {bs:List Bv} {vs:List V} {ps:List PV} {n j:Nat},BN K Z H σ bs vs->G3 e ks bs=some ps->(bZ ks bs)[n]? =some j->∃v,(MJ ks vs)[n]? =some v/\σ[j]? =some (some v)
 |[],bs,vs,ps,n,j,r,g,h=>by cases bs<;>simp[bZ]at h
 |k::ks,[],vs,ps,n,j,r,g,h=>by simp[bZ]at h
 | k::ks,b::bs,vs,ps,n,j,r,g,h=>by
  obtain⟨p,g1,g⟩:=aF g
  obtain⟨ps',g2,g⟩:=aF g
  cases r with
  | cons h0 r=>
   cases k with
   |v=>exact pH (ks:=ks) r g2 (by simpa [bZ]using h)
   |b=>exact pH (ks:=ks) r g2 (by simpa [bZ]using h)
   | m=>
    cases b with
    |val p=>cases g1
    |new p=>cases g1
    | slot l=>
     cases n with
     |zero=>simp[bZ]at h;subst h;exact⟨_,rfl,h0⟩
     |succ n=>
      obtain⟨v,a,b⟩:=pH (n:=n) r g2 (by simpa [bZ]using h)
      exact⟨v,by simpa [MJ]using a,b⟩
theorem J3 {fr:Bool} {f:FN} {ta:TA} {fa:FA} (ha:rE K ta fa):Ref K (BO (S7 K ks fr f) [] E ta) (bC ks fr f fa):=by
 intro O M W L σ H e e' b Q o he hf q
 obtain⟨bs,e1,f1,hf⟩:=aM hf
 obtain⟨ps,g1,hf⟩:=aF hf
 obtain⟨g2,hf⟩:=aL hf
 obtain⟨⟨r,qs⟩,g3,hf⟩:=aF hf
 obtain⟨e2,g4,hf⟩:=aF hf
 cases hf
 rw[and_eq_true]at g2
 have nd:=of_decide_eq_true g2.1
 have nb:∀i∈nY ks bs,i∉bZ ks bs:=fun i hi hm=>by
  have:=all_eq_true.mp g2.2 i hi
  rw[contains_iff_mem.mpr hm]at this
  cases this
 refine ha O M W L σ H e e1 bs _ o he f1 fun vs H1 k1 en rv=>?_
 have o1:=o.keep k1.cC
 obtain⟨pl,bl,ap⟩:=BV g1
 have vl:=rv.length
 show S7 K ks fr f (vs++[]) H1 Q E
 rw[append_nil]
 have wr:∀i a,oG ks vs H1 i a->∃j,bs[i]? =some (.slot j)/\σ[j]? =some (some (.ref a))/\j∈bZ ks bs/\∃p,ownAt e1 j=some p:=fun i a ⟨h1,h2⟩=>by
  obtain⟨b,hb,rb⟩:=rv.get h2
  have hi:i<ks.length:=(List.getElem?_eq_some_iff.mp h1).1
  have hp:ps[i]? =some (ps[i]'(by omega)):=getElem?_eq_getElem (by omega)
  have:=ap i _ b _ h1 hb hp
  cases b with
  |val p=>cases this
  |new p=>cases this
  |slot j=>
   obtain⟨n,hn⟩:=mL h1 hb
   exact⟨j,hb,rb,mem_of_getElem? hn,_,this⟩
 have wml:∀i a,oG ks vs H1 i a->(aw W a\/ L a)/\∃j s,e1[j]? =some (some s)/\s.cX=true/\σ[j]? =some (some (.ref a))/\j∈bZ ks bs:=fun i a h=>by
  obtain⟨j,_,hs,hm,p,hp⟩:=wr i a h
  obtain⟨a',ha',hz,_⟩:=en.own hp
  rw[hs]at ha'
  cases ha'
  refine⟨hz,j,?_⟩
  rcases bQ hp with g|g
  ·exact⟨_,g,rfl,hs,hm⟩
  ·exact⟨_,g,rfl,hs,hm⟩
 have ML:∀a,(aw W a\/ L a)->aW M L a:=fun a z=>z.elim (fun⟨i,w⟩=>.inl (o.wm i a w)) .inr
 have nn:∀{a:Addr} {o:HO},Rd H1 a o->H1 a≠none:=fun h=>h.elim (fun h=>by rw[h];exact fun z=>nomatch z) fun⟨u,h⟩=>by rw[h];exact fun z=>nomatch z
 refine⟨aW M L,ps,r,qs,fun a z=>z.elim (fun z=>o1.old a (o1.mo a z)) fun z=>(o1.loc a z).1,by omega,by omega,fun i k p v h1 h2 h3=>?_,fun i j hij h1 h2 z=>?_,fun i a z=>ML a (wml i a z).1,g3,fun v H' kc res=>?_⟩
 ·obtain⟨b,hb,rb⟩:=rv.get h3
  have hone:=ap i k b p h1 hb h2
  cases k with
  |v=>
   cases b with
   |val p'=>cases hone;exact rb
   |new p'=>exact rb.elim
   |slot j=>cases hone
  | m=>
   cases b with
   |val p'=>cases hone
   |new p'=>cases hone
   |slot j=>
    obtain⟨a,hs,hz,c⟩:=en.own hone
    have rb':σ[j]? =some (some v):=rb
    rw[hs]at rb'
    cases rb'
    exact⟨a,rfl,⟨h1,h3⟩,c⟩
  | b=>
   have lendR:∀p,Rep K (aW M L) H1 p v->i4 K (aW M L) (oG ks vs H1) cT H1 i v (DT .b p):=fun p hr=>by
    cases hr with
    |lst h n r=>exact⟨_,rfl,.lst h (nn h) (fun⟨i',w⟩=>n (ML _ (wml i' _ w).1)) (fun z=>z) r⟩
    |a8 h n kk r=>exact⟨_,rfl,.a8 h (nn h) (fun⟨i',w⟩=>n (ML _ (wml i' _ w).1)) (fun z=>z) kk r⟩
    |bA=>exact Rep.bA
    |bl b=>exact Rep.bl b
    |int b=>exact Rep.int b
    |str b=>exact Rep.str b
    |ty b=>exact Rep.ty b
    |tup h r=>exact Rep.tup h r
   cases b with
   |val p'=>cases hone;exact lendR _ rb
   |new p'=>exact rb.elim
   | slot j=>
    have hone:rd e1 j=some p:=hone
    unfold Mr.rd at hone
    cases c:e1[j]? with
    |none=>rw[c]at hone;cases hone
    | some s=>
     cases s with
     |none=>rw[c]at hone;cases hone
     | some s=>
      rw[c]at hone
      cases hone
      obtain⟨u,hs,sr⟩:=en.at' j s c
      have rb':σ[j]? =some (some v):=rb
      rw[hs]at rb'
      cases rb'
      have nm:j∉bZ ks bs:=nb j (wI h1 hb)
      have nw:∀a,s.cX=true->σ[j]? =some (some (.ref a))->¬aw (oG ks vs H1) a:=fun a hm ha ⟨i',w⟩=>by
       obtain⟨_,j',s',hs',hm',ha',hj'⟩:=wml i' a w
       have ne:j≠j':=fun z=>nm (z▸hj')
       exact en.mW j j' s s' ne c hs' hm hm' (by rw[ha,ha'])
      cases s with
      |val p=>exact lendR p sr
      |own p=>
       obtain⟨a,e,w,ct⟩:=sr
       subst e
       cases ct with
       |lst h r=>exact⟨a,rfl,.lst (.inl h) (nn (.inl h)) (nw a rfl hs) (fun z=>z) r⟩
       |a8 h kk r=>exact⟨a,rfl,.a8 (.inl h) (nn (.inl h)) (nw a rfl hs) (fun z=>z) kk r⟩
      |loc p=>
       obtain⟨a,e,w,ct⟩:=sr
       subst e
       cases ct with
       |lst h r=>exact⟨a,rfl,.lst (.inl h) (nn (.inl h)) (nw a rfl hs) (fun z=>z) r⟩
       |a8 h kk r=>exact⟨a,rfl,.a8 (.inl h) (nn (.inl h)) (nw a rfl hs) (fun z=>z) kk r⟩
      |bor p=>
       obtain⟨a,e,ct⟩:=sr
       subst e
       cases ct with
       |lst h od n m r=>exact⟨a,rfl,.lst h (nn h) (fun⟨i',w⟩=>(wml i' a w).1.elim n m) (fun z=>z) r⟩
       |dO h r=>exact⟨a,rfl,.dO h r⟩
       |a8 h od n m kk r=>exact⟨a,rfl,.a8 h (nn h) (fun⟨i',w⟩=>(wml i' a w).1.elim n m) (fun z=>z) kk r⟩
 ·
  have hi:i<ks.length:=(List.getElem?_eq_some_iff.mp h1).1
  have hj:j<ks.length:=(List.getElem?_eq_some_iff.mp h2).1
  have vi:vs[i]? =some (vs[i]'(by omega)):=getElem?_eq_getElem (by omega)
  have vj:vs[j]? =some (vs[j]'(by omega)):=getElem?_eq_getElem (by omega)
  have key:∀(i:Nat) (v:V),ks[i]? =some Kd.m->vs[i]? =some v->∃(j:Nat) (a:Addr),v= .ref a/\bs[i]? =some (Bv.slot j)/\σ[j]? =some (some v)/\∃p,ownAt e1 j=some p:=fun i v h1 h3=>by
   obtain⟨b,hb,rb⟩:=rv.get h3
   have hi:i<ks.length:=(List.getElem?_eq_some_iff.mp h1).1
   have:=ap i _ b _ h1 hb (getElem?_eq_getElem (show i<ps.length by omega))
   cases b with
   |val p=>cases this
   |new p=>cases this
   |slot l=>
    obtain⟨a,ha,_,_⟩:=en.own this
    have rb':σ[l]? =some (some v):=rb
    rw[ha]at rb'
    cases rb'
    exact⟨l,a,rfl,hb,ha,_,this⟩
  obtain⟨l1,a1,x1,y1,z1,p1,w1⟩:=key i _ h1 vi
  obtain⟨l2,a2,x2,y2,z2,p2,w2⟩:=key j _ h2 vj
  by_cases hl:l1=l2
  ·subst hl;exact tH nd hij h1 h2 y1 y2
  ·have m1:∃s,e1[l1]? =some (some s)/\s.cX=true:=by rcases bQ w1 with g|g<;>exact⟨_,g,rfl⟩
   have m2:∃s,e1[l2]? =some (some s)/\s.cX=true:=by rcases bQ w2 with g|g<;>exact⟨_,g,rfl⟩
   obtain⟨s1,b1,c1⟩:=m1
   obtain⟨s2,b2,c2⟩:=m2
   refine en.mW l1 l2 s1 s2 hl b1 b2 c1 c2 ?_
   rw[z1,z2,<-Option.some.inj (vi.symm.trans (z.trans vj))]
 ·
  have kout:bX W L H1 H':=⟨fun a ob h n m=>kc.obj a ob h (fun⟨i,w⟩=>(wml i a w).1.elim n m) (fun z=>z),kc.tup,kc.cC⟩
  have pend:∀(Zf Lf:aI),(∀a ob,H1 a=some ob->¬aW M L a->¬Zf a)->(∀a,L a->Lf a)->(∀a ob,H1 a=some ob->¬L a->¬Lf a)->x8 K Zf W Lf H' σ (fun i=>∃j,(i,j)∈(bZ ks bs).zipIdx) e1:=fun Zf Lf hz hL hL2=>by
   have kf:cS (aW M L) Zf H1 H':=⟨kc.tup,fun a ob h n=>⟨kc.obj a ob h (fun⟨i,w⟩=>n (ML a (wml i a w).1)) (fun z=>z),hz a ob h n⟩⟩
   refine⟨en.len,fun i s hs=>?_,en.mW⟩
   obtain⟨u,h1,h2⟩:=en.at' i s hs
   have keepM:∀a,s.cX=true->¬(∃j,(i,j)∈(bZ ks bs).zipIdx)->u= .ref a->∀ob,H1 a=some ob->H' a=some ob:=fun a hm nt ev ob h=>by
    subst ev
    refine kc.obj a ob h (fun⟨i',w⟩=>?_) (fun z=>z)
    obtain⟨_,j',s',hs',hm',ha',hj'⟩:=wml i' a w
    obtain⟨n,hn⟩:=getElem?_of_mem hj'
    have ne:j'≠i:=fun z=>nt ⟨n,by rw[<-z];exact List.mem_zipIdx_iff_getElem?.mpr hn⟩
    exact en.mW j' i s' s ne hs' hs hm' hm (by rw[ha',h1])
   have rk:∀{a:Addr} {o:HO},Rd H1 a o->¬L a->¬Lf a:=fun h n=>h.elim (fun h=>hL2 _ _ h n) fun⟨u,h⟩=>hL2 _ _ h n
   refine⟨u,h1,fun z=>?_,fun hm=>?_⟩
   ·cases s with
    |val p=>exact Rep.aH kf h2
    |own p=>obtain⟨a,e,w,c⟩:=h2;exact⟨a,e,w,c.aH kf fun ob h=>keepM a rfl (z.elim id fun z=>nomatch z) e ob h⟩
    |loc p=>obtain⟨a,e,w,c⟩:=h2;exact⟨a,e,hL a w,c.aH kf fun ob h=>keepM a rfl (z.elim id fun z=>nomatch z) e ob h⟩
    |bor p=>
     obtain⟨a,e,c⟩:=h2
     refine⟨a,e,?_⟩
     cases c with
     |lst h od n m r=>exact .lst (h.elim (fun h=>.inl (kout.obj _ _ h n m)) fun⟨u,h⟩=>.inr ⟨u,kout.obj _ _ h n m⟩) od n (rk h m) (r.aH kf)
     |dO h r=>exact .dO h (r.aH kf)
     |a8 h od n m kk r=>exact .a8 (h.elim (fun h=>.inl (kout.obj _ _ h n m)) fun⟨u,h⟩=>.inr ⟨u,kout.obj _ _ h n m⟩) od n (rk h m) kk (r.aH kf)
   ·cases s with
    |val p=>cases hm
    |bor p=>cases hm
    |own p=>obtain⟨a,e,w,c⟩:=h2;exact⟨a,e,.inl ⟨p,rfl,w⟩⟩
    |loc p=>obtain⟨a,e,w,c⟩:=h2;exact⟨a,e,.inr ⟨p,rfl,hL a w⟩⟩
  have back:∀(Zf:aI),zM K Zf H' ks vs qs->∀i j p a,(i,j)∈(bZ ks bs).zipIdx->ownAt (qs.map fun q=>some (.own q)) j=some p->σ[i]? =some (some (.ref a))->gY K Zf H' a p:=fun Zf mu i j p a hm hp ha=>by
   have hm':=List.mem_zipIdx_iff_getElem?.mp hm
   obtain⟨v',a1,a2⟩:=pH rv g1 hm'
   dsimp only at a2
   rw[ha]at a2
   cases a2
   have hq:qs[j]? =some p:=by
    rcases bQ hp with g|g
    ·rw[getElem?_map]at g
     cases c:qs[j]? with
     |none=>rw[c]at g;cases g
     |some q'=>rw[c]at g;cases g;rfl
    ·rw[getElem?_map]at g
     cases c:qs[j]? with
     |none=>rw[c]at g;cases g
     |some q'=>rw[c]at g;cases g
   obtain⟨a',e,c⟩:=mu j _ p a1 hq
   cases e
   exact c
  cases fr with
  |false=>
   obtain⟨rr,mu⟩:=res
   exact q v H' (k1.trans kout) ⟨l4 (pend (aW M L) L (fun _ _ _ n=>n) (fun _ z=>z) fun _ _ _ n=>n) (back _ mu) g4,rr⟩ trivial
  | true=>
   obtain⟨a,rfl,na,c,mu⟩:=res
   have sub:∀b,aW M (aW L (one a)) b->aW (aW M L) (one a) b:=fun b z=>by
    rcases z with z|z|z
    ·exact .inl (.inl z)
    ·exact .inl (.inr z)
    ·exact .inr z
   have ne:∀b ob,H1 b=some ob->b≠a:=fun b ob h=>cA h na
   have mu':zM K (aW M (aW L (one a))) H' ks vs qs:=fun n v q' h1 h2=>by
    obtain⟨a',e,c⟩:=mu n v q' h1 h2
    exact⟨a',e,c.aH (.less sub) fun _ h=>h⟩
   refine q _ H' (k1.trans kout) ⟨a,rfl,fun z=>o1.old a z na,fun z=>(o1.loc a z).1 na,l4 (pend (aW M (aW L (one a))) (aW L (one a)) (fun b ob h n z=>?_) (fun _ z=>.inl z) fun b ob h n z=>z.elim n (ne b ob h)) (back _ mu') g4,fun i s hs hm e=>?_,c.aH (.less sub) fun _ h=>h⟩ (Fr.back (b:=.new r) k1.cC fun b e=>by cases e;exact na)
   ·rcases z with z|z|z
    ·exact n (.inl z)
    ·exact n (.inr z)
    ·exact ne b ob h z
   ·obtain⟨s',hs',hm'⟩:=k6 g4 i s hs hm
    obtain⟨u,h1,h2⟩:=en.at' i s' hs'
    rw[e]at h1
    cases h1
    cases s' with
    |val p=>cases hm'
    |bor p=>cases hm'
    |own p=>obtain⟨b,e,w,c⟩:=h2;cases e;obtain⟨ob,h,_⟩:=c.there;rw[na]at h;cases h
    |loc p=>obtain⟨b,e,w,c⟩:=h2;cases e;obtain⟨ob,h,_⟩:=c.there;rw[na]at h;cases h
end
end Mr
namespace Mr
open PySem PySem.Spec L2 PyProof.Rows
variable {a:Addr} {ys:Array Value} {X:Cx} {f:FE} {h:Heap} {H:Hp} {g':Int->Int->PV} {g:Int->Int->V} {ps:List PV} {vs xs:List V} {k n:Nat} {p q:PV} {r r':R2} {t:TE} {u v:Value} {W:WS} {L M O Wr Z:aI}
mutual
inductive Lies (h:Heap):PV->Value->Prop
 |bA:Lies h .bA .none
 |bl (b:Bool):Lies h (.bl b) (.bool b)
 |int (i:Int) (t:Tok):Lies h (.int i) (.int i t)
 |str (x:Str) (t:Tok):Lies h (.str x) (.str x t)
 |tup {a:Addr} {its:List Value} {ps:List PV}:IsTup h a its.toArray->bS h ps its->Lies h (.tup ps) (.ref a)
 |lst {a:Addr} {its:List Value} {ps:List PV}:h.IsList a its.toArray->bS h ps its->Lies h (.lst ps) (.ref a)
inductive bS (h:Heap):List PV->List Value->Prop
 |nil:bS h [] []
 |cons {p:PV} {v:Value} {ps:List PV} {vs:List Value}:Lies h p v->bS h ps vs->bS h (p::ps) (v::vs)
end
noncomputable def gD:Nat->PV->Bool
 |_,.bA=>true
 |_,.bl _=>true
 |_,.int _=>true
 |_,.str _=>true
 |n+1,.tup ps=>ps.all (gD n)
 |n+1,.lst ps=>ps.all (gD n)
 |_,_=>false
section
variable {X:Cx} {pins:List (Addr×Obj)} {σ:L2.St} {H:Hp} {s:Shared}
theorem Rep.lies (I:Inv X pins σ H s):∀{n:Nat} {p:PV} {x:V} {v:Value},gD n p=true->Rep X.K Z H p x->RelV x v->Lies s.heap p v
 |n,.bA,x,v,ok,h,r=>by cases h;cases r;exact .bA
 |n,.bl b,x,v,ok,h,r=>by cases h;cases r;exact .bl b
 |n,.int b,x,v,ok,h,r=>by cases h;obtain⟨t,rfl⟩:=r;exact .int b t
 |n,.str b,x,v,ok,h,r=>by cases h;obtain⟨t,rfl⟩:=r;exact .str b t
 |n,.ty b,x,v,ok,h,r=>by cases n<;>cases ok
 |n,.a8 b,x,v,ok,h,r=>by cases n<;>cases ok
 |0,.tup ps,x,v,ok,h,r=>by cases ok
 |0,.lst ps,x,v,ok,h,r=>by cases ok
 | n+1,.tup ps,x,v,ok,h,r=>by
  cases h with
  | tup h rl=>
   cases r
   obtain⟨its,rv,pl,_⟩:=I.tuple h.sq
   have key:∀(ps:List PV) (xs:List V) (its:List Value),ps.all (gD n)=true->bH X.K Z H ps xs->Vals xs its->bS s.heap ps its:=fun ps=>by
    induction ps with
    |nil=>intro xs its _ h1 h2;cases h1;cases h2;exact .nil
    | cons p ps ih=>
     intro xs its ha h1 h2
     rw[all_cons,and_eq_true]at ha
     cases h1 with
     |cons h1 r1=>
      cases h2 with
      |cons h2 r2=>exact .cons (Rep.lies I (n:=n) ha.1 h1 h2) (ih _ _ ha.2 r1 r2)
   exact .tup pl (key ps _ its ok rl rv)
 | n+1,.lst ps,x,v,ok,h,r=>by
  cases h with
  | lst h nz rl=>
   cases r
   obtain⟨its,rv,pl,_⟩:=I.list (show iB X.K H _ _ from .inl h)
   have key:∀(ps:List PV) (xs:List V) (its:List Value),ps.all (gD n)=true->bH X.K Z H ps xs->Vals xs its->bS s.heap ps its:=fun ps=>by
    induction ps with
    |nil=>intro xs its _ h1 h2;cases h1;cases h2;exact .nil
    | cons p ps ih=>
     intro xs its ha h1 h2
     rw[all_cons,and_eq_true]at ha
     cases h1 with
     |cons h1 r1=>
      cases h2 with
      |cons h2 r2=>exact .cons (Rep.lies I (n:=n) ha.1 h1 h2) (ih _ _ ha.2 r1 r2)
   exact .lst pl.isList (key ps _ its ok rl rv)
theorem bH.lies (I:Inv X pins σ H s):∀{ps:List PV} {xs:List V} {its:List Value},ps.all (gD n)=true->bH X.K Z H ps xs->Vals xs its->bS s.heap ps its
 |[],_,_,_,h1,h2=>by cases h1;cases h2;exact .nil
 | p::ps,_,_,ha,h1,h2=>by
  rw[all_cons,and_eq_true]at ha
  cases h1 with
  |cons h1 r1=>
   cases h2 with
   |cons h2 r2=>exact .cons (Rep.lies I (n:=n) ha.1 h1 h2) (bH.lies I ha.2 r1 r2)
theorem Red.lies (I:Inv X pins σ H s) {n:Nat} {x:V} (ok:gD n p=true) (h:Red X.K Z H p x) (r:RelV x v):Lies s.heap p v:=by
 cases h with
 |rep h=>exact h.lies I ok r
 | lst h rl=>
  cases r
  cases n with
  |zero=>cases ok
  |succ n=>
   obtain⟨its,rv,pl,_⟩:=I.list h.sq
   exact .lst pl.isList (bH.lies I (n:=n) ok rl rv)
 |a8 h e r=>cases n<;>cases ok
end
mutual
noncomputable def bK:PV->PV->Bool
 | .bA,.bA=>true
 | .bl a,.bl b=>a==b
 | .bl a,.int b=>(if a then 1 else 0)==b
 | .int a,.bl b=>a==(if b then 1 else 0)
 | .int a,.int b=>a==b
 | .str a,.str b=>a==b
 | .tup xs,.tup ys=>cO xs ys
 | .lst xs,.lst ys=>cO xs ys
 |_,_=>false
noncomputable def cO:List PV->List PV->Bool
 |[],[]=>true
 |x::xs,y::ys=>bK x y && cO xs ys
 |_,_=>false
end
theorem mN {xs ys:List PV}:bK (.tup xs) (.tup ys)=cO xs ys:=by rw[bK]
theorem rW {xs ys:List PV}:bK (.lst xs) (.lst ys)=cO xs ys:=by rw[bK]
theorem bS.length:∀{ps:List PV} {vs:List Value},bS h ps vs->ps.length=vs.length
 |_,_,.nil=>rfl
 |_,_,.cons _ r=>by rw[length_cons,length_cons,bS.length r]
theorem bS.get:∀{ps:List PV} {vs:List Value} {i:Nat} {v:Value},bS h ps vs->vs[i]? =some v->∃p,ps[i]? =some p/\Lies h p v
 |_,_,_,_,.nil,e=>by simp at e
 |_,_,0,_,.cons q _,e=>by simp at e;subst e;exact⟨_,rfl,q⟩
 |_,_,i+1,_,.cons _ r,e=>by
  obtain⟨v,h1,h2⟩:=bS.get (i:=i) r (by simpa using e)
  exact⟨v,by simpa using h1,h2⟩
theorem F3 {xs:Array Value} (h1:IsTup h a xs) (h2:IsTup h a ys):xs=ys:=by
 obtain⟨o,g,_,n,d⟩:=h1
 obtain⟨o',g',_,n',d'⟩:=h2
 rw[g]at g'
 cases g'
 rw[d]at d'
 injection d'
theorem ES {xs:Array Value} (h1:h.IsList a xs) (h2:h.IsList a ys):xs=ys:=by
 obtain⟨o,g,_,n,d⟩:=h1
 obtain⟨o',g',_,n',d'⟩:=h2
 rw[g]at g'
 cases g'
 rw[d]at d'
 injection d'
theorem rZ {xs:Array Value} (h1:IsTup h a xs) (h2:h.IsList a ys):False:=by
 obtain⟨o,g,c,n,d⟩:=h1
 obtain⟨o',g',c',n',d'⟩:=h2
 rw[g]at g'
 cases g'
 rw[c]at c'
 exact absurd c' (by decide)
mutual
theorem Lies.same {h:Heap}:∀{p:PV} {v:Value},Lies h p v->∀{q:PV},Lies h q v->bK p q=true
 |_,_,.bA,q,k=>by cases k;rfl
 |_,_,.bl b,q,k=>by cases k;exact beq_self_eq_true b
 |_,_,.int i t,q,k=>by cases k;exact beq_self_eq_true i
 |_,_,.str i t,q,k=>by cases k;exact beq_self_eq_true i
 | _,_,.tup ht r,q,k=>by
  cases k with
  |tup ht' r'=>
   have e:_=_:=F3 ht ht'
   have e:=congrArg Array.toList e
   simp only[toList_toArray]at e
   subst e
   unfold bK
   exact bS.same r r'
  |lst hl r'=>exact(rZ ht hl).elim
 | _,_,.lst ht r,q,k=>by
  cases k with
  |tup ht' r'=>exact(rZ ht' ht).elim
  |lst hl r'=>
   have e:=congrArg Array.toList (ES ht hl)
   simp only[toList_toArray]at e
   subst e
   unfold bK
   exact bS.same r r'
theorem bS.same {h:Heap}:∀{p:List PV} {v:List Value},bS h p v->∀{q:List PV},bS h q v->cO p q=true
 |_,_,.nil,q,k=>by cases k;rfl
 |_,_,.cons h1 r1,q,k=>by
  cases k with
  |cons h2 r2=>unfold cO;rw[Lies.same h1 h2,bS.same r1 r2];rfl
end
mutual
theorem Lies.fn {h:Heap}:∀{p:PV} {v:Value},Lies h p v->∀{q:PV},Lies h q v->p=q
 |_,_,.bA,q,k=>by cases k;rfl
 |_,_,.bl b,q,k=>by cases k;rfl
 |_,_,.int i t,q,k=>by cases k;rfl
 |_,_,.str i t,q,k=>by cases k;rfl
 | _,_,.tup ht r,q,k=>by
  cases k with
  |tup ht' r'=>
   have e:=congrArg Array.toList (F3 ht ht')
   simp only[toList_toArray]at e
   subst e
   rw[bS.fn r r']
  |lst hl r'=>exact(rZ ht hl).elim
 | _,_,.lst ht r,q,k=>by
  cases k with
  |tup ht' r'=>exact(rZ ht' ht).elim
  |lst hl r'=>
   have e:=congrArg Array.toList (ES ht hl)
   simp only[toList_toArray]at e
   subst e
   rw[bS.fn r r']
theorem bS.fn {h:Heap}:∀{p:List PV} {v:List Value},bS h p v->∀{q:List PV},bS h q v->p=q
 |_,_,.nil,q,k=>by cases k;rfl
 |_,_,.cons h1 r1,q,k=>by
  cases k with
  |cons h2 r2=>rw[Lies.fn h1 h2,bS.fn r1 r2]
end
theorem fD:∀{ps qs:List PV},((List.range (min ps.length qs.length)).all (fun j=>bK (ps.getD j .bA) (qs.getD j .bA)) && ps.length==qs.length)=cO ps qs
 |[],[]=>rfl
 |[],_::_=>by unfold cO;simp
 |_::_,[]=>by unfold cO;simp
 | p::ps,q::qs=>by
  have ih:=fD (ps:=ps) (qs:=qs)
  unfold cO
  rw[<-ih]
  have e:min (p::ps).length (q::qs).length=min ps.length qs.length+1:=by simp only[length_cons];omega
  rw[e,List.range_succ_eq_map,all_cons,all_map]
  have e2:((p::ps).length==(q::qs).length)=(ps.length==qs.length):=by
   rw[Bool.eq_iff_iff];simp
  rw[e2,Bool.and_assoc]
  rfl
section
variable {A:Around} {s:Shared}
theorem toArr {vs:List Value} {j:Nat} (h:j<vs.toArray.size):vs[j]? =some (vs.toArray[j]):=by simp at h⊢
theorem yJ:∀(n:Nat) (A:Around) {p q:PV} {v u:Value},A.units+n<cLine->gD n p=true->gD n q=true->Lies s.heap p v->Lies s.heap q u->SeqAt.EqAt A s v u (bK p q):=by
 intro n
 induction n with
 | zero=>
  intro A p q v u hu o1 o2 h1 h2
  cases h1 with
  |tup _ _=>cases o1
  |lst _ _=>cases o1
  |bA=>
   cases h2 with
   |tup _ _=>cases o2
   |lst _ _=>cases o2
   |bA=>exact .same _
   |bl b=>exact .none_bool b
   |int b t=>exact .none_int b t
   |str b t=>exact .none_str b t
  |bl a=>
   cases h2 with
   |tup _ _=>cases o2
   |lst _ _=>cases o2
   |bA=>exact .bool_none a
   |bl b=>exact .bool_bool a b
   |int b t=>exact .bool_int a b t
   |str b t=>exact .bool_str a b t
  |int a t'=>
   cases h2 with
   |tup _ _=>cases o2
   |lst _ _=>cases o2
   |bA=>exact .int_none a t'
   |bl b=>exact .int_bool a t' b
   |int b t=>exact .int_int a t' b t
   |str b t=>exact .int_str a t' b t
  |str a t'=>
   cases h2 with
   |tup _ _=>cases o2
   |lst _ _=>cases o2
   |bA=>exact .str_none a t'
   |bl b=>exact .str_bool a t' b
   |int b t=>exact .str_int a t' b t
   |str b t=>exact .str_str a t' b t
 | succ n ih=>
  intro A p q v u hu o1 o2 h1 h2
  have hu0:A.units<cLine:=by omega
  have hin:A.in1.units=A.units+1:=rfl
  have els:∀{ps qs:List PV} {vs us:List Value},ps.all (gD n)=true->qs.all (gD n)=true->bS s.heap ps vs->bS s.heap qs us->∀(j:Nat) (g1:j<vs.toArray.size) (g2:j<us.toArray.size),SeqAt.EqAt A.in1 s vs.toArray[j] us.toArray[j] (bK (ps.getD j .bA) (qs.getD j .bA)):=fun{ps qs vs us} a1 a2 l1 l2 j g1 g2=>by
   obtain⟨x,ex,rx⟩:=l1.get (toArr g1)
   obtain⟨y,ey,ry⟩:=l2.get (toArr g2)
   rw[getD_eq_getElem?_getD,getD_eq_getElem?_getD,ex,ey]
   exact ih A.in1 (by omega) (all_eq_true.mp a1 _ (mem_of_getElem? ex)) (all_eq_true.mp a2 _ (mem_of_getElem? ey)) rx ry
  cases h1 with
  | tup ht r=>
   cases h2 with
   | tup ht' r'=>
    rename_i a its ps a' its' ps'
    by_cases hab:a=a'
    ·subst hab
     rw[Lies.same (.tup ht r) (.tup ht' r')]
     exact .same _
    ·refine .of_refs hab ?_
     have e:bK (.tup ps) (.tup ps')=((List.range (min its.toArray.size its'.toArray.size)).all (fun j=>bK (ps.getD j .bA) (ps'.getD j .bA)) && its.toArray.size==its'.toArray.size):=by
      rw[mN,<-fD,r.length,r'.length,size_toArray,size_toArray]
     rw[e]
     exact SeqAt.RcAt.tuples (e:=fun j=>bK (ps.getD j .bA) (ps'.getD j .bA)) ht ht' hu0 (els o1 o2 r r')
   |lst hl r'=>exact .tuple_list ht hl hu0
   |bA=>exact .tuple_none ht hu0
   |bl b=>exact .tuple_bool b ht hu0
   |int b t=>exact .tuple_int b t ht hu0
   |str b t=>exact .tuple_str b t ht hu0
  | lst ht r=>
   cases h2 with
   |tup ht' r'=>exact .list_tuple ht ht' hu0
   | lst ht' r'=>
    rename_i a its ps a' its' ps'
    by_cases hab:a=a'
    ·subst hab
     rw[Lies.same (.lst ht r) (.lst ht' r')]
     exact .same _
    ·refine .of_refs hab ?_
     by_cases hsz:its.length=its'.length
     ·have e:bK (.lst ps) (.lst ps')=(List.range its.toArray.size).all (fun j=>bK (ps.getD j .bA) (ps'.getD j .bA)):=by
       rw[rW,<-fD,r.length,r'.length,size_toArray,<-hsz,Nat.min_self,beq_self_eq_true,Bool.and_true]
      rw[e]
      exact SeqAt.RcAt.lists (e:=fun j=>bK (ps.getD j .bA) (ps'.getD j .bA)) ht ht' (by simp[hsz]) hu0 (els o1 o2 r r')
     ·have e:bK (.lst ps) (.lst ps')=false:=by
       rw[rW,<-fD,r.length,r'.length,show(its.length==its'.length)=false by simp[hsz],Bool.and_false]
      rw[e]
      exact SeqAt.RcAt.lists_lengths ht ht' (by simp[hsz]) hu0
   |bA=>exact .list_none ht hu0
   |bl b=>exact .list_bool b ht hu0
   |int b t=>exact .list_int b t ht hu0
   |str b t=>exact .list_str b t ht hu0
  |bA=>
   cases h2 with
   |tup ht' r'=>exact .none_tuple ht' hu0
   |lst hl r'=>exact .none_list hl hu0
   |bA=>exact .same _
   |bl b=>exact .none_bool b
   |int b t=>exact .none_int b t
   |str b t=>exact .none_str b t
  |bl a=>
   cases h2 with
   |tup ht' r'=>exact .bool_tuple a ht' hu0
   |lst hl r'=>exact .bool_list a hl hu0
   |bA=>exact .bool_none a
   |bl b=>exact .bool_bool a b
   |int b t=>exact .bool_int a b t
   |str b t=>exact .bool_str a b t
  |int a t'=>
   cases h2 with
   |tup ht' r'=>exact .int_tuple a t' ht' hu0
   |lst hl r'=>exact .int_list a t' hl hu0
   |bA=>exact .int_none a t'
   |bl b=>exact .int_bool a t' b
   |int b t=>exact .int_int a t' b t
   |str b t=>exact .int_str a t' b t
  |str a t'=>
   cases h2 with
   |tup ht' r'=>exact .str_tuple a t' ht' hu0
   |lst hl r'=>exact .str_list a t' hl hu0
   |bA=>exact .str_none a t'
   |bl b=>exact .str_bool a t' b
   |int b t=>exact .str_int a t' b t
   |str b t=>exact .str_str a t' b t
theorem NZ {A:Around} (hu:A.units+(n+1)<cLine) (o1:gD (n+1) p=true) (o2:gD (n+1) q=true) (h1:Lies s.heap p v) (h2:Lies s.heap q u):SeqAt.RcAt A s v u (bK p q)/\SeqAt.RcNeAt A s v u (!bK p q):=by
 have hu0:A.units<cLine:=by omega
 have hin:A.in1.units=A.units+1:=rfl
 have els:∀{ps qs:List PV} {vs us:List Value},ps.all (gD n)=true->qs.all (gD n)=true->bS s.heap ps vs->bS s.heap qs us->∀(j:Nat) (g1:j<vs.toArray.size) (g2:j<us.toArray.size),SeqAt.EqAt A.in1 s vs.toArray[j] us.toArray[j] (bK (ps.getD j .bA) (qs.getD j .bA)):=fun{ps qs vs us} a1 a2 l1 l2 j g1 g2=>by
  obtain⟨x,ex,rx⟩:=l1.get (toArr g1)
  obtain⟨y,ey,ry⟩:=l2.get (toArr g2)
  rw[getD_eq_getElem?_getD,getD_eq_getElem?_getD,ex,ey]
  exact yJ n A.in1 (by omega) (all_eq_true.mp a1 _ (mem_of_getElem? ex)) (all_eq_true.mp a2 _ (mem_of_getElem? ey)) rx ry
 cases h1 with
 | tup ht r=>
  cases h2 with
  | tup ht' r'=>
   rename_i a its ps a' its' ps'
   have e:bK (.tup ps) (.tup ps')=((List.range (min its.toArray.size its'.toArray.size)).all (fun j=>bK (ps.getD j .bA) (ps'.getD j .bA)) && its.toArray.size==its'.toArray.size):=by
    rw[mN,<-fD,r.length,r'.length,size_toArray,size_toArray]
   rw[e]
   exact⟨SeqAt.RcAt.tuples (e:=fun j=>bK (ps.getD j .bA) (ps'.getD j .bA)) ht ht' hu0 (els o1 o2 r r'),SeqAt.RcNeAt.tuples (e:=fun j=>bK (ps.getD j .bA) (ps'.getD j .bA)) ht ht' hu0 (els o1 o2 r r')⟩
  |lst hl r'=>exact⟨.tuple_list ht hl hu0,.tuple_list ht hl hu0⟩
  |bA=>exact⟨.tuple_none ht hu0,.tuple_none ht hu0⟩
  |bl b=>exact⟨.tuple_bool b ht hu0,.tuple_bool b ht hu0⟩
  |int b t=>exact⟨.tuple_int b t ht hu0,.tuple_int b t ht hu0⟩
  |str b t=>exact⟨.tuple_str b t ht hu0,.tuple_str b t ht hu0⟩
 | lst ht r=>
  cases h2 with
  |tup ht' r'=>exact⟨.list_tuple ht ht' hu0,.list_tuple ht ht' hu0⟩
  | lst ht' r'=>
   rename_i a its ps a' its' ps'
   by_cases hsz:its.length=its'.length
   ·have e:bK (.lst ps) (.lst ps')=(List.range its.toArray.size).all (fun j=>bK (ps.getD j .bA) (ps'.getD j .bA)):=by
     rw[rW,<-fD,r.length,r'.length,size_toArray,<-hsz,Nat.min_self,beq_self_eq_true,Bool.and_true]
    rw[e]
    exact⟨SeqAt.RcAt.lists (e:=fun j=>bK (ps.getD j .bA) (ps'.getD j .bA)) ht ht' (by simp[hsz]) hu0 (els o1 o2 r r'),SeqAt.RcNeAt.lists (e:=fun j=>bK (ps.getD j .bA) (ps'.getD j .bA)) ht ht' (by simp[hsz]) hu0 (els o1 o2 r r')⟩
   ·have e:bK (.lst ps) (.lst ps')=false:=by
     rw[rW,<-fD,r.length,r'.length,show(its.length==its'.length)=false by simp[hsz],Bool.and_false]
    rw[e]
    exact⟨SeqAt.RcAt.lists_lengths ht ht' (by simp[hsz]) hu0,SeqAt.RcNeAt.lists_lengths ht ht' (by simp[hsz]) hu0⟩
  |bA=>exact⟨.list_none ht hu0,.list_none ht hu0⟩
  |bl b=>exact⟨.list_bool b ht hu0,.list_bool b ht hu0⟩
  |int b t=>exact⟨.list_int b t ht hu0,.list_int b t ht hu0⟩
  |str b t=>exact⟨.list_str b t ht hu0,.list_str b t ht hu0⟩
 |bA=>
  cases h2 with
  |tup ht' r'=>exact⟨.none_tuple ht' hu0,.none_tuple ht' hu0⟩
  |lst hl r'=>exact⟨.none_list hl hu0,.none_list hl hu0⟩
  |bA=>exact⟨.none_none,.none_none⟩
  |bl b=>exact⟨.none_bool b,.none_bool b⟩
  |int b t=>exact⟨.none_int b t,.none_int b t⟩
  |str b t=>exact⟨.none_str b t,.none_str b t⟩
 |bl a=>
  cases h2 with
  |tup ht' r'=>exact⟨.bool_tuple a ht' hu0,.bool_tuple a ht' hu0⟩
  |lst hl r'=>exact⟨.bool_list a hl hu0,.bool_list a hl hu0⟩
  |bA=>exact⟨.bool_none a,.bool_none a⟩
  |bl b=>exact⟨.bool_bool a b,.bool_bool a b⟩
  |int b t=>exact⟨.bool_int a b t,.bool_int a b t⟩
  |str b t=>exact⟨.bool_str a b t,.bool_str a b t⟩
 |int a t'=>
  cases h2 with
  |tup ht' r'=>exact⟨.int_tuple a t' ht' hu0,.int_tuple a t' ht' hu0⟩
  |lst hl r'=>exact⟨.int_list a t' hl hu0,.int_list a t' hl hu0⟩
  |bA=>exact⟨.int_none a t',.int_none a t'⟩
  |bl b=>exact⟨.int_bool a t' b,.int_bool a t' b⟩
  |int b t=>exact⟨.int_int a t' b t,.int_int a t' b t⟩
  |str b t=>exact⟨.int_str a t' b t,.int_str a t' b t⟩
 |str a t'=>
  cases h2 with
  |tup ht' r'=>exact⟨.str_tuple a t' ht' hu0,.str_tuple a t' ht' hu0⟩
  |lst hl r'=>exact⟨.str_list a t' hl hu0,.str_list a t' hl hu0⟩
  |bA=>exact⟨.str_none a t',.str_none a t'⟩
  |bl b=>exact⟨.str_bool a t' b,.str_bool a t' b⟩
  |int b t=>exact⟨.str_int a t' b t,.str_int a t' b t⟩
  |str b t=>exact⟨.str_str a t' b t,.str_str a t' b t⟩
end
noncomputable def PC (K:Frag) (neg:Bool):R2:=fun x y H Q=>∃p q,Red K cT H p x/\Red K cT H q y/\gD 9 p=true/\gD 9 q=true/\Q (.bl (if neg then !bK p q else bK p q)) H
noncomputable def D6:PV->Option (List PV)
 | .lst ps=>some ps
 | .tup ps=>some ps
 |_=>none
noncomputable def PB (K:Frag) (neg:Bool):R2:=fun x y H Q=>∃p q ps,Red K cT H p x/\Red K cT H q y/\D6 q=some ps/\gD 8 p=true/\ps.all (gD 8)=true/\Q (.bl (if neg then !ps.any (fun z=>bK z p)else ps.any fun z=>bK z p)) H
section
variable {X:Cx} {k:Nat}
theorem A2 (K:Frag) (hr:dX k X.A) (hK:X.K=K:=by rfl):iV X (compareOp .Eq) (PC K false):=by
 subst hK
 intro pins s σ H x y v u Q I rx ry h
 obtain⟨p,q,h1,h2,o1,o2,hQ⟩:=h
 exact(NZ (n:=8) (by have:=hr.un;omega) o1 o2 (h1.lies I o1 rx) (h2.lies I o2 ry)).1 _ _ _ _ (iF I hQ rfl)
theorem BK (K:Frag) (hr:dX k X.A) (hK:X.K=K:=by rfl):iV X (compareOp .NotEq) (PC K true):=by
 subst hK
 intro pins s σ H x y v u Q I rx ry h
 obtain⟨p,q,h1,h2,o1,o2,hQ⟩:=h
 exact(NZ (n:=8) (by have:=hr.un;omega) o1 o2 (h1.lies I o1 rx) (h2.lies I o2 ry)).2 _ _ _ _ (iF I hQ rfl)
theorem bS.any {e:Value->Bool} {f:PV->Bool} (he:∀{q:PV} {y:Value},Lies h q y->e y=f q):∀{ps:List PV} {its:List Value},bS h ps its->its.any e=ps.any f
 |_,_,.nil=>rfl
 |_,_,.cons h r=>by rw[any_cons,any_cons,he h,bS.any he r]
theorem xW {s:Shared} {A:Around} (hu:A.units+8<cLine) (op:gD 8 p=true) (hp:Lies s.heap p u) {its:List Value} (ops:ps.all (gD 8)=true) (hl:bS s.heap ps its):
  ∃e:Value->Bool,(∀y,y∈its.toArray->SeqAt.EqAt A s y u (e y))/\its.toArray.any e=ps.any fun z=>bK z p:=by
 classical
 let e:Value->Bool:=fun y=>if c:∃q,Lies s.heap q y then bK c.choose p else false
 have he:∀{q:PV} {y:Value},Lies s.heap q y->e y=bK q p:=fun{q y} h=>by
  have c:∃q,Lies s.heap q y:=⟨q,h⟩
  show(if c:∃q,Lies s.heap q y then bK c.choose p else false)=_
  rw[dif_pos c,Lies.fn c.choose_spec h]
 refine⟨e,fun y hy=>?_,?_⟩
 ·obtain⟨j,hj⟩:=getElem?_of_mem (show y∈its by simpa using hy)
  obtain⟨q,h1,h2⟩:=hl.get hj
  rw[he h2]
  exact yJ 8 A hu (all_eq_true.mp ops _ (mem_of_getElem? h1)) op h2 hp
 ·rw[List.any_toArray]
  exact bS.any (fun h=>he h) hl
theorem adC (K:Frag) (hr:dX k X.A) (hK:X.K=K:=by rfl):iV X (compareOp .In) (PB K false):=by
 subst hK
 intro pins s σ H x y v u Q I rx ry h
 obtain⟨p,q,ps,h1,h2,hi,o1,o2,hQ⟩:=h
 have hu:X.A.in1.units+8<cLine:=by have:=hr.un;show X.A.units+1+8<_;omega
 have lp:=h1.lies I o1 rx
 cases q with
 | lst qs=>
  cases hi
  cases h2.lies I (n:=9) (p:=.lst _) o2 ry with
  |lst hl r=>
   obtain⟨e,e1,e2⟩:=xW hu o1 lp o2 r
   exact SeqAt.in_listAt e hl e1 (by rw[e2];exact iF I hQ rfl)
 | tup qs=>
  cases hi
  cases h2.lies I (n:=9) (p:=.tup _) o2 ry with
  |tup hl r=>
   obtain⟨e,e1,e2⟩:=xW hu o1 lp o2 r
   exact SeqAt.in_tupleAt e hl e1 (by rw[e2];exact iF I hQ rfl)
 |_=>cases hi
theorem RO (K:Frag) (hr:dX k X.A) (hK:X.K=K:=by rfl):iV X (compareOp .NotIn) (PB K true):=by
 subst hK
 intro pins s σ H x y v u Q I rx ry h
 obtain⟨p,q,ps,h1,h2,hi,o1,o2,hQ⟩:=h
 have hu:X.A.in1.units+8<cLine:=by have:=hr.un;show X.A.units+1+8<_;omega
 have lp:=h1.lies I o1 rx
 cases q with
 | lst qs=>
  cases hi
  cases h2.lies I (n:=9) (p:=.lst _) o2 ry with
  |lst hl r=>
   obtain⟨e,e1,e2⟩:=xW hu o1 lp o2 r
   exact SeqAt.notIn_listAt e hl e1 (by rw[e2];exact iF I hQ rfl)
 | tup qs=>
  cases hi
  cases h2.lies I (n:=9) (p:=.tup _) o2 ry with
  |tup hl r=>
   obtain⟨e,e1,e2⟩:=xW hu o1 lp o2 r
   exact SeqAt.notIn_tupleAt e hl e1 (by rw[e2];exact iF I hQ rfl)
 |_=>cases hi
end
section
variable {K:Frag}
theorem dZ.or {g g':PV->PV->Option Bv} (h:dZ K r g) (h':dZ K r' g'):dZ K (fun x y H Q=>r x y H Q\/ r' x y H Q) (fun p q=>(g p q).or (g' p q)):=by
 intro Z H x y p q b Q hp hq hg k
 have hg:(g p q).or (g' p q)=some b:=hg
 cases c:g p q with
 |some b'=>rw[c]at hg;cases hg;exact .inl (h Z H x y p q _ Q hp hq c k)
 |none=>rw[c]at hg;exact .inr (h' Z H x y p q b Q hp hq hg k)
theorem gP.or {r r':List V->Hp->VK->Prop} {g g':List PV->Option Bv} (h:gP K r g) (h':gP K r' g'):gP K (fun x H Q=>r x H Q\/ r' x H Q) (fun p=>(g p).or (g' p)):=by
 intro Z H x p b Q hp hg k
 have hg:(g p).or (g' p)=some b:=hg
 cases c:g p with
 |some b'=>rw[c]at hg;cases hg;exact .inl (h Z H x p _ Q hp c k)
 |none=>rw[c]at hg;exact .inr (h' Z H x p b Q hp hg k)
noncomputable def gI (C:Int->Int->Bool) (g:Int->Int->PV):PV->PV->Option Bv
 | .int i,.int j=>aQ (C i j) (some (.val (g i j)))
 |_,_=>none
theorem LF {C:Int->Int->Prop} {D:Int->Int->Bool} (hD:∀i j,D i j=true->C i j) (hg:∀i j Z H,Rep K Z H (g' i j) (g i j)):dZ K (rI C g) (gI D g'):=by
 intro Z H x y p q b Q hp hq h k
 cases p with
 | int i=>
  cases q with
  |int j=>
   obtain⟨c,h⟩:=aL h
   cases h
   exact⟨i,j,hp.int,hq.int,hD i j c,k _ H (aZ.refl _) (hg i j Z H)⟩
  |_=>cases h
 |_=>cases h
noncomputable def SV (g:Int->Int->PV):PV->PV->Option Bv
 | .int i,.int j=>some (.val (g i j))
 |_,_=>none
theorem BH (hg:∀i j Z H,Rep K Z H (g' i j) (g i j)):dZ K (IH g) (SV g'):=by
 intro Z H x y p q b Q hp hq h k
 cases p with
 |int i=>
  cases q with
  |int j=>cases h;exact⟨i,j,hp.int,hq.int,k _ H (aZ.refl _) (hg i j Z H)⟩
  |_=>cases h
 |_=>cases h
noncomputable def zE:PV->PV->Option Bv:=SV fun i j=>.int (i - j)
theorem KL:dZ K (IH fun i j=>.int (i - j)) zE:=BH fun _ _ _ _=>.int _
noncomputable def vZ (i j:Int):Bool:=decide ((-18446744073709551616<i/\i<18446744073709551616)\/ (-18446744073709551616<j/\j<18446744073709551616))
noncomputable def qC:PV->PV->Option Bv:=gI vZ fun i j=>.int (i*j)
theorem JO:dZ K (rI OW fun i j=>.int (i*j)) qC:=LF (fun i j h=>by have:=of_decide_eq_true h;show(-(2^64)<i/\i<2^64)\/ (-(2^64)<j/\j<2^64);omega) fun _ _ _ _=>.int _
noncomputable def JZ:PV->PV->Option Bv:=gI (fun _ j=>decide (0<j/\j<1000000000000000000000000)) fun i j=>.int (i / j)
theorem KQ:dZ K (rI T2 fun i j=>.int (i / j)) JZ:=LF (fun i j h=>by have:=of_decide_eq_true h;show 0<j/\j<2^200;omega) fun _ _ _ _=>.int _
noncomputable def m4:PV->PV->Option Bv:=gI (fun _ j=>decide (0<j)) fun i j=>.int (i % j)
theorem LY:dZ K (rI (fun _ j=>0<j) fun i j=>.int (i % j)) m4:=LF (fun _ _ h=>of_decide_eq_true h) fun _ _ _ _=>.int _
noncomputable def rF:PV->PV->Option Bv:=gI (fun i j=>decide (0<=j/\(Builtin.Int.intBits i:Int)*j<=2^27)) fun i j=>.int (i^j.toNat)
theorem OI:dZ K (rI (fun i j=>0<=j/\(Builtin.Int.intBits i:Int)*j<=2^27) fun i j=>.int (i^j.toNat)) rF:=LF (fun _ _ h=>of_decide_eq_true h) fun _ _ _ _=>.int _
noncomputable def OX:PV->Option Bv
 | .int i=>some (.val (.int (-i)))
 |_=>none
theorem NJ:ZY K (rU fun i=>.int (-i)) OX:=by
 intro Z H x p b Q hp h k
 cases p with
 |int i=>cases h;exact⟨i,hp.int,k _ H (aZ.refl _) (Rep.int (-i))⟩
 |_=>cases h
noncomputable def JX:PV->PV->Option Bv
 | .str i,.str j=>aQ (decide (i.length+j.length<1000000)) (some (.val (.str (i++j))))
 |_,_=>none
theorem Q8:dZ K (fun x y H Q=>∃i j,x= .str i/\y= .str j/\i.length+j.length<=sizeLine/\Q (.str (i++j)) H) JX:=by
 intro Z H x y p q b Q hp hq h k
 cases p with
 | str i=>
  cases q with
  |str j=>
   obtain⟨c,h⟩:=aL h
   cases h
   exact⟨i,j,hp.str,hq.str,le_of_lt (iQ c),k _ H (aZ.refl _) (Rep.str (i++j))⟩
  |_=>cases h
 |_=>cases h
noncomputable def M3 (K:Frag):R2:=fun x y H Q=>∃a b xs ys,x= .ref a/\y= .ref b/\iB K H a xs/\iB K H b ys/\xs.length+ys.length<=sizeLine/\∀p,H p=none->Q (.ref p) (upd H p (.lst (xs++ys)))
theorem aeH (K:Frag) (hK:X.K=K:=by rfl):iV X (binaryOp .Add) (M3 K):=by
 subst hK
 intro pins s σ H x y v u Q I rx ry h
 obtain⟨a,b,xs,ys,rfl,rfl,ha,hb,hz,q⟩:=h
 cases rx
 cases ry
 obtain⟨its,r1,p1,_⟩:=I.list ha
 obtain⟨its2,r2,p2,_⟩:=I.list hb
 obtain⟨⟨cls,dd,data,sl⟩,ho,hc,n,hd⟩:=id p1.isList
 obtain⟨⟨cls2,dd2,data2,sl2⟩,ho2,hc2,n2,hd2⟩:=id p2.isList
 simp only at hc hd hc2 hd2
 subst hc hd hc2 hd2
 have l1:=r1.length
 have l2:=r2.length
 have e:its.toArray++its2.toArray=(its++its2).toArray:=by simp
 refine concat_meets ⟨_,ho,rfl⟩ ⟨_,ho2,rfl⟩ noFill_list_add seq_list_add PySem.F.slot_list_add PySem.F.entry_list_add (PySem.F.args_list_add_2 _ _) (list_addW a b its.toArray its2.toArray n n2 dd dd2 sl sl2 (by simp only[size_toArray];omega)) ⟨ho,ho2,?_⟩
 rw[e]
 exact⟨.ref s.heap.objs.size,_,I.laid (t':=s.toks) (o:=.lst (xs++ys)) (fun b ob q=>get?_push_of_some _ q) (le_refl _) ⟨by rw[length_append];exact hz,its++its2,0,r1.append r2,get?_push_size _ rfl⟩,rfl,q _ (I.bP.fresh (le_refl _))⟩
noncomputable def N4:PV->PV->Option Bv
 | .lst i,.lst j=>aQ (decide (i.length+j.length<1000000)) (some (.new (.lst (i++j))))
 |_,_=>none
theorem AA (hl:H a=none) (r:bH K Z H ps xs):RN K Z H (upd H a (.lst xs)) (.ref a) (.new (.lst ps)):=
 ⟨a,rfl,hl,.lst aU (r.aH (.new (aZ.upd hl) hl))⟩
theorem QZ:dZ K (M3 K) N4:=by
 intro Z H x y p q b Q hp hq h k
 cases p with
 | lst i=>
  cases q with
  |lst j=>
   obtain⟨c,h⟩:=aL h
   cases h
   obtain⟨a,xs,rfl,ha,ra⟩:=hp.lZ
   obtain⟨a',ys,rfl,ha',ra'⟩:=hq.lZ
   exact⟨a,a',xs,ys,rfl,rfl,ha.sq,ha'.sq,by rw[<-ra.length,<-ra'.length];exact le_of_lt (iQ c),fun l hl=>k _ _ (aZ.upd hl) (AA hl (ra.app ra'))⟩
  |_=>cases h
 |_=>cases h
noncomputable def KW (K:Frag):R2:=fun x y H Q=>∃a b xs ys,x= .ref a/\y= .ref b/\TupAt K H a xs/\TupAt K H b ys/\xs.length+ys.length<=sizeLine/\∀p H',aZ H H'->TupAt K H' p (xs++ys)->Q (.ref p) H'
theorem ac8 (K:Frag) (hK:X.K=K:=by rfl):iV X (binaryOp .Add) (KW K):=by
 subst hK
 intro pins s σ H x y v u Q I rx ry h
 obtain⟨a,b,xs,ys,rfl,rfl,ha,hb,hz,q⟩:=h
 cases rx
 cases ry
 obtain⟨its,r1,p1,_⟩:=I.tuple ha.sq
 obtain⟨its2,r2,p2,_⟩:=I.tuple hb.sq
 refine HT.R3 p1 p2 (fun z=>⟨.ref b,H,I,rfl,q b H (aZ.refl _) (by rw[r1.EO.mp z];exact hb)⟩) (fun z=>⟨.ref a,H,I,rfl,q a H (aZ.refl _) (by rw[r2.EO.mp z,append_nil];exact ha)⟩) (fun _ _=>?_) (by rw[<-r1.length,<-r2.length];exact hz)
 refine⟨.ref s.heap.objs.size,_,I.laid (t':=s.toks) (o:=.tup (xs++ys)) (fun b ob q=>get?_push_of_some _ q) (le_refl _) ?_,rfl,q _ _ (aZ.upd (I.bP.fresh (le_refl _))) (.inl aU)⟩
 exact⟨by rw[length_append];exact hz,_,r1.append r2,pG.new _ _⟩
noncomputable def NV:PV->PV->Option Bv
 | .tup i,.tup j=>aQ (decide (i.length+j.length<1000000)) (some (.val (.tup (i++j))))
 |_,_=>none
theorem PL:dZ K (KW K) NV:=by
 intro Z H x y p q b Q hp hq h k
 cases p with
 | tup i=>
  cases q with
  |tup j=>
   obtain⟨c,h⟩:=aL h
   cases h
   obtain⟨a,xs,rfl,ha,ra⟩:=hp.tup
   obtain⟨a',ys,rfl,ha',ra'⟩:=hq.tup
   exact⟨a,a',xs,ys,rfl,rfl,ha,ha',by rw[<-ra.length,<-ra'.length];exact le_of_lt (iQ c),fun l H' s t=>k _ _ s (Rep.tup t ((ra.app ra').aH (.same s)))⟩
  |_=>cases h
 |_=>cases h
theorem iV.or {f:Value->Value->Sem Value} (h:iV X f r) (h':iV X f r'):iV X f (fun x y H Q=>r x y H Q\/ r' x y H Q):=by
 intro pins s σ H x y v u Q I rx ry q
 rcases q with q|q
 ·exact h pins s σ H x y v u Q I rx ry q
 ·exact h' pins s σ H x y v u Q I rx ry q
noncomputable def S4 (K:Frag):R2:=fun x y H Q=>IH (fun i j=>.int (i+j)) x y H Q\/ ((∃i j,x= .str i/\y= .str j/\i.length+j.length<=sizeLine/\Q (.str (i++j)) H)\/ (M3 K x y H Q\/ KW K x y H Q))
theorem mZ (K:Frag) (hK:X.K=K:=by rfl):iV X (binaryOp .Add) (S4 K):=iV.or WX (iV.or CT (iV.or (aeH K hK) (ac8 K hK)))
noncomputable def iZ:PV->PV->Option Bv:=fun p q=>(SV (fun i j=>.int (i+j)) p q).or ((JX p q).or ((N4 p q).or (NV p q)))
theorem M5:dZ K (S4 K) iZ:=dZ.or (BH fun _ _ _ _=>.int _) (dZ.or Q8 (dZ.or QZ PL))
noncomputable def IT:PV->PV->Option Bv:=fun p q=>aQ (gD 9 p && gD 9 q) (some (.val (.bl (bK p q))))
theorem Red.any {v:V} (h:Red K Z H p v):Red K cT H p v:=by
 have k:cS Z cT H H:=.less fun a z=>z.elim
 cases h with
 |rep h=>exact .rep (h.aH k)
 |lst h r=>exact .lst h (r.aH k)
 |a8 h e r=>exact .a8 h e (r.aH k)
theorem TZ:dZ K (PC K false) IT:=by
 intro Z H x y p q b Q hp hq h k
 obtain⟨c,h⟩:=aL h
 rw[and_eq_true]at c
 cases h
 exact⟨p,q,hp.any,hq.any,c.1,c.2,k _ H (aZ.refl _) (Rep.bl _)⟩
noncomputable def OS:PV->PV->Option Bv:=fun p q=>aQ (gD 9 p && gD 9 q) (some (.val (.bl (!bK p q))))
theorem UE:dZ K (PC K true) OS:=by
 intro Z H x y p q b Q hp hq h k
 obtain⟨c,h⟩:=aL h
 rw[and_eq_true]at c
 cases h
 exact⟨p,q,hp.any,hq.any,c.1,c.2,k _ H (aZ.refl _) (Rep.bl _)⟩
noncomputable def US (neg:Bool):PV->PV->Option Bv:=fun p q=>bO (D6 q) fun ps=>aQ (gD 8 p && ps.all (gD 8)) (some (.val (.bl (if neg then !ps.any (fun z=>bK z p)else ps.any fun z=>bK z p))))
theorem V0 (neg:Bool):dZ K (PB K neg) (US neg):=by
 intro Z H x y p q b Q hp hq h k
 obtain⟨ps,g,h⟩:=aF h
 obtain⟨c,h⟩:=aL h
 rw[and_eq_true]at c
 cases h
 exact⟨p,q,ps,hp.any,hq.any,g,c.1,c.2,k _ H (aZ.refl _) (Rep.bl _)⟩
noncomputable def Y5 (neg:Bool):PV->PV->Option Bv
 | .str i,.str j=>some (.val (.bl (if neg then !(!(Builtin.Str.occurrences j i 0 j.length 1).isEmpty)else !(Builtin.Str.occurrences j i 0 j.length 1).isEmpty)))
 |_,_=>none
noncomputable def aaE (neg:Bool):R2:=fun x y H Q=>∃i j,x= .str i/\y= .str j/\Q (.bl (if neg then !(!(Builtin.Str.occurrences j i 0 j.length 1).isEmpty)else !(Builtin.Str.occurrences j i 0 j.length 1).isEmpty)) H
theorem V6 (neg:Bool):dZ K (aaE neg) (Y5 neg):=by
 intro Z H x y p q b Q hp hq h k
 cases p with
 |str i=>
  cases q with
  |str j=>cases h;exact⟨i,j,hp.str,hq.str,k _ H (aZ.refl _) (Rep.bl _)⟩
  |_=>cases h
 |_=>cases h
noncomputable def V4 (neg:Bool):PV->PV->Option Bv
 |p,.a8 kvs=>bO (keyOf p) fun k=>some (.val (.bl (if neg then !(cG kvs k).isSome else(cG kvs k).isSome)))
 |_,_=>none
noncomputable def QP (neg:Bool):R2:=fun x y H Q=>∃a kvs k,y= .ref a/\xA H a kvs/\x=kV k/\Q (.bl (if neg then !(eM kvs k).isSome else(eM kvs k).isSome)) H
theorem inD (hr:dX k X.A):iV X (compareOp .In) (QP false):=by
 intro pins s σ H x y v u Q I rx ry h
 obtain⟨a,kvs,key,rfl,ha,rfl,q⟩:=h
 cases ry
 exact ad7 (by have:=hr.un;omega) I (.inl ⟨kvs,key,ha,rfl,rfl⟩) rx fun s' I'=>⟨.bl _,H,I',rfl,q⟩
theorem Y6 (hr:dX k X.A):iV X (compareOp .NotIn) (QP true):=by
 intro pins s σ H x y v u Q I rx ry h
 obtain⟨a,kvs,key,rfl,ha,rfl,q⟩:=h
 cases ry
 exact R1 (by have:=hr.un;omega) I (.inl ⟨kvs,key,ha,rfl,rfl⟩) rx fun s' I'=>⟨.bl _,H,I',rfl,q⟩
theorem V8 (neg:Bool):dZ K (QP neg) (V4 neg):=by
 intro Z H x y p q b Q hp hq h k
 cases q with
 | a8 kvs=>
  obtain⟨key,g,h⟩:=aF h
  cases h
  obtain⟨a,ys,rfl,ha,e,r⟩:=hq.rR
  refine⟨a,ys,key,rfl,ha,hp.key g,?_⟩
  have es:(eM ys key).isSome=(cG kvs key).isSome:=by
   rcases dU.val key ⟨e,r⟩with⟨h1,h2⟩|⟨p',v',h1,h2,_⟩
   ·rw[h1,h2]
    rfl
   ·rw[h1,h2]
    rfl
  rw[es]
  exact k _ H (aZ.refl _) (Rep.bl _)
 |_=>cases h
noncomputable def YU (K:Frag) (neg:Bool):R2:=fun x y H Q=>aaE neg x y H Q\/ (PB K neg x y H Q\/ QP neg x y H Q)
theorem inX (K:Frag) (hr:dX k X.A) (hK:X.K=K:=by rfl):iV X (compareOp .In) (YU K false):=iV.or IU (iV.or (adC K hr hK) (inD hr))
theorem iS (K:Frag) (hr:dX k X.A) (hK:X.K=K:=by rfl):iV X (compareOp .NotIn) (YU K true):=iV.or yX (iV.or (RO K hr hK) (Y6 hr))
noncomputable def zJ (neg:Bool):PV->PV->Option Bv:=fun p q=>(Y5 neg p q).or ((US neg p q).or (V4 neg p q))
theorem S8 (neg:Bool):dZ K (YU K neg) (zJ neg):=dZ.or (V6 neg) (dZ.or (V0 neg) (V8 neg))
noncomputable def GN (f:Str->Str->Bool):PV->PV->Option Bv
 | .str i,.str j=>some (.val (.bl (f i j)))
 |_,_=>none
theorem RY {f:Str->Str->Bool}:dZ K (fun x y H Q=>∃i j,x= .str i/\y= .str j/\Q (.bl (f i j)) H) (GN f):=by
 intro Z H x y p q b Q hp hq h k
 cases p with
 |str i=>
  cases q with
  |str j=>cases h;exact⟨i,j,hp.str,hq.str,k _ H (aZ.refl _) (Rep.bl _)⟩
  |_=>cases h
 |_=>cases h
noncomputable def aaK:R2:=fun x y H Q=>IH (fun i j=>.bl (decide (i<j))) x y H Q\/ ∃i j,x= .str i/\y= .str j/\Q (.bl (decide (i.cps.toList<j.cps.toList))) H
theorem ltX:iV X (compareOp .Lt) aaK:=iV.or abO HQ
noncomputable def gLt:PV->PV->Option Bv:=fun p q=>(SV (fun i j=>.bl (decide (i<j))) p q).or (GN (fun i j=>decide (i.cps.toList<j.cps.toList)) p q)
theorem S2:dZ K aaK gLt:=dZ.or (BH fun _ _ _ _=>.bl _) RY
noncomputable def gLe:PV->PV->Option Bv:=fun p q=>(SV (fun i j=>.bl (decide (i<=j))) p q).or (GN (fun i j=>!decide (j.cps.toList<i.cps.toList)) p q)
noncomputable def ZI:PV->PV->Option Bv:=SV fun i j=>.bl (decide (j<i))
theorem S9:dZ K (IH fun i j=>.bl (decide (j<i))) ZI:=BH fun _ _ _ _=>.bl _
noncomputable def gGe:PV->PV->Option Bv:=SV fun i j=>.bl (decide (j<=i))
theorem T4:dZ K (IH fun i j=>.bl (decide (j<=i))) gGe:=BH fun _ _ _ _=>.bl _
noncomputable def isNone:PV->Bool
 | .bA=>true
 |_=>false
theorem Red.isNone {v:V} (h:Red K Z H p v):decide (v= .bA)=Mr.isNone p:=by
 cases h with
 |rep h=>cases h<;>rfl
 |lst h r=>rfl
 |a8 h e r=>rfl
noncomputable def JH (neg:Bool):PV->PV->Option Bv
 |p,.bA=>some (.val (.bl (if neg then !isNone p else isNone p)))
 |_,_=>none
theorem TB:dZ K (fun x y H Q=>y= .bA/\Q (.bl (decide (x= .bA))) H) (JH false):=by
 intro Z H x y p q b Q hp hq h k
 cases q with
 |bA=>cases h;exact⟨hq.bA,by rw[hp.isNone];exact k _ H (aZ.refl _) (Rep.bl _)⟩
 |_=>cases h
theorem zZ:dZ K (fun x y H Q=>y= .bA/\Q (.bl (!decide (x= .bA))) H) (JH true):=by
 intro Z H x y p q b Q hp hq h k
 cases q with
 |bA=>cases h;exact⟨hq.bA,by rw[hp.isNone];exact k _ H (aZ.refl _) (Rep.bl _)⟩
 |_=>cases h
noncomputable def dB:PV->PV->Option Bv
 | .lst ps,.int i=>bO (oN ps i) fun p=>some (.val p)
 | .tup ps,.int i=>bO (oN ps i) fun p=>some (.val p)
 | .str z,.int i=>aQ (decide (z.length<1000000)) (bO (oN z.cps.toList i) fun c=>some (.val (.str ⟨#[c]⟩)))
 | .a8 kvs,p=>bO (keyOf p) fun k=>bO (cG kvs k) fun q=>some (.val q)
 |_,_=>none
theorem bH.oN {ps:List PV} {i:Int} (r:bH K Z H ps xs) (h:L2.oN ps i=some p):∃v,L2.oN xs i=some v/\Rep K Z H p v:=by
 unfold L2.oN at h⊢
 rw[<-r.length]
 cases c:rY ps.length i with
 |none=>rw[c]at h;cases h
 |some j=>rw[c]at h;exact r.get h
noncomputable def abY:R2:=fun x y H Q=>∃a kvs k v,x= .ref a/\xA H a kvs/\y=kV k/\eM kvs k=some v/\Q v H
theorem ixD (hr:dX k X.A):DP X abY:=by
 intro value slice pins s σ H x y v u Q I rx ry h hs
 obtain⟨a,kvs,key,w,rfl,ha,rfl,hv,q⟩:=h
 cases rx
 have g:xS H a (kV key) (some w):=.inl ⟨kvs,key,ha,rfl,hv.symm⟩
 have hT:=BD I g
 unfold subscriptTail
 refine wpAny_bind ?_
 rw[getitemInPython_of_ne hT.not_modules]
 refine wpAny_bind (wpAny_specialOf hT PySem.F.slot_dict_getitem.lookup ?_)
 have fin:wpAny (model X.prog X.w) X.A (subscripted slice false (.ref a) u) (fun r s₃=>wpAny (model X.prog X.w) X.A (letTemporaryGo value (.ref a) r>>=fun _=>pure r) (EP X pins σ Q) X.xe s₃) X.xe s:=by
  rw[hs]
  exact wpAny_operating (wpAny_mono (IB (by have:=hr.un;omega) I g ry fun w' s3 I3 rw'=>(⟨w,H,I3,rw',q⟩:EP X pins σ Q w' s3)) (fun r s₃ h₃=>wpAny_bind (wpAny_letTemporaryGo (wpAny_pure h₃))) fun _ _ x=>x)
 first
  |exact wpAny_pure (wpAny_bind fin)
  |exact wpAny_bind (wpAny_pure (wpAny_bind fin))
  |exact wpAny_bind fin
noncomputable def abW (K:Frag):R2:=fun x y H Q=>YH K x y H Q\/ (WE K x y H Q\/ (aaH x y H Q\/ abY x y H Q))
theorem eE (K:Frag) (hr:dX k X.A) (hK:X.K=K:=by rfl):DP X (abW K):=DP.or (ixL K hK) (DP.or (ixT K hK) (DP.or UL (ixD hr)))
theorem SW:dZ K (abW K) dB:=by
 intro Z H x y p q b Q hp hq h k
 cases p with
 | lst ps=>
  cases q with
  |int i=>
   obtain⟨p,g,h⟩:=aF h
   cases h
   obtain⟨a,xs,rfl,ha,ra⟩:=hp.lZ
   obtain⟨v,hv,rv⟩:=ra.oN g
   exact .inl ⟨a,xs,i,v,rfl,hq.int,ha.sq,hv,k _ H (aZ.refl _) rv⟩
  |_=>cases h
 | tup ps=>
  cases q with
  |int i=>
   obtain⟨p,g,h⟩:=aF h
   cases h
   obtain⟨a,xs,rfl,ha,ra⟩:=hp.tup
   obtain⟨v,hv,rv⟩:=ra.oN g
   exact .inr (.inl ⟨a,xs,i,v,rfl,hq.int,ha.sq,hv,k _ H (aZ.refl _) rv⟩)
  |_=>cases h
 | str z=>
  cases q with
  |int i=>
   obtain⟨c,h⟩:=aL h
   obtain⟨p,g,h⟩:=aF h
   cases h
   exact .inr (.inr (.inl ⟨z,i,p,hp.str,hq.int,le_of_lt (iQ c),g,k _ H (aZ.refl _) (Rep.str _)⟩))
  |_=>cases h
 | a8 kvs=>
  have h:(bO (keyOf q) fun k=>bO (cG kvs k) fun q=>some (Bv.val q))=some b:=by cases q<;>exact h
  obtain⟨key,g,h⟩:=aF h
  obtain⟨p,g2,h⟩:=aF h
  cases h
  obtain⟨a,ys,rfl,ha,e,r⟩:=hp.rR
  rcases dU.val key ⟨e,r⟩with⟨h1,h2⟩|⟨p',v',h1,h2,h3⟩
  ·rw[h1]at g2;cases g2
  ·rw[h1]at g2
   cases g2
   exact .inr (.inr (.inr ⟨a,ys,key,v',rfl,ha,hq.key g,h2,k _ H (aZ.refl _) h3⟩))
 |_=>cases q<;>cases h
noncomputable def yF (xs:List PV) (lo hi:Option Int):List PV:=(xs.drop (HT.eT xs.length 0 lo)).take (HT.eT xs.length xs.length hi - HT.eT xs.length 0 lo)
theorem bH.cut (r:bH K Z H ps xs) (lo hi:Option Int):bH K Z H (yF ps lo hi) (uF xs lo hi):=by
 unfold yF uF
 rw[<-r.length]
 exact(r.drop _).take _
noncomputable def aa9 (K:Frag):V->Option Int->Option Int->Hp->VK->Prop:=fun x lo hi H Q=>∃a xs,x= .ref a/\TupAt K H a xs/\∀p H',aZ H H'->TupAt K H' p (uF xs lo hi)->Q (.ref p) H'
theorem adW (K:Frag) (hK:X.K=K:=by rfl):JD X (aa9 K):=by
 subst hK
 intro pins s σ H x v vl vu lo hi sl Q I rx hs pl pu h
 obtain⟨a,xs,rfl,hx,q⟩:=h
 by_cases hw:HT.eT xs.length 0 lo=0/\HT.eT xs.length xs.length hi=xs.length
 ·cases rx
  obtain⟨its,r,ht,hz⟩:=I.tuple hx.sq
  have hlen:its.toArray.size=xs.length:=by rw[size_toArray];exact r.length.symm
  refine⟨"tuple",_,PyProof.Rows.slot_tuple_getitem.lookup,ht.typeIs,?_⟩
  refine HT.o9 ht hs pl pu (by rw[hlen];exact hw) ⟨.ref a,H,I,rfl,q a H (aZ.refl _) ?_⟩
  have e:uF xs lo hi=xs:=by unfold uF;rw[hw.1,hw.2,drop_zero,Nat.sub_zero,take_length]
  rw[e];exact hx
 ·exact W6 pins s σ H (.ref a) v vl vu lo hi sl Q I rx hs pl pu ⟨a,xs,rfl,hx.sq,hw,fun p hp=>q p _ (aZ.upd hp) (.inl aU)⟩
noncomputable def OC (K:Frag):V->Option Int->Option Int->Hp->VK->Prop:=fun x lo hi H Q=>VV K x lo hi H Q\/ (aa9 K x lo hi H Q\/ (∃z,x= .str z/\z.length<=sizeLine/\Q (.str (Txt.slice z lo hi)) H))
theorem W3 (K:Frag) (hK:X.K=K:=by rfl):JD X (OC K):=JD.or (slL K hK) (JD.or (adW K hK) UQ)
noncomputable def KJ:PV->Option Int->Option Int->Option Bv
 | .lst ps,lo,hi=>some (.new (.lst (yF ps lo hi)))
 | .tup ps,lo,hi=>some (.val (.tup (yF ps lo hi)))
 | .str z,lo,hi=>aQ (decide (z.length<1000000)) (some (.val (.str (Txt.slice z lo hi))))
 |_,_,_=>none
theorem T8:aa0 K (OC K) KJ:=by
 intro Z H x p lo hi b Q hp h k
 cases p with
 |lst ps=>
  cases h
  obtain⟨a,xs,rfl,ha,ra⟩:=hp.lZ
  exact .inl ⟨a,xs,rfl,ha.sq,fun l hl=>k _ _ (aZ.upd hl) (AA hl (ra.cut lo hi))⟩
 |tup ps=>
  cases h
  obtain⟨a,xs,rfl,ha,ra⟩:=hp.tup
  exact .inr (.inl ⟨a,xs,rfl,ha,fun l H' s t=>k _ _ s (Rep.tup t ((ra.cut lo hi).aH (.same s)))⟩)
 |str z=>
  obtain⟨c,h⟩:=aL h
  cases h
  exact .inr (.inr ⟨z,hp.str,le_of_lt (iQ c),k _ H (aZ.refl _) (Rep.str _)⟩)
 |_=>cases h
theorem u9.one (h:u9 K Z H [p] vs):∃v,vs=[v]/\Red K Z H p v:=by
 cases h with|cons h r=>cases r;exact⟨_,rfl,h⟩
theorem u9.two (h:u9 K Z H [p,q] vs):∃v u,vs=[v,u]/\Red K Z H p v/\Red K Z H q u:=by
 cases h with|cons h r=>cases r with|cons h' r=>cases r;exact⟨_,_,rfl,h,h'⟩
noncomputable def rJ:List PV->Option Bv
 |[.lst ps]=>some (.val (.int ps.length))
 |[.tup ps]=>some (.val (.int ps.length))
 |[.str z]=>aQ (decide (z.length<1000000)) (some (.val (.int z.length)))
 |_=>none
noncomputable def J8 (K:Frag):List V->Hp->VK->Prop:=fun xs H Q=>(∃p ys,xs=[.ref p]/\(iB K H p ys\/ nE K H p ys)/\Q (.int ys.length) H)\/ ∃z,xs=[.str z]/\z.length<=sizeLine/\Q (.int z.length) H
theorem CA (K:Frag) (hK:X.K=K:=by rfl):cH X (.builtin "len") (J8 K):=by subst hK;exact cH.or yV y7
theorem DC:gP K (J8 K) rJ:=by
 intro Z H vs ps b Q hp h k
 unfold rJ at h
 split at h
 ·cases h
  obtain⟨v,rfl,hv⟩:=hp.one
  obtain⟨a,xs,rfl,ha,ra⟩:=hv.lZ
  exact .inl ⟨a,xs,rfl,.inl ha.sq,k _ H (aZ.refl _) (by rw[ra.length];exact Rep.int _)⟩
 ·cases h
  obtain⟨v,rfl,hv⟩:=hp.one
  obtain⟨a,xs,rfl,ha,ra⟩:=hv.tup
  exact .inl ⟨a,xs,rfl,.inr ha.sq,k _ H (aZ.refl _) (by rw[ra.length];exact Rep.int _)⟩
 ·obtain⟨c,h⟩:=aL h
  cases h
  obtain⟨v,rfl,hv⟩:=hp.one
  exact .inr ⟨_,by rw[hv.str],le_of_lt (iQ c),k _ H (aZ.refl _) (Rep.int _)⟩
 ·cases h
noncomputable def lQ:List PV->Option Bv
 |[.lst ps]=>some (.val (.tup ps))
 |[.tup ps]=>some (.val (.tup ps))
 |_=>none
noncomputable def TV (K:Frag):List V->Hp->VK->Prop:=fun xs H Q=>∃p ys,xs=[.ref p]/\((iB K H p ys/\∀l,H l=none->Q (.ref l) (upd H l (.tup ys)))\/ (nE K H p ys/\Q (.ref p) H))
theorem BA (K:Frag) (hK:X.K=K:=by rfl):cH X (.type "tuple") (TV K):=by subst hK;exact vC
theorem E6:gP K (TV K) lQ:=by
 intro Z H vs ps b Q hp h k
 unfold lQ at h
 split at h
 ·cases h
  obtain⟨v,rfl,hv⟩:=hp.one
  obtain⟨a,xs,rfl,ha,ra⟩:=hv.lZ
  exact⟨a,xs,rfl,.inl ⟨ha.sq,fun l hl=>k _ _ (aZ.upd hl) (Rep.tup (.inl aU) (ra.aH (.same (aZ.upd hl))))⟩⟩
 ·cases h
  obtain⟨v,rfl,hv⟩:=hp.one
  obtain⟨a,xs,rfl,ha,ra⟩:=hv.tup
  exact⟨a,xs,rfl,.inr ⟨ha.sq,k _ H (aZ.refl _) (Rep.tup ha ra)⟩⟩
 ·cases h
noncomputable def xM:List PV->Option Bv
 |[.lst ps]=>some (.new (.lst ps))
 |[.tup ps]=>some (.new (.lst ps))
 |_=>none
theorem BW:gP K (L8 K) xM:=by
 intro Z H vs ps b Q hp h k
 unfold xM at h
 split at h
 ·cases h
  obtain⟨v,rfl,hv⟩:=hp.one
  obtain⟨a,xs,rfl,ha,ra⟩:=hv.lZ
  exact⟨a,xs,rfl,.inl ha.sq,fun l hl=>k _ _ (aZ.upd hl) (AA hl ra)⟩
 ·cases h
  obtain⟨v,rfl,hv⟩:=hp.one
  obtain⟨a,xs,rfl,ha,ra⟩:=hv.tup
  exact⟨a,xs,rfl,.inr ha.sq,fun l hl=>k _ _ (aZ.upd hl) (AA hl ra)⟩
 ·cases h
noncomputable def adQ:List PV->Option Bv
 |[.int i]=>some (.val (.int (if i<0 then -i else i)))
 |_=>none
noncomputable def abH:List PV->Option Bv
 |[.int i,.int j]=>some (.val (.int (if j>i then j else i)))
 |_=>none
noncomputable def FH:List PV->Option Bv
 |[.int i,.int j]=>some (.val (.int (if j<i then j else i)))
 |_=>none
theorem GP:gP K (fun xs H Q=>∃i j,xs=[.int i,.int j]/\Q (.int (if j<i then j else i)) H) FH:=by
 intro Z H vs ps b Q hp h k
 unfold FH at h
 split at h
 ·cases h
  obtain⟨v,u,rfl,hv,hu⟩:=hp.two
  exact⟨_,_,by rw[hv.int,hu.int],k _ H (aZ.refl _) (Rep.int _)⟩
 ·cases h
noncomputable def A7:List PV->Option Bv
 |[.int i]=>some (.val (.int i))
 |[.bl k]=>some (.val (.int (if k then 1 else 0)))
 |_=>none
theorem F7:gP K (fun xs H Q=>(∃i,xs=[.int i]/\Q (.int i) H)\/ ∃k,xs=[.bl k]/\Q (.int (if k then 1 else 0)) H) A7:=by
 intro Z H vs ps b Q hp h k
 unfold A7 at h
 split at h
 ·cases h
  obtain⟨v,rfl,hv⟩:=hp.one
  exact .inl ⟨_,by rw[hv.int],k _ H (aZ.refl _) (Rep.int _)⟩
 ·cases h
  obtain⟨v,rfl,hv⟩:=hp.one
  exact .inr ⟨_,by rw[hv.bl],k _ H (aZ.refl _) (Rep.int _)⟩
 ·cases h
noncomputable def A1:List PV->Option Bv
 |[.int i]=>aQ (decide (i.natAbs.log2<1920)) (some (.val (.str (toString i))))
 |_=>none
theorem E4:gP K (fun xs H Q=>∃i,xs=[.int i]/\i.natAbs.log2<1920/\Q (.str (toString i)) H) A1:=by
 intro Z H vs ps b Q hp h k
 unfold A1 at h
 split at h
 ·obtain⟨c,h⟩:=aL h
  cases h
  obtain⟨v,rfl,hv⟩:=hp.one
  exact⟨_,by rw[hv.int],of_decide_eq_true c,k _ H (aZ.refl _) (Rep.str _)⟩
 ·cases h
noncomputable def l9:List PV->Option (List Str)
 |[]=>some []
 | .str x::ps=>bO (l9 ps) fun xs=>some (x::xs)
 |_=>none
theorem o7:∀{ps:List PV} {xs:List Str},l9 ps=some xs->ps=xs.map PV.str
 |[],xs,h=>by cases h;rfl
 | p::ps,xs,h=>by
  cases p with
  |str x=>
   obtain⟨ys,g,h⟩:=aF h
   cases h
   rw[o7 g];rfl
  |_=>cases h
theorem p8 (xs:List Str):l9 (xs.map PV.str)=some xs:=by
 induction xs with
 |nil=>rfl
 |cons x xs ih=>rw[map_cons,l9,ih];rfl
theorem bH.strs:∀{xs:List Str} {vs:List V},bH K Z H (xs.map PV.str) vs->vs=xs.map V.str
 |[],vs,h=>by cases h;rfl
 |x::xs,vs,h=>by cases h with|cons h r=>cases h;rw[bH.strs r];rfl
noncomputable def AR:PV->List PV->Option Bv
 | .str z,[.lst ps]=>bO (l9 ps) fun xs=>aQ (decide ((xs.map (·.length)).sum+xs.length*z.length<1000000)) (some (.val (.str (Txt.join z xs))))
 |_,_=>none
theorem EH:Y0 K (rJoin K) AR:=by
 intro Z H x vs p ps b Q hp hps h k
 unfold AR at h
 split at h
 ·obtain⟨xs,g,h⟩:=aF h
  obtain⟨c,h⟩:=aL h
  cases h
  obtain⟨v,rfl,hv⟩:=hps.one
  obtain⟨a,ys,rfl,ha,ra⟩:=hv.lZ
  rw[o7 g]at ra
  rw[ra.strs]at ha
  refine⟨_,a,xs,hp.str,rfl,ha.sq,?_,k _ H (aZ.refl _) (Rep.str _)⟩
  have:=of_decide_eq_true c
  omega
 ·cases h
noncomputable def gQ:PV->Option (List PV)
 | .lst ps=>some ps
 | .tup ps=>some ps
 | .str z=>some (z.cps.toList.map fun c=>.str ⟨#[c]⟩)
 |_=>none
noncomputable def qZ (f:FE):FI:=fun st e=>bE (f e) fun b e1=>match b with
 | .slot i=>match e1[i]? with
  |some (some (.bor p))=>bO (gQ p) fun ps=>some (ps,e1)
  |some (some (.own p))=>aQ (st i) (bO (gQ p) fun ps=>some (ps,e1))
  |some (some (.loc p))=>aQ (st i) (bO (gQ p) fun ps=>some (ps,e1))
  |_=>none
 | .val p=>bO (gQ p) fun ps=>some (ps,e1)
 | .new p=>bO (gQ p) fun ps=>some (ps,e1)
noncomputable def X1 (K:Frag) (tl:TE):TI:=fun σ H R=>tl σ H fun x H1=>(∃a,x= .ref a/\(∃xs,iB K H1 a xs)/\R (Itl K a) H1)\/ ((∃a,x= .ref a/\(∃xs,nE K H1 a xs)/\R (Itt K a) H1)\/ ∃z,x= .str z/\R (ZS z) H1)
theorem cK (K:Frag) {tg l:Expr} {tl:TE} (hl:PE X l tl) (hK:X.K=K:=by rfl):PI X tg l (X1 K tl):=by
 subst hK
 intro pins s σ H R I h
 refine cP (hl pins s σ H _ I h) fun v s1 ⟨x,H1,I1,r1,q1⟩=>?_
 rcases q1 with⟨a,e,⟨xs,hq⟩,q⟩|⟨a,e,⟨xs,hq⟩,q⟩|⟨z,e,q⟩
 ·subst e
  cases r1
  obtain⟨its,rv,p,hz⟩:=I1.list hq
  refine wpAny_pyIter_list p.isList ?_
  refine⟨s1.heap.objs.size,[s1.heap.objs.size],_,_,H1,rfl,I1.kept (t':=s1.toks) fun b o e=>get?_push_of_some _ e,HF a _,⟨_,get?_push_size _ rfl,rfl,rfl⟩,fun b hb=>?_,q⟩
  have e:b=s1.heap.objs.size:=by simpa using hb
  subst e
  exact I1.qG (le_refl _) (I1.bP.fresh (le_refl _))
 ·subst e
  cases r1
  obtain⟨its,rv,p,hz⟩:=I1.tuple hq
  refine wpAny_pyIter_tuple (show s1.heap.IsTuple a its.toArray from p) ?_
  refine⟨s1.heap.objs.size,[s1.heap.objs.size],_,_,H1,rfl,I1.kept (t':=s1.toks) fun b o e=>get?_push_of_some _ e,D3 a _,⟨_,get?_push_size _ rfl,rfl,rfl⟩,fun b hb=>?_,q⟩
  have e:b=s1.heap.objs.size:=by simpa using hb
  subst e
  exact I1.qG (le_refl _) (I1.bP.fresh (le_refl _))
 ·subst e
  obtain⟨t,rfl⟩:=r1
  cases ha:z.cps.all (·<128)with
  |true=>
   refine wpAny_pyIter_ascii ha ?_
   refine⟨s1.heap.objs.size,[s1.heap.objs.size],_,_,H1,rfl,I1.kept (t':=s1.toks) fun b o e=>get?_push_of_some _ e,HW z t _,⟨_,get?_push_size _ rfl,rfl,rfl⟩,fun b hb=>?_,q⟩
   have e:b=s1.heap.objs.size:=by simpa using hb
   subst e
   exact I1.qG (le_refl _) (I1.bP.fresh (le_refl _))
  |false=>
   refine wpAny_pyIter_wide ha ?_
   refine⟨s1.heap.objs.size,[s1.heap.objs.size],_,_,H1,rfl,I1.kept (t':=s1.toks) fun b o e=>get?_push_of_some _ e,IX z t _,⟨_,get?_push_size _ rfl,rfl,rfl⟩,fun b hb=>?_,q⟩
   have e:b=s1.heap.objs.size:=by simpa using hb
   subst e
   exact I1.qG (le_refl _) (I1.bP.fresh (le_refl _))
theorem uJ {L':aI} {H':Hp} (o:jS O M W L H) (hw:∀a,Wr a->aw W a\/ L a) (k1:∀a ob,H a=some ob->¬Wr a->H' a=some ob) (k2:∀a xs,H a=some (.tup xs)->H' a=some (.tup xs)) (k3:∀a,L' a->L a\/ H a=none):cS (aW M L) (aW M L') H H':=
 ⟨k2,fun a ob h n=>⟨k1 a ob h fun z=>n ((hw a z).elim (fun⟨i,w⟩=>.inl (o.wm i a w)) .inr),fun z=>z.elim (fun z=>n (.inl z)) fun z=>(k3 a z).elim (fun z=>n (.inr z)) fun z=>by rw[h]at z;cases z⟩⟩
theorem oY (o:jS O M W L H) (hw:∀a,Wr a->aw W a\/ L a) (ha:(Rd H a (.lst xs)/\¬Wr a)\/ X6 K a xs) (r:bH K (aW M L) H ps xs):NW K M L Wr H (Itl K a) ps:=by
 intro L' H' k1 k2 k3
 have st:=uJ o hw k1 k2 k3
 have sq:iB K H' a xs:=by
  rcases ha with⟨h|⟨u,h⟩,n⟩|h
  ·exact .inl (.inl (k1 _ _ h n))
  ·exact .inl (.inr ⟨u,k1 _ _ h n⟩)
  ·exact .inr h
 refine⟨fun k p hp=>?_,xs,sq,by rw[r.length];exact le_refl _⟩
 obtain⟨v,hv,rv⟩:=r.get hp
 refine⟨⟨xs,v,sq,hv⟩,fun x H3 y=>?_⟩
 obtain⟨e,y⟩:=y
 subst e
 have:=y xs sq
 rw[hv]at this
 cases this
 exact⟨aZ.refl _,rv.aH st⟩
theorem UN (o:jS O M W L H) (hw:∀a,Wr a->aw W a\/ L a) (ha:TupAt K H a xs) (r:bH K (aW M L) H ps xs):NW K M L Wr H (Itt K a) ps:=by
 intro L' H' k1 k2 k3
 have st:=uJ o hw k1 k2 k3
 have sq:nE K H' a xs:=TupAt.sq (ha.elim (fun h=>.inl (k2 _ _ h)) .inr)
 refine⟨fun k p hp=>?_,xs,sq,by rw[r.length];exact le_refl _⟩
 obtain⟨v,hv,rv⟩:=r.get hp
 refine⟨⟨xs,v,sq,hv⟩,fun x H3 y=>?_⟩
 obtain⟨e,y⟩:=y
 subst e
 have:=y xs sq
 rw[hv]at this
 cases this
 exact⟨aZ.refl _,rv.aH st⟩
theorem WG {z:Str}:NW K M L Wr H (ZS z) (z.cps.toList.map fun c=>.str ⟨#[c]⟩):=by
 intro L' H' k1 k2 k3
 refine⟨fun k p hp=>?_,by simp[ZS]⟩
 rw[getElem?_map]at hp
 cases c:z.cps.toList[k]? with
 |none=>rw[c]at hp;cases hp
 |some d=>
  rw[c]at hp
  cases hp
  have hk:k<z.cps.size:=by simpa using(List.getElem?_eq_some_iff.mp c).1
  refine⟨hk,fun x H3 y=>?_⟩
  obtain⟨e,d',h1,h2⟩:=y
  subst e h2
  rw[<-getElem?_toList,c]at h1
  cases h1
  exact⟨aZ.refl _,.str _⟩
theorem YG (h:Ref K t f):uB K (X1 K t) (qZ f):=by
 intro st O M W L σ H e e' ps R o he hf q
 obtain⟨x,e1,f1,hf⟩:=aM hf
 refine h O M W L σ H e e1 x _ o he f1 fun v H1 k1 rb fr=>?_
 have o1:=o.keep k1.cC
 have en:=rb.en o1
 have vals:∀p,Rep K (aW M L) H1 p v->gQ p=some ps->e1=e'->(∃a,v= .ref a/\(∃xs,iB K H1 a xs)/\R (Itl K a) H1)\/ ((∃a,v= .ref a/\(∃xs,nE K H1 a xs)/\R (Itt K a) H1)\/ ∃z,v= .str z/\R (ZS z) H1):=fun p hp hi ee=>by
  subst ee
  cases hp with
  |lst ha n r=>
   cases hi
   exact .inl ⟨_,rfl,⟨_,.inl ha⟩,q _ H1 k1 en fun Wr hw _=>oY o1 hw (.inl ⟨ha,fun z=>n ((hw _ z).elim (fun⟨i,w⟩=>.inl (o.wm i _ w)) .inr)⟩) r⟩
  |tup ha r=>
   cases hi
   exact .inr (.inl ⟨_,rfl,⟨_,ha.sq⟩,q _ H1 k1 en fun Wr hw _=>UN o1 hw ha r⟩)
  |str z=>
   cases hi
   exact .inr (.inr ⟨z,rfl,q _ H1 k1 en fun Wr hw _=>WG⟩)
  |_=>cases hi
 cases x with
 |val p=>
  obtain⟨ps',g,hf⟩:=aF hf
  cases hf
  exact vals p rb.2 g rfl
 |new p=>
  obtain⟨ps',g,hf⟩:=aF hf
  cases hf
  exact vals p (rb.weak o1).2 g rfl
 | slot i=>
  dsimp only at hf
  cases c:e1[i]? with
  |none=>rw[c]at hf;cases hf
  | some s=>
   cases s with
   |none=>rw[c]at hf;cases hf
   | some s=>
    rw[c]at hf
    obtain⟨u,hu,sr⟩:=rb.1.at' i s c
    have:=rb.2
    rw[hu]at this
    cases this
    cases s with
    |val p=>cases hf
    |bor p=>
     obtain⟨ps',g,hf⟩:=aF hf
     cases hf
     obtain⟨a,rfl,lt⟩:=sr
     cases lt with
     |lst ha od n m r=>cases g;exact .inl ⟨a,rfl,⟨_,.inl ha⟩,q _ H1 k1 en fun Wr hw _=>oY o1 hw (.inl ⟨ha,fun z=>(hw _ z).elim n m⟩) r⟩
     |dO ha r=>cases g;exact .inl ⟨a,rfl,⟨_,.inr ha⟩,q _ H1 k1 en fun Wr hw _=>oY o1 hw (.inr ha) r⟩
     |a8 ha od n m kk r=>cases g
    |own p=>
     obtain⟨hst,hf⟩:=aL hf
     obtain⟨ps',g,hf⟩:=aF hf
     cases hf
     obtain⟨a,rfl,w,ct⟩:=sr
     cases ct with
     |lst ha r=>cases g;exact .inl ⟨a,rfl,⟨_,iB.of ha⟩,q _ H1 k1 en fun Wr hw hs=>oY o1 hw (.inl ⟨.inl ha,hs i a _ hst c rfl hu⟩) r⟩
     |a8 ha kk r=>cases g
    |loc p=>
     obtain⟨hst,hf⟩:=aL hf
     obtain⟨ps',g,hf⟩:=aF hf
     cases hf
     obtain⟨a,rfl,w,ct⟩:=sr
     cases ct with
     |lst ha r=>cases g;exact .inl ⟨a,rfl,⟨_,iB.of ha⟩,q _ H1 k1 en fun Wr hw hs=>oY o1 hw (.inl ⟨.inl ha,hs i a _ hst c rfl hu⟩) r⟩
     |a8 ha kk r=>cases g
theorem LC {lo:Int}:NW K M L Wr H (ZK lo n) ((List.range n).map fun k:Nat=>.int (lo+(k:Int))):=by
 intro L' H' k1 k2 k3
 refine⟨fun k p hp=>?_,by simp[ZK]⟩
 rw[getElem?_map]at hp
 by_cases hk:k<n
 ·rw[List.getElem?_range hk]at hp
  cases hp
  refine⟨hk,fun x H3 y=>?_⟩
  obtain⟨e,y⟩:=y
  subst e y
  exact⟨aZ.refl _,.int _⟩
 ·rw[List.getElem?_eq_none (by simpa using hk)]at hp
  cases hp
noncomputable def aeF (fa:FA):FI:=fun _ e=>bE (fa e) fun bs e1=>match bs with
 |[.val (.tup ps)]=>some (ps.zipIdx.map fun z=>.tup [.int (z.2:Int),z.1],e1)
 |_=>none
end
section
variable {K:Frag}
theorem RT {f:FN} {Q:VK} {E:XK} (hf:∀ns:List Int,ns.length<=63->f [.lst (ns.map PV.int)]=some (.bl true,[])) (h:BZ K vs H Q E):S7 K [.b] false f vs H Q E:=by
 obtain⟨a,ns,rfl,hS,hl,q⟩:=h
 have rl:∀(Z:aI) (ms:List Int),bH K Z H (ms.map PV.int) (ms.map V.int):=fun Z ms=>by
  induction ms with
  |nil=>exact .nil
  |cons m ms ih=>exact .cons (.int m) ih
 refine⟨cT,[.lst (ns.map PV.int)],.bl true,[],fun a z=>z.elim,rfl,rfl,fun i k p v h1 h2 h3=>?_,fun i j hij h1 h2=>?_,fun i a ⟨h1,_⟩=>?_,hf ns hl,fun v H' k r=>?_⟩
 ·cases i with
  | zero=>
   cases h1
   cases h2
   cases h3
   have nw:¬aw (oG [.b] [.ref a] H) a:=fun⟨i,h,_⟩=>by
    cases i with
    |zero=>cases h
    |succ i=>simp at h
   rcases hS with h|h
   ·refine⟨a,rfl,.lst h ?_ nw (fun z=>z) (rl _ ns)⟩
    rcases h with h|⟨u,h⟩
    ·show H a≠none
     rw[h];exact fun z=>nomatch z
    ·show H a≠none
     rw[h];exact fun z=>nomatch z
   ·exact⟨a,rfl,.dO h (rl _ ns)⟩
  |succ i=>simp at h1
 ·cases i with
  |zero=>cases h1
  |succ i=>simp at h1
 ·cases i with
  |zero=>cases h1
  |succ i=>simp at h1
 ·obtain⟨r,_⟩:=r
  cases r
  exact q H'
noncomputable def kdOf:PV->Option L2.Kd
 | .bA=>some .bA
 | .bl _=>some .bl
 | .int _=>some .int
 | .str _=>some .str
 | .lst _=>some .lst
 | .tup _=>some .tup
 | .a8 _=>some .a8
 | .ty _=>none
noncomputable def JU (k:L2.Kd):String->Option Bool
 |"str"=>some (decide (k= .str))
 |"tuple"=>some (decide (k= .tup))
 |"int"=>some (decide (k= .int)||decide (k= .bl))
 |"bool"=>some (decide (k= .bl))
 |_=>none
theorem K6 {k:L2.Kd} {T:String} {b:Bool} (h:JU k T=some b):kitOne K (.type k.nm) (.type T)=some b:=by
 unfold JU at h
 split at h
 ·cases h;exact YO k
 ·cases h;exact VH k
 ·cases h;exact UM k
 ·cases h;exact SF k
 ·cases h
noncomputable def TN (K:Frag):List V->Hp->VK->Prop:=fun xs H Q=>∃p x T k b,xs=[x,.ty T]/\Red K cT H p x/\kdOf p=some k/\JU k T=some b/\Q (.bl b) H
theorem YF (K:Frag) (hK:X.K=K:=by rfl):cH X (.builtin "isinstance") (TN K):=by
 subst hK
 intro pins s σ H xs us Q I r h
 obtain⟨p,x,T,k,b,rfl,hp,hk,hT,q⟩:=h
 obtain⟨u,u',rfl,rx,ry⟩:=vals2 r
 cases ry
 have e:=K6 (K:=X.K) hT
 have fin:∀tk,EP X pins σ Q (.bool b) {s with toks:=tk}:=fun tk=>⟨.bl b,H,I.tok tk,rfl,q⟩
 cases p with
 |bA=>cases hk;have:=hp.bA;subst this;cases(show u=Value.none from rx);exact kia_one PySem.W.kitx_none I.G1 True.intro e (fun z=>nomatch z) fin
 |bl y=>cases hk;have:=hp.bl;subst this;cases(show u=Value.bool y from rx);exact kia_one PySem.W.kitx_bool I.G1 True.intro e (fun z=>nomatch z) fin
 |int i=>cases hk;have:=hp.int;subst this;obtain⟨t,q⟩:=(show∃t,u=Value.int i t from rx);cases q;exact kia_one PySem.W.kitx_int I.G1 True.intro e (fun z=>nomatch z) fin
 |str y=>cases hk;have:=hp.str;subst this;obtain⟨t,q⟩:=(show∃t,u=Value.str y t from rx);cases q;exact kia_one PySem.W.kitx_str I.G1 True.intro e (fun z=>nomatch z) fin
 |ty y=>cases hk
 |tup ps=>
  cases hk
  obtain⟨a,xs,rfl,ha,_⟩:=hp.tup
  cases(show u=Value.ref a from rx)
  obtain⟨its,_,⟨o,h1,h2,_⟩,_⟩:=I.tuple ha.sq
  exact kia_one PySem.W.kitx_tuple I.G1 ⟨o,h1,h2⟩ e (fun z=>nomatch z) fin
 |lst ps=>
  cases hk
  obtain⟨a,xs,rfl,ha,_⟩:=hp.lZ
  cases(show u=Value.ref a from rx)
  obtain⟨its,_,pl,_⟩:=I.list ha.sq
  obtain⟨o,h1,h2,_⟩:=pl.isList
  exact kia_one PySem.W.kitx_list I.G1 ⟨o,h1,h2⟩ e (fun z=>nomatch z) fin
 |a8 kvs=>
  cases hk
  obtain⟨a,ys,rfl,ha,_,_⟩:=hp.rR
  cases(show u=Value.ref a from rx)
  obtain⟨_,_,vs,_,pd⟩:=gR I.bP ha
  obtain⟨o,es,ep,h1,h2,_⟩:=pd
  exact kia_one PySem.W.kitx_dict I.G1 ⟨o,h1,h2.1⟩ e (fun z=>nomatch z) fin
noncomputable def uA:List PV->Option Bv
 |[p,.ty n]=>bO (kdOf p) fun k=>bO (JU k n) fun b=>some (.val (.bl b))
 |_=>none
theorem LG:gP K (TN K) uA:=by
 intro Z H vs ps b Q hp h k
 unfold uA at h
 split at h
 ·rename_i p n
  obtain⟨c,g,h⟩:=aF h
  obtain⟨d,g2,h⟩:=aF h
  cases h
  obtain⟨v,u,rfl,hv,hu⟩:=hp.two
  have eu:=hu.ty
  subst eu
  exact⟨p,v,n,c,d,rfl,hv.any,g,g2,k _ H (aZ.refl _) (Rep.bl _)⟩
 ·cases h
noncomputable def Y7:PV->List PV->Option Bv
 | .str z,[]=>aQ (decide (z.length<1000000)) (some (.val (.str (Txt.lower z))))
 |_,_=>none
noncomputable def U0:PV->List PV->Option Bv
 | .str z,[]=>aQ (decide (z.length<1000000)) (some (.val (.str (Txt.upper z))))
 |_,_=>none
noncomputable def P9:PV->List PV->Option Bv
 | .str z,[.str y]=>some (.val (.bl (Txt.startswith z y)))
 |_,_=>none
noncomputable def aa5:PV->List PV->Option Bv
 | .str z,[.str y]=>some (.val (.bl (Txt.endswith z y)))
 |_,_=>none
noncomputable def WJ:PV->List PV->Option Bv
 | .str z,[.str y]=>aQ (decide (z.length<1000000)) (some (.val (.str (Txt.stripChars z y))))
 |_,_=>none
noncomputable def RR:PV->List PV->Option Bv
 | .str z,[.str y]=>match Builtin.Str.occurrences z y 0 z.length 1 with
  |i::_=>some (.val (.int i))
  |[]=>none
 |_,_=>none
noncomputable def aa2:PV->List PV->Option Bv
 | .str z,[.str y]=>aQ (decide (z.length<1000000) && !(y.length==0)) (some (.val (.tup [.str (Txt.partition z y).1,.str (Txt.partition z y).2.1,.str (Txt.partition z y).2.2])))
 |_,_=>none
noncomputable def RP:PV->List PV->Option Bv
 | .str z,[.str y]=>if y=Str.ofString " "then aQ (decide (z.length<1000000)) (some (.new (.lst ((Txt.split z y).map PV.str))))else none
 |_,_=>none
noncomputable def IL:List PV->Option (List Bool)
 |[]=>some []
 | .bl x::ps=>bO (IL ps) fun xs=>some (x::xs)
 |_=>none
theorem z8 (xs:List Bool):IL (xs.map PV.bl)=some xs:=by
 induction xs with
 |nil=>rfl
 |cons x xs ih=>rw[map_cons,IL,ih];rfl
theorem bH.bls:∀{ps:List PV} {xs:List Bool} {vs:List V},IL ps=some xs->bH K Z H ps vs->vs=BP xs
 |[],xs,vs,g,h=>by cases g;cases h;rfl
 | p::ps,xs,vs,g,h=>by
  cases p with
  |bl x=>
   obtain⟨ys,g1,g⟩:=aF g
   cases g
   cases h with|cons h r=>cases h;rw[bH.bls g1 r];rfl
  |_=>cases g
noncomputable def PY:List PV->Option Bv
 |[.lst ps]=>bO (IL ps) fun bs=>some (.val (.bl (bs.all id)))
 |_=>none
theorem NI:gP K (aaT K) PY:=by
 intro Z H vs ps b Q hp h k
 unfold PY at h
 split at h
 ·obtain⟨bs,g,h⟩:=aF h
  cases h
  obtain⟨v,rfl,hv⟩:=hp.one
  obtain⟨a,xs,rfl,ha,ra⟩:=hv.lZ
  have e:=ra.bls g
  subst e
  exact⟨a,bs,rfl,ha.sq,k _ H (aZ.refl _) (Rep.bl _)⟩
 ·cases h
noncomputable def P1:List PV->Option Bv
 |[.lst ps]=>bO (IL ps) fun bs=>some (.val (.bl (bs.any id)))
 |_=>none
theorem L7:gP K (aaA K) P1:=by
 intro Z H vs ps b Q hp h k
 unfold P1 at h
 split at h
 ·obtain⟨bs,g,h⟩:=aF h
  cases h
  obtain⟨v,rfl,hv⟩:=hp.one
  obtain⟨a,xs,rfl,ha,ra⟩:=hv.lZ
  have e:=ra.bls g
  subst e
  exact⟨a,bs,rfl,ha.sq,k _ H (aZ.refl _) (Rep.bl _)⟩
 ·cases h
noncomputable def W7 (g g':PV->PV->Option Bv) (fa fb fc:FE):FE:=fun e=>bE (fa e) fun x e1=>bE (fb e1) fun y e2=>bO (x.weak.get e2) fun p=>bO (y.weak.get e2) fun q=>bO (g p q) fun b=>match b with
 | .val (.bl true)=>bE (fc e2) fun z e3=>bO (y.weak.get e3) fun q'=>bO (z.weak.get e3) fun r=>bO (g' q' r) fun b'=>some (b',e3)
 | .val (.bl false)=>some (.val (.bl false),e2)
 |_=>none
noncomputable def XE:PV->Option Bool
 | .bA=>some false
 | .bl b=>some b
 | .int i=>some (i !=0)
 | .str y=>aQ (decide (y.length<1000000)) (some ((y.length:Int) !=0))
 | .lst ps=>some (!ps.isEmpty)
 | .tup ps=>some (!ps.isEmpty)
 |_=>none
noncomputable def RD (f:FE):FT:=fun e=>bE (f e) fun b e1=>bO (b.weak.get e1) fun p=>bO (XE p) fun c=>some (c,e1)
theorem bH.empty (r:bH K Z H ps xs):ps.isEmpty=xs.isEmpty:=by cases r<;>rfl
theorem PD (h:Ref K t f):jY K (fun σ H Q=>t σ H fun x H'=>∃k,Q1 K x H' k/\Q k H') (RD f):=by
 intro O M W L σ H e e' b Q o he hf q
 obtain⟨x,e1,f1,hf⟩:=aM hf
 obtain⟨p,g1,hf⟩:=aF hf
 obtain⟨c,g2,hf⟩:=aF hf
 cases hf
 refine h O M W L σ H e _ _ _ o he f1 fun v1 H1 k1 r1 fr=>?_
 have o1:=o.keep k1.cC
 have en:=r1.en o1
 have rd:=(r1.rv o1).red en g1
 refine⟨b,?_,q H1 k1 en⟩
 cases p with
 |bA=>cases g2;rw[rd.bA];rfl
 |bl y=>cases g2;rw[rd.bl];rfl
 |int y=>cases g2;rw[rd.int];rfl
 |str y=>obtain⟨c,g2⟩:=aL g2;cases g2;rw[rd.str];exact⟨le_of_lt (iQ c),rfl⟩
 |lst ps=>cases g2;obtain⟨a,xs,rfl,ha,ra⟩:=rd.lZ;exact .inl ⟨xs,ha.sq,by rw[ra.empty]⟩
 |tup ps=>cases g2;obtain⟨a,xs,rfl,ha,ra⟩:=rd.tup;exact .inr (.inl ⟨xs,ha.sq,by rw[ra.empty]⟩)
 |ty y=>cases g2
 |a8 y=>cases g2
end
theorem vG (K:Frag) {a:Expr} {ta:TE} (ha:PE X a ta) (he:∀whole,isTrue a X.env whole=(do let v<-whole;standAt a.pos;holding [v] (truthy v))) (hK:X.K=K:=by rfl):
  PT X a (fun σ H Q=>ta σ H fun x H'=>∃k,Q1 K x H' k/\Q k H'):=by subst hK;exact NL ha he
theorem IC {K:Frag} {wi:TI} {g:TG} {tt:TT} {te:TE} {fi:FI} {cI:List Nat} (ms:List (Nat×Nat)) {fg:FG} {ft:FT} {fe:FE} (hms:(ms.all fun z=>ms.all fun z'=>(z.1==z'.1)==(z.2==z'.2))=true) (hi:uB K wi fi) (hg:yS K g fg) (ht:jY K tt ft) (he:Ref K te fe):Ref K (vK wi k cI g tt te) (fI fi k cI ms fg ft fe):=by
 have key:∀z∈ms,∀z'∈ms,(z.1==z'.1)=(z.2==z'.2):=fun z hz z' hz'=>by
  have:=all_eq_true.mp (all_eq_true.mp hms z hz) z' hz'
  simpa using this
 refine N2 ms (fun i j1 j2 h1 h2=>?_) (fun i1 i2 j h1 h2=>?_) hi hg ht he
 ·have:=key _ h1 _ h2
  simpa using this
 ·have:=key _ h1 _ h2
  simpa using this
theorem VI (i:Nat) (e:En):aC i e=(match e[i]? with
 |some (some (.val p))=>some (.val p,e)
 |some (some _)=>some (.slot i,e)
 |_=>none):=rfl
theorem acU (p:PV) (e:En):fC p e=some (.val p,e):=rfl
theorem Z1 (g:PV->PV->Option Bv) (fa fb:FE) (e:En):bF g fa fb e=bE (fa e) fun x e1=>bE (fb e1) fun y e2=>bO (x.weak.get e2) fun p=>bO (y.weak.get e2) fun q=>bO (g p q) fun b=>some (b,e2):=rfl
theorem abQ (g:PV->Option Bv) (fa:FE) (e:En):fUn g fa e=bE (fa e) fun x e1=>bO (x.weak.get e1) fun p=>bO (g p) fun b=>some (b,e1):=rfl
theorem YD (e:En):aK e=some ([],e):=rfl
theorem RE (fa:FE) (fr:FA) (e:En):aB fa fr e=bE (fa e) fun x e1=>bE (fr e1) fun xs e2=>some (x.weak::xs,e2):=rfl
theorem abJ (g:List PV->Option Bv) (fa:FA) (e:En):jX g fa e=bE (fa e) fun xs e1=>bO (getL e1 xs) fun ps=>bO (g ps) fun b=>some (b,e1):=rfl
theorem abE (g:PV->List PV->Option Bv) (fo:FE) (fa:FA) (e:En):fBM g fo fa e=(bE (fo e) fun x e0=>match x with
 | .val (.str z)=>bE (fa e0) fun xs e1=>bO (getL e1 xs) fun ps=>bO (g (.str z) ps) fun b=>some (b,e1)
 |_=>none):=rfl
theorem VA (g:PV->List PV->Option Bv) (fo:FE) (e:En):adB g fo e=(bE (fo e) fun x e0=>match x with
 | .val (.str z)=>bO (g (.str z) []) fun b=>some (b,e0)
 |_=>none):=rfl
theorem VN (fa:FA) (e:En):dY fa e=bE (fa e) fun xs e1=>bO (putL xs) fun ps=>aQ (decide (ps.length<1000000)) (some (.val (.tup ps),e1)):=rfl
theorem V3 (fa:FA) (e:En):gZ fa e=bE (fa e) fun xs e1=>bO (putL xs) fun ps=>aQ (decide (ps.length<1000000)) (some (.new (.lst ps),e1)):=rfl
theorem RQ (f:FE) (e:En):bL f e=(bE (f e) fun b e1=>match b with
 | .val (.bl c)=>some (c,e1)
 |_=>none):=rfl
theorem UK (f g:FT) (e:En):vA f g e=bE (f e) fun b e1=>bB b (g e1) (some (false,e1)):=rfl
theorem ZV (f g:FT) (e:En):S0 f g e=bE (f e) fun b e1=>bB b (some (true,e1)) (g e1):=rfl
theorem X0 (f:FT) (e:En):L4 f e=bE (f e) fun b e1=>some (!b,e1):=rfl
theorem P4 (e:En):dM e=some (true,e):=rfl
theorem RC (fa fb:FE) (e:En):vL fa fb e=bE (fa e) fun b e1=>bO (zC b) fun c=>bB c (fb e1) (some (.val (.bl false),e1)):=rfl
theorem YA (fa fb:FE) (e:En):adJ fa fb e=bE (fa e) fun b e1=>bO (zC b) fun c=>bB c (some (.val (.bl true),e1)) (fb e1):=rfl
theorem P8 (fa:FE) (e:En):aaF fa e=bE (fa e) fun b e1=>bO (zC b) fun c=>some (.val (.bl (!c)),e1):=rfl
theorem abI (fc:FT) (fa fb:FE) (e:En):SY fc fa fb e=bE (fc e) fun b e1=>bB b (fa e1) (fb e1):=rfl
theorem HN (e:En):fR e=some (none,e):=rfl
theorem RU (f:FE) (e:En):l0 f e=(bE (f e) fun b e1=>match b with
 | .val (.int i)=>some (some i,e1)
 |_=>none):=rfl
theorem abP (g:PV->Option Int->Option Int->Option Bv) (fa:FE) (fl fh:FO) (e:En):KA g fa fl fh e=bE (fa e) fun x e1=>bE (fl e1) fun lo e2=>bE (fh e2) fun hi e3=>bO (x.weak.get e3) fun p=>bO (g p lo hi) fun b=>some (b,e3):=rfl
theorem Q3 (e:En):dA e=some (.nx e):=rfl
theorem JR (e:En):VD e=some (.bk e):=rfl
theorem OZ (e:En):aaD e=some (.ct e):=rfl
theorem VR (f:FE) (e:En):cR f e=bE (f e) fun b e1=>some (.rt b e1):=rfl
theorem QR (e:En):aaJ e=some (.rt (.val .bA) e):=rfl
theorem PJ (f:FE) (e:En):aaX f e=bE (f e) fun b e1=>some (.nx e1):=rfl
theorem aaP (fc:FT) (f g:FS) (e:En):pW fc f g e=bE (fc e) fun b e1=>bB b (f e1) (g e1):=rfl
theorem WZ (i:Nat) (f:FE) (e:En):bY i f e=(bE (f e) fun b e1=>match b with
 | .val p=>some (.nx (e1.set i (some (.val p))))
 | .new p=>some (.nx (e1.set i (some (.val p))))
 | .slot j=>match e1[j]? with
  |some (some (.bor p))=>some (.nx (e1.set i (some (.bor p))))
  |_=>none):=rfl
theorem SM (i:Nat) (f:FE) (e:En):eX i f e=(bE (f e) fun b e1=>match b with
 | .new p=>some (.nx (e1.set i (some (.loc p))))
 |_=>none):=rfl
theorem X9 (i:Nat) (f:FS) (e:En):VJ i f e=bO (rel i e) f:=rfl
theorem WT (i:Nat) (f:FE) (e:En):vE i f e=(bO (ownAt e i) fun p0=>match p0 with
 | .lst _=>bE (f e) fun b e1=>bO b.put fun p=>match ownAt e1 i with
  |some (.lst ps)=>aQ (decide (ps.length<1000000)) (some (.nx (cB e1 i (.lst (ps++[p])))))
  |_=>none
 |_=>none):=rfl
theorem MY (i:Nat) (fi fv:FE) (e:En):yM i fi fv e=(bE (fv e) fun b e1=>bO b.put fun p=>bO (ownAt e1 i) fun _=>bE (fi e1) fun k e2=>match k with
 | .val (.int k)=>match ownAt e2 i with
  |some (.lst ps)=>bO (rY ps.length k) fun j=>some (.nx (cB e2 i (.lst (ps.set j p))))
  |_=>none
 |_=>none):=rfl
theorem R7 (i:Nat) (fk fv:FE) (e:En):eQ i fk fv e=(bE (fv e) fun b e1=>bO b.put fun p=>bO (ownAt e1 i) fun _=>bE (fk e1) fun k e2=>bO (k.weak.get e2) fun kp=>bO (keyOf kp) fun key=>match ownAt e2 i with
  |some (.a8 kvs)=>aQ (decide (kvs.length<1000000)) (some (.nx (cB e2 i (.a8 (eR kvs key p)))))
  |_=>none):=rfl
theorem NX (i:Nat) (p:PV) (e:En):aO i p e=some (e.set i (some (.val p))):=rfl
theorem O9 (ps:List PV) (e:En):jG ps e=match ps with|[]=>some e|_=>none:=rfl
theorem M6 (f:FG) (g:F4) (ps:List PV) (e:En):b8 f g ps e=match ps with|p::ps=>bO (f p e) (g ps)|[]=>none:=rfl
theorem QG (n:Nat) (f:F4) (p:PV) (e:En):jI n f p e=(match p with
 | .tup ps=>aQ (decide (ps.length=n)) (f ps e)
 |_=>none):=rfl
theorem ZH (f:FE) (fg:FG) (e:En):SI f fg e=bE (f e) fun b e1=>bO b.put fun p=>bO (fg p e1) fun e2=>some (.nx e2):=rfl
theorem WB (i j:Nat) (fa:FA) (e:En):ac4 i j fa e=(bE (fa e) fun bs e1=>bO (putL bs) fun ps=>match ps with
 |[p,q]=>some (.nx ((e1.set i (some (.val p))).set j (some (.val q))))
 |_=>none):=rfl
theorem aaQ (f:FE) (st:Nat->Bool) (e:En):qZ f st e=(bE (f e) fun b e1=>match b with
 | .slot i=>match e1[i]? with
  |some (some (.bor p))=>bO (gQ p) fun ps=>some (ps,e1)
  |some (some (.own p))=>aQ (st i) (bO (gQ p) fun ps=>some (ps,e1))
  |some (some (.loc p))=>aQ (st i) (bO (gQ p) fun ps=>some (ps,e1))
  |_=>none
 | .val p=>bO (gQ p) fun ps=>some (ps,e1)
 | .new p=>bO (gQ p) fun ps=>some (ps,e1)):=rfl
theorem U7 (fa:FA) (st_:Nat->Bool) (e:En):aeF fa st_ e=(bE (fa e) fun bs e1=>match bs with
 |[.val (.tup ps)]=>some (ps.zipIdx.map fun z=>.tup [.int (z.2:Int),z.1],e1)
 |_=>none):=rfl
theorem K4 (g g':PV->PV->Option Bv) (fa fb fc:FE) (e:En):W7 g g' fa fb fc e=(bE (fa e) fun x e1=>bE (fb e1) fun y e2=>bO (x.weak.get e2) fun p=>bO (y.weak.get e2) fun q=>bO (g p q) fun b=>match b with
 | .val (.bl true)=>bE (fc e2) fun z e3=>bO (y.weak.get e3) fun q'=>bO (z.weak.get e3) fun r=>bO (g' q' r) fun b'=>some (b',e3)
 | .val (.bl false)=>some (.val (.bl false),e2)
 |_=>none):=rfl
theorem Y1 (f:FE) (e:En):RD f e=bE (f e) fun b e1=>bO (b.weak.get e1) fun p=>bO (XE p) fun c=>some (c,e1):=rfl
theorem P0 (e:En):mK e=some (.new (.a8 []),e):=rfl
end Mr
namespace L2
open PySem PySem.Spec PyProof.Rows
variable {a:Expr} {p pos:Pos} {ta:TA}
noncomputable def aaZ (K:Frag) (a:Addr):It:=
 ⟨fun i H=>∃xs x,iB K H a xs/\xs[i]? =some x,fun i H v H'=>∃t,H t=none/\v= .ref t/\∀xs,iB K H a xs->∃x,xs[i]? =some x/\H'=upd H t (.tup [.int i,x]),fun i H=>∃xs,iB K H a xs/\xs.length=i⟩
theorem CN {P:Program} {w:World} {K:Frag} {elts:List Expr} {x1} (a it e:Addr) (hei:e≠it):Turn P w K (.Tuple elts x1 pos) (aaZ K a) [e,it] e (fun i h=>(∃old,IsEnum h e it i old)/\h.IsListIter it a i)where
 mem:=by simp
 obj:=fun i h st b hb=>by
  obtain⟨⟨old,he⟩,o,ho,c,d⟩:=st
  rcases mem_cons.mp hb with z|z
  ·subst z;exact⟨_,he,fun v z=>by cases z⟩
  ·have z:b=it:=by simpa using z
   subst z;exact⟨o,ho,fun v z=>by rw[d]at z;cases z⟩
 keep:=fun i h h' st k=>⟨let⟨old,he⟩:=st.1;⟨old,k e (by simp) _ he⟩,st.2.at fun o q=>k it (by simp) o q⟩
 item:=by
  intro X hP hw hK hc i pins s σ H E I hf st hg
  subst hP hw hK
  obtain⟨xs,x,hq,hx⟩:=hg
  obtain⟨its,rv,p,hz⟩:=I.list hq
  obtain⟨u,hu,ru⟩:=rv.get hx
  obtain⟨⟨old,he⟩,ht⟩:=st
  have hne:a≠it:=fun z=>by
   obtain⟨o,ho,c,_⟩:=ht
   obtain⟨o',_,ho',c',_,_⟩:=p
   subst z
   rw[ho]at ho';cases ho'
   rw[c]at c'
   exact absurd (Value.type.inj c') (by decide)
  have hae:a≠e:=fun z=>by
   obtain⟨o',_,ho',c',_,_⟩:=p
   subst z
   rw[he]at ho';cases ho'
   exact absurd (Value.type.inj c') (by decide)
  have hlt:i<its.toArray.size:=by have:=(List.getElem?_eq_some_iff.mp hu).1;simpa using this
  refine wpAny_pyNext_enum_itemD (Draws.list (A:=X.A.in1) (by exact I.ok.hd hc) it a hne its.toArray) he ⟨ht,p.isList⟩ hlt hei (by simp[hei,Ne.symm hae]) fun v h' tk hPv ho' st' htup hsz hk=>?_
  have ev:v=u:=by
   have h1:its[i]? =some v:=by simpa using hPv
   rw[hu]at h1;exact(Option.some.inj h1).symm
  subst ev
  refine⟨_,rfl,wpAny_letOwnedTupleGo_enum (s:={s with heap:=h',toks:=tk+1}) ho' fun h2 he2 sb=>?_⟩
  have hTe:s.heap.objs.size≠e:=fun z=>by
   have:=lt_size he;rw[<-z]at this;exact lt_irrefl _ this
  have hTi:s.heap.objs.size≠it:=fun z=>by
   obtain⟨o,ho,_⟩:=ht
   have:=lt_size ho;rw[<-z]at this;exact lt_irrefl _ this
  have hk2:∀b o,b∉[e,it]->s.heap.get? b=some o->h2.get? b=some o:=fun b o hb q=>
   sb.extBut b o (fun z=>hb (by simp[z])) (hk b o (fun z=>hb (by simp[z])) (fun z=>hb (by simp[z])) q)
  have I1:Inv X pins σ H {s with heap:=h2,toks:=tk+1}:=I.F0 hk2 hf
  have hfr:H s.heap.objs.size=none:=I.bP.fresh (le_refl _)
  have htup2:h2.get? s.heap.objs.size=some {cls:=.type "tuple",data:=.seq #[.int i tk,v]}:=sb.extBut _ _ hTe htup
  have I2:Inv X pins σ (upd H s.heap.objs.size (.tup [.int i,x])) {s with heap:=h2,toks:=tk+1}:=by
   refine I.un2 hk2 hf hfr (by simp[hTe,hTi]) ⟨by show 2<=sizeLine;decide,[.int i tk,v],.cons ⟨_,rfl⟩ (.cons ru .nil),pG.of htup2⟩ (fun b hb o q=>?_)
   rcases mem_cons.mp hb with r|r
   ·subst r;exact⟨_,he2⟩
   ·have r:b=it:=by simpa using r
    subst r
    obtain⟨o',ho',_⟩:=st'.1.extBut sb.extBut (Ne.symm hei)
    exact⟨o',ho'⟩
  refine⟨.ref s.heap.objs.size,_,I2,rfl,⟨s.heap.objs.size,hfr,rfl,fun ys hy=>⟨x,by rw[I.BR hy hq];exact hx,rfl⟩⟩,⟨⟨_,he2⟩,st'.1.extBut sb.extBut (Ne.symm hei)⟩,fun b hb=>?_⟩
  have hbT:b≠s.heap.objs.size:=fun z=>by
   rcases mem_cons.mp hb with r|r
   ·exact hTe (z▸r)
   ·have r:b=it:=by simpa using r
    exact hTi (z▸r)
  rw[aS hbT]
  exact(hf b hb).1
 done:=by
  intro X hP hw hK hc i pins s σ H E I hf st hg
  subst hP hw hK
  obtain⟨xs,hq,hx⟩:=hg
  obtain⟨its,rv,p,hz⟩:=I.list hq
  obtain⟨⟨old,he⟩,ht⟩:=st
  have hl:=rv.length
  have hne:a≠it:=fun z=>by
   obtain⟨o,ho,c,_⟩:=ht
   obtain⟨o',_,ho',c',_,_⟩:=p
   subst z
   rw[ho]at ho';cases ho'
   rw[c]at c'
   exact absurd (Value.type.inj c') (by decide)
  have ei:(i:Nat)=its.toArray.size:=by simp;omega
  subst ei
  obtain⟨f0,f1,f2,f3,f4,f5⟩:=hf it (by simp)
  exact wpAny_pyNext_enum_endD (Draws.list (A:=X.A.in1) (by exact I.ok.hd hc) it a hne its.toArray) he ⟨ht,p.isList⟩ fun h' eb=>⟨rfl,I.turned (t':=s.toks) (fun b o hb e=>eb b o hb e) f0 f1 f3 f4 f5⟩
 self:=fun _ _ _ _ _ st h=>let⟨_,he⟩:=st.1;wpAny_pyIter_enum he h
section
variable {X:Cx} {elts:List Expr} {x1:Nat} {tpos:Pos}
noncomputable def xQ (K:Frag) (ta:TA):TI:=fun σ H R=>ta σ H fun vs H1=>(∃a xs,vs=[.ref a]/\nE K H1 a xs/\R (Ite K a) H1)\/ ∃a xs,vs=[.ref a]/\iB K H1 a xs/\R (aaZ K a) H1
theorem JJ (hg:Gl X "enumerate") (hm:X.mg "enumerate"=none) (ha:PA X [a] ta) (hs:starEach [a] X.env=[(false,eval a X.env)]:=by rfl):PI X (.Tuple elts x1 tpos) (.Call (.Name "enumerate" p) [a] [] pos) (xQ X.K ta):=by
 intro pins s σ H R I h
 refine Call_ (qE I hg hm xT (PyProof.Rows.callWith_type1 (cP (ha pos pins s σ H _ I h) fun us s1 ⟨vs,H1,I1,r1,q1⟩=>?_) hs rfl))
 rcases q1 with⟨t,xs,e,hq,q⟩|⟨t,xs,e,hq,q⟩
 ·subst e
  obtain⟨u,rfl,rx⟩:=vals1 r1
  cases rx
  obtain⟨its,rv,pt,hz⟩:=I1.tuple hq
  refine iW (show s1.heap.IsTuple t its.toArray from pt) fun h' he ht hsz hk=>?_
  have I2:Inv X pins σ H1 {s1 with heap:=h'}:=I1.kept (t':=s1.toks) hk
  refine wpAny_pyIter_enum (s:={s1 with heap:=h'}) he ?_
  refine⟨s1.heap.objs.size+1,[s1.heap.objs.size+1,s1.heap.objs.size],_,_,H1,rfl,I2,D1 t s1.heap.objs.size (s1.heap.objs.size+1) (Nat.succ_ne_self _),⟨⟨_,he⟩,ht⟩,fun b hb=>?_,q⟩
  rcases mem_cons.mp hb with r|r
  ·subst r;exact I1.qG (le_succ _) (I1.bP.fresh (le_succ _))
  ·have r:b=s1.heap.objs.size:=by simpa using r
   subst r;exact I1.qG (le_refl _) (I1.bP.fresh (le_refl _))
 ·subst e
  obtain⟨u,rfl,rx⟩:=vals1 r1
  cases rx
  obtain⟨its,rv,pt,hz⟩:=I1.list hq
  refine call_enumerate_list pt.isList fun h' he ht hsz hk=>?_
  have I2:Inv X pins σ H1 {s1 with heap:=h'}:=I1.kept (t':=s1.toks) hk
  refine wpAny_pyIter_enum (s:={s1 with heap:=h'}) he ?_
  refine⟨s1.heap.objs.size+1,[s1.heap.objs.size+1,s1.heap.objs.size],_,_,H1,rfl,I2,CN t s1.heap.objs.size (s1.heap.objs.size+1) (Nat.succ_ne_self _),⟨⟨_,he⟩,ht⟩,fun b hb=>?_,q⟩
  rcases mem_cons.mp hb with r|r
  ·subst r;exact I1.qG (le_succ _) (I1.bP.fresh (le_succ _))
  ·have r:b=s1.heap.objs.size:=by simpa using r
   subst r;exact I1.qG (le_refl _) (I1.bP.fresh (le_refl _))
theorem yP (K:Frag) (hg:Gl X "enumerate") (hm:X.mg "enumerate"=none) (ha:PA X [a] ta) (h:X.K=K:=by rfl) (hs:starEach [a] X.env=[(false,eval a X.env)]:=by rfl):
  PI X (.Tuple elts x1 tpos) (.Call (.Name "enumerate" p) [a] [] pos) (xQ K ta):=h▸JJ hg hm ha hs
end
end L2
namespace Mr
open PySem PySem.Spec L2 PyProof.Rows
variable {e:En} {fa:FA} {ss:List Str} {a b:Str}
section
variable {K:Frag}
noncomputable def FC (fa:FA):FI:=fun _ e=>bE (fa e) fun bs e1=>match bs with
 |[.val (.tup ps)]=>some (ps.zipIdx.map fun z=>.tup [.int (z.2:Int),z.1],e1)
 |[.val (.lst ps)]=>some (ps.zipIdx.map fun z=>.tup [.int (z.2:Int),z.1],e1)
 |_=>none
theorem MT {ta:TA} (h:rE K ta fa):uB K (xQ K ta) (FC fa):=by
 intro st O M W L σ H e e' ps R o he hf q
 obtain⟨x,e1,f1,hf⟩:=aM hf
 refine h O M W L σ H e e1 x _ o he f1 fun vs H1 k1 en rv=>?_
 have o1:=o.keep k1.cC
 split at hf
 ·rename_i ps0
  cases hf
  cases rv with
  | cons h r=>
   cases r
   cases h with
   | tup ha ra=>
    rename_i a xs
    refine .inl ⟨a,xs,rfl,ha.sq,q _ H1 k1 en fun Wr hw _=>?_⟩
    intro L' H' j1 j2 j3
    have st:=uJ o1 hw j1 j2 j3
    have sq:nE K H' a xs:=TupAt.sq (ha.elim (fun h=>.inl (j2 _ _ h)) .inr)
    refine⟨fun k p hp=>?_,xs,sq,by rw[length_map,length_zipIdx,ra.length]⟩
    rw[getElem?_map,getElem?_zipIdx]at hp
    cases c:ps0[k]? with
    |none=>rw[c]at hp;cases hp
    |some p0=>
     rw[c]at hp
     cases hp
     obtain⟨v,hv,rv⟩:=ra.get c
     refine⟨⟨xs,v,sq,hv⟩,fun x H3 y=>?_⟩
     obtain⟨t,ht,rfl,y⟩:=y
     obtain⟨x',hx',rfl⟩:=y xs sq
     rw[hv]at hx'
     cases hx'
     refine⟨aZ.upd ht,.tup (.inl aU) (.cons ?_ (.cons ((rv.aH st).aH (.same (aZ.upd ht))) .nil))⟩
     rw[zero_add]
     exact .int _
 ·rename_i ps0
  cases hf
  cases rv with
  | cons h r=>
   cases r
   cases h with
   | lst ha n ra=>
    rename_i a xs
    refine .inr ⟨a,xs,rfl,.inl ha,q _ H1 k1 en fun Wr hw _=>?_⟩
    intro L' H' j1 j2 j3
    have st:=uJ o1 hw j1 j2 j3
    have nw:¬Wr a:=fun z=>n ((hw _ z).elim (fun⟨i,w⟩=>.inl (o.wm i _ w)) .inr)
    have sq:iB K H' a xs:=by
     rcases ha with h|⟨u,h⟩
     ·exact .inl (.inl (j1 _ _ h nw))
     ·exact .inl (.inr ⟨u,j1 _ _ h nw⟩)
    refine⟨fun k p hp=>?_,xs,sq,by rw[length_map,length_zipIdx,ra.length]⟩
    rw[getElem?_map,getElem?_zipIdx]at hp
    cases c:ps0[k]? with
    |none=>rw[c]at hp;cases hp
    |some p0=>
     rw[c]at hp
     cases hp
     obtain⟨v,hv,rv⟩:=ra.get c
     refine⟨⟨xs,v,sq,hv⟩,fun x H3 y=>?_⟩
     obtain⟨t,ht,rfl,y⟩:=y
     obtain⟨x',hx',rfl⟩:=y xs sq
     rw[hv]at hx'
     cases hx'
     refine⟨aZ.upd ht,.tup (.inl aU) (.cons ?_ (.cons ((rv.aH st).aH (.same (aZ.upd ht))) .nil))⟩
     rw[zero_add]
     exact .int _
 ·cases hf
theorem PQ {st:Nat->Bool}:FC fa st e=bE (fa e) fun bs e1=>match bs with
 |[.val (.tup ps)]=>some (ps.zipIdx.map fun z=>.tup [.int (z.2:Int),z.1],e1)
 |[.val (.lst ps)]=>some (ps.zipIdx.map fun z=>.tup [.int (z.2:Int),z.1],e1)
 |_=>none:=rfl
end
section
variable {K:Frag}
noncomputable def aa7:PV->PV->Option Bv
 | .tup ps,.int i=>aQ (decide (i= -1)) (some (.val (.tup ps.reverse)))
 |_,_=>none
end
section
variable {K:Frag}
noncomputable def ad8 (i:Nat) (f:FE):FE:=fun e=>bO (ownAt e i) fun p0=>match p0 with
 | .lst _=>bE (f e) fun b e1=>match b with
  | .val (.int k)=>match ownAt e1 i with
   |some (.lst ps)=>aQ (decide (-1000000000<=k/\k<1000000000)) (bO (rY ps.length k) fun j=>bO ps[j]? fun p=>some (.val p,cB e1 i (.lst (ps.eraseIdx j))))
   |_=>none
  |_=>none
 |_=>none
theorem W4 {i:Nat} {f:FE}:ad8 i f e=bO (ownAt e i) fun p0=>match p0 with
 | .lst _=>bE (f e) fun b e1=>match b with
  | .val (.int k)=>match ownAt e1 i with
   |some (.lst ps)=>aQ (decide (-1000000000<=k/\k<1000000000)) (bO (rY ps.length k) fun j=>bO ps[j]? fun p=>some (.val p,cB e1 i (.lst (ps.eraseIdx j))))
   |_=>none
  |_=>none
 |_=>none:=rfl
noncomputable def yW (a b:Str):Prop:=¬b.cps.toList<a.cps.toList
theorem wD {c:Str} (h:yW a b) (h':yW b c):yW a c:=not_lt.mpr (List.le_trans (not_lt.mp h) (not_lt.mp h'))
theorem N7 {a b:Str} (h:yW a b) (h':yW b a):a=b:=by
 have:=List.le_antisymm (not_lt.mp h) (not_lt.mp h')
 exact Str.ext' (by cases a;cases b;simp at this;exact this)
theorem qV:∀{x:Str} {r:List Str},risingS x r=true->(x::r).Pairwise yW
 |x,[],_=>List.pairwise_singleton _ _
 | x,y::r,h=>by
  have h:(!ltCps y.cps.toList x.cps.toList && risingS y r)=true:=h
  rw[and_eq_true]at h
  have ih:=qV h.2
  have hxy:yW x y:=by
   have:=h.1
   rw[ltCps_eq]at this
   simpa [yW]using this
  refine pairwise_cons.mpr ⟨fun z hz=>?_,ih⟩
  rcases mem_cons.mp hz with e|e
  ·rw[e];exact hxy
  ·exact wD hxy ((pairwise_cons.mp ih).1 z e)
theorem zO {l:List Str} (h:sortedS l=true):l.Pairwise yW:=by
 cases l with
 |nil=>exact .nil
 |cons x r=>exact qV h
theorem i8:∀{a b:List Str},a.Pairwise yW->b.Pairwise yW->a.Perm b->a=b
 |[],b,_,_,p=>(List.Perm.nil_eq p)
 |x::a,[],_,_,p=>absurd p.symm.nil_eq (by simp)
 | x::a,y::b,ha,hb,p=>by
  have hx:=(pairwise_cons.mp ha).1
  have hy:=(pairwise_cons.mp hb).1
  have e:x=y:=by
   rcases mem_cons.mp (p.mem_iff.mp mem_cons_self)with z|z
   ·exact z
   ·rcases mem_cons.mp (p.mem_iff.mpr mem_cons_self)with w|w
    ·exact w.symm
    ·exact N7 (hx y w) (hy x z)
  subst e
  rw[i8 (pairwise_cons.mp ha).2 (pairwise_cons.mp hb).2 p.cons_inv]
noncomputable def leS (a b:Str):Bool:=!ltCps b.cps.toList a.cps.toList
theorem mO:leS a b=true↔yW a b:=by
 unfold leS yW
 rw[ltCps_eq]
 simp
noncomputable def cL (ss:List Str):List Str:=ss.mergeSort leS
theorem hV (ss:List Str):(cL ss).Pairwise yW:=by
 have:=List.pairwise_mergeSort (le:=leS) (fun a b c h1 h2=>mO.mpr (wD (mO.mp h1) (mO.mp h2))) (fun a b=>by
  rw[or_eq_true,mO,mO]
  by_cases h:yW a b
  ·exact .inl h
  ·right
   unfold yW at h⊢
   have h:=Classical.not_not.mp h
   exact not_lt.mpr (List.le_of_lt h)) ss
 exact this.imp fun h=>mO.mp h
theorem dJ (ss:List Str):(cL ss).Perm ss:=List.mergeSort_perm ss leS
theorem B4 {out:List Str} (hp:out.Perm ss) (hs:sortedS out=true):cL ss=out:=i8 (hV ss) (zO hs) ((dJ ss).trans hp.symm)
theorem D7 {tt:List Str} (hp:ss.Perm tt):cL ss=cL tt:=i8 (hV ss) (hV tt) ((dJ ss).trans (hp.trans (dJ tt).symm))
noncomputable def t7:List PV->Option Bv
 |[.lst ps]=>bO (l9 ps) fun ss=>aQ (decide (ss.length<64)) (some (.new (.lst ((cL ss).map PV.str))))
 |_=>none
theorem bH.ofStrs {Z:aI} {H:Hp}:∀(ss:List Str),bH K Z H (ss.map PV.str) (ss.map V.str)
 |[]=>.nil
 |s::ss=>.cons (.str s) (bH.ofStrs ss)
theorem K9:gP K (CY K) t7:=by
 intro Z H vs ps b Q hp h k
 unfold t7 at h
 split at h
 ·obtain⟨ss,g,h⟩:=aF h
  obtain⟨c,h⟩:=aL h
  cases h
  obtain⟨v,rfl,hv⟩:=hp.one
  obtain⟨a,ys,rfl,ha,ra⟩:=hv.lZ
  rw[o7 g]at ra
  rw[ra.strs]at ha
  refine⟨a,ss,rfl,ha.sq,of_decide_eq_true c,fun l out h1 h2 hl=>?_⟩
  rw[B4 h1 h2]at k
  exact k _ _ (aZ.upd hl) (AA hl (bH.ofStrs out))
 ·cases h
end
end Mr
namespace Mr
open PySem L2
variable {Q:Bv×En->Prop} {e:En} {fg:FG} {fi:FI} {ft:FT} {ks:List Kd} {x xs y ys:List PV}
structure Mark {α:Type} (Q:α->Prop):Type where
noncomputable def Wp {α:Type} (r:Option α) (Q:α->Prop) (u:Mark Q:=⟨⟩):Prop:=∃a,r=some a/\Q a
section
variable {α β:Type} {Q:β->Prop}
theorem adU:rY 1 0=some 0:=by decide
theorem adK:rY 2 0=some 0:=by decide
theorem adE:rY 2 1=some 1:=by decide
theorem adL:rY 3 0=some 0:=by decide
theorem adM:rY 3 1=some 1:=by decide
theorem aeE:rY 3 2=some 2:=by decide
theorem adR:rY 4 0=some 0:=by decide
theorem ad9:rY 4 1=some 1:=by decide
theorem acR:rY 4 2=some 2:=by decide
theorem aeD:rY 4 3=some 3:=by decide
theorem KP {a b c d:Nat}:(((a,b):Nat×Nat)==(c,d))=(a==c && b==d):=rfl
theorem at0 {x:α} {xs:List α}:oN (x::xs) 0=some x:=gX (j:=0) rfl
theorem at1 {x y:α} {xs:List α}:oN (x::y::xs) 1=some y:=gX (j:=1) rfl
theorem at2 {x y z:α} {xs:List α}:oN (x::y::z::xs) 2=some z:=gX (j:=2) rfl
theorem at3 {x y z w:α} {xs:List α}:oN (x::y::z::w::xs) 3=some w:=gX (j:=3) rfl
theorem j7 {r:Option (α×En)} {k:α->En->Option β}:Wp (bE r k) Q↔Wp r fun z=>Wp (k z.1 z.2) Q:=by
 constructor
 ·rintro⟨b,h,q⟩
  obtain⟨a,e,h1,h2⟩:=aM h
  exact⟨(a,e),h1,b,h2,q⟩
 ·rintro⟨⟨a,e⟩,rfl,b,h2,q⟩
  exact⟨b,h2,q⟩
theorem kD {r:Option α} {k:α->Option β}:Wp (bO r k) Q↔Wp r fun z=>Wp (k z) Q:=by
 constructor
 ·rintro⟨b,h,q⟩
  obtain⟨a,h1,h2⟩:=aF h
  exact⟨a,h1,b,h2,q⟩
 ·rintro⟨a,rfl,b,h2,q⟩
  exact⟨b,h2,q⟩
theorem bW {b:β}:Wp (some b) Q↔Q b:=⟨fun⟨_,h,q⟩=>by cases h;exact q,fun q=>⟨b,rfl,q⟩⟩
theorem oW:Wp (none:Option β) Q↔False:=by
 constructor
 ·rintro⟨_,h,_⟩;cases h
 ·exact False.elim
theorem eB {c:Bool} {k:Option β}:Wp (aQ c k) Q↔c=true/\Wp k Q:=by
 constructor
 ·rintro⟨b,h,q⟩
  obtain⟨h1,h2⟩:=aL h
  exact⟨h1,b,h2,q⟩
 ·rintro⟨rfl,b,h,q⟩
  exact⟨b,h,q⟩
theorem wp_seq {f g:FS} {e:En} {Q:Out->Prop}:Wp (aT f g e) Q↔Wp (f e) fun o=>match o with| .nx e1=>Wp (g e1) Q|o=>Q o:=by
 unfold aT
 cases f e with
 |none=>simp[oW]
 |some o=>
  rw[bW]
  cases o<;>simp[bW]
theorem QS {c:Bool} {x y:Option β}:Wp (bB c x y) Q↔((c=true->Wp x Q)/\(c=false->Wp y Q)):=by
 cases c<;>simp[bB]
theorem acT {x y:β}:bB true x y=x:=rfl
theorem acQ {x y:β}:bB false x y=y:=rfl
theorem Wp.mono {r:Option β} {Q Q':β->Prop} (h:Wp r Q) (k:∀b,Q b->Q' b):Wp r Q':=let⟨b,e,q⟩:=h;⟨b,e,k b q⟩
theorem Wp.eq {r:Option β} {b:β} (h:Wp r fun x=>x=b):r=some b:=let⟨_,e,q⟩:=h;q▸e
theorem SX {r:Option β} {b:β} (h:r=some b) (q:Q b):Wp r Q:=⟨b,h,q⟩
end
theorem YY {nl:Nat} {fr:Bool} {g:FS} {ps:List PV} {Q:PV×List PV->Prop}:Wp (nF ks nl fr g ps) Q↔Wp (g (mX ks ps++List.replicate nl none)) fun o=>Wp (XC ks fr o) Q:=by
 unfold nF;exact kD
theorem wp_call {fr:Bool} {f:FN} {fa:FA}:Wp (bC ks fr f fa e) Q↔Wp (fa e) fun z=>Wp (G3 z.2 ks z.1) fun ps=>
  (decide ((bZ ks z.1).Nodup) && (nY ks z.1).all fun i=>!(bZ ks z.1).contains i)=true/\Wp (f ps) fun rq=>Wp (nA (rq.2.map fun q=>some (.own q)) (bZ ks z.1).zipIdx z.2) fun e2=>Q (resB rq.1 fr,e2):=by
 unfold bC
 constructor
 ·intro h
  obtain⟨z,h1,h⟩:=j7.mp h
  obtain⟨ps,h2,h⟩:=kD.mp h
  obtain⟨g,h⟩:=eB.mp h
  obtain⟨rq,h3,h⟩:=kD.mp h
  obtain⟨e2,h4,h⟩:=kD.mp h
  exact⟨z,h1,ps,h2,g,rq,h3,e2,h4,bW.mp h⟩
 ·rintro⟨z,h1,ps,h2,g,rq,h3,e2,h4,q⟩
  exact j7.mpr ⟨z,h1,kD.mpr ⟨ps,h2,eB.mpr ⟨g,kD.mpr ⟨rq,h3,kD.mpr ⟨e2,h4,bW.mpr q⟩⟩⟩⟩⟩
theorem cM {body:PV->En->Option Out} (I:Nat->En->Prop) {Q:Out->Prop} (hs:∀(i:Nat) x e,xs[i]? =some x->I i e->Wp (body x e) fun o=>match o with| .nx e1=>I (i+1) e1| .ct e1=>I (i+1) e1| .bk e1=>Q (.nx e1)| .rt b e1=>Q (.rt b e1))
  (hd:∀e,I xs.length e->Q (.nx e)) {e:En} (h0:I 0 e):Wp (nH body xs e) Q:=by
 have key:∀(ys:List PV) (i:Nat) (e:En),i<=xs.length->xs.drop i=ys->I i e->Wp (nH body ys e) Q:=by
  intro ys
  induction ys with
  | nil=>
   intro i e hil hy hi
   unfold nH
   rw[bW]
   have hl:xs.length<=i:=by
    have:=congrArg List.length hy
    rw[length_drop]at this
    simp at this
    omega
   have h:i=xs.length:=by omega
   subst h
   exact hd e hi
  | cons x ys ih=>
   intro i e hil hy hi
   have hlt:i<xs.length:=by
    have:=congrArg List.length hy
    rw[length_drop,length_cons]at this
    omega
   rw[drop_eq_getElem_cons hlt]at hy
   have hx:xs[i]? =some x:=by rw[getElem?_eq_getElem hlt,(List.cons.inj hy).1]
   obtain⟨o,h1,h2⟩:=hs i x e hx hi
   unfold nH
   rw[h1]
   cases o with
   |nx e1=>exact ih (i+1) e1 hlt (List.cons.inj hy).2 h2
   |ct e1=>exact ih (i+1) e1 hlt (List.cons.inj hy).2 h2
   |bk e1=>exact bW.mpr h2
   |rt b e1=>exact bW.mpr h2
 exact key xs 0 e (zero_le _) rfl h0
theorem dR {fe:FE} (I:Nat->List PV->En->Prop) {Q:List PV×En->Prop} {xs:List PV} (hs:∀(i:Nat) x e acc,xs[i]? =some x->I i acc e->Wp (fg x e) fun e1=>Wp (ft e1) fun z=>match z.1 with|false=>I (i+1) acc z.2|true=>Wp (fe z.2) fun w=>Wp w.1.put fun p=>I (i+1) (acc++[p]) w.2)
  (hd:∀acc e,I xs.length acc e->Q (acc,e)) {e:En} (h0:I 0 [] e):Wp (iO fg ft fe xs e) Q:=by
 have key:∀(ys:List PV) (i:Nat) (acc:List PV) (e:En),i<=xs.length->xs.drop i=ys->I i acc e->∃rest e',iO fg ft fe ys e=some (rest,e')/\I xs.length (acc++rest) e':=by
  intro ys
  induction ys with
  | nil=>
   intro i acc e hil hy hi
   have hl:xs.length<=i:=by
    have:=congrArg List.length hy
    rw[length_drop]at this
    simp at this
    omega
   have h:i=xs.length:=by omega
   subst h
   exact⟨[],e,rfl,by rw[append_nil];exact hi⟩
  | cons x ys ih=>
   intro i acc e hil hy hi
   have hlt:i<xs.length:=by
    have:=congrArg List.length hy
    rw[length_drop,length_cons]at this
    omega
   rw[drop_eq_getElem_cons hlt]at hy
   have hx:xs[i]? =some x:=by rw[getElem?_eq_getElem hlt,(List.cons.inj hy).1]
   obtain⟨e1,h1,z,h2,h3⟩:=hs i x e acc hx hi
   obtain⟨b,e2⟩:=z
   unfold iO
   rw[h1,rS,h2,CH]
   cases b with
   |false=>exact ih (i+1) acc e2 hlt (List.cons.inj hy).2 h3
   |true=>
    obtain⟨⟨r,e3⟩,h4,p,h5,h6⟩:=h3
    dsimp only at h4 h5 h6⊢
    obtain⟨rest,e',h7,h8⟩:=ih (i+1) (acc++[p]) e3 hlt (List.cons.inj hy).2 h6
    rw[h4,CH,h5,rS,h7,CH]
    exact⟨p::rest,e',rfl,by rw[append_assoc]at h8;exact h8⟩
 obtain⟨rest,e',h1,h2⟩:=key xs 0 [] e (zero_le _) rfl h0
 exact⟨_,h1,hd _ _ h2⟩
theorem tG {fc:FT} {fb:FS} (I:En->Prop) (μ:En->Nat) {Q:Out->Prop} (hs:∀e,I e->Wp (fc e) fun z=>match z.1 with|false=>Q (.nx z.2)|true=>Wp (fb z.2) fun o=>match o with| .nx e1=>I e1/\μ e1<μ e| .ct e1=>I e1/\μ e1<μ e| .bk e1=>Q (.nx e1)| .rt b e1=>Q (.rt b e1)):
  ∀{n:Nat} {e:En},μ e<n->I e->Wp (lO fc fb n e) Q
 |0,e,h,_=>absurd h (Nat.not_lt_zero _)
 | n+1,e,h,hi=>by
  obtain⟨⟨b,e1⟩,h1,h2⟩:=hs e hi
  unfold lO
  rw[h1,CH]
  cases b with
  |false=>exact bW.mpr h2
  |true=>
   obtain⟨o,h3,h4⟩:=h2
   dsimp only at h3⊢
   rw[h3]
   cases o with
   |nx e2=>exact tG I μ hs (by have:=h4.2;omega) h4.1
   |ct e2=>exact tG I μ hs (by have:=h4.2;omega) h4.1
   |bk e2=>exact bW.mpr h4
   |rt b e2=>exact bW.mpr h4
theorem L9 {k:Nat} {cI:List Nat} {ms:List (Nat×Nat)} {fe:FE}:Wp (fI fi k cI ms fg ft fe e) Q↔Wp (fi (fun i=>!(ms.any fun z=>z.1==i)) e) fun z=>z.1.length<1000000/\Wp (iO fg ft fe z.1 (n6 k cI ms z.2)) fun w=>Wp (nA w.2 ms z.2) fun e2=>Q (.new (.lst w.1),e2):=by
 unfold fI
 constructor
 ·intro h
  obtain⟨z,h1,h⟩:=j7.mp h
  obtain⟨g,h⟩:=eB.mp h
  obtain⟨w,h2,h⟩:=j7.mp h
  obtain⟨e2,h3,h⟩:=kD.mp h
  exact⟨z,h1,of_decide_eq_true g,w,h2,e2,h3,bW.mp h⟩
 ·rintro⟨z,h1,g,w,h2,e2,h3,q⟩
  exact j7.mpr ⟨z,h1,eB.mpr ⟨decide_eq_true g,j7.mpr ⟨w,h2,kD.mpr ⟨e2,h3,bW.mpr q⟩⟩⟩⟩
theorem QH {fb:FS} {Q:Out->Prop}:Wp (iI fi fg fb e) Q↔Wp (fi (fun _=>false) e) fun z=>Wp (nH (fun x e=>bO (fg x e) fb) z.1 z.2) Q:=by
 unfold iI
 rw[j7]
theorem LQ:bK PV.bA PV.bA=true:=by simp[bK]
theorem YI {y:Bool}:bK PV.bA (PV.bl y)=false:=by simp[bK]
theorem W8 {y:Int}:bK PV.bA (PV.int y)=false:=by simp[bK]
theorem XG {y:Str}:bK PV.bA (PV.str y)=false:=by simp[bK]
theorem WA:bK PV.bA (PV.tup y)=false:=by simp[bK]
theorem XD:bK PV.bA (PV.lst y)=false:=by simp[bK]
theorem XW {x:Bool}:bK (PV.bl x) PV.bA=false:=by simp[bK]
theorem U8 {x:Bool} {y:Bool}:bK (PV.bl x) (PV.bl y)=(x==y):=by simp[bK]
theorem Y3 {x:Bool} {y:Int}:bK (PV.bl x) (PV.int y)=((if x then 1 else 0)==y):=by simp[bK]
theorem VS {x:Bool} {y:Str}:bK (PV.bl x) (PV.str y)=false:=by simp[bK]
theorem W9 {x:Bool}:bK (PV.bl x) (PV.tup y)=false:=by simp[bK]
theorem V5 {x:Bool}:bK (PV.bl x) (PV.lst y)=false:=by simp[bK]
theorem XX {x:Int}:bK (PV.int x) PV.bA=false:=by simp[bK]
theorem WK {x:Int} {y:Bool}:bK (PV.int x) (PV.bl y)=(x==(if y then 1 else 0)):=by simp[bK]
theorem VM {x:Int} {y:Int}:bK (PV.int x) (PV.int y)=(x==y):=by simp[bK]
theorem YW {x:Int} {y:Str}:bK (PV.int x) (PV.str y)=false:=by simp[bK]
theorem VY {x:Int}:bK (PV.int x) (PV.tup y)=false:=by simp[bK]
theorem WM {x:Int}:bK (PV.int x) (PV.lst y)=false:=by simp[bK]
theorem X4 {x:Str}:bK (PV.str x) PV.bA=false:=by simp[bK]
theorem YN {x:Str} {y:Bool}:bK (PV.str x) (PV.bl y)=false:=by simp[bK]
theorem YV {x:Str} {y:Int}:bK (PV.str x) (PV.int y)=false:=by simp[bK]
theorem yC {x:Str} {y:Str}:bK (PV.str x) (PV.str y)=(x==y):=by simp[bK]
theorem YM {x:Str}:bK (PV.str x) (PV.tup y)=false:=by simp[bK]
theorem VB {x:Str}:bK (PV.str x) (PV.lst y)=false:=by simp[bK]
theorem X5:bK (PV.tup x) PV.bA=false:=by simp[bK]
theorem ZD {y:Bool}:bK (PV.tup x) (PV.bl y)=false:=by simp[bK]
theorem U2 {y:Int}:bK (PV.tup x) (PV.int y)=false:=by simp[bK]
theorem W0 {y:Str}:bK (PV.tup x) (PV.str y)=false:=by simp[bK]
theorem W2:bK (PV.tup x) (PV.tup y)=cO x y:=by simp[bK]
theorem UP:bK (PV.tup x) (PV.lst y)=false:=by simp[bK]
theorem UT:bK (PV.lst x) PV.bA=false:=by simp[bK]
theorem YZ {y:Bool}:bK (PV.lst x) (PV.bl y)=false:=by simp[bK]
theorem WN {y:Int}:bK (PV.lst x) (PV.int y)=false:=by simp[bK]
theorem WI {y:Str}:bK (PV.lst x) (PV.str y)=false:=by simp[bK]
theorem W5:bK (PV.lst x) (PV.tup y)=false:=by simp[bK]
theorem UG:bK (PV.lst x) (PV.lst y)=cO x y:=by simp[bK]
theorem P6:cO [] []=true:=by simp[cO]
theorem QW {x y:PV}:cO (x::xs) (y::ys)=(bK x y && cO xs ys):=by simp[cO]
theorem SE {y:PV}:cO [] (y::ys)=false:=by simp[cO]
theorem RW {x:PV}:cO (x::xs) []=false:=by simp[cO]
end Mr
namespace Mr
open PySem PySem.Spec L2 PyProof.Rows
variable {fa fb:FE}
section
variable {K:Frag}
noncomputable def OF:PV->PV->Option Bv
 | .a8 kvs,p=>bO (keyOf p) fun k=>some (.val ((cG kvs k).getD .bA))
 |_,_=>none
noncomputable def zS (fa fb:FE):FE:=fun e=>bE (fa e) fun x e1=>bO (x.weak.get e1) fun p1=>match p1 with
 | .a8 _=>bE (fb e1) fun y e2=>bO (x.weak.get e2) fun p=>bO (y.weak.get e2) fun q=>bO (OF p q) fun b=>some (b,e2)
 |_=>none
theorem OO {ta tb:TE} (ha:Ref K ta fa) (hb:Ref K tb fb):Ref K (NC ta tb) (zS fa fb):=by
 intro O M W L σ H e e' b Q o he hf q
 obtain⟨x,e1,f1,hf⟩:=aM hf
 obtain⟨p1,g0,hf⟩:=aF hf
 cases p1 with
 | a8 kvs1=>
  obtain⟨y,e2,f2,hf⟩:=aM hf
  obtain⟨p,g1,hf⟩:=aF hf
  obtain⟨p',g2,hf⟩:=aF hf
  obtain⟨c,g3,hf⟩:=aF hf
  cases hf
  refine ha O M W L σ H e e1 x _ o he f1 fun v1 H1 k1 r1 fr=>?_
  have o1:=o.keep k1.cC
  obtain⟨a1,ys1,e11,ha1,_,_⟩:=((r1.rv o1).red (r1.en o1) g0).rR
  refine⟨a1,e11,.inl ⟨ys1,ha1⟩,?_⟩
  refine hb O M W L σ H1 e1 _ y _ o1 (r1.en o1) f2 fun v2 H2 k2 r2 fr=>?_
  have o2:=o1.keep k2.cC
  have en:=r2.en o2
  have rp:=((r1.rv o1).keep o1 k2).red en g1
  have rq:=(r2.rv o2).red en g2
  cases p with
  | a8 kvs=>
   obtain⟨key,g4,g3⟩:=aF g3
   cases g3
   obtain⟨a,ys,e3,ha',ek,r⟩:=rp.rR
   rw[e11]at e3
   cases e3
   refine⟨eM ys key,.inl ⟨ys,key,ha',rq.key g4,rfl⟩,?_⟩
   refine q _ H2 (k1.trans k2) ?_ ?_
   ·refine⟨en,?_⟩
    rcases dU.val key ⟨ek,r⟩with⟨h1,h2⟩|⟨p'',v',h1,h2,h3⟩
    ·rw[h1,h2];exact .bA
    ·rw[h1,h2];exact h3
   ·trivial
  |_=>cases g3
 |_=>cases hf
theorem O4 {e:En}:zS fa fb e=bE (fa e) fun x e1=>bO (x.weak.get e1) fun p1=>match p1 with
 | .a8 _=>bE (fb e1) fun y e2=>bO (x.weak.get e2) fun p=>bO (y.weak.get e2) fun q=>bO (OF p q) fun b=>some (b,e2)
 |_=>none:=rfl
end
end Mr
namespace L2
open PySem PySem.Spec PyProof.Rows PySem.W
variable {a l:Addr} {o u:HO} {H:Hp} {kvs:List (Key×V)} {vs:List (Key×Value)} {s':Shared} {Q:Value->Shared->Prop}
section
variable {prog:Program} {w:World} {A:Around} {E:Value->Shared->Prop} {s:Shared} {T:String} {r d:Addr} {n:Nat} {Pz:Nat->Value->Prop} {OKh:Heap->Prop}
noncomputable def lK (s s':Shared):Prop:=∃h' tk dr,s'={s with heap:=h',toks:=tk,drawn:=dr}/\s.heap.objs.size<=h'.objs.size/\∀b o,s.heap.get? b=some o->h'.get? b=some o
theorem lK.size {s:Shared} (g:lK s s'):s.heap.objs.size<=s'.heap.objs.size:=by
 obtain⟨h',tk,dr,rfl,k,_⟩:=g
 exact k
theorem qX {Q:List Value->Shared->Prop} (K:KdlSrc prog w T r d n Pz OKh) (hh:A.handled=none) (bP:OKh s.heap) (hn:n<=sizeLine)
  (hq:∀vs s',lK s s'->vs.length=n->(∀j v,vs[j]? =some v->Pz j v)->Q vs s'):wpAny (model prog w) A (collect (.ref r)) Q E s:=by
 have ha:=K.there _ bP
 have fin:∀(h':Heap) (tk:Nat) (acc:Array Value) (c:Nat),(∀b o,s.heap.get? b=some o->h'.get? b=some o)->
   h'.get? s.heap.objs.size=some {cls:=.type "list",dict:=none,data:=.seq acc c,slots:= #[]}->ItemsOf Pz acc n->
   wpAny (model prog w) A (match Value.ref s.heap.objs.size with
    | Value.ref a=>do
     match(<-load a).data with
      |Data.seq xs _=>pure xs.toList
      |_=>unsupported "internal:collect"
    |_=>unsupported "internal:collect") Q E {s with heap:=h',toks:=tk}:=fun h' tk acc c kp hS hacc=>by
  show wpAny _ A (load s.heap.objs.size>>=_) _ _ _
  exact wpAny_bind (wpAny_load hS (wpAny_pure (hq _ _ ⟨h',tk,s.drawn,rfl,le_of_lt (lt_size hS),kp⟩ (by rw[length_toList];exact hacc.1) fun j v e=>hacc.2 j v (by rw[<-getElem?_toList];exact e))))
 unfold collect
 refine wpAny_bind (wpAny_runValue (codeAny_builtin F.entry_proto_collect ?_))
 rw[Around.under_plainId F.plain_proto_collect _]
 refine wpAny_bind (m:=newList []) (wpAny_newObj_type ?_)
 refine wpAny_pure ⟨plainId_quiet F.plain_list_iadd _,codeAny_builtin F.entry_list_iadd ?_⟩
 rw[Around.under_plainId F.plain_list_iadd _]
 have e0:(s.heap.push {cls:=.type "list",data:=.seq ([]:List Value).toArray}).get? s.heap.objs.size=some {cls:=.type "list",data:=.seq #[] 0}:=get?_push_size _ rfl
 have key:=kdl_extend (A:=A) (s:={s with heap:=s.heap.push {cls:=.type "list",data:=.seq ([]:List Value).toArray}}) (R:=fun rs s'=>∃h' tk acc c,rs= .ok (.ret (.ref s.heap.objs.size))/\s'={s with heap:=h',toks:=tk}/\(∀b o,s.heap.get? b=some o->h'.get? b=some o)/\h'.get? s.heap.objs.size=some {cls:=.type "list",dict:=none,data:=.seq acc c,slots:= #[]}/\ItemsOf Pz acc n) K hh (K.keep _ _ bP fun b _ o e=>get?_push_of_some _ e) s.heap.objs.size (ne_of_gt ha.1) (ne_of_gt ha.2) (.ref s.heap.objs.size) 0 e0
  (fun h' tk acc c kp hS hacc=>⟨h',tk,acc,c,rfl,rfl,fun b o e=>kp b o (ne_of_lt (lt_size e)) (get?_push_of_some _ e),hS,hacc⟩) hn
 refine wpAny_mono key (fun f s' h=>?_) fun e s' h=>?_
 ·cases f with
  |done f=>
   obtain⟨h',tk,acc,c,e1,rfl,kp,hS,hacc⟩:=h
   cases e1
   exact fin h' tk acc c kp hS hacc
  |again c'=>
   refine⟨h.1,codeAny_mono h.2 fun rs s2 hr=>?_⟩
   obtain⟨h',tk,acc,c,rfl,rfl,kp,hS,hacc⟩:=hr
   exact fin h' tk acc c kp hS hacc
 ·obtain⟨h',tk,acc,c,e1,_⟩:=h
  cases e1
theorem G9 (K:KdlSrc prog w T r d n Pz OKh) (hnt:T≠"tuple") (hh:A.handled=none) (bP:OKh s.heap) (hn:n<=sizeLine)
  (hq:∀(vs:List Value) s1,lK s s1->vs.length=n->(∀j v,vs[j]? =some v->Pz j v)->Q (.ref s1.heap.objs.size) {s1 with heap:=s1.heap.push {cls:=.type "tuple",data:=.seq vs.toArray}}):
  wpAny (model prog w) A (call (.type "tuple") [.ref r]) Q E s:=by
 have hT:=K.type s bP
 refine callType_codes (Q₁:=fun obj s₁=>s₁.TypeIs obj "tuple"/\Q obj s₁) F.called_tuple (F.typeCall_tuple_1 _) F.entry_object_init ?_ fun obj s₁ h₁=>
  ⟨h₁.1,F.args_object_init_2 obj _,object_init_meets F.called_tuple.init.lookup F.called_tuple.made (by decide) prog w A.in1 _ s₁ ⟨h₁.1,rfl,h₁.2⟩⟩
 refine codeAny_of_tree ?_
 refine wpAny_bind (m:=checkBuiltinCall "tuple.__new__" ⟨[.type "tuple",.ref r],[]⟩) (wpAny_of_eq (F.newCall_tuple_1 _) (wpAny_pure ⟨plainId_quiet F.plain_tuple_new _,codeAny_builtin F.entry_tuple_new ?_⟩))
 rw[Around.under_plainId F.plain_tuple_new _]
 have a1:=sub_tuple_self
 have a2:=init_tuple_lookup
 have a3:=madeHere_tuple
 have a4:(Value.type T==Value.type "tuple")=false:=K.notTuple
 unfold Builtin.«tuple.__new__»
 generalize hC:collect=C
 wp_walk using wpAny_typeOf hT
 subst hC
 refine qX K hh bP hn fun vs s1 g hl hv=>?_
 refine wpAny_bind (wpAny_pure ?_)
 unfold Builtin.Tuple.tupleExact
 refine wpAny_bind (m:=newObj (.type "tuple") (.seq vs.toArray)) (wpAny_newObj_type ?_ (by show vs.toArray.size<=sizeLine;rw[size_toArray,hl];exact hn))
 exact wpAny_pure ⟨⟨_,get?_push_size _ rfl,rfl⟩,hq vs s1 g hl hv⟩
theorem qK {v:Value} {R:List Str->Prop}
  (hcol:∀(E':Value->Shared->Prop) (Q':List Value->Shared->Prop),(∀vs s1 ss,lK s s1->StrsAre vs ss->R ss->Q' vs s1)->wpAny (model prog w) A.in1 (collect v) Q' E' s) (h64:∀ss,R ss->ss.length<64)
  (hq:∀(a:Addr) s2 (out:List Value) c ss ss',lK s s2->s.heap.objs.size<=a->s2.heap.get? a=some (seqObj "list" out.toArray c)->StrsAre out ss'->R ss->ss'.Perm ss->sortedS ss'=true->Q (.ref a) s2):
  wpAny (model prog w) A (call (.builtin "sorted") [v]) Q E s:=by
 refine Calls.call_function_entry kind_sorted plain_sorted entry_sorted (args_sorted1 _) ?_
 unfold Builtin.«sorted»
 refine wpAny_bind (m:=checkCount "sorted" 1 1 _) (wpAny_pure (wpAny_bind (hcol _ _ fun vs s1 ss g hS hR=>?_)))
 have hl:vs.length<64:=by rw[hS.length];exact h64 ss hR
 refine wpAny_bind (wpAny_newList ?_ (by simp only[sizeLine_eq];omega))
 have e1:(s1.heap.push (seqObj "list" vs.toArray 0)).get? s1.heap.objs.size=some (seqObj "list" vs.toArray 0):=get?_push_size _ rfl
 refine wpAny_bind (wpAny_holding (wpAny_call_entry slot_list_sort ⟨_,e1,rfl⟩ entry_list_sort (list_sort_treeK strKind_oneLt e1 hS.keysOf (fun v₁ v₂ rest e=>keyKind_strs (by rw[<-e];exact hS)) hl fun st' a1 a2=>⟨_,rfl,?_⟩) (args_list_sort _)))
 obtain⟨ss',b1,b2,b3⟩:=sorted_out_str hS a1 a2
 refine wpAny_pure ⟨_,rfl,?_⟩
 obtain⟨c,hc⟩:=sortedHeap_at (out:=(arrOf st').map (·.2)) e1
 refine hq s1.heap.objs.size _ ((arrOf st').map (·.2)).toList c ss ss' ?_ g.size (by rw[Array.toArray_toList];exact hc) b1 hR b2 b3
 obtain⟨h',tk,dr,rfl,gz,k⟩:=g
 refine⟨_,tk,dr,rfl,le_trans gz (le_of_lt (lt_size hc)),fun b o e=>?_⟩
 have hb:=lt_size (k b o e)
 rw[sortedHeap_old (ne_of_lt hb) (by rw[size_push'];exact lt_succ_of_lt hb)]
 exact get?_push_of_some _ (k b o e)
end
section
variable {X:Cx} {pins:List (Addr×Obj)} {σ:St} {H:Hp} {s s':Shared}
theorem Inv.Z2 (I:Inv X pins σ H s) (g:lK s s'):Inv X pins σ H s':=by
 obtain⟨h',tk,dr,rfl,_,k⟩:=g
 exact I.call (g':=s.gens) (d':=dr) (t':=tk) (ch:=[]) (Un.kept k) (I.bP.kept k) I.bare fun _ z=>nomatch z
end
noncomputable def GV (v d:Addr):HO:=.ext fun h=>h.IsValuesView v d
theorem Rd.upd (h:Rd H a o) (hl:H l=none):Rd (upd H l u) a o:=by
 have ne:a≠l:=by
  rintro rfl
  rcases h with h|⟨_,h⟩<;>(rw[hl]at h;cases h)
 rcases h with h|⟨x,h⟩
 ·exact .inl (by rw[aS ne];exact h)
 ·exact .inr ⟨x,by rw[aS ne];exact h⟩
theorem KV.vals (r:KV kvs vs):Vals (kvs.map (·.2)) (vs.map (·.2)):=by
 unfold KV at r
 induction r with
 |nil=>exact .nil
 |cons h t ih=>exact .cons h.2 ih
theorem KV.len (r:KV kvs vs):kvs.length=vs.length:=by
 have:=congrArg List.length r.keys
 simpa using this
theorem xA.upd (h:xA H a kvs) (hl:H l=none):xA (upd H l u) a kvs:=let⟨ep,e⟩:=h;⟨ep,Rd.upd e hl⟩
theorem Inv.Z6 {X:Cx} {pins:List (Addr×Obj)} {σ:St} {s:Shared} (I:Inv X pins σ H s) (g:lK s s') (hp:s.heap.objs.size<=a) (new:dI X.prog X.w (L2.upd H a o) s'.heap a o):Inv X pins σ (L2.upd H a o) s':=by
 obtain⟨h',tk,dr,rfl,_,k⟩:=g
 exact I.call (g':=s.gens) (d':=dr) (t':=tk) (ch:=[]) (Un.laid k hp (I.bP.fresh hp)) (I.bP.laid k hp new) I.bare fun _ z=>nomatch z
section
variable {X:Cx}
noncomputable def LM (to:TE):TE:=fun σ H Q=>to σ H fun x H1=>∃a kvs,x= .ref a/\xA H1 a kvs/\∀v,H1 v=none->Q (.ref v) (upd H1 v (GV v a))
theorem E2 {o:Expr} {to:TE} {apos cpos:Pos} (ho:PE X o to) (hbase:attributeBase o "values" X.env (eval o X.env)=eval o X.env:=by rfl) (hline:(apos.endLine==cpos.line)=true:=by rfl):
  PE X (.Call (.Attribute o "values" apos) [] [] cpos) (LM to):=by
 intro pins s σ H Q I h
 refine wpAny_Call_method0_late hbase hline (cP (ho pins s σ H _ I h) fun v s1 ⟨x,H1,I1,r1,a,kvs,ex,ha,q1⟩=>?_)
 subst ex
 obtain rfl:v=Value.ref a:=r1
 obtain⟨hz,hd,vs,rel,dd⟩:=gR I1.bP ha
 refine⟨"dict","dict.values",plainAttrs_dict,PySem.F.slot_dict_values,PySem.F.type_dict_values,dd.typeIs,dd.mapOf.noDict,Calls.callWith_builtin rfl (PySem.evalArgs_none ?_)⟩
 refine call_meetsIn PySem.F.slot_dict_values dd.typeIs PySem.F.entry_dict_values (PySem.F.args_dict_values_1 _) (meets_dict_values (bT X.prog X.w) a hd) ⟨⟨vs,dd⟩,?_⟩
 have e0:(s1.heap.push {cls:=.type "dict_values",data:=.fields #[.ref a]}).get? s1.heap.objs.size=some {cls:=.type "dict_values",data:=.fields #[.ref a]}:=get?_push_size _ rfl
 refine⟨.ref s1.heap.objs.size,_,I1.laid (t':=s1.toks) (o:=GV s1.heap.objs.size a) (fun b u e=>get?_push_of_some _ e) (le_refl _) ⟨⟨_,e0,rfl,rfl⟩,⟨_,e0⟩,fun h1 h2 ⟨u,e,c⟩ k=>⟨u,k u e,c⟩⟩,rfl,q1 _ (I1.bP.fresh (le_refl _))⟩
noncomputable def TL:List V->Hp->VK->Prop:=fun xs H Q=>∃v a kvs,xs=[.ref v]/\H v=some (GV v a)/\xA H a kvs/\∀l,H l=none->Q (.ref l) (upd H l (.tup (kvs.map (·.2))))
theorem ac0 (hc:X.calm=true:=by rfl):cH X (.type "tuple") TL:=by
 intro pins s σ H xs us Q I r ⟨v,a,kvs,e,hv,ha,q⟩
 subst e
 obtain⟨u,rfl,rx⟩:=vals1 r
 cases rx
 obtain⟨hz,hd,vs,rel,dd⟩:=gR I.bP ha
 obtain⟨ep,dd⟩:=dd.dictAt
 refine G9 (kdl_values (knd:=bT X.prog X.w) (r:=v) (d:=a) (kvs:=vs) (ep:=ep)) (by decide) (by exact I.ok.hd hc) ⟨(I.bP v _ hv).1,dd⟩ (by rw[<-rel.len];exact hz) fun ws s1 g hl hw=>?_
 have ew:=kdl_vals_eq ws hl hw
 subst ew
 have I1:=I.Z2 g
 exact⟨.ref s1.heap.objs.size,_,I1.laid (t':=s1.toks) (o:=.tup (kvs.map (·.2))) (fun b o e=>get?_push_of_some _ e) (le_refl _) ⟨by rw[length_map];exact hz,_,rel.vals,pG.new _ _⟩,rfl,q _ (I1.bP.fresh (le_refl _))⟩
noncomputable def TX:List V->Hp->VK->Prop:=fun xs H Q=>∃v a kvs,xs=[.ref v]/\H v=some (GV v a)/\xA H a kvs/\∀l,H l=none->Q (.ref l) (upd H l (.lst (kvs.map (·.2))))
theorem ac2 (hc:X.calm=true:=by rfl):cH X (.type "list") TX:=by
 intro pins s σ H xs us Q I r ⟨v,a,kvs,e,hv,ha,q⟩
 subst e
 obtain⟨u,rfl,rx⟩:=vals1 r
 cases rx
 obtain⟨hz,hd,vs,rel,dd⟩:=gR I.bP ha
 obtain⟨ep,dd⟩:=dd.dictAt
 refine kdl_call (kdl_values (knd:=bT X.prog X.w) (r:=v) (d:=a) (kvs:=vs) (ep:=ep)) (by exact I.ok.hd hc) ⟨(I.bP v _ hv).1,dd⟩ (by rw[<-rel.len];exact hz) fun h' tk acc c kp hS hacc=>?_
 have ew:=kdl_vals_eq acc.toList (by rw[length_toList];exact hacc.1) fun j x e=>hacc.2 j x (by rw[<-getElem?_toList];exact e)
 refine⟨.ref s.heap.objs.size,_,I.laid (t':=tk) (o:=.lst (kvs.map (·.2))) kp (le_refl _) ⟨by rw[length_map];exact hz,_,c,rel.vals,?_⟩,rfl,q _ (I.bP.fresh (le_refl _))⟩
 rw[hS,<-ew,Array.toArray_toList]
noncomputable def DI:List V->Hp->VK->Prop:=fun xs H Q=>∃a kvs ss,xs=[.ref a]/\xA H a kvs/\kvs.map (·.1)=ss.map Sum.inr/\ss.length<64/\∀l out,out.Perm ss->sortedS out=true->H l=none->Q (.ref l) (upd H l (.lst (out.map V.str)))
theorem vV {prog:Program} {w:World}:∀{ss:List Str} {vs:List (Key×Value)} {us:List Value},vs.map (·.1)=ss.map Sum.inr->us.length=vs.length->(∀(j:Nat) v,us[j]? =some v->∃k x,vs[j]? =some (k,x)/\(bT prog w).is k v=true)->StrsAre us ss
 |[],[],[],_,_,_=>.nil
 |[],[],_::_,_,h,_=>by cases h
 |[],_::_,_,h,_,_=>by cases h
 |_::_,[],_,h,_,_=>by cases h
 |_::_,_::_,[],_,h,_=>by cases h
 | t::ss,(k,x)::vs,u::us,h,hl,hu=>by
  rw[map_cons,map_cons]at h
  have h:=List.cons.inj h
  have e:k=Sum.inr t:=h.1
  subst e
  obtain⟨k',x',e',hk⟩:=hu 0 u rfl
  cases e'
  rcases cD (show lW (Sum.inr t) u=true from hk)with⟨i,tk,z,_⟩|⟨y,tk,z,rfl⟩
  ·cases z
  ·cases z
   exact .cons _ tk (vV h.2 (by simpa using hl) fun j v e=>hu (j+1) v (by simpa using e))
theorem aaG (hc:X.calm=true:=by rfl):cH X (.builtin "sorted") DI:=by
 intro pins s σ H xs us Q I r ⟨a,kvs,ss,e,ha,hk,h64,q⟩
 subst e
 obtain⟨u,rfl,rx⟩:=vals1 r
 cases rx
 obtain⟨hz,hd,vs,rel,dd⟩:=gR I.bP ha
 obtain⟨ep,dd⟩:=dd.dictAt
 rw[rel.keys]at hk
 refine qK (R:=fun tt=>tt=ss) (fun E' Q' k=>?_) (fun tt e=>by rw[e];exact h64) fun l s2 out c tt tt' g hl hat h1 h2 h3 h4=>?_
 ·exact qX (kdl_dict (knd:=bT X.prog X.w) (d:=a) (kvs:=vs) (ep:=ep) hd) (by exact I.ok.hd hc) dd (by rw[<-rel.len];exact hz) fun ws s1 g hl hw=>k ws s1 ss g (vV hk hl hw) rfl
 ·subst h2
  exact⟨.ref l,_,I.Z6 (o:=.lst (tt'.map V.str)) g hl ⟨by rw[length_map,h3.length_eq];rw[sizeLine_eq];omega,out,c,kZ h1,hat⟩,rfl,q _ tt' h3 h4 (I.bP.fresh hl)⟩
end
section
variable (prog:Program) (w:World)
variable {prog w}
noncomputable def gU (ks:List Str) (x:Str):List Str:=if x∈ks then ks else ks++[x]
variable {A:Around} {E:Value->Shared->Prop} {s:Shared}
end
noncomputable def bV (ss:List Str):List Str:=ss.foldl gU []
theorem fH (ss:List Str) (x:Str):bV (ss++[x])=gU (bV ss) x:=by unfold bV;rw[foldl_append];rfl
end L2
namespace Mr
open PySem PySem.Spec L2 PyProof.Rows
variable {e:En} {fa:FE} {ta:TE}
section
variable {K:Frag}
noncomputable def DG (fa:FE):FE:=fun e=>bE (fa e) fun x e1=>bO (x.weak.get e1) fun p=>match p with
 | .a8 kvs=>some (.val (.tup (kvs.map (·.2))),e1)
 |_=>none
noncomputable def C4 (fa:FE):FE:=fun e=>bE (fa e) fun x e1=>bO (x.weak.get e1) fun p=>match p with
 | .a8 kvs=>some (.new (.lst (kvs.map (·.2))),e1)
 |_=>none
theorem HP (ha:Ref K ta fa):Ref K (ZM TL (dQ (LM ta) m9)) (DG fa):=by
 intro O M W L σ H e e' b Q o he hf q
 obtain⟨x,e1,f1,hf⟩:=aM hf
 obtain⟨p,g0,hf⟩:=aF hf
 cases p with
 |a8 kvs=>
  cases hf
  refine ha O M W L σ H e _ x _ o he f1 fun v1 H1 k1 r1 fr=>?_
  have o1:=o.keep k1.cC
  have en:=r1.en o1
  obtain⟨a,ys,rfl,hd,ek,rl⟩:=((r1.rv o1).red en g0).rR
  refine⟨a,ys,rfl,hd,fun v hv=>⟨v,a,ys,rfl,aU,xA.upd hd hv,fun l hl=>?_⟩⟩
  have s1:aZ H1 (upd H1 v (GV v a)):=aZ.upd hv
  have s2:=aZ.upd (o:=.tup (ys.map (·.2))) hl
  refine q _ _ ((k1.trans (.same s1)).trans (.same s2)) ⟨(en.same s1).same s2,.tup (.inl aU) ((rl.aH (.same s1)).aH (.same s2))⟩ trivial
 |_=>cases hf
theorem II (ha:Ref K ta fa):Ref K (ZM TX (dQ (LM ta) m9)) (C4 fa):=by
 intro O M W L σ H e e' b Q o he hf q
 obtain⟨x,e1,f1,hf⟩:=aM hf
 obtain⟨p,g0,hf⟩:=aF hf
 cases p with
 |a8 kvs=>
  cases hf
  refine ha O M W L σ H e _ x _ o he f1 fun v1 H1 k1 r1 fr=>?_
  have o1:=o.keep k1.cC
  have en:=r1.en o1
  obtain⟨a,ys,rfl,hd,ek,rl⟩:=((r1.rv o1).red en g0).rR
  refine⟨a,ys,rfl,hd,fun v hv=>⟨v,a,ys,rfl,aU,xA.upd hd hv,fun l hl=>?_⟩⟩
  have s1:aZ H1 (upd H1 v (GV v a)):=aZ.upd hv
  have k2:=k1.trans (.same s1)
  have s2:=aZ.upd (o:=.lst (ys.map (·.2))) hl
  have rn:RN K (aW M L) _ _ (.ref l) (.new (.lst (kvs.map (·.2)))):=AA hl (rl.aH (.same s1))
  exact q _ _ (k2.trans (.same s2)) (rn.rb (o.keep k2.cC) (en.same s1) s2) (rn.fr k2.cC)
 |_=>cases hf
noncomputable def MM (fa:FE):FE:=fun e=>bE (fa e) fun x e1=>bO (x.weak.get e1) fun p=>match p with
 | .lst ps=>bO (l9 ps) fun ss=>aQ (decide (ss.length<64)) (some (.new (.lst ((cL (bV ss)).map PV.str)),e1))
 |_=>none
noncomputable def pM:List (Key×PV)->Option (List Str)
 |[]=>some []
 |(.inr x,_)::r=>bO (pM r) fun ss=>some (x::ss)
 |_=>none
theorem A3:∀{kvs:List (Key×PV)} {ss:List Str},pM kvs=some ss->kvs.map (·.1)=ss.map Sum.inr
 |[],ss,h=>by cases h;rfl
 |(.inr x,p)::r,ss,h=>by
  obtain⟨ss',h1,h⟩:=aF h
  cases h
  rw[map_cons,map_cons,A3 h1]
 |(.inl x,p)::r,ss,h=>by cases h
noncomputable def oB:List PV->Option Bv
 |[.a8 kvs]=>bO (pM kvs) fun ss=>aQ (decide (ss.length<64)) (some (.new (.lst ((cL ss).map PV.str))))
 |_=>none
theorem LD:gP K DI oB:=by
 intro Z H vs ps b Q hp h k
 unfold oB at h
 split at h
 ·obtain⟨ss,g,h⟩:=aF h
  obtain⟨c,h⟩:=aL h
  cases h
  obtain⟨v,rfl,hv⟩:=hp.one
  obtain⟨a,ys,rfl,ha,ek,ra⟩:=hv.rR
  refine⟨a,ys,ss,rfl,ha,ek.trans (A3 g),of_decide_eq_true c,fun l out h1 h2 hl=>?_⟩
  rw[B4 h1 h2]at k
  exact k _ _ (aZ.upd hl) (AA hl (bH.ofStrs out))
 ·cases h
theorem L6:DG fa e=bE (fa e) fun x e1=>bO (x.weak.get e1) fun p=>match p with
 | .a8 kvs=>some (.val (.tup (kvs.map (·.2))),e1)
 |_=>none:=rfl
theorem N5:C4 fa e=bE (fa e) fun x e1=>bO (x.weak.get e1) fun p=>match p with
 | .a8 kvs=>some (.new (.lst (kvs.map (·.2))),e1)
 |_=>none:=rfl
theorem CQ:MM fa e=bE (fa e) fun x e1=>bO (x.weak.get e1) fun p=>match p with
 | .lst ps=>bO (l9 ps) fun ss=>aQ (decide (ss.length<64)) (some (.new (.lst ((cL (bV ss)).map PV.str)),e1))
 |_=>none:=rfl
end
end Mr
namespace Mr
open PySem PySem.Spec L2 PyProof.Rows PySem.W
variable {A:Around} {C:Bool->Shared->Prop} {ps:List PV} {n:Nat} {prog:Program} {w:World}
noncomputable def dW (lt:PV->PV->Option Bool):List PV->List PV->Option Bool
 |[],[]=>some false
 |[],_::_=>some true
 |_::_,[]=>some false
 |x::xs,y::ys=>if bK x y=true then dW lt xs ys else lt x y
noncomputable def oO:Nat->PV->PV->Option Bool
 |_,.str a,.str b=>some (decide (a.cps.toList<b.cps.toList))
 |_,.int a,.int b=>some (decide (a<b))
 |n+1,.tup xs,.tup ys=>dW (oO n) xs ys
 |_,_,_=>none
section
variable {s:Shared}
theorem UZ {lt:PV->PV->Option Bool}:∀{xs ys:List PV} {us vs:List Value} {c:Bool} {fin:Bool},bS s.heap xs us->bS s.heap ys vs->(∀x∈xs,∀y∈ys,∀u v,Lies s.heap x u->Lies s.heap y v->SeqAt.EqAt A s u v (bK x y)/\∀b,lt x y=some b->G5 A s u v b)->
  fin=decide (us.length<vs.length)->dW lt xs ys=some c->AF A s fin (us.zip vs) c:=by
 intro xs
 induction xs with
 |nil=>
  intro ys us vs c fin h1 h2 hk hf h
  cases h1
  cases h2<;>(cases h;rw[hf];exact .done)
 | cons x xs ih=>
  intro ys us vs c fin h1 h2 hk hf h
  cases h1 with
  | cons r1 rr1=>
   cases h2 with
   |nil=>cases h;rw[hf];exact .done
   | @cons y _ ys _ r2 rr2=>
    obtain⟨he,hl⟩:=hk x mem_cons_self y mem_cons_self _ _ r1 r2
    unfold dW at h
    cases e:bK x y with
    |true=>
     rw[e]at he
     rw[if_pos e]at h
     exact .same he (ih rr1 rr2 (fun a ha b hb=>hk a (mem_cons_of_mem _ ha) b (mem_cons_of_mem _ hb)) (by rw[hf];simp) h)
    |false=>
     rw[e]at he
     rw[if_neg (by rw[e];exact Bool.false_ne_true)]at h
     exact .less he (hl c h)
theorem D0:∀(n:Nat) (A:Around) {p q:PV} {v u:Value} {b:Bool},A.units+n<cLine->gD n p=true->gD n q=true->Lies s.heap p v->Lies s.heap q u->oO n p q=some b->G5 A s v u b:=by
 intro n
 induction n with
 | zero=>
  intro A p q v u b hu o1 o2 h1 h2 h
  cases p with
  |str x=>
   cases q with
   |str y=>cases h;cases h1;cases h2;exact fun prog w E Q q=>PySem.P.lt_str q
   |_=>cases h
  |int x=>
   cases q with
   |int y=>cases h;cases h1;cases h2;exact fun prog w E Q q=>PyProof.Rows.lt_int q
   |_=>cases h
  |_=>cases q<;>cases h
 | succ n ih=>
  intro A p q v u b hu o1 o2 h1 h2 h
  cases p with
  |str x=>
   cases q with
   |str y=>cases h;cases h1;cases h2;exact fun prog w E Q q=>PySem.P.lt_str q
   |_=>cases h
  |int x=>
   cases q with
   |int y=>cases h;cases h1;cases h2;exact fun prog w E Q q=>PyProof.Rows.lt_int q
   |_=>cases h
  | tup xs=>
   cases q with
   | tup ys=>
    cases h1 with
    | tup t1 l1=>
     cases h2 with
     |tup t2 l2=>
      have hin:A.in1.units=A.units+1:=rfl
      have o1:xs.all (gD n)=true:=o1
      have o2:ys.all (gD n)=true:=o2
      refine V1 t1 t2 (by omega) ?_
      simpa using UZ (A:=A.in1) (s:=s) l1 l2 (fun x hx y hy u v a b=>⟨yJ n A.in1 (by omega) (all_eq_true.mp o1 x hx) (all_eq_true.mp o2 y hy) a b,fun c hc=>ih A.in1 (by omega) (all_eq_true.mp o1 x hx) (all_eq_true.mp o2 y hy) a b hc⟩) rfl h
   |_=>cases h
  |_=>cases q<;>cases h
theorem MP {fin:Bool} {lt:PV->PV->Option Bool}:∀{xs ys:List PV} {us vs:List Value} {c:Bool} (i:Nat),1<=i->bS s.heap xs us->bS s.heap ys vs->
  (∀x∈xs,∀y∈ys,∀u v,Lies s.heap x u->Lies s.heap y v->SeqAt.EqAt A s u v (bK x y)/\∀b,lt x y=some b->G5 A s u v b)->fin=decide (us.length<vs.length)->dW lt xs ys=some c->C c s->KatLex prog w A true fin C (us.zip vs) i s:=by
 intro xs
 induction xs with
 |nil=>
  intro ys us vs c i hi h1 h2 hk hf h hC
  cases h1
  cases h2<;>(cases h;exact kat_nil (by rw[hf];exact hC))
 | cons x xs ih=>
  intro ys us vs c i hi h1 h2 hk hf h hC
  cases h1 with
  | cons r1 rr1=>
   cases h2 with
   |nil=>cases h;exact kat_nil (by rw[hf];exact hC)
   | @cons y _ ys _ r2 rr2=>
    obtain⟨he,hl⟩:=hk x mem_cons_self y mem_cons_self _ _ r1 r2
    refine kat_cons (he prog w _ _ ?_)
    unfold dW at h
    cases e:bK x y with
    |true=>
     rw[if_pos e]at h
     exact kat_yes (ih (i+1) (by omega) rr1 rr2 (fun a ha b hb=>hk a (mem_cons_of_mem _ ha) b (mem_cons_of_mem _ hb)) (by rw[hf];simp) h hC)
    |false=>
     rw[if_neg (by rw[e];exact Bool.false_ne_true)]at h
     refine kat_no ?_
     have e0:(true && i==0)=false:=by simp;omega
     rw[e0]
     exact kat_one _ _ (hl c h prog w _ _ hC)
noncomputable def mV (b:Bool):PV->Bool
 | .tup (.str _::_)=>b
 | .tup (.int _::_)=>!b
 |_=>false
noncomputable def RI (b:Bool):String:=if b then "str"else "int"
theorem ZZ {b:Bool} {n:Nat} {vs:List Value} (hl:bS s.heap ps vs) (hu:A.units+n<cLine) (led:∀p∈ps,mV b p=true) (ok:∀p∈ps,gD (n+1) p=true)
  {i j:Nat} {c:Bool} {p q:PV} (hp:ps[i]? =some p) (hq:ps[j]? =some q) (hc:oO (n+1) p q=some c) (hC:C c s):kas_ask prog w A (tuples' (Value.type (RI b) !=Value.type "tuple")) vs i j C s:=by
 have kt:(Value.type (RI b) !=Value.type "tuple")=true:=by cases b<;>decide
 obtain⟨u,hu1,lu⟩:∃u,vs[i]? =some u/\Lies s.heap p u:=by
  have hlt:i<vs.length:=by rw[<-hl.length];exact(List.getElem?_eq_some_iff.mp hp).1
  obtain⟨p',e,l⟩:=hl.get (getElem?_eq_getElem hlt)
  rw[hp]at e;cases e
  exact⟨_,getElem?_eq_getElem hlt,l⟩
 obtain⟨v,hv1,lv⟩:∃v,vs[j]? =some v/\Lies s.heap q v:=by
  have hlt:j<vs.length:=by rw[<-hl.length];exact(List.getElem?_eq_some_iff.mp hq).1
  obtain⟨p',e,l⟩:=hl.get (getElem?_eq_getElem hlt)
  rw[hq]at e;cases e
  exact⟨_,getElem?_eq_getElem hlt,l⟩
 have l1:=led p (mem_of_getElem? hp)
 have l2:=led q (mem_of_getElem? hq)
 have o1:=ok p (mem_of_getElem? hp)
 have o2:=ok q (mem_of_getElem? hq)
 show wpAny _ _ (keyLt' _ (vs.getD i Value.none) (vs.getD j Value.none)) C _ s
 rw[getD_eq_getElem?_getD,hu1,getD_eq_getElem?_getD,hv1,kt]
 cases lu with
 | @tup _ us xs t1 r1=>
  cases lv with
  | @tup _ vs' ys t2 r2=>
   obtain⟨oa,ga,_,na,da⟩:=t1
   obtain⟨ob,gb,_,nb,db⟩:=t2
   refine kat_lt ga da gb db ?_
   have o1:xs.all (gD n)=true:=o1
   have o2:ys.all (gD n)=true:=o2
   have key:∀x∈xs,∀y∈ys,∀u v,Lies s.heap x u->Lies s.heap y v->SeqAt.EqAt A s u v (bK x y)/\∀b,oO n x y=some b->G5 A s u v b:=fun x hx y hy u v a b=>
    ⟨yJ n A hu (all_eq_true.mp o1 x hx) (all_eq_true.mp o2 y hy) a b,fun c hc=>D0 n A hu (all_eq_true.mp o1 x hx) (all_eq_true.mp o2 y hy) a b hc⟩
   have hc:dW (oO n) xs ys=some c:=hc
   cases r1 with
   |nil=>cases l1
   | @cons x u0 xs us a1 a2=>
    cases r2 with
    |nil=>cases l2
    | @cons y v0 ys vs' b1 b2=>
     obtain⟨he,_⟩:=key x mem_cons_self y mem_cons_self _ _ a1 b1
     refine kat_cons (he prog w _ _ ?_)
     unfold dW at hc
     cases e:bK x y with
     |true=>
      rw[if_pos e]at hc
      exact kat_yes (MP 1 (le_refl _) a2 b2 (fun a ha b hb=>key a (mem_cons_of_mem _ ha) b (mem_cons_of_mem _ hb)) (by simp) hc hC)
     | false=>
      rw[if_neg (by rw[e];exact Bool.false_ne_true)]at hc
      refine kat_no ?_
      cases x with
      | str x=>
       cases y with
       |str y=>
        have hc:some (decide (x.cps.toList<y.cps.toList))=some c:=by cases n<;>exact hc
        cases hc
        cases a1
        cases b1
        exact oneLt_str hC
       |int y=>cases b<;>cases l1<;>cases l2
       |_=>cases l2
      | int x=>
       cases y with
       |int y=>
        have hc:some (decide (x<y))=some c:=by cases n<;>exact hc
        cases hc
        cases a1
        cases b1
        exact oneLt_int hC
       |str y=>cases b<;>cases l1<;>cases l2
       |_=>cases l2
      |_=>cases l1
  |_=>cases l2
 |_=>cases l1
end
noncomputable def nD:Nat->PV->Bool
 |_,.bA=>true
 |_,.int _=>true
 |_,.str _=>true
 |n+1,.tup ps=>ps.all (nD n)
 |_,_=>false
theorem yQ:∀{n:Nat} {p:PV},nD n p=true->gD n p=true:=by
 intro n
 induction n with
 |zero=>intro p h;cases p<;>first|rfl|cases h
 |succ n ih=>
  intro p h
  cases p with
  |tup ps=>exact all_eq_true.mpr fun x hx=>ih (all_eq_true.mp h x hx)
  |lst ps=>cases h
  |a8 ps=>cases h
  |ty x=>cases h
  |bl x=>cases h
  |_=>rfl
theorem FF (ih:∀{p q:PV},nD n p=true->nD n q=true->bK p q=true->p=q):∀{xs ys:List PV},xs.all (nD n)=true->ys.all (nD n)=true->cO xs ys=true->xs=ys
 |[],[],_,_,_=>rfl
 |[],_::_,_,_,h=>by simp[cO]at h
 |_::_,[],_,_,h=>by simp[cO]at h
 |x::xs,y::ys,h1,h2,h=>by
  simp only[cO,and_eq_true]at h
  rw[all_cons,and_eq_true]at h1 h2
  rw[ih h1.1 h2.1 h.1,FF ih h1.2 h2.2 h.2]
theorem EA:∀{n:Nat} {p q:PV},nD n p=true->nD n q=true->bK p q=true->p=q:=by
 intro n
 induction n with
 |zero=>
  intro p q h1 h2 h
  cases p<;>cases q<;>first|rfl|(cases h1;done)|(cases h2;done)|(simp[bK]at h;try subst h;try rfl)
 | succ n ih=>
  intro p q h1 h2 h
  cases p with
  |tup xs=>
   cases q with
   |tup ys=>rw[mN]at h;rw[FF ih h1 h2 h]
   |_=>simp[bK]at h
  |lst xs=>cases h1
  |a8 xs=>cases h1
  |ty xs=>cases h1
  |bl xs=>cases h1
  |bA=>cases q<;>first|rfl|(simp[bK]at h)
  |int i=>cases q<;>first|(cases h2;done)|(simp[bK]at h;try subst h;try rfl)
  |str i=>cases q<;>first|(cases h2;done)|(simp[bK]at h;try subst h;try rfl)
theorem kF (ih:∀{p:PV},nD n p=true->bK p p=true):∀{xs:List PV},xs.all (nD n)=true->cO xs xs=true
 |[],_=>by simp[cO]
 |x::xs,h=>by
  rw[all_cons,and_eq_true]at h
  simp only[cO,and_eq_true]
  exact⟨ih h.1,kF ih h.2⟩
theorem kB:∀{n:Nat} {p:PV},nD n p=true->bK p p=true:=by
 intro n
 induction n with
 |zero=>intro p h;cases p<;>first|(simp[bK];done)|cases h
 |succ n ih=>
  intro p h
  cases p with
  |tup xs=>rw[mN];exact kF ih h
  |lst xs=>cases h
  |a8 xs=>cases h
  |ty xs=>cases h
  |bl xs=>cases h
  |_=>simp[bK]
noncomputable def code:Nat->PV->List Int
 |_,.str x=>x.cps.toList.map (fun c:Nat=>(c:Int)+1)++[0]
 |_,.int i=>[i]
 |n+1,.tup xs=>xs.flatMap (fun x=>1::code n x)++[0]
 |_,_=>[0]
noncomputable abbrev gB:List Int->List Int->Bool:=j4 C6
theorem x9 (a r r':List Int):gB (a++r) (a++r')=gB r r':=by
 induction a with
 |nil=>rfl
 |cons x a ih=>
  show gN C6 x x (gB (a++r) (a++r'))=_
  exact(gL (A:=C6) (a:=x)).trans ih
theorem eC {x y:Int} {r r':List Int}:gB (x::r) (y::r')=if x=y then gB r r' else decide (x<y):=by
 show gN C6 x y (gB r r')=_
 rcases fS (A:=C6) x y with⟨a,b⟩|⟨a,b⟩|a
 ·rw[eV a]
  have a:=of_decide_eq_true a
  rw[if_neg (by omega),decide_eq_true a]
 ·rw[kI a]
  have a:=of_decide_eq_true a
  rw[if_neg (by omega),decide_eq_false (by omega)]
 ·subst a
  rw[if_pos rfl]
  exact gL (A:=C6) (a:=x)
theorem sG:∀(a b:List Nat) (r r':List Int),gB ((a.map fun c:Nat=>(c:Int)+1)++[0]++r) ((b.map fun c:Nat=>(c:Int)+1)++[0]++r')=if a=b then gB r r' else decide (a<b)
 |[],[],r,r'=>by
  rw[if_pos rfl]
  exact x9 [0] r r'
 |[],y::b,r,r'=>by
  rw[if_neg (by simp)]
  show gB (0::r) (((y:Int)+1)::_)=_
  rw[eC,if_neg (by omega),decide_eq_true (by omega)]
  exact(decide_eq_true (by simp)).symm
 |x::a,[],r,r'=>by
  rw[if_neg (by simp)]
  show gB (((x:Int)+1)::_) (0::r')=_
  rw[eC,if_neg (by omega),decide_eq_false (by omega)]
  exact(decide_eq_false (by simp)).symm
 | x::a,y::b,r,r'=>by
  show gB (((x:Int)+1)::((a.map fun c:Nat=>(c:Int)+1)++[0]++r)) (((y:Int)+1)::((b.map fun c:Nat=>(c:Int)+1)++[0]++r'))=_
  rw[eC,sG a b r r']
  by_cases e:x=y
  ·subst e
   rw[if_pos rfl]
   by_cases e2:a=b
   ·subst e2;rw[if_pos rfl,if_pos rfl]
   ·rw[if_neg e2,if_neg (by simpa using e2)]
    congr 1
    simp[List.cons_lt_cons_iff]
  ·rw[if_neg (by omega),if_neg (by intro z;exact e (List.cons.inj z).1)]
   by_cases h:x<y
   ·rw[decide_eq_true (show(x:Int)+1<y+1 by omega)]
    exact(decide_eq_true (List.cons_lt_cons_iff.mpr (.inl h))).symm
   ·rw[decide_eq_false (show¬(x:Int)+1<y+1 by omega)]
    refine(decide_eq_false fun z=>?_).symm
    rcases List.cons_lt_cons_iff.mp z with z|z
    ·exact h z
    ·exact e z.1
theorem CB (ih:∀{p q:PV} {b:Bool} (r r':List Int),nD n p=true->nD n q=true->oO n p q=some b->gB (code n p++r) (code n q++r')=if bK p q=true then gB r r' else b):
  ∀{xs ys:List PV} {b:Bool} (r r':List Int),xs.all (nD n)=true->ys.all (nD n)=true->dW (oO n) xs ys=some b->
   gB (xs.flatMap (fun x=>1::code n x)++[0]++r) (ys.flatMap (fun x=>1::code n x)++[0]++r')=if cO xs ys=true then gB r r' else b
 |[],[],b,r,r',_,_,h=>by
  rw[if_pos (by simp[cO])]
  exact x9 [0] r r'
 |[],y::ys,b,r,r',_,_,h=>by
  cases h
  rw[if_neg (by simp[cO])]
  show gB (0::r) (1::_)=_
  rw[eC];rfl
 |x::xs,[],b,r,r',_,_,h=>by
  cases h
  rw[if_neg (by simp[cO])]
  show gB (1::_) (0::r')=_
  rw[eC];rfl
 | x::xs,y::ys,b,r,r',h1,h2,h=>by
  rw[all_cons,and_eq_true]at h1 h2
  have e1:∀(z:PV) (zs:List PV) (w:List Int),(z::zs).flatMap (fun x=>1::code n x)++[0]++w=1::(code n z++(zs.flatMap (fun x=>1::code n x)++[0]++w)):=fun z zs w=>by simp
  rw[e1,e1,eC,if_pos rfl]
  unfold dW at h
  cases e:bK x y with
  |true=>
   rw[if_pos e]at h
   have exy:=EA h1.1 h2.1 e
   subst exy
   rw[x9,CB ih r r' h1.2 h2.2 h]
   simp only[cO,e,Bool.true_and]
  |false=>
   rw[if_neg (by rw[e];exact Bool.false_ne_true)]at h
   rw[ih _ _ h1.1 h2.1 h,if_neg (by rw[e];exact Bool.false_ne_true),if_neg (by simp[cO,e])]
theorem RK:∀{n:Nat} {p q:PV} {b:Bool} (r r':List Int),nD n p=true->nD n q=true->oO n p q=some b->gB (code n p++r) (code n q++r')=if bK p q=true then gB r r' else b:=by
 have str:∀{n:Nat} {x y:Str} {b:Bool} (r r':List Int),oO n (.str x) (.str y)=some b->gB (code n (.str x)++r) (code n (.str y)++r')=if bK (.str x) (.str y)=true then gB r r' else b:=fun{n x y b} r r' h=>by
  have h:some (decide (x.cps.toList<y.cps.toList))=some b:=by cases n<;>exact h
  cases h
  have e1:∀z:Str,code n (.str z)=z.cps.toList.map (fun c:Nat=>(c:Int)+1)++[0]:=fun z=>by cases n<;>rfl
  rw[e1,e1,sG]
  by_cases e:x=y
  ·subst e;rw[if_pos rfl,if_pos (by simp[bK])]
  ·rw[if_neg (fun z=>e (E3 z)),if_neg (by simpa [bK]using e)]
 have int:∀{n:Nat} {x y:Int} {b:Bool} (r r':List Int),oO n (.int x) (.int y)=some b->gB (code n (.int x)++r) (code n (.int y)++r')=if bK (.int x) (.int y)=true then gB r r' else b:=fun{n x y b} r r' h=>by
  have h:some (decide (x<y))=some b:=by cases n<;>exact h
  cases h
  have e1:∀z:Int,code n (.int z)=[z]:=fun z=>by cases n<;>rfl
  rw[e1,e1]
  show gB (x::r) (y::r')=_
  rw[eC]
  by_cases e:x=y
  ·subst e;rw[if_pos rfl,if_pos (by simp[bK])]
  ·rw[if_neg e,if_neg (by simpa [bK]using e)]
 intro n
 induction n with
 | zero=>
  intro p q b r r' h1 h2 h
  cases p with
  |str x=>cases q with
   |str y=>exact str r r' h
   |_=>cases h
  |int x=>cases q with
   |int y=>exact int r r' h
   |_=>cases h
  |_=>cases q<;>cases h
 | succ n ih=>
  intro p q b r r' h1 h2 h
  cases p with
  |str x=>cases q with
   |str y=>exact str r r' h
   |_=>cases h
  |int x=>cases q with
   |int y=>exact int r r' h
   |_=>cases h
  | tup xs=>cases q with
   |tup ys=>
    rw[mN]
    exact CB ih r r' h1 h2 h
   |_=>cases h
  |_=>cases q<;>cases h
theorem FV (ih:∀{p q:PV},oO n p q=some false->oO n q p=some false->bK p q=true) (sym:∀p q:PV,bK p q=bK q p):∀{xs ys:List PV},dW (oO n) xs ys=some false->dW (oO n) ys xs=some false->cO xs ys=true
 |[],[],_,_=>by simp[cO]
 |[],_::_,h,_=>by cases h
 |_::_,[],_,h=>by cases h
 | x::xs,y::ys,h,h'=>by
  unfold dW at h h'
  rw[sym y x]at h'
  cases e:bK x y with
  |true=>
   rw[if_pos e]at h h'
   simp only[cO,e,Bool.true_and]
   exact FV ih sym h h'
  |false=>
   rw[if_neg (by rw[e];exact Bool.false_ne_true)]at h h'
   rw[ih h h']at e
   cases e
mutual
theorem EJ:∀p q:PV,bK p q=bK q p
 | .bA,q=>by cases q<;>simp[bK]
 | .bl a,q=>by cases q<;>simp only[bK]<;>(rw[Bool.eq_iff_iff,beq_iff_eq,beq_iff_eq];exact eq_comm)
 | .int a,q=>by cases q<;>simp only[bK]<;>(rw[Bool.eq_iff_iff,beq_iff_eq,beq_iff_eq];exact eq_comm)
 | .str a,q=>by cases q<;>simp only[bK]<;>(rw[Bool.eq_iff_iff,beq_iff_eq,beq_iff_eq];exact eq_comm)
 | .ty a,q=>by cases q<;>simp[bK]
 | .a8 a,q=>by cases q<;>simp[bK]
 | .tup xs,q=>by
  cases q with
  |tup ys=>simp only[bK];exact sP xs ys
  |_=>simp[bK]
 | .lst xs,q=>by
  cases q with
  |lst ys=>simp only[bK];exact sP xs ys
  |_=>simp[bK]
theorem sP:∀xs ys:List PV,cO xs ys=cO ys xs
 |[],ys=>by cases ys<;>simp[cO]
 |x::xs,[]=>by simp[cO]
 |x::xs,y::ys=>by simp only[cO];rw[EJ x y,sP xs ys]
end
theorem tri:∀{n:Nat} {p q:PV},oO n p q=some false->oO n q p=some false->bK p q=true:=by
 have str:∀{x y:Str},¬x.cps.toList<y.cps.toList->¬y.cps.toList<x.cps.toList->bK (.str x) (.str y)=true:=fun h h'=>by
  have e:=List.le_antisymm (not_lt.mp h') (not_lt.mp h)
  rw[E3 e]
  simp[bK]
 have int:∀{x y:Int},¬x<y->¬y<x->bK (.int x) (.int y)=true:=fun h h'=>by
  have e:_=_:=Int.le_antisymm (Int.not_lt.mp h') (Int.not_lt.mp h)
  rw[e]
  simp[bK]
 intro n
 induction n with
 | zero=>
  intro p q h h'
  cases p with
  |str x=>cases q with
   |str y=>exact str (of_decide_eq_false (Option.some.inj h)) (of_decide_eq_false (Option.some.inj h'))
   |_=>cases h
  |int x=>cases q with
   |int y=>exact int (of_decide_eq_false (Option.some.inj h)) (of_decide_eq_false (Option.some.inj h'))
   |_=>cases h
  |_=>cases q<;>cases h
 | succ n ih=>
  intro p q h h'
  cases p with
  |str x=>cases q with
   |str y=>exact str (of_decide_eq_false (Option.some.inj h)) (of_decide_eq_false (Option.some.inj h'))
   |_=>cases h
  |int x=>cases q with
   |int y=>exact int (of_decide_eq_false (Option.some.inj h)) (of_decide_eq_false (Option.some.inj h'))
   |_=>cases h
  |tup xs=>cases q with
   |tup ys=>rw[mN];exact FV ih EJ h h'
   |_=>cases h
  |_=>cases q<;>cases h
noncomputable def c9 (n:Nat) (ps:List PV):Bool:=ps.all fun p=>nD n p && ps.all fun q=>(oO n p q).isSome
noncomputable abbrev oZ:KeyOrd:=abN C6
noncomputable def kS (n:Nat) (a b:PV):Bool:=!gB (code n b) (code n a)
noncomputable def rA (n:Nat) (ps:List PV):List PV:=ps.mergeSort (kS n)
theorem qB (a b c:PV) (h1:kS n a b=true) (h2:kS n b c=true):kS n a c=true:=by
 unfold kS at*
 rw[not_eq_true']at*
 exact KeyOrd.kle_trans (O:=oZ) h1 h2
theorem qI {n:Nat} (a b:PV):(kS n a b||kS n b a)=true:=by
 unfold kS
 rcases fS (A:=oZ) (code n a) (code n b)with⟨x,y⟩|⟨x,y⟩|x
 ·rw[show gB (code n b) (code n a)=false from y];rfl
 ·rw[show gB (code n a) (code n b)=false from y];simp
 ·rw[x,show gB (code n b) (code n b)=false from oZ.irrefl _];rfl
theorem dC (n:Nat) (ps:List PV):(rA n ps).Perm ps:=List.mergeSort_perm ps (kS n)
theorem hZ (n:Nat) (ps:List PV):(rA n ps).Pairwise fun a b=>kS n a b=true:=List.pairwise_mergeSort qB qI ps
theorem mJ:∀{a b:List PV},a.Pairwise (fun x y=>kS n x y=true)->b.Pairwise (fun x y=>kS n x y=true)->a.Perm b->(∀x∈a,∀y∈a,kS n x y=true->kS n y x=true->x=y)->a=b
 |[],b,_,_,p,_=>List.Perm.nil_eq p
 |x::a,[],_,_,p,_=>absurd p.symm.nil_eq (by simp)
 | x::a,y::b,ha,hb,p,an=>by
  have hx:=(pairwise_cons.mp ha).1
  have hy:=(pairwise_cons.mp hb).1
  have e:x=y:=by
   rcases mem_cons.mp (p.mem_iff.mp mem_cons_self)with z|z
   ·exact z
   ·rcases mem_cons.mp (p.mem_iff.mpr mem_cons_self)with w|w
    ·exact w.symm
    ·exact an x mem_cons_self y (mem_cons_of_mem _ w) (hx y w) (hy x z)
  subst e
  rw[mJ (pairwise_cons.mp ha).2 (pairwise_cons.mp hb).2 p.cons_inv fun u hu v hv=>an u (mem_cons_of_mem _ hu) v (mem_cons_of_mem _ hv)]
theorem mQ (h:c9 n ps=true) {p q:PV} (hp:p∈ps) (hq:q∈ps):oO n p q=some (gB (code n p) (code n q)):=by
 have a:=all_eq_true.mp h p hp
 have b:=all_eq_true.mp h q hq
 rw[and_eq_true]at a b
 have c:=all_eq_true.mp a.2 q hq
 obtain⟨v,e⟩:=isSome_iff_exists.mp c
 have c':=all_eq_true.mp b.2 p hp
 obtain⟨v',e'⟩:=isSome_iff_exists.mp c'
 have k:=RK [] [] a.1 b.1 e
 rw[append_nil,append_nil]at k
 rw[e,k]
 cases z:bK p q with
 |false=>rw[if_neg Bool.false_ne_true]
 | true=>
  rw[if_pos rfl]
  have epq:=EA a.1 b.1 z
  subst epq
  rw[e]at e'
  cases e'
  show some v=some false
  have irr:∀{m:Nat} {p:PV} {v:Bool},nD m p=true->oO m p p=some v->v=false:=by
   intro m p v hp h
   cases v with
   |false=>rfl
   | true=>
    exfalso
    cases m with
    |zero=>
     cases p with
     |str x=>exact absurd (of_decide_eq_true (Option.some.inj h)) (List.lt_irrefl _)
     |int x=>exact absurd (of_decide_eq_true (Option.some.inj h)) (by omega)
     |_=>cases h
    | succ m=>
     cases p with
     |str x=>exact absurd (of_decide_eq_true (Option.some.inj h)) (List.lt_irrefl _)
     |int x=>exact absurd (of_decide_eq_true (Option.some.inj h)) (by omega)
     | tup xs=>
      have key:∀{l:List PV},l.all (nD m)=true->dW (oO m) l l=some false:=by
       intro l
       induction l with
       |nil=>intro _;rfl
       |cons x l ih=>
        intro hl
        rw[all_cons,and_eq_true]at hl
        unfold dW
        rw[if_pos (kB hl.1)]
        exact ih hl.2
      have:=key (show xs.all (nD m)=true from hp)
      rw[show dW (oO m) xs xs=some true from h]at this
      cases this
     |_=>cases h
  rw[irr a.1 e]
theorem uP (h:c9 n ps=true) {p q:PV} (hp:p∈ps) (hq:q∈ps) (h1:kS n p q=true) (h2:kS n q p=true):p=q:=by
 have a:=all_eq_true.mp h p hp
 have b:=all_eq_true.mp h q hq
 rw[and_eq_true]at a b
 unfold kS at h1 h2
 rw[not_eq_true']at h1 h2
 refine EA a.1 b.1 (tri (n:=n) ?_ ?_)
 ·rw[mQ h hp hq,h2]
 ·rw[mQ h hq hp,h1]
section
variable {X:Cx} {k:Nat}
noncomputable def CW (K:Frag):List V->Hp->VK->Prop:=fun xs H Q=>∃p ys ps b,xs=[.ref p]/\iB K H p ys/\bH K cT H ps ys/\ys.length<64/\(∀x∈ps,mV b x=true)/\c9 3 ps=true/\
 ∀l (ix:List Nat),ix.Perm (List.range ps.length)->(ix.map fun i=>ps.getD i .bA).Pairwise (fun a b=>kS 3 a b=true)->H l=none->Q (.ref l) (upd H l (.lst (ix.map fun i=>ys.getD i .bA)))
theorem qF {s:Shared} {b:Bool}:∀{ps:List PV} {vs:List Value},bS s.heap ps vs->(∀x∈ps,mV b x=true)->∃fs,KatTups s.heap vs fs/\fs.length=vs.length/\∀v∈fs,(∃x t,b=true/\v= .str x t)\/ ∃x t,b=false/\v= .int x t
 |[],_,.nil,_=>⟨[],.nil,rfl,fun _ h=>nomatch h⟩
 | p::ps,_,.cons l r,h=>by
  obtain⟨fs,h1,h2,h3⟩:=qF r fun z hz=>h z (mem_cons_of_mem _ hz)
  have hp:=h p mem_cons_self
  cases l with
  | tup t1 r1=>
   obtain⟨o,g1,g2,m,g3⟩:=t1
   cases r1 with
   |nil=>cases hp
   | cons a1 a2=>
    cases a1 with
    |str x t=>
     refine⟨.str x t::fs,.cons g1 g2 g3 (by simp) h1,by rw[length_cons,length_cons,h2],fun v hv=>?_⟩
     rcases mem_cons.mp hv with e|e
     ·exact .inl ⟨x,t,hp,e⟩
     ·exact h3 v e
    |int x t=>
     refine⟨.int x t::fs,.cons g1 g2 g3 (by simp) h1,by rw[length_cons,length_cons,h2],fun v hv=>?_⟩
     rcases mem_cons.mp hv with e|e
     ·exact .inr ⟨x,t,by simpa [mV]using hp,e⟩
     ·exact h3 v e
    |_=>cases hp
  |_=>cases hp
theorem VE (K:Frag) (hr:dX k X.A) (hK:X.K=K:=by rfl):cH X (.builtin "sorted") (CW K):=by
 subst hK
 intro pins s σ H xs us Q I r ⟨p,ys,ps,b,e,hq,rp,h64,led,cmp,q⟩
 subst e
 obtain⟨u,rfl,rx⟩:=vals1 r
 cases rx
 obtain⟨vs,rv,pl,hz⟩:=I.list hq
 have hlen:=rv.length
 have hpl:=rp.length
 have ok:∀x∈ps,gD 3 x=true:=fun x hx=>by
  have:=all_eq_true.mp cmp x hx
  rw[and_eq_true]at this
  exact yQ this.1
 refine BI (R:=fun p=>lX oZ (fun i=>code 3 (ps.getD i .bA)) p vs.length) pl.isList (by omega) (fun l2 h' kp=>?_) (fun h2 i j a b=>?_) fun out p h1 h2 h3=>?_
 ·have I':=I.kept (t':=s.toks) kp
  have hL:bS h' ps vs:=bH.lies I' (n:=3) (all_eq_true.mpr ok) rp rv
  obtain⟨fs,k1,k2,k3⟩:=qF (s:={s with heap:=h'}) hL led
  refine⟨tuples' (Value.type (RI b) !=Value.type "tuple"),fun Q E q=>kat_kind k1 (by omega) (fun v hv=>?_) (by cases b<;>decide) q,fun G hG=>pR.run (n:=vs.length) (ans:=DE oZ (fun i=>code 3 (ps.getD i .bA))) (fun i j C hi hj hC=>?_) (fun p h1 h2=>hG p h1 h2) (GH (by omega)) (LI (by omega))⟩
  ·rcases k3 v hv with⟨x,t,rfl,rfl⟩|⟨x,t,rfl,rfl⟩
   ·exact Looks.of_pure rfl
   ·exact Looks.of_pure rfl
  ·have e1:ps[i]? =some ps[i]:=getElem?_eq_getElem (by omega)
   have e2:ps[j]? =some ps[j]:=getElem?_eq_getElem (by omega)
   refine ZZ (s:={s with heap:=h'}) (n:=2) hL (by have:=hr.un;show X.A.units+1+1+2<_;omega) led ok e1 e2 (mQ cmp (getElem_mem _) (getElem_mem _)) ?_
   have hC:C (oZ.blt (code 3 (ps.getD i .bA)) (code 3 (ps.getD j .bA))) _:=hC
   rw[getD_eq_getElem?_getD,e1,getD_eq_getElem?_getD,e2]at hC
   exact hC
 ·rw[show i=j by omega];exact KeyOrd.kle_refl _
 ·have hp:p.toList.Perm (List.range vs.length):=by simpa using Array.perm_iff_toList_perm.mp h1
  have hlt:∀i∈p.toList,i<vs.length:=fun i hi=>mem_range.mp (hp.mem_iff.mp hi)
  have z2:=uQ rv p.toList hlt
  rw[<-h3]at z2
  have hpz:p.toList.length=vs.length:=by rw[hp.length_eq,length_range]
  obtain⟨c,hat⟩:=sortedAll_at s.heap vs out
  refine⟨.ref (s.heap.objs.size+1),_,I.laid (t':=s.toks) (o:=.lst (p.toList.map fun i=>ys.getD i .bA)) (fun b o e=>sortedAll_old e) (le_succ _) ⟨by rw[length_map,hpz,<-hlen];exact hz,out.toList,c,z2,hat⟩,rfl,q _ _ (by rw[hpl,hlen];exact hp) ?_ (I.bP.fresh (le_succ _))⟩
  rw[List.pairwise_iff_getElem]
  intro i j hi hj hij
  rw[length_map]at hi hj
  have h:=h2 i j (by omega) (by omega)
  rw[getElem_map,getElem_map]
  have ky:∀(i:Nat) (hi:i<p.toList.length),Ky oZ (fun i=>code 3 (ps.getD i .bA)) p i=code 3 (ps.getD p.toList[i] .bA):=fun i hi=>by
   unfold Ky
   rw[getD_eq_getD_getElem?,<-getElem?_toList,getElem?_eq_getElem hi]
   rfl
  rw[ky i hi,ky j hj]at h
  show(!gB _ _)=true
  rw[not_eq_true']
  exact h
end
section
variable {K:Frag}
noncomputable def sM:List PV->Option Bv
 |[.lst ps]=>aQ (decide (ps.length<64) && ((ps.all (mV true)||ps.all (mV false)) && c9 3 ps)) (some (.new (.lst (rA 3 ps))))
 |_=>none
theorem wV {Z:aI} {H:Hp} {ys:List V} (r:bH K Z H ps ys):∀{ix:List Nat},(∀i∈ix,i<ps.length)->bH K Z H (ix.map fun i=>ps.getD i .bA) (ix.map fun i=>ys.getD i .bA)
 |[],_=>.nil
 |i::ix,h=>by
  have hi:=h i mem_cons_self
  have e:=getElem?_eq_getElem hi
  obtain⟨v,ev,rv⟩:=r.get e
  refine .cons ?_ (wV r fun j hj=>h j (mem_cons_of_mem _ hj))
  dsimp only
  rw[getD_eq_getElem?_getD,getD_eq_getElem?_getD,e,ev]
  exact rv
theorem MH:gP K (CW K) sM:=by
 intro Z H vs qs b Q hp h kk
 unfold sM at h
 split at h
 ·rename_i ps
  obtain⟨c,h⟩:=aL h
  cases h
  rw[and_eq_true,and_eq_true]at c
  obtain⟨c1,c2,c3⟩:=c
  obtain⟨v,rfl,hv⟩:=hp.one
  obtain⟨a,ys,rfl,ha,ra⟩:=hv.lZ
  have led:∃b,∀x∈ps,mV b x=true:=by
   rcases Bool.or_eq_true_iff.mp c2 with z|z
   ·exact⟨true,fun x hx=>all_eq_true.mp z x hx⟩
   ·exact⟨false,fun x hx=>all_eq_true.mp z x hx⟩
  obtain⟨b,led⟩:=led
  refine⟨a,ys,ps,b,rfl,ha.sq,ra.aH (.less fun _ z=>z.elim),by rw[<-ra.length];exact of_decide_eq_true c1,led,c3,fun l ix h1 h2 hl=>?_⟩
  have hix:∀i∈ix,i<ps.length:=fun i hi=>mem_range.mp (h1.mem_iff.mp hi)
  have pm:(ix.map fun i=>ps.getD i .bA).Perm ps:=by
   have:=h1.map fun i=>ps.getD i PV.bA
   have e:(List.range ps.length).map (fun i=>ps.getD i PV.bA)=ps:=by
    apply ext_getElem
    ·simp
    ·intro i a1 a2
     simp[getElem?_eq_getElem a2]
   rw[e]at this
   exact this
  have es:rA 3 ps=ix.map fun i=>ps.getD i .bA:=
   mJ (hZ 3 ps) h2 ((dC 3 ps).trans pm.symm) fun x hx y hy=>uP c3 ((dC 3 ps).mem_iff.mp hx) ((dC 3 ps).mem_iff.mp hy)
  rw[es]at kk
  exact kk _ _ (aZ.upd hl) (AA hl (wV ra hix))
 ·cases h
end
end Mr
namespace Mr
open PySem PySem.Spec L2 PyProof.Rows
variable {X:Cx} {e:En} {fa:FA} {ta:TA}
section
variable {K:Frag}
noncomputable def MQ (K:Frag):List V->Hp->VK->Prop:=fun xs H Q=>CY K xs H Q\/ (DI xs H Q\/ CW K xs H Q)
theorem AX {k:Nat} (K:Frag) (hr:dX k X.A) (hK:X.K=K:=by rfl) (hc:X.calm=true:=by rfl):cH X (.builtin "sorted") (MQ K):=cH.or (GZ K hK) (cH.or (aaG hc) (VE K hr hK))
noncomputable def fL:List PV->Option Bv:=fun p=>(t7 p).or ((oB p).or (sM p))
theorem A9:gP K (MQ K) fL:=gP.or K9 (gP.or LD MH)
end
section
variable {K:Frag}
noncomputable def mulC (i j:Int):Bool:=decide (Builtin.Int.intTooBig (Builtin.Int.intBits i+Builtin.Int.intBits j)=false)
theorem xZ:iV X (binaryOp .Mult) (rI IntMulOk fun i j=>.int (i*j)):=opI fun _ _ _ _ _ _ _ hc q=>mul_int q hc
noncomputable def qR:PV->PV->Option Bv:=gI mulC fun i j=>.int (i*j)
theorem FP:dZ K (rI IntMulOk fun i j=>.int (i*j)) qR:=LF (fun i j h=>by
 have h:=of_decide_eq_true h
 unfold IntMulOk
 rw[h,Bool.and_false]
 exact Bool.false_ne_true) fun _ _ _ _=>.int _
end
section
variable {K:Frag}
noncomputable def inR (k:Int):Bool:= @decide (-1000000000<=k/\k<1000000000) (Classical.propDecidable _)
theorem iT {k:Int} (h0: -1000000000<=k) (h1:k<1000000000):inR k=true:= @decide_eq_true _ (Classical.propDecidable _) ⟨h0,h1⟩
noncomputable def rM (fa:FA):FI:=fun _ e=>bE (fa e) fun bs e1=>match bs with
 |[.val (.int j)]=>aQ (inR j) (some ((List.range j.toNat).map (fun k:Nat=>.int (0+(k:Int))),e1))
 |_=>none
theorem R9 (h:rE K ta fa):uB K (S3 ta) (rM fa):=by
 intro st O M W L σ H e e' ps R o he hf q
 obtain⟨x,e1,f1,hf⟩:=aM hf
 refine h O M W L σ H e e1 x _ o he f1 fun vs H1 k1 en rv=>?_
 split at hf
 ·rename_i j
  obtain⟨c,hf⟩:=aL hf
  have c:= @of_decide_eq_true _ (Classical.propDecidable _) c
  cases hf
  cases rv with
  |cons h r=>
   cases r
   cases h
   exact⟨j,rfl,by omega,by omega,q _ H1 k1 en fun Wr hw _=>LC⟩
 ·cases hf
noncomputable def YK (fa:FA):FI:=fun _ e=>bE (fa e) fun bs e1=>match bs with
 |[.val (.int i),.val (.int j)]=>aQ (inR i && inR j) (some ((List.range (j - i).toNat).map (fun k:Nat=>.int (i+(k:Int))),e1))
 |_=>none
theorem Q5 (h:rE K ta fa):uB K (TJ ta) (YK fa):=by
 intro st O M W L σ H e e' ps R o he hf q
 obtain⟨x,e1,f1,hf⟩:=aM hf
 refine h O M W L σ H e e1 x _ o he f1 fun vs H1 k1 en rv=>?_
 split at hf
 ·rename_i i j
  obtain⟨c,hf⟩:=aL hf
  rw[and_eq_true]at c
  have c1:= @of_decide_eq_true _ (Classical.propDecidable _) c.1
  have c2:= @of_decide_eq_true _ (Classical.propDecidable _) c.2
  cases hf
  cases rv with
  | cons h r=>
   cases r with
   |cons h' r=>
    cases r
    cases h
    cases h'
    exact⟨i,j,rfl,⟨by omega,by omega,by omega,by omega⟩,q _ H1 k1 en fun Wr hw _=>LC⟩
 ·cases hf
theorem UH {st:Nat->Bool}:rM fa st e=bE (fa e) fun bs e1=>match bs with
 |[.val (.int j)]=>aQ (inR j) (some ((List.range j.toNat).map (fun k:Nat=>.int (0+(k:Int))),e1))
 |_=>none:=rfl
theorem YJ {st:Nat->Bool}:YK fa st e=bE (fa e) fun bs e1=>match bs with
 |[.val (.int i),.val (.int j)]=>aQ (inR i && inR j) (some ((List.range (j - i).toNat).map (fun k:Nat=>.int (i+(k:Int))),e1))
 |_=>none:=rfl
end
end Mr
namespace Mr
open PySem L2
variable {fa:FE} {f:FN} {α β:Type}
section
variable {K:Frag}
theorem aP.given {M L:aI} {W:WS} {H H':Hp} {σ:St} {e:En} {l:Addr} (h:aP K (aW M (aW L (one l))) W (aW L (one l)) H σ e) (f:MC σ e l) (nL:¬L l) (nW:∀i,¬W i l) (kp:∀a o,a≠l->H a=some o->H' a=some o) (kt:∀a xs,H a=some (.tup xs)->H' a=some (.tup xs)):aP K (aW M L) W L H' σ e:=by
 have k:cS (aW M (aW L (one l))) (aW M L) H H':=⟨kt,fun a o q n=>⟨kp a o (fun z=>n (.inr (.inr z))) q,fun z=>n (z.elim .inl fun z=>.inr (.inl z))⟩⟩
 refine⟨h.len,fun i sl q=>?_,h.mW⟩
 obtain⟨v,h1,h2⟩:=h.at' i sl q
 refine⟨v,h1,?_⟩
 cases sl with
 |val p=>exact Rep.aH k h2
 |own p=>obtain⟨a,e,w,c⟩:=h2;exact⟨a,e,w,c.aH k fun o q=>kp a o (fun z=>nW i (z▸w)) q⟩
 | loc p=>
  obtain⟨a,e,w,c⟩:=h2
  have na:a≠l:=fun z=>by
   subst z e
   exact f i _ q rfl h1
  exact⟨a,e,w.elim id fun z=>absurd z na,c.aH k fun o q=>kp a o na q⟩
 |bor p=>
  obtain⟨a,e,c⟩:=h2
  refine⟨a,e,?_⟩
  cases c with
  |lst e od n m r=>exact .lst (e.elim (fun e=>.inl (kp _ _ (fun z=>m (.inr z)) e)) fun⟨u,e⟩=>.inr ⟨u,kp _ _ (fun z=>m (.inr z)) e⟩) od n (fun z=>m (.inl z)) (r.aH k)
  |dO e r=>exact .dO e (r.aH k)
  |a8 e od n m kk r=>exact .a8 (e.elim (fun e=>.inl (kp _ _ (fun z=>m (.inr z)) e)) fun⟨u,e⟩=>.inr ⟨u,kp _ _ (fun z=>m (.inr z)) e⟩) od n (fun z=>m (.inl z)) kk (r.aH k)
noncomputable def C5 (f:FN) (fa:FE) (i:Nat):FE:=fun e=>bE (fa e) fun x e1=>match x with
 | .new p=>bO (rd e1 i) fun q=>match q with
  | .int k=>bO (f [p,.int k]) fun rq=>some (.val rq.1,e1)
  |_=>none
 |_=>none
theorem IG {ta:TE} {E:XK} (i:Nat) (ha:Ref K ta fa):Ref K (BO (S7 K [.m,.b] false f) [] E (dQ ta (dQ (yL i) m9))) (C5 f fa i):=by
 intro O M W L σ H e e' b Q o he hf q
 obtain⟨x,e1,f1,hf⟩:=aM hf
 cases x with
 | new p=>
  obtain⟨qv,g1,hf⟩:=aF hf
  cases qv with
  | int k=>
   obtain⟨⟨r,qs⟩,g2,hf⟩:=aF hf
   cases hf
   refine ha O M W L σ H e _ _ _ o he f1 fun v1 H1 k1 r1 fr=>?_
   have o1:=o.keep k1.cC
   obtain⟨a,rfl,nO,nL,en,hfree,ct⟩:=r1
   have hfr:H a=none:=fr a rfl
   have en0:=en.UA hfree
   have g1':=g1
   unfold Mr.rd at g1'
   cases c:e'[i]? with
   |none=>rw[c]at g1';cases g1'
   | some s=>
    cases s with
    |none=>rw[c]at g1';cases g1'
    | some s=>
     obtain⟨u,hs,_⟩:=en0.at' i s c
     have hu:=(en0.rd g1 hs).int
     subst hu
     refine⟨.int k,hs,?_⟩
     show S7 K [.m,.b] false f ([.ref a,.int k]++[]) H1 Q E
     rw[append_nil]
     obtain⟨ob,hob,nt⟩:=ct.there
     have ws:∀j b,oG [.m,.b] [.ref a,.int k] H1 j b->b=a:=fun j b ⟨h1,h2⟩=>by
      match j,h1,h2 with
      |0,h1,h2=>cases h2;rfl
      |1,h1,h2=>cases h1
     refine⟨aW M (aW L (one a)),[p,.int k],r,qs,fun b z=>?_,rfl,rfl,fun j kk p' v h1 h2 h3=>?_,fun j1 j2 hne h1 h2=>?_,fun j b h=>?_,g2,fun v H' kc res=>?_⟩
     ·rcases z with z|z|z
      ·exact o1.old b (o1.mo b z)
      ·exact(o1.loc b z).1
      ·rw[show b=a from z,hob];exact fun z=>nomatch z
     ·match j,h1,h2,h3 with
      |0,h1,h2,h3=>cases h1;cases h2;cases h3;exact⟨a,rfl,⟨rfl,rfl⟩,ct⟩
      |1,h1,h2,h3=>cases h1;cases h2;cases h3;exact Rep.int k
     ·match j1,j2,h1,h2 with
      |0,0,_,_=>exact absurd rfl hne
      |0,1,_,h2=>cases h2
      |1,_,h1,_=>cases h1
     ·exact .inr (.inr (ws j b h))
     ·have kp:∀b u,b≠a->H1 b=some u->H' b=some u:=fun b u nb e=>kc.obj b u e (fun⟨j,w⟩=>nb (ws j b w)) fun z=>z
      have kout:bX W L H H':=⟨fun b u e n m=>kp b u (fun z=>by rw[z,hfr]at e;cases e) (k1.obj b u e n m),fun b xs e=>kc.tup b xs (k1.tup b xs e),fun b h=>kc.cC b (k1.cC b h)⟩
      exact q v H' kout ⟨en.given hfree nL (fun j w=>nO (o1.mo a (o1.wm j a w))) kp kc.tup,res.1.aH (.less fun b z=>z.elim .inl fun z=>.inr (.inl z))⟩ trivial
  |_=>cases hf
 |_=>cases hf
theorem K1 {i:Nat} {e:En}:C5 f fa i e=bE (fa e) fun x e1=>match x with
 | .new p=>bO (rd e1 i) fun q=>match q with
  | .int k=>bO (f [p,.int k]) fun rq=>some (.val rq.1,e1)
  |_=>none
 |_=>none:=rfl
end
theorem PH {k:α->Option β}:bO (none:Option α) k=none:=rfl
theorem QA {k:α->En->Option β}:bE (none:Option (α×En)) k=none:=rfl
end Mr
namespace L2
open PySem PySem.Spec PyProof.Rows PySem.W
section
variable {prog:Program} {w:World} {A:Around} {E:Value->Shared->Prop} {s:Shared}
theorem lK.trans {s s1 s2:Shared} (a:lK s s1) (b:lK s1 s2):lK s s2:=by
 obtain⟨h1,t1,d1,rfl,z1,k1⟩:=a
 obtain⟨h2,t2,d2,rfl,z2,k2⟩:=b
 exact⟨h2,t2,d2,rfl,le_trans z1 z2,fun x o e=>k2 x o (k1 x o e)⟩
theorem rV {v:Value} {Ok:List Value->Shared->Prop} {R:List Value->Array Nat->Prop} {Q:Value->Shared->Prop}
  (hcol:∀(E':Value->Shared->Prop) (Q':List Value->Shared->Prop),(∀vs s1,lK s s1->Ok vs s1->Q' vs s1)->wpAny (model prog w) A.in1 (collect v) Q' E' s) (h64:∀vs s1,Ok vs s1->vs.length<64)
  (hk:∀vs s1,lK s s1->Ok vs s1->2<=vs.length->∀h':Heap,(∀b o,s1.heap.get? b=some o->h'.get? b=some o)->DU prog w A.in1.in1 vs (R vs) {s1 with heap:=h'}) (hR:∀vs s1,Ok vs s1->vs.length<2->R vs (List.range vs.length).toArray)
  (hq:∀(a:Addr) s1 s2 (out:Array Value) c vs (p:Array Nat),lK s s1->Ok vs s1->lK s1 s2->s1.heap.objs.size<=a->s2.heap.get? a=some (seqObj "list" out c)->oK vs.length p->R vs p->out.toList=p.toList.map (fun i=>vs.getD i Value.none)->Q (.ref a) s2):
  wpAny (model prog w) A (call (.builtin "sorted") [v]) Q E s:=by
 refine Calls.call_function_entry kind_sorted plain_sorted entry_sorted (args_sorted1 _) ?_
 unfold Builtin.«sorted»
 refine wpAny_bind (m:=checkCount "sorted" 1 1 _) (wpAny_pure (wpAny_bind (hcol _ _ fun vs s1 g ok=>?_)))
 have hl:=h64 vs s1 ok
 refine wpAny_bind (wpAny_newList ?_ (by simp only[sizeLine_eq];omega))
 have e1:(s1.heap.push (seqObj "list" vs.toArray 0)).get? s1.heap.objs.size=some (seqObj "list" vs.toArray 0):=get?_push_size _ rfl
 refine wpAny_bind (wpAny_holding (wpAny_call_entry slot_list_sort ⟨_,e1,rfl⟩ entry_list_sort ?bd (args_list_sort _)))
 case bd=>
  refine w5 e1 hl (fun l2 h' kp=>hk vs s1 g ok l2 h' fun b o gb=>kp b o (ne_of_lt (lt_size gb)) (get?_push_of_some _ gb)) (hR vs s1 ok) fun out p p1 p2 p3=>⟨_,rfl,wpAny_pure ⟨_,rfl,?_⟩⟩
  obtain⟨c,hc⟩:=sortedHeap_at (out:=out) e1
  refine hq s1.heap.objs.size s1 _ out c vs p g ok ?_ (le_refl _) hc p1 p2 p3
  refine⟨_,s1.toks,s1.drawn,rfl,le_of_lt (lt_size hc),fun b o e=>?_⟩
  have hb:=lt_size e
  rw[sortedHeap_old (ne_of_lt hb) (by rw[size_push'];exact lt_succ_of_lt hb)]
  exact get?_push_of_some _ e
theorem u4 {K:Type} [DecidableEq K] {knd:KeyKind prog w K} {r d:Addr} {kvs:List (K×Value)} {ep:Nat} {Q:List Value->Shared->Prop} (hh:A.handled=none) (hv:s.heap.IsItemsView r d) (hm:s.heap.DictAt knd d kvs ep) (hn:kvs.length<=sizeLine)
  (hq:∀s1 (as:List Addr),lK s s1->as.length=kvs.length->KdxG knd kvs s.heap.objs.size s1.heap as->Q (as.map Value.ref) s1):wpAny (model prog w) A (collect (.ref r)) Q E s:=by
 have hr:r<s.heap.objs.size:=let⟨_,ho,_⟩:=hv;lt_size ho
 have hd:d<s.heap.objs.size:=hm.lt_size
 have fin:∀(h':Heap) (tk:Nat) (acc:Array Value) (c:Nat) (as:List Addr),(∀b o,s.heap.get? b=some o->h'.get? b=some o)->
   h'.get? s.heap.objs.size=some {cls:=.type "list",dict:=none,data:=.seq acc c,slots:= #[]}->as.length=kvs.length->KdxG knd kvs s.heap.objs.size h' as->acc.toList=as.map Value.ref->
   wpAny (model prog w) A (match Value.ref s.heap.objs.size with
    | Value.ref a=>do
     match(<-load a).data with
      |Data.seq xs _=>pure xs.toList
      |_=>unsupported "internal:collect"
    |_=>unsupported "internal:collect") Q E {s with heap:=h',toks:=tk}:=fun h' tk acc c as kp hS hl hG ea=>by
  show wpAny _ A (load s.heap.objs.size>>=_) _ _ _
  refine wpAny_bind (wpAny_load hS (wpAny_pure ?_))
  show Q acc.toList _
  rw[ea]
  exact hq _ as ⟨h',tk,s.drawn,rfl,le_of_lt (lt_size hS),kp⟩ hl hG
 unfold collect
 refine wpAny_bind (wpAny_runValue (codeAny_builtin F.entry_proto_collect ?_))
 rw[Around.under_plainId F.plain_proto_collect _]
 refine wpAny_bind (m:=newList []) (wpAny_newObj_type ?_)
 refine wpAny_pure ⟨plainId_quiet F.plain_list_iadd _,codeAny_builtin F.entry_list_iadd ?_⟩
 rw[Around.under_plainId F.plain_list_iadd _]
 have e0:(s.heap.push {cls:=.type "list",data:=.seq ([]:List Value).toArray}).get? s.heap.objs.size=some {cls:=.type "list",data:=.seq #[] 0}:=get?_push_size _ rfl
 have key:=kdx_extend (A:=A) (knd:=knd) (kvs:=kvs) (ep:=ep) (s:={s with heap:=s.heap.push {cls:=.type "list",data:=.seq ([]:List Value).toArray}}) (R:=fun rs s'=>∃h' tk acc c as,rs= .ok (.ret (.ref s.heap.objs.size))/\s'={s with heap:=h',toks:=tk}/\(∀b o,s.heap.get? b=some o->h'.get? b=some o)/\h'.get? s.heap.objs.size=some {cls:=.type "list",dict:=none,data:=.seq acc c,slots:= #[]}/\as.length=kvs.length/\KdxG knd kvs s.heap.objs.size h' as/\acc.toList=as.map Value.ref)
  hh (let⟨o,ho,x⟩:=hv;⟨o,get?_push_of_some _ ho,x⟩) (hm.push _) s.heap.objs.size (ne_of_gt hr) (ne_of_lt hd) (.ref s.heap.objs.size) 0 e0
  (fun h' tk acc c as kp hS hl hG ea=>⟨h',tk,acc,c,as,rfl,rfl,fun b o e=>kp b o (ne_of_lt (lt_size e)) (get?_push_of_some _ e),hS,hl,hG.low (by rw[size_push];exact le_succ _),ea⟩) hn
 refine wpAny_mono key (fun f s' h=>?_) fun e s' h=>?_
 ·cases f with
  |done f=>
   obtain⟨h',tk,acc,c,as,e1,rfl,kp,hS,hl,hG,ea⟩:=h
   cases e1
   exact fin h' tk acc c as kp hS hl hG ea
  |again c'=>
   refine⟨h.1,codeAny_mono h.2 fun rs s2 hr=>?_⟩
   obtain⟨h',tk,acc,c,as,rfl,rfl,kp,hS,hl,hG,ea⟩:=hr
   exact fin h' tk acc c as kp hS hl hG ea
 ·obtain⟨h',tk,acc,c,as,e1,_⟩:=h
  cases e1
theorem Inv.aa6 {X:Cx} {pins:List (Addr×Obj)} {σ:L2.St} {H H':Hp} {s s':Shared} (I:Inv X pins σ H s) (g:lK s s') (he:∀b,b<s.heap.objs.size->H' b=H b) (new:∀a o,s.heap.objs.size<=a->H' a=some o->dI X.prog X.w H' s'.heap a o):Inv X pins σ H' s':=by
 obtain⟨h',tk,dr,rfl,_,k⟩:=g
 have old:∀a o,H a=some o->H' a=some o:=fun a o e=>by rw[he a (I.bP.lt e)];exact e
 refine I.call (g':=s.gens) (d':=dr) (t':=tk) (ch:=[]) ⟨fun b u q _ _ _=>k b u q,fun b u q _ _ _=>⟨u.slots,k b u q⟩,fun b u q n _=>by rw[he b (lt_size q)];exact n,fun b u q _=>⟨u,k b u q⟩,fun b xs q=>old b _ q,fun b u xs q=>old b _ q,fun b ps q=>⟨#[],by rw[old b _ q];simp⟩⟩ (fun a o e=>?_) I.bare fun _ z=>nomatch z
 by_cases ha:a<s.heap.objs.size
 ·rw[he a ha]at e
  exact(I.bP a o e).aH (fun c v _ q=>k c v q) (fun c q=>old c _ q) fun c xs q=>old c _ q
 ·exact new a o (Nat.le_of_not_lt ha) e
end
section
variable {X:Cx}
noncomputable def OQ (v d:Addr):HO:=.ext fun h=>h.IsItemsView v d
noncomputable def CO (to:TE):TE:=fun σ H Q=>to σ H fun x H1=>∃a kvs,x= .ref a/\xA H1 a kvs/\∀v,H1 v=none->Q (.ref v) (upd H1 v (OQ v a))
theorem CL {o:Expr} {to:TE} {apos cpos:Pos} (ho:PE X o to) (hbase:attributeBase o "items" X.env (eval o X.env)=eval o X.env:=by rfl) (hline:(apos.endLine==cpos.line)=true:=by rfl):
  PE X (.Call (.Attribute o "items" apos) [] [] cpos) (CO to):=by
 intro pins s σ H Q I h
 refine wpAny_Call_method0_late hbase hline (cP (ho pins s σ H _ I h) fun v s1 ⟨x,H1,I1,r1,a,kvs,ex,ha,q1⟩=>?_)
 subst ex
 obtain rfl:v=Value.ref a:=r1
 obtain⟨hz,hd,vs,rel,dd⟩:=gR I1.bP ha
 refine⟨"dict","dict.items",plainAttrs_dict,PySem.F.slot_dict_items,PySem.F.type_dict_items,dd.typeIs,dd.mapOf.noDict,Calls.callWith_builtin rfl (PySem.evalArgs_none ?_)⟩
 refine call_meetsIn PySem.F.slot_dict_items dd.typeIs PySem.F.entry_dict_items (PySem.F.args_dict_items_1 _) (meets_dict_items (bT X.prog X.w) a hd) ⟨⟨vs,dd⟩,?_⟩
 have e0:(s1.heap.push {cls:=.type "dict_items",data:=.fields #[.ref a]}).get? s1.heap.objs.size=some {cls:=.type "dict_items",data:=.fields #[.ref a]}:=get?_push_size _ rfl
 exact⟨.ref s1.heap.objs.size,_,I1.laid (t':=s1.toks) (o:=OQ s1.heap.objs.size a) (fun b u e=>get?_push_of_some _ e) (le_refl _) ⟨⟨_,e0,rfl,rfl⟩,⟨_,e0⟩,fun h1 h2 ⟨u,e,c⟩ k=>⟨u,k u e,c⟩⟩,rfl,q1 _ (I1.bP.fresh (le_refl _))⟩
end
end L2
namespace Mr
open PySem PySem.Spec L2 PyProof.Rows PySem.W
variable {e:En} {fa:FE} {H:Hp} {Z:aI}
noncomputable def tU:Key->PV
 | .inl i=>.int i
 | .inr x=>.str x
theorem wM {h:Heap} {k:Key} {v:Value} (e:lW k v=true):Lies h (tU k) v/\RelV (kV k) v:=by
 rcases cD e with⟨i,t,rfl,rfl⟩|⟨x,t,rfl,rfl⟩
 ·exact⟨.int i t,t,rfl⟩
 ·exact⟨.str x t,t,rfl⟩
noncomputable def bG (kvs:List (Key×PV)):List PV:=kvs.map fun z=>.tup [tU z.1,z.2]
section
variable {X:Cx} {k:Nat}
noncomputable def OJ (K:Frag):List V->Hp->VK->Prop:=fun xs H Q=>∃v a ys kvs b,xs=[.ref v]/\H v=some (OQ v a)/\xA H a ys/\dU K cT H kvs ys/\kvs.length<64/\(∀x∈bG kvs,mV b x=true)/\c9 3 (bG kvs)=true/\
 ∀l H' (as:List Addr) (ix:List Nat),aZ H H'->(∀(j:Nat) t q,as[j]? =some t->ys[j]? =some q->H' t=some (.tup [kV q.1,q.2]))->as.length=ys.length->ix.Perm (List.range kvs.length)->(ix.map fun i=>(bG kvs).getD i .bA).Pairwise (fun a b=>kS 3 a b=true)->H l=none->H' l=some (.lst (ix.map fun i=>.ref (as.getD i 0)))->Q (.ref l) H'
theorem CG {h:Heap}:∀{ps:List PV} {vs:List Value},ps.length=vs.length->(∀(j:Nat) p v,ps[j]? =some p->vs[j]? =some v->Lies h p v)->bS h ps vs
 |[],[],_,_=>.nil
 |[],_::_,h,_=>by cases h
 |_::_,[],h,_=>by cases h
 |p::ps,v::vs,h,k=>.cons (k 0 p v rfl rfl) (CG (by simpa using h) fun j p v a b=>k (j+1) p v (by simpa using a) (by simpa using b))
theorem sortI (K:Frag) (hr:dX k X.A) (hK:X.K=K:=by rfl) (hc:X.calm=true:=by rfl):cH X (.builtin "sorted") (OJ K):=by
 subst hK
 intro pins s σ H xs us Q I r ⟨v,a,ys,kvs,b,e,hv,ha,rd,h64,led,cmp,q⟩
 subst e
 obtain⟨u,rfl,rx⟩:=vals1 r
 cases rx
 obtain⟨hz,hd,vs,rel,dd⟩:=gR I.bP ha
 obtain⟨ep,dd⟩:=dd.dictAt
 have hlen:kvs.length=ys.length:=by have:=congrArg List.length rd.1;simpa using this.symm
 have hlen2:=rel.len
 have ok:∀x∈bG kvs,gD 3 x=true:=fun x hx=>by
  have:=all_eq_true.mp cmp x hx
  rw[and_eq_true]at this
  exact yQ this.1
 refine rV (s:=s) (Ok:=fun ws s1=>∃as:List Addr,ws=as.map Value.ref/\as.length=vs.length/\KdxG (bT X.prog X.w) vs s.heap.objs.size s1.heap as) (R:=fun ws p=>lX oZ (fun i=>code 3 ((bG kvs).getD i .bA)) p ws.length) (fun E' Q' kk=>?_) ?_ ?_ ?_ ?_
 ·exact u4 (by exact I.ok.hd hc) (I.bP v _ hv).1 dd (by rw[<-hlen2];exact hz) fun s1 as gr hl g=>kk _ s1 gr ⟨as,rfl,hl,g⟩
 ·rintro ws s1 ⟨as,rfl,hl,g⟩
  rw[length_map];omega
 ·rintro ws s1 gr ⟨as,rfl,hl,g⟩ l2 h' kp
  have I':Inv X pins σ H {s1 with heap:=h'}:=(I.Z2 gr).kept (t':=s1.toks) kp
  have okv:(kvs.map (·.2)).all (gD 2)=true:=all_eq_true.mpr fun p hp=>by
   obtain⟨z,hz,rfl⟩:=mem_map.mp hp
   have:=ok (.tup [tU z.1,z.2]) (mem_map.mpr ⟨z,hz,rfl⟩)
   have this:([tU z.1,z.2].all (gD 2))=true:=this
   rw[all_cons,all_cons,and_eq_true,and_eq_true]at this
   exact this.2.1
  have lv:bS h' (kvs.map (·.2)) (vs.map (·.2)):=bH.lies I' (n:=2) okv rd.2 rel.vals
  have hL:bS h' (bG kvs) (as.map Value.ref):=by
   refine CG (by unfold bG;rw[length_map,length_map];omega) fun j p v hp hv=>?_
   rw[getElem?_map]at hv
   obtain⟨t,ht,rfl⟩:=map_eq_some_iff.mp hv
   unfold bG at hp
   rw[getElem?_map]at hp
   obtain⟨z,hz',rfl⟩:=map_eq_some_iff.mp hp
   obtain⟨key,kk,x,e1,e2,e3⟩:=g.pairs j t ht
   have ek:kk=z.1:=by
    have a1:(vs.map (·.1))[j]? =some kk:=by rw[getElem?_map,e1];rfl
    have a2:(kvs.map (·.1))[j]? =some z.1:=by rw[getElem?_map,hz'];rfl
    rw[<-rel.keys,rd.1,a2]at a1
    exact(Option.some.inj a1).symm
   subst ek
   obtain⟨p',h1,h2⟩:=lv.get (show(vs.map (·.2))[j]? =some x by rw[getElem?_map,e1];rfl)
   rw[getElem?_map,hz']at h1
   cases h1
   exact .tup ⟨_,kp _ _ e3,rfl,0,rfl⟩ (.cons (wM (show lW z.1 key=true from e2)).1 (.cons h2 .nil))
  obtain⟨fs,k1,k2,k3⟩:=qF (s:={s1 with heap:=h'}) hL led
  have hpl:(bG kvs).length=(as.map Value.ref).length:=hL.length
  have h64':(as.map Value.ref).length<64:=by rw[length_map];omega
  refine⟨tuples' (Value.type (RI b) !=Value.type "tuple"),fun Q E q=>kat_kind k1 (by omega) (fun v hv=>?_) (by cases b<;>decide) q,fun G hG=>pR.run (n:=(as.map Value.ref).length) (ans:=DE oZ (fun i=>code 3 ((bG kvs).getD i .bA))) (fun i j C hi hj hC=>?_) (fun p h1 h2=>hG p h1 h2) (GH (by omega)) (LI (by omega))⟩
  ·rcases k3 v hv with⟨x,t,rfl,rfl⟩|⟨x,t,rfl,rfl⟩
   ·exact Looks.of_pure rfl
   ·exact Looks.of_pure rfl
  ·have e1:(bG kvs)[i]? =some (bG kvs)[i]:=getElem?_eq_getElem (by omega)
   have e2:(bG kvs)[j]? =some (bG kvs)[j]:=getElem?_eq_getElem (by omega)
   refine ZZ (s:={s1 with heap:=h'}) (n:=2) hL (by have:=hr.un;show X.A.units+1+1+2<_;omega) led ok e1 e2 (mQ cmp (getElem_mem _) (getElem_mem _)) ?_
   have hC:C (oZ.blt (code 3 ((bG kvs).getD i .bA)) (code 3 ((bG kvs).getD j .bA))) _:=hC
   rw[getD_eq_getElem?_getD,e1,getD_eq_getElem?_getD,e2]at hC
   exact hC
 ·rintro ws s1 ⟨as,rfl,hl,g⟩ h2 i j a b
  rw[show i=j by omega];exact KeyOrd.kle_refl _
 ·rintro l s1 s2 out c ws p gr ⟨as,rfl,hl,g⟩ g2 hla hat h1 h2 h3
  have hp:p.toList.Perm (List.range as.length):=by
   have:=Array.perm_iff_toList_perm.mp h1
   rw[length_map]at this
   simpa using this
  have hlt:∀i∈p.toList,i<as.length:=fun i hi=>mem_range.mp (hp.mem_iff.mp hi)
  have above:∀t∈as,s.heap.objs.size<=t:=fun t ht=>le_of_lt (g.above t ht)
  have nl:l∉as:=fun z=>absurd (g.there z) (Nat.not_lt.mpr hla)
  have hls:s.heap.objs.size<=l:=le_trans gr.size hla
  let H':Hp:=fun x=>if x=l then some (.lst (p.toList.map fun i=>V.ref (as.getD i 0)))else match as.findIdx? (fun t=>t==x)with
   |some j=>(ys[j]?).map fun q=>HO.tup [kV q.1,q.2]
   |none=>H x
  have hl':H' l=some (.lst (p.toList.map fun i=>V.ref (as.getD i 0))):=if_pos rfl
  have hno:∀x,x≠l->x∉as->H' x=H x:=fun x h1 h2=>by
   show(if x=l then _ else _)=_
   rw[if_neg h1]
   have:as.findIdx? (fun t=>t==x)=none:=List.findIdx?_eq_none_iff.mpr fun t ht=>by
    cases c:t==x with
    |false=>rfl
    |true=>exact absurd (by rw[<-eq_of_beq c];exact ht) h2
   rw[this]
  have hat':∀(j:Nat) t q,as[j]? =some t->ys[j]? =some q->H' t=some (.tup [kV q.1,q.2]):=fun j t q hj hq=>by
   have hm:=mem_of_getElem? hj
   show(if t=l then _ else _)=_
   rw[if_neg (fun z:t=l=>nl (by rw[<-z];exact hm))]
   have:as.findIdx? (fun u=>u==t)=some j:=by
    rw[List.findIdx?_eq_some_iff_getElem]
    obtain⟨hjl,ej⟩:=List.getElem?_eq_some_iff.mp hj
    refine⟨hjl,by simp[ej],fun i hi=>?_⟩
    have:=List.pairwise_iff_getElem.mp g.rise i j (by omega) hjl hi
    rw[ej]at this
    simpa using ne_of_lt this
   rw[this]
   show(ys[j]?).map _=_
   rw[hq];rfl
  have same:aZ H H':=fun x o e=>by
   have hx:=I.bP.lt e
   rw[hno x (fun z:x=l=>absurd (by rw[<-z];exact hx) (Nat.not_lt.mpr hls)) (fun z=>absurd hx (Nat.not_lt.mpr (above x z)))]
   exact e
  have I2:Inv X pins σ H' s2:=by
   refine I.aa6 (gr.trans g2) (fun x hx=>hno x (fun z:x=l=>absurd (by rw[<-z];exact hx) (Nat.not_lt.mpr hls)) (fun z=>absurd hx (Nat.not_lt.mpr (above x z)))) fun x o hx e=>?_
   by_cases hxl:x=l
   ·subst hxl
    rw[hl']at e
    cases e
    refine⟨by rw[length_map,hp.length_eq,length_range,hl,<-hlen2];exact hz,out.toList,c,?_,hat⟩
    rw[h3]
    have:∀(ix:List Nat),(∀i∈ix,i<as.length)->Vals (ix.map fun i=>V.ref (as.getD i 0)) (ix.map fun i=>(as.map Value.ref).getD i Value.none):=by
     intro ix
     induction ix with
     |nil=>intro _;exact .nil
     |cons i ix ih=>
      intro hi
      refine .cons ?_ (ih fun j hj=>hi j (mem_cons_of_mem _ hj))
      have:=hi i mem_cons_self
      dsimp only
      rw[getD_eq_getElem?_getD,getD_eq_getElem?_getD,getElem?_map,getElem?_eq_getElem this]
      rfl
    exact this _ hlt
   ·by_cases hxa:x∈as
    ·obtain⟨j,hj⟩:=List.mem_iff_getElem?.mp hxa
     have hjl:=(List.getElem?_eq_some_iff.mp hj).1
     have hy:ys[j]? =some (ys[j]'(by omega)):=getElem?_eq_getElem (by omega)
     rw[hat' j x _ hj hy]at e
     cases e
     obtain⟨key,kk,y,e1,e2,e3⟩:=g.pairs j x hj
     have rl:=rel
     obtain⟨t1,t2,t3,t4,t5,t6⟩:=g2
     subst t4
     have rj:∀{l1:List (Key×V)} {l2:List (Key×Value)} {j:Nat} {a b},KV l1 l2->l1[j]? =some a->l2[j]? =some b->a.1=b.1/\RelV a.2 b.2:=by
      intro l1 l2 j a b r
      unfold KV at r
      induction r generalizing j with
      |nil=>intro h;simp at h
      |cons h t ih=>
       intro h1 h2
       cases j with
       |zero=>simp at h1 h2;subst h1 h2;exact h
       |succ j=>exact ih (by simpa using h1) (by simpa using h2)
     obtain⟨q1,q2⟩:=rj rel hy e1
     refine⟨by show 2<=sizeLine;decide,[key,y],.cons ?_ (.cons q2 .nil),pG.of (t6 _ _ e3)⟩
     have q1:(ys[j]'(by omega)).1=kk:=q1
     rw[q1]
     exact(wM (h:=s1.heap) (show lW kk key=true from e2)).2
    ·rw[hno x hxl hxa]at e
     exact absurd (I.bP.lt e) (Nat.not_lt.mpr hx)
  have hk:as.length=kvs.length:=by omega
  refine⟨.ref l,H',I2,rfl,q l H' as p.toList same hat' (by omega) (by rw[<-hk];exact hp) ?_ (I.bP.fresh hls) hl'⟩
  rw[List.pairwise_iff_getElem]
  intro i j hi hj hij
  rw[length_map]at hi hj
  have hpz:p.toList.length=as.length:=by rw[hp.length_eq,length_range]
  have h:=h2 i j (by omega) (by rw[length_map];omega)
  rw[getElem_map,getElem_map]
  have ky:∀(i:Nat) (hi:i<p.toList.length),Ky oZ (fun i=>code 3 ((bG kvs).getD i .bA)) p i=code 3 ((bG kvs).getD p.toList[i] .bA):=fun i hi=>by
   unfold Ky
   rw[getD_eq_getD_getElem?,<-getElem?_toList,getElem?_eq_getElem hi]
   rfl
  rw[ky i hi,ky j hj]at h
  show(!gB _ _)=true
  rw[not_eq_true']
  exact h
end
section
variable {K:Frag}
theorem NG (k:Key):Rep K Z H (tU k) (kV k):=by
 cases k with
 |inl i=>exact .int i
 |inr x=>exact .str x
noncomputable def C1 (fa:FE):FE:=fun e=>bE (fa e) fun x e1=>bO (x.weak.get e1) fun p=>match p with
 | .a8 kvs=>aQ (decide (kvs.length<64) && (((bG kvs).all (mV true)||(bG kvs).all (mV false)) && c9 3 (bG kvs))) (some (.new (.lst (rA 3 (bG kvs))),e1))
 |_=>none
theorem AQ:∀{kvs:List (Key×PV)} {ys:List (Key×V)} {i:Nat} {z:Key×PV},dU K Z H kvs ys->kvs[i]? =some z->∃y,ys[i]? =some y/\y.1=z.1/\Rep K Z H z.2 y.2
 |[],ys,i,z,h,e=>by simp at e
 | x::kvs,ys,i,z,h,e=>by
  rcases h.cases with⟨q,_⟩|⟨j,p,v,r,t,q,q',hp,hr⟩
  ·cases q
  ·cases q
   subst q'
   cases i with
   |zero=>simp at e;subst e;exact⟨(j,v),rfl,rfl,hp⟩
   |succ i=>exact AQ (i:=i) hr (by simpa using e)
theorem HE {ta:TE} (ha:Ref K ta fa):Ref K (ZM (OJ K) (dQ (CO ta) m9)) (C1 fa):=by
 intro O M W L σ H e e' b Q o he hf q
 obtain⟨x,e1,f1,hf⟩:=aM hf
 obtain⟨p,g0,hf⟩:=aF hf
 cases p with
 | a8 kvs=>
  obtain⟨c,hf⟩:=aL hf
  cases hf
  rw[and_eq_true,and_eq_true]at c
  obtain⟨c1,c2,c3⟩:=c
  refine ha O M W L σ H e _ x _ o he f1 fun v1 H1 k1 r1 fr=>?_
  have o1:=o.keep k1.cC
  have en:=r1.en o1
  obtain⟨a,ys,rfl,hd,ek,rl⟩:=((r1.rv o1).red en g0).rR
  have led:∃b,∀x∈bG kvs,mV b x=true:=by
   rcases Bool.or_eq_true_iff.mp c2 with z|z
   ·exact⟨true,fun x hx=>all_eq_true.mp z x hx⟩
   ·exact⟨false,fun x hx=>all_eq_true.mp z x hx⟩
  obtain⟨bb,led⟩:=led
  refine⟨a,ys,rfl,hd,fun v hv=>?_⟩
  have s1:aZ H1 (upd H1 v (OQ v a)):=aZ.upd hv
  have k2:=k1.trans (.same s1)
  have rd:dU K (aW M L) (upd H1 v (OQ v a)) kvs ys:=⟨ek,rl.aH (.same s1)⟩
  refine⟨v,a,ys,kvs,bb,rfl,aU,hd.upd hv,⟨ek,(rl.aH (.same s1)).aH (.less fun _ z=>z.elim)⟩,of_decide_eq_true c1,led,c3,fun l H' as ix sm hat al h1 h2 hl hl'=>?_⟩
  have hix:∀i∈ix,i<kvs.length:=fun i hi=>mem_range.mp (h1.mem_iff.mp hi)
  have pl:(bG kvs).length=kvs.length:=by unfold bG;rw[length_map]
  have pm:(ix.map fun i=>(bG kvs).getD i .bA).Perm (bG kvs):=by
   have:=h1.map fun i=>(bG kvs).getD i PV.bA
   have e:(List.range kvs.length).map (fun i=>(bG kvs).getD i PV.bA)=bG kvs:=by
    rw[<-pl]
    apply ext_getElem
    ·simp
    ·intro i a1 a2
     simp[getElem?_eq_getElem a2]
   rw[e]at this
   exact this
  have es:rA 3 (bG kvs)=ix.map fun i=>(bG kvs).getD i .bA:=
   mJ (hZ 3 _) h2 ((dC 3 _).trans pm.symm) fun x hx y hy=>uP c3 ((dC 3 _).mem_iff.mp hx) ((dC 3 _).mem_iff.mp hy)
  rw[es]at q
  have st:cS (aW M L) (aW (aW M L) (one l)) (upd H1 v (OQ v a)) H':=cS.new sm hl
  have reps:∀(js:List Nat),(∀i∈js,i<kvs.length)->bH K (aW (aW M L) (one l)) H' (js.map fun i=>(bG kvs).getD i .bA) (js.map fun i=>V.ref (as.getD i 0)):=by
   intro js
   induction js with
   |nil=>intro _;exact .nil
   |cons i js ih=>
    intro hj
    have hi:=hj i mem_cons_self
    refine .cons ?_ (ih fun j h=>hj j (mem_cons_of_mem _ h))
    have hlen:ys.length=kvs.length:=by have:=congrArg List.length ek;simpa using this
    obtain⟨y,hy,e1,e2⟩:=AQ rd (getElem?_eq_getElem hi)
    have ht:as[i]? =some (as[i]'(by omega)):=getElem?_eq_getElem (by omega)
    dsimp only
    rw[getD_eq_getElem?_getD,getD_eq_getElem?_getD,ht]
    unfold bG
    rw[getElem?_map,getElem?_eq_getElem hi]
    show Rep K _ H' (.tup [tU kvs[i].1,kvs[i].2]) (.ref as[i])
    refine .tup (.inl (hat i _ _ ht hy)) (.cons (by rw[e1];exact NG _) (.cons (e2.aH st) .nil))
  have rn:RN K (aW M L) (upd H1 v (OQ v a)) H' (.ref l) (.new (.lst (ix.map fun i=>(bG kvs).getD i .bA))):=⟨l,rfl,hl,.lst hl' (reps ix hix)⟩
  exact q _ _ (k2.trans (.same sm)) (rn.rb (o.keep k2.cC) (en.same s1) sm) (rn.fr k2.cC)
 |_=>cases hf
theorem MO:C1 fa e=bE (fa e) fun x e1=>bO (x.weak.get e1) fun p=>match p with
 | .a8 kvs=>aQ (decide (kvs.length<64) && (((bG kvs).all (mV true)||(bG kvs).all (mV false)) && c9 3 (bG kvs))) (some (.new (.lst (rA 3 (bG kvs))),e1))
 |_=>none:=rfl
noncomputable def JF (fa:FE):FE:=fun e=>bE (fa e) fun x e1=>bO (x.weak.get e1) fun p=>match p with
 | .lst ps=>bO (l9 ps) fun ss=>aQ (decide (ss.length<4000) && decide ((bV ss).length<64)) (some (.new (.lst ((cL (bV ss)).map PV.str)),e1))
 |_=>none
theorem BQ:JF fa e=bE (fa e) fun x e1=>bO (x.weak.get e1) fun p=>match p with
 | .lst ps=>bO (l9 ps) fun ss=>aQ (decide (ss.length<4000) && decide ((bV ss).length<64)) (some (.new (.lst ((cL (bV ss)).map PV.str)),e1))
 |_=>none:=rfl
end
end Mr
namespace L2
open PySem PySem.Spec PyProof.Rows PySem.W
section
variable {X:Cx}
noncomputable def LO:List V->Hp->VK->Prop:=fun xs H Q=>∃a kvs,xs=[.ref a]/\xA H a kvs/\Q (.int kvs.length) H
theorem ac5:cH X (.builtin "len") LO:=by
 intro pins s σ H xs us Q I r ⟨a,kvs,e,ha,q⟩
 subst e
 obtain⟨u,rfl,rx⟩:=vals1 r
 cases rx
 obtain⟨hz,hd,vs,rel,dd⟩:=gR I.bP ha
 refine call_len_dict hd dd (by have:=rel.len;rw[sizeLine_eq]at hz;omega) ?_
 exact⟨.int kvs.length,H,I.tok _,⟨s.toks+1,by rw[rel.len]⟩,q⟩
end
end L2
namespace Mr
open PySem L2
section
variable {K:Frag}
noncomputable def F8:List PV->Option Bv
 |[.a8 kvs]=>some (.val (.int kvs.length))
 |_=>none
theorem RZ:gP K LO F8:=by
 intro Z H vs ps b Q hp h k
 unfold F8 at h
 split at h
 ·cases h
  obtain⟨v,rfl,hv⟩:=hp.one
  obtain⟨a,ys,rfl,ha,ek,ra⟩:=hv.rR
  refine⟨a,ys,rfl,ha,k _ H (aZ.refl _) ?_⟩
  have:=congrArg List.length ek
  rw[length_map,length_map]at this
  rw[this]
  exact Rep.int _
 ·cases h
noncomputable def TM (K:Frag):List V->Hp->VK->Prop:=fun xs H Q=>J8 K xs H Q\/ LO xs H Q
theorem aaO {X:Cx} (K:Frag) (hK:X.K=K:=by rfl):cH X (.builtin "len") (TM K):=cH.or (CA K hK) ac5
noncomputable def EX:List PV->Option Bv:=fun p=>(rJ p).or (F8 p)
theorem F5:gP K (TM K) EX:=gP.or DC RZ
end
end Mr
namespace L2
open PySem PySem.Spec PyProof.Rows PySem.W
section
variable {prog:Program} {w:World} {A:Around} {R:Result->Shared->Prop} {I:Addr} {fp wr:List Addr} {n:Nat} {Pz:Nat->Value->Prop} {Sz:Nat->Heap->Prop}
noncomputable def LJ (prog:Program) (w:World) (A:Around) (ok:Heap->Prop) (Pz:Nat->Value->Prop) (bt:Nat->Nat->Bool):Prop:=
 ∀i j vi vj (s:Shared) (Q:Value->Shared->Prop) (E:Value->Shared->Prop),ok s.heap->Pz i vi->Pz j vj->Q (.bool (bt i j)) s->wpAny (model prog w) A (richCompare .Lt vi vj) Q E s
theorem p9:(toString "min"++toString ".loop":String)="min.loop":=by decide
theorem A4 {ok:Heap->Prop} (W:Walks prog w A.in1 I fp wr n Pz Sz) (bt:Nat->Nat->Bool) (hcmp:LJ prog w A.in1 ok Pz bt) (S:Addr) (nf:S∉fp) (okk:∀h h',ok h->(∀b o,b∉wr->b≠S->h.get? b=some o->h'.get? b=some o)->ok h'):
  ∀(k j:Nat) (s:Shared) (vb:Value) (c:Nat),n - (j+1)=k->j+1<=n->ok s.heap->Sz (j+1) s.heap->Pz (argBest bt j) vb->s.heap.get? S=some {cls:=.type "list",dict:=none,data:=.seq #[vb,vb] c,slots:= #[]}->
  (∀v h' tk,Pz (argBest bt (n - 1)) v->(∀b o,b∉wr->b≠S->s.heap.get? b=some o->h'.get? b=some o)->R (.ok (.ret v)) {s with heap:=h',toks:=tk})->codeAny (model prog w) A (.builtin "min.loop" ⟨[.ref I,.none,.ref S],[]⟩) R s:=by
 have nw:S∉wr:=fun h=>nf (W.sub _ h)
 intro k
 induction k with
 |zero=>
  intro j s vb c hk hj bP st hb gS hR
  have e:j+1=n:=by omega
  refine codeAny_builtin F.entry_min_loop ?_
  rw[Around.under_plainId F.plain_min_loop _]
  refine wpAny_bind (m:=seqItems? (.ref S)) (wpAny_seqItems gS rfl ?_)
  refine wpAny_bind (m:=tryCatch (pyNext (.ref I)) _) (wpAny_tryCatch (W.done s _ _ (e▸st) fun h' tk kp=>?_))
  have gS':=kp S _ nw gS
  refine wpAny_bind (m:=updateSeq S (fun _=> #[])) (wpAny_updateSeq gS' rfl (wpAny_bind (wpAny_letGo (wpAny_pure ?_))))
  exact hR vb _ tk (by rw[<-e];exact hb) fun b o h1 h2 q=>(get?_update_other _ _ (Ne.symm h2)).trans (kp b o h1 q)
 | succ k ih=>
  intro j s vb c hk hj bP st hb gS hR
  have hlt:j+1<n:=by omega
  refine codeAny_builtin F.entry_min_loop ?_
  rw[Around.under_plainId F.plain_min_loop _]
  refine wpAny_bind (m:=seqItems? (.ref S)) (wpAny_seqItems gS rfl ?_)
  refine wpAny_bind (m:=tryCatch (pyNext (.ref I)) _) (wpAny_tryCatch (W.item (j+1) s _ _ hlt st fun v h' tk hP st' kp=>?_))
  have gS':=kp S _ nw gS
  have ok':ok h':=okk _ _ bP fun b o h1 _ q=>kp b o h1 q
  refine wpAny_bind (m:=tryCatch (holding [v,v] (richCompare .Lt v vb>>=_)) _) (wpAny_tryCatch (wpAny_holding (wpAny_bind (hcmp (j+1) (argBest bt j) v vb {s with heap:=h',toks:=tk} _ _ ok' hP hb ?_))))
  refine wpAny_bind (wpAny_holding (wpAny_truthy_bool (wpAny_bind (wpAny_letGo (wpAny_pure ?_)))))
  cases hbt:bt (j+1) (argBest bt j)with
  |true=>
   simp only[if_true]
   refine wpAny_bind (wpAny_updateSeq gS' rfl (wpAny_bind (wpAny_letGo ?_)))
   rw[p9]
   have ne:∀{b:Addr} {o:Obj},b≠S->h'.get? b=some o->(h'.update S (Obj.mapSeq fun _=> #[v,v])).get? b=some o:=fun h q=>(get?_update_other _ _ (Ne.symm h)).trans q
   refine wpAny_pure ⟨plainId_quiet F.plain_min_loop _,ih (j+1) _ v _ (by omega) hlt (okk _ _ ok' fun b o _ h2 q=>ne h2 q) (W.frame _ _ _ st' fun b hbf o q=>ne (fun z=>nf (by rw[<-z];exact hbf)) q) (by simp only[argBest,hbt,if_true];exact hP) (get?_update_self _ gS' rfl) fun v' h2 tk2 hP' kp2=>?_⟩
   exact hR v' h2 tk2 hP' fun b o h1 h3 q=>kp2 b o h1 h3 (ne h3 (kp b o h1 q))
  |false=>
   simp only[false_eq_true,if_false]
   refine wpAny_bind (wpAny_letGo ?_)
   rw[p9]
   refine wpAny_pure ⟨plainId_quiet F.plain_min_loop _,ih (j+1) _ vb c (by omega) hlt ok' st' (by simp only[argBest,hbt,false_eq_true,if_false];exact hb) gS' fun v' h2 tk2 hP' kp2=>?_⟩
   exact hR v' h2 tk2 hP' fun b o h1 h3 q=>kp2 b o h1 h3 (kp b o h1 q)
theorem min_list {E:Value->Shared->Prop} {s:Shared} {l:Addr} {vs:List Value} {Q:Value->Shared->Prop} {ok:Heap->Prop} (bt:Nat->Nat->Bool) (hh:A.handled=none) (hl:s.heap.IsList l vs.toArray) (hn:0<vs.length)
  (bP:∀h',(∀b o,s.heap.get? b=some o->h'.get? b=some o)->ok h') (okk:∀h h':Heap,ok h->(∀b o,b<s.heap.objs.size->h.get? b=some o->h'.get? b=some o)->ok h') (hcmp:LJ prog w A.in1 ok (fun i v=>vs[i]? =some v) bt)
  (hq:∀v h' tk,vs[argBest bt (vs.length - 1)]? =some v->(∀b o,s.heap.get? b=some o->h'.get? b=some o)->Q v {s with heap:=h',toks:=tk}):wpAny (model prog w) A (call (.builtin "min") [.ref l]) Q E s:=by
 have lS:l<s.heap.objs.size:=let⟨_,e,_⟩:=hl;lt_size e
 refine call_function_tree F.kind_min F.plain_min F.entry_min (F.args_min1 _) ?_
 refine wpAny_bind (m:=Builtin.Builtins.bindParams "min" ["key","default"] 0 ⟨[],[]⟩) (wpAny_of_eq (show Builtin.Builtins.bindParams "min" ["key","default"] 0 ⟨[],[]⟩=pure [none,none]from rfl) (wpAny_bind (wpAny_pure ?_)))
 refine wpAny_bind (wpAny_pyIter_list hl ?_)
 refine wpAny_bind (wpAny_newObj_type ?_)
 rw[p9]
 generalize hX:(s.heap.push {cls:=.type "list_iterator",data:=.fields #[.ref l,.int 0 0]})=h1
 have z1:h1.objs.size=s.heap.objs.size+1:=by rw[<-hX];exact size_push ..
 have k1:∀b o,s.heap.get? b=some o->h1.get? b=some o:=fun b o e=>by rw[<-hX];exact get?_push_of_some _ e
 have e1:h1.get? s.heap.objs.size=some {cls:=.type "list_iterator",data:=.fields #[.ref l,.int 0 0]}:=by rw[<-hX];exact get?_push_size _ rfl
 have nI:l≠s.heap.objs.size:=ne_of_lt lS
 have W:=Walks.list (prog:=prog) (w:=w) (A:=A.in1) (by exact hh) s.heap.objs.size l nI vs.toArray
 have gS:(h1.push {cls:=.type "list",data:=.seq ([]:List Value).toArray}).get? h1.objs.size=some {cls:=.type "list",dict:=none,data:=.seq #[] 0,slots:= #[]}:=get?_push_size _ rfl
 have nf:h1.objs.size∉[s.heap.objs.size,l]:=by
  rw[z1]
  simp only[mem_cons,not_mem_nil,or_false,not_or]
  exact⟨ne_of_gt (lt_succ_self _),ne_of_gt (lt_succ_of_lt lS)⟩
 have nw:h1.objs.size∉[s.heap.objs.size]:=fun z=>nf (by simp at z⊢;exact .inl z)
 have st0:(h1.push {cls:=.type "list",data:=.seq ([]:List Value).toArray}).IsListIter s.heap.objs.size l 0/\(h1.push {cls:=.type "list",data:=.seq ([]:List Value).toArray}).IsList l vs.toArray:=by
  refine⟨⟨_,get?_push_of_some _ e1,rfl,rfl⟩,?_⟩
  obtain⟨o,e,r⟩:=hl
  exact⟨o,get?_push_of_some _ (k1 _ _ e),r⟩
 refine wpAny_pure ⟨plainId_quiet F.plain_min_loop _,?_⟩
 refine codeAny_builtin F.entry_min_loop ?_
 rw[Around.under_plainId F.plain_min_loop _]
 refine wpAny_bind (m:=seqItems? (.ref h1.objs.size)) (wpAny_seqItems gS rfl ?_)
 refine wpAny_bind (m:=tryCatch (pyNext (.ref s.heap.objs.size)) _) (wpAny_tryCatch (W.item 0 {s with heap:=h1.push {cls:=.type "list",data:=.seq ([]:List Value).toArray}} _ _ (by simpa using hn) st0 fun v h' tk hP st' kp=>?_))
 have gS':=kp h1.objs.size _ nw gS
 refine wpAny_bind (m:=updateSeq h1.objs.size (fun _=> #[v,v])) (wpAny_updateSeq gS' rfl ?_)
 rw[p9]
 have ne:∀{b:Addr} {o:Obj},b≠h1.objs.size->h'.get? b=some o->(h'.update h1.objs.size (Obj.mapSeq fun _=> #[v,v])).get? b=some o:=fun h q=>(get?_update_other _ _ (Ne.symm h)).trans q
 have ltS:∀{b:Addr} {o:Obj},s.heap.get? b=some o->b∉[s.heap.objs.size]/\b≠h1.objs.size:=fun e=>by
  have:=lt_size e
  rw[z1]
  exact⟨by simp;exact ne_of_lt this,ne_of_lt (lt_succ_of_lt this)⟩
 have kq:∀b o,s.heap.get? b=some o->(h'.update h1.objs.size (Obj.mapSeq fun _=> #[v,v])).get? b=some o:=fun b o e=>ne (ltS e).2 (kp b o (ltS e).1 (get?_push_of_some _ (k1 b o e)))
 refine wpAny_pure ⟨plainId_quiet F.plain_min_loop _,A4 (ok:=ok) W bt (fun i j vi vj s Q E h1 h2 h3 h4=>hcmp i j vi vj s Q E h1 (by simpa using h2) (by simpa using h3) h4) h1.objs.size nf (fun h h2 o k=>okk h h2 o fun b u hb q=>k b u (by simp;exact ne_of_lt hb) (by rw[z1];exact ne_of_lt (lt_succ_of_lt hb)) q) _ 0 _ v _ rfl (by simp;omega) (bP _ kq) (W.frame _ _ _ st' fun b hbf o q=>ne (fun z=>nf (by rw[<-z];exact hbf)) q) (by simpa [argBest]using hP) (get?_update_self _ gS' rfl) fun v' h2 tk2 hP' kp2=>?_⟩
 exact hq v' h2 tk2 (by simpa using hP') fun b o e=>kp2 b o (ltS e).1 (ltS e).2 (kq b o e)
end
end L2
namespace Mr
open PySem PySem.Spec L2 PyProof.Rows PySem.W
variable {ps:List PV}
noncomputable def rO (ps:List PV) (i j:Nat):Bool:=gB (code 3 (ps.getD i .bA)) (code 3 (ps.getD j .bA))
noncomputable def yE (ps:List PV):PV:=ps.getD (argBest (rO ps) (ps.length - 1)) .bA
theorem kR (bt:Nat->Nat->Bool):∀k,argBest bt k<=k
 |0=>le_refl _
 |k+1=>by
  have:=kR bt k
  unfold argBest
  split<;>omega
theorem RA {ps:List PV} {k:Nat} (hk:k<ps.length):∀i,i<=k->kS 3 (ps.getD (argBest (rO ps) k) .bA) (ps.getD i .bA)=true:=by
 induction k with
 |zero=>
  intro i hi
  have:i=0:=by omega
  subst this
  unfold kS argBest
  rw[show gB (code 3 (ps.getD 0 .bA)) (code 3 (ps.getD 0 .bA))=false from oZ.irrefl _];rfl
 | succ k ih=>
  intro i hi
  have ih:=ih (by omega)
  unfold argBest
  cases e:rO ps (k+1) (argBest (rO ps) k)with
  | true=>
   rw[if_pos rfl]
   by_cases h:i=k+1
   ·subst h;unfold kS;rw[show gB (code 3 (ps.getD (k+1) .bA)) (code 3 (ps.getD (k+1) .bA))=false from oZ.irrefl _];rfl
   ·refine qB _ (ps.getD (argBest (rO ps) k) .bA) _ ?_ (ih i (by omega))
    unfold kS
    rw[show gB (code 3 (ps.getD (argBest (rO ps) k) .bA)) (code 3 (ps.getD (k+1) .bA))=false from xO (A:=oZ) e];rfl
  | false=>
   rw[if_neg Bool.false_ne_true]
   by_cases h:i=k+1
   ·subst h
    unfold kS
    rw[show gB (code 3 (ps.getD (k+1) .bA)) (code 3 (ps.getD (argBest (rO ps) k) .bA))=false from e];rfl
   ·exact ih i (by omega)
theorem AW (h:0<ps.length):yE ps∈ps:=by
 unfold yE
 have:=kR (rO ps) (ps.length - 1)
 rw[getD_eq_getElem?_getD,getElem?_eq_getElem (show argBest (rO ps) (ps.length - 1)<ps.length by omega)]
 exact getElem_mem _
theorem oI {q:PV} (hq:q∈ps):kS 3 (yE ps) q=true:=by
 obtain⟨i,hi,rfl⟩:=List.mem_iff_getElem.mp hq
 have:=RA (ps:=ps) (k:=ps.length - 1) (by omega) i (by omega)
 rw[show ps.getD i .bA=ps[i] by rw[getD_eq_getElem?_getD,getElem?_eq_getElem hi];rfl]at this
 exact this
section
variable {X:Cx} {k:Nat}
noncomputable def S5 (K:Frag):List V->Hp->VK->Prop:=fun xs H Q=>∃p ys ps,xs=[.ref p]/\iB K H p ys/\bH K cT H ps ys/\0<ps.length/\c9 3 ps=true/\Q (ys.getD (argBest (rO ps) (ps.length - 1)) .bA) H
theorem VC (K:Frag) (hr:dX k X.A) (hK:X.K=K:=by rfl) (hc:X.calm=true:=by rfl):cH X (.builtin "min") (S5 K):=by
 subst hK
 intro pins s σ H xs us Q I r ⟨p,ys,ps,e,hq,rp,h0,cmp,q⟩
 subst e
 obtain⟨u,rfl,rx⟩:=vals1 r
 cases rx
 obtain⟨vs,rv,pl,hz⟩:=I.list hq
 have hlen:=rv.length
 have hpl:=rp.length
 have ok:∀x∈ps,gD 3 x=true:=fun x hx=>by
  have:=all_eq_true.mp cmp x hx
  rw[and_eq_true]at this
  exact yQ this.1
 refine min_list (ok:=fun h=>∀b o,s.heap.get? b=some o->h.get? b=some o) (rO ps) (by exact I.ok.hd hc) pl.isList (by omega) (fun h' kp=>kp) (fun h h' o kk b u e=>kk b u (lt_size e) (o b u e)) (fun i j vi vj s' Q E bP h1 h2 hQ=>?_) fun v h' tk hv kp=>?_
 ·have hL:bS s'.heap ps vs:=bH.lies (I.kept (t':=s.toks) bP) (n:=3) (all_eq_true.mpr ok) rp rv
  obtain⟨p1,e1,l1⟩:=hL.get h1
  obtain⟨p2,e2,l2⟩:=hL.get h2
  have m1:=mem_of_getElem? e1
  have m2:=mem_of_getElem? e2
  refine D0 (s:=s') 3 X.A.in1 (by have:=hr.un;show X.A.units+1+3<_;omega) (ok p1 m1) (ok p2 m2) l1 l2 (mQ cmp m1 m2) _ _ _ _ ?_
  have hQ:Q (.bool (gB (code 3 (ps.getD i .bA)) (code 3 (ps.getD j .bA)))) s':=hQ
  rw[getD_eq_getElem?_getD,e1,getD_eq_getElem?_getD,e2]at hQ
  exact hQ
 ·obtain⟨y,hy,ry⟩:=rv.get' hv
  refine⟨y,H,I.kept (t':=tk) kp,ry,?_⟩
  rw[getD_eq_getElem?_getD,show ps.length=vs.length by omega,hy]at q
  exact q
end
section
variable {K:Frag}
noncomputable def vO:List PV->Option Bv
 |[.lst ps]=>aQ (decide (0<ps.length) && c9 3 ps) (some (.val (yE ps)))
 |_=>none
theorem EL:gP K (S5 K) vO:=by
 intro Z H vs qs b Q hp h kk
 unfold vO at h
 split at h
 ·rename_i ps
  obtain⟨c,h⟩:=aL h
  cases h
  rw[and_eq_true]at c
  have c1:=of_decide_eq_true c.1
  obtain⟨v,rfl,hv⟩:=hp.one
  obtain⟨a,ys,rfl,ha,ra⟩:=hv.lZ
  refine⟨a,ys,ps,rfl,ha.sq,ra.aH (.less fun _ z=>z.elim),c1,c.2,kk _ H (aZ.refl _) ?_⟩
  have hlt:argBest (rO ps) (ps.length - 1)<ps.length:=by have:=kR (rO ps) (ps.length - 1);omega
  obtain⟨y,hy,ry⟩:=ra.get (getElem?_eq_getElem hlt)
  show Rep K Z H (yE ps) _
  unfold yE
  rw[getD_eq_getElem?_getD,getD_eq_getElem?_getD,hy,getElem?_eq_getElem hlt]
  exact ry
 ·cases h
end
end Mr
namespace Mr
open PySem L2
section
variable {K:Frag}
noncomputable def adN (i:Nat) (f:FE):FS:=fun e=>bO (ownAt e i) fun p0=>match p0 with
 | .lst _=>bE (f e) fun b e1=>match b with
  | .new (.lst qs)=>match ownAt e1 i with
   |some (.lst ps)=>aQ (decide (ps.length+qs.length<1000000)) (some (.nx (cB e1 i (.lst (ps++qs)))))
   |_=>none
  |_=>none
 |_=>none
theorem VW {i:Nat} {f:FE} {e:En}:adN i f e=bO (ownAt e i) fun p0=>match p0 with
 | .lst _=>bE (f e) fun b e1=>match b with
  | .new (.lst qs)=>match ownAt e1 i with
   |some (.lst ps)=>aQ (decide (ps.length+qs.length<1000000)) (some (.nx (cB e1 i (.lst (ps++qs)))))
   |_=>none
  |_=>none
 |_=>none:=rfl
end
end Mr
namespace L2
open PySem
section
variable {X:Cx} {pins:List (Addr×Obj)} {σ:St} {H:Hp} {s:Shared} {a:Addr} {y d:V} {u r:Value} {A:Around} {E:Value->Shared->Prop}
theorem L5 {kvs:List (Key×V)} {k:Key} {Q:Value->Shared->Prop} (I:Inv X pins σ H s) (e:tK H a kvs) (ry:RelV (kV k) u) (rd:RelV d r) (hz:kvs.length<sizeLine)
  (h1:∀v w' s',eM kvs k=some v->Inv X pins σ H s'->RelV v w'->Q w' s') (h2:∀ep s',eM kvs k=none->Inv X pins σ (upd H a (.dK (putK kvs k d) ep)) s'->Q r s'):
  wpAny (model X.prog X.w) A (call (.builtin "dict.setdefault") [.ref a,u,r]) Q E s:=by
 obtain⟨z,hd,vs,rel,dd⟩:=J1 I.bP e
 have hz':vs.length<=sizeLine:=by rw[<-rel.length];exact z
 have rv:=rel.val k
 refine call_meetsIn PySem.F.slot_dict_setdefault dd.typeIs PySem.F.entry_dict_setdefault (PySem.F.args_dict_setdefault_3 _ _ _) (kt_meets_setdefault (bT X.prog X.w) a (pE ry) hd r) ⟨vs,dd,hz',fun v hv=>?_,fun hn h' dd' hs=>?_⟩
 ·rw[hv]at rv
  cases c:eM kvs k with
  |none=>rw[c]at rv;exact rv.elim
  |some v'=>rw[c]at rv;exact h1 v' v _ c (I.tok _) rv
 ·rw[hn]at rv
  cases c:eM kvs k with
  |some v'=>rw[c]at rv;exact rv.elim
  |none=>
   have hl:(putK kvs k d).length<=sizeLine:=by have:=jD kvs k d;omega
   have he:∃q,h'.get? a=some q:=let⟨q,_,_,hq,_⟩:=dd';⟨q,hq⟩
   obtain⟨ep,da⟩:=dd'.dictAt
   exact h2 ep _ c (sE I e.mut hs he (DN hl hd (rel.put k rd) da))
end
noncomputable def MV (td ty tx:TE):TE:=fun σ H Q=>td σ H fun x H1=>∃a,x= .ref a/\IsD H1 a/\ty σ H1 fun y H2=>tx σ H2 fun z H3=>∃kvs k,tK H3 a kvs/\y=kV k/\kvs.length<sizeLine/\
 (∀v,eM kvs k=some v->Q v H3)/\(∀ep,eM kvs k=none->Q z (upd H3 a (.dK (putK kvs k z) ep)))
section
variable {X:Cx} {o e f:Expr} {apos cpos:Pos} {td ty tx:TE}
theorem DW (ho:PE X o td) (he:PE X e ty) (hf:PE X f tx) (m:M2 X o "setdefault" apos e f cpos):PE X (.Call (.Attribute o "setdefault" apos) [e,f] [] cpos) (MV td ty tx):=by
 intro pins s σ H Q I h
 refine wpAny_Call_method m.base m.few m.line plainAttrs_dict PySem.F.slot_dict_setdefault PySem.F.type_dict_setdefault (cP (ho pins s σ H _ I h) fun u s1 ⟨x,H1,I1,rx,a,ex,d,q1⟩=>?_)
 subst ex
 obtain rfl:u=Value.ref a:=rx
 obtain⟨t1,t2,_⟩:=DK I1 d
 refine⟨t1,t2,?_⟩
 rw[m.trees]
 refine Calls.callWith_builtin rfl (Calls.evalArgs_plain (Calls.spliced_cons (cP (he pins s1 σ H1 _ I1 q1) fun iv s2 ⟨y,H2,I2,ry,q2⟩=>
  Calls.spliced_cons (cP (hf pins s2 σ H2 _ I2 q2) fun fv s3 ⟨z,H3,I3,rz,kvs,k,ea,ey,hz,g1,g2⟩=>Calls.spliced_nil ?_))))
 subst ey
 exact L5 I3 ea ry rz hz (fun v w' s' c I' r'=>⟨v,H3,I',r',g1 v c⟩) fun ep s' c I'=>⟨z,_,I',rz,g2 ep c⟩
end
end L2
namespace Mr
open PySem L2
variable {a:Addr} {d:DD} {e:En} {D:Ends} {fa:FA} {fb fk fv:FE} {fg:FG} {fc:FT} {f g:FX} {H H' H1:Hp} {i:Nat} {σ:St} {tv:TE} {t:Tr} {W:WS} {fi:ZO} {B L L1 M O Z:aI} {Q:u3->Prop}
noncomputable abbrev DD:=List (Key×List PV)
noncomputable abbrev Tr:=List (Key×Addr×List PV)
noncomputable def ofT (t:Tr):DD:=t.map fun z=>(z.1,z.2.2)
noncomputable def BX (a:Addr) (t:Tr):aI:=fun b=>b=a\/ b∈t.map (·.2.1)
noncomputable def wB (W:WS) (B:aI):WS:=⟨W.w,fun c=>W.old c/\¬B c⟩
structure Sec (K:Frag) (Z:aI) (H:Hp) (a:Addr) (t:Tr):Prop where
 TF:tK H a (t.map fun z=>(z.1,V.ref z.2.1))
 lst:∀z∈t,∃xs,H z.2.1=some (.lst xs)/\bH K Z H z.2.2 xs
 nd:(a::t.map (·.2.1)).Nodup
 kd:(t.map (·.1)).Nodup
noncomputable def Bok (O L:aI) (H:Hp) (B:aI):Prop:=∀b,B b->H b≠none/\¬O b/\¬L b
theorem Bok.UB (o:jS O M W L H) (b:Bok O L H B):jS (aW O B) (aW M B) (wB W B) L H:=
 ⟨fun a h=>h.elim (o.old a) fun h=>(b a h).1,fun a h=>h.elim (fun h=>.inl (o.mo a h)) .inr,fun i a h=>.inl (o.wm i a h),fun a h=>⟨(o.loc a h).1,fun z=>z.elim (o.loc a h).2 fun z=>(b a z).2.2 h⟩⟩
structure fF (W:WS) (L L' B B':aI) (H H':Hp):Prop where
 obj:∀a o,H a=some o->¬aw W a->¬L a->¬B a->H' a=some o
 tup:∀a xs,H a=some (.tup xs)->H' a=some (.tup xs)
 cC:∀a,H a≠none->H' a≠none
 new:∀a,L' a->L a\/ H a=none
 QU:∀a,B' a->B a\/ H a=none
theorem none_of {H:Hp} (d:∀a,H a≠none->H1 a≠none) {a:Addr} (h:H1 a=none):H a=none:=by
 cases e:H a with
 |none=>rfl
 |some o=>exact absurd h (d a (by rw[e];exact fun z=>nomatch z))
theorem fF.keep (k:bX W L H H'):fF W L L B B H H':=⟨fun a o h n m _=>k.obj a o h n m,k.tup,k.cC,fun _ h=>.inl h,fun _ h=>.inl h⟩
theorem fF.refl:fF W L L B B H H:=.keep .refl
theorem fF.trans {L2 B1 B2:aI} {H2:Hp} (a:fF W L L1 B B1 H H1) (b:fF W L1 L2 B1 B2 H1 H2):fF W L L2 B B2 H H2:=
  ⟨fun c o h n m l=>b.obj c o (a.obj c o h n m l) n (fun z=>(a.new c z).elim m fun z=>(by rw[h]at z;cases z)) fun z=>(a.QU c z).elim l fun z=>(by rw[h]at z;cases z),
   fun c xs h=>b.tup c xs (a.tup c xs h),fun c h=>b.cC c (a.cC c h),fun c h=>(b.new c h).elim (a.new c) fun z=>.inr (none_of a.cC z),fun c h=>(b.QU c h).elim (a.QU c) fun z=>.inr (none_of a.cC z)⟩
inductive u3 where
 |nx (e:En) (d:DD)|ct (e:En) (d:DD)
noncomputable abbrev FX:=En->DD->Option u3
structure G6 (K:Frag) (O M:aI) (W:WS) (x:Nat) (a:Addr) (L:aI) (σ:St) (H:Hp) (e:En) (t:Tr):Prop where
 ok:jS O M W L H
 x6:Bok O L H (BX a t)
 en:aP K (aW (aW M (BX a t)) L) (wB W (BX a t)) L H σ e
 at':σ[x]? =some (some (.ref a))
 sec:Sec K (aW (aW M (BX a t)) L) H a t
noncomputable def EI (K:Frag) (O M:aI) (W:WS) (x:Nat) (a:Addr) (L:aI) (H:Hp) (t:Tr) (D:Ends):u3->Prop
 | .nx e' d'=>∀L' σ' H' t',fF W L L' (BX a t) (BX a t') H H'->G6 K O M W x a L' σ' H' e' t'->ofT t'=d'->D.nx σ' H'
 | .ct e' d'=>∀L' σ' H' t',fF W L L' (BX a t) (BX a t') H H'->G6 K O M W x a L' σ' H' e' t'->ofT t'=d'->D.ct σ' H'
theorem EI.later {K:Frag} {x:Nat} {t1:Tr} {r:u3} (g:fF W L L1 (BX a t) (BX a t1) H H1) (h:EI K O M W x a L H t D r):EI K O M W x a L1 H1 t1 D r:=by
 cases r with
 |nx e d=>exact fun L' σ' H' t' g'=>h L' σ' H' t' (g.trans g')
 |ct e d=>exact fun L' σ' H' t' g'=>h L' σ' H' t' (g.trans g')
noncomputable def A5 (K:Frag) (x:Nat) (ts:TS) (f:FX):Prop:=∀(O M:aI) (W:WS) (a:Addr) (L:aI) (σ:St) (H:Hp) (e:En) (t:Tr) (r:u3) (D:Ends),G6 K O M W x a L σ H e t->f e (ofT t)=some r->EI K O M W x a L H t D r->ts D σ H
section
variable {K:Frag} {x:Nat}
theorem Sec.keep (o:jS O M W L H) (b:Bok O L H (BX a t)) (k:bX (wB W (BX a t)) L H H') (s:Sec K (aW (aW M (BX a t)) L) H a t):Sec K (aW (aW M (BX a t)) L) H' a t:=by
 have st:=k.aH (b.UB o)
 have nb:∀c ob,BX a t c->H c=some ob->H' c=some ob:=fun c ob hc h=>k.obj c ob h (fun⟨i,w⟩=>(b c hc).2.1 (o.mo _ (o.wm i c w))) (b c hc).2.2
 exact⟨let⟨ep,e⟩:=s.TF;⟨ep,nb a _ (.inl rfl) e⟩,fun z hz=>let⟨xs,h1,h2⟩:=s.lst z hz;⟨xs,nb _ _ (.inr (mem_map.mpr ⟨z,hz,rfl⟩)) h1,h2.aH st⟩,s.nd,s.kd⟩
theorem G6.keep {e':En} (n:G6 K O M W x a L σ H e t) (k:bX (wB W (BX a t)) L H H') (en:aP K (aW (aW M (BX a t)) L) (wB W (BX a t)) L H' σ e'):G6 K O M W x a L σ H' e' t:=
 ⟨n.ok.keep k.cC,fun b h=>⟨k.cC b (n.x6 b h).1,(n.x6 b h).2⟩,en,n.at',n.sec.keep n.ok n.x6 k⟩
theorem kw (k:bX (wB W B) L H H'):bX W L H H':=⟨k.obj,k.tup,k.cC⟩
noncomputable def MU:FX:=fun e d=>some (.nx e d)
theorem GW:A5 K x BE MU:=by
 intro O M W a L σ H e t r D n hf q
 cases hf
 exact q L σ H t .refl n rfl
noncomputable def ab1:FX:=fun e d=>some (.ct e d)
noncomputable def aaS (f g:FX):FX:=fun e d=>match f e d with
 |some (.nx e1 d1)=>g e1 d1
 |r=>r
noncomputable def xIf (fc:FT) (f g:FX):FX:=fun e d=>bE (fc e) fun b e1=>bB b (f e1 d) (g e1 d)
theorem ON {c:TT} {t u:TS} (hc:jY K c fc) (h1:A5 K x t f) (h2:A5 K x u g):A5 K x (Y2 c t u) (xIf fc f g):=by
 intro O M W a L σ H e tr r D n hf q
 obtain⟨b,e1,f1,hf⟩:=aM hf
 refine hc _ _ _ L σ H e _ _ _ (n.x6.UB n.ok) n.en f1 fun H1 k1 en=>?_
 have n1:=n.keep k1 en
 cases b with
 |true=>rw[if_pos rfl];exact h1 O M W a L σ H1 e1 tr r D n1 hf (q.later (.keep (kw k1)))
 |false=>rw[if_neg Bool.false_ne_true];exact h2 O M W a L σ H1 e1 tr r D n1 hf (q.later (.keep (kw k1)))
noncomputable def E7 (K:Frag) (x:Nat) (g:TG) (f:FG):Prop:=∀(O M:aI) (W:WS) (L:aI) (σ:St) (H:Hp) (e e':En) (p:PV) (v:V) (Q:St->Hp->Prop),jS O M W L H->aP K (aW M L) W L H σ e->Rep K (aW M L) H p v->f p e=some e'->(∀σ',σ'[x]? =σ[x]?->aP K (aW M L) W L H σ' e'->Q σ' H)->g v σ H Q
noncomputable def xV (K:Frag) (x:Nat) (g:DV) (f:F4):Prop:=∀(O M:aI) (W:WS) (L:aI) (σ:St) (H:Hp) (e e':En) (p:List PV) (v:List V) (Q:St->Hp->Prop),jS O M W L H->aP K (aW M L) W L H σ e->bH K (aW M L) H p v->f p e=some e'->(∀σ',σ'[x]? =σ[x]?->aP K (aW M L) W L H σ' e'->Q σ' H)->g v σ H Q
theorem C7 (h:i≠x):E7 K x (gJ i) (aO i):=by
 intro O M W L σ H e e' p v Q o he hp hf q
 cases hf
 exact q _ (getElem?_set_ne h) (aP.put he rfl hp)
theorem IY:xV K x N9 jG:=by
 intro O M W L σ H e e' p v Q o he hp hf q
 cases p with
 |nil=>cases hf;cases hp;exact⟨rfl,q σ rfl he⟩
 |cons p ps=>cases hf
theorem D8 {g:TG} {gs:DV} {f:FG} {fs:F4} (h1:E7 K x g f) (h2:xV K x gs fs):xV K x (wH g gs) (b8 f fs):=by
 intro O M W L σ H e e' p v Q o he hp hf q
 cases p with
 |nil=>cases hf
 |cons p ps=>
  obtain⟨e1,f1,hf⟩:=aF hf
  cases hp with
  |cons hp hr=>exact⟨_,_,rfl,h1 O M W L σ H e e1 p _ _ o he hp f1 fun σ' ex he'=>h2 O M W L σ' H e1 e' ps _ _ o he' hr hf fun σ2 ex2=>q σ2 (ex2.trans ex)⟩
theorem ID {n:Nat} {g:DV} {f:F4} (h:xV K x g f):E7 K x (IJ K n g) (jI n f):=by
 intro O M W L σ H e e' p v Q o he hp hf q
 cases p with
 |tup ps=>
  obtain⟨g1,hf⟩:=aL hf
  cases hp with
  |tup ha hr=>exact⟨_,_,rfl,ha.sq,by rw[<-hr.length];exact of_decide_eq_true g1,h O M W L σ H e e' ps _ Q o he hr hf q⟩
 |_=>cases hf
noncomputable def ad0 (f:FE) (fg:FG):FX:=fun e d=>bE (f e) fun b e1=>bO b.put fun p=>bO (fg p e1) fun e2=>some (.nx e2 d)
noncomputable def aa3 (K:Frag) (Z:aI) (H:Hp) (J:It) (items:List PV):Prop:=∀Z' H',cS Z Z' H H'->(∀k p,items[k]? =some p->J.go k H'/\∀x H3,J.ZQ k H' x H3->aZ H' H3/\Rep K Z' H3 p x)/\J.stop items.length H'
noncomputable abbrev ZO:=En->Option (List PV×En)
noncomputable def NS (K:Frag) (wi:TI) (f:ZO):Prop:=∀(O M:aI) (W:WS) (L:aI) (σ:St) (H:Hp) (e e':En) (ps:List PV) (R:It->Hp->Prop),jS O M W L H->aP K (aW M L) W L H σ e->f e=some (ps,e')->
 (∀J H',bX W L H H'->aP K (aW M L) W L H' σ e'->aa3 K (aW M L) H' J ps->R J H')->wi σ H R
noncomputable def xIt (f:FE):ZO:=fun e=>bE (f e) fun b e1=>match b with
 | .val (.tup ps)=>some (ps,e1)
 |_=>none
theorem QQ {t:TE} {f:FE} (h:Ref K t f):NS K (X1 K t) (xIt f):=by
 intro O M W L σ H e e' ps R o he hf q
 obtain⟨b,e1,f1,hf⟩:=aM hf
 refine h O M W L σ H e e1 b _ o he f1 fun v H1 k1 rb fr=>?_
 split at hf
 ·cases hf
  obtain⟨en,rp⟩:=rb
  cases rp with
  |tup ha r=>
   rename_i aa xs
   refine .inr (.inl ⟨_,rfl,⟨_,ha.sq⟩,q _ H1 k1 en fun Z' H' st=>?_⟩)
   have sq:nE K H' aa xs:=TupAt.sq (ha.elim (fun h=>.inl (st.tup _ _ h)) .inr)
   refine⟨fun k p hp=>?_,xs,sq,by rw[r.length];exact le_refl _⟩
   obtain⟨v,hv,rv⟩:=r.get hp
   refine⟨⟨xs,v,sq,hv⟩,fun x H3 y=>?_⟩
   obtain⟨e,y⟩:=y
   subst e
   have:=y xs sq
   rw[hv]at this
   cases this
   exact⟨aZ.refl _,rv.aH st⟩
 ·cases hf
noncomputable def UJ (fa:FA):ZO:=fun e=>bE (fa e) fun bs e1=>match bs with
 |[.val (.tup ps)]=>some (ps.zipIdx.map fun z=>.tup [.int (z.2:Int),z.1],e1)
 |_=>none
theorem KS {ta:TA} (h:rE K ta fa):NS K (xQ K ta) (UJ fa):=by
 intro O M W L σ H e e' ps R o he hf q
 obtain⟨b,e1,f1,hf⟩:=aM hf
 refine h O M W L σ H e e1 b _ o he f1 fun vs H1 k1 en rv=>?_
 split at hf
 ·rename_i ps0
  cases hf
  cases rv with
  | cons h r=>
   cases r
   cases h with
   | tup ha ra=>
    rename_i aa xs
    refine .inl ⟨aa,xs,rfl,ha.sq,q _ H1 k1 en fun Z' H' st=>?_⟩
    have sq:nE K H' aa xs:=TupAt.sq (ha.elim (fun h=>.inl (st.tup _ _ h)) .inr)
    refine⟨fun k p hp=>?_,xs,sq,by rw[length_map,length_zipIdx,ra.length]⟩
    rw[getElem?_map,getElem?_zipIdx]at hp
    cases c:ps0[k]? with
    |none=>rw[c]at hp;cases hp
    |some p0=>
     rw[c]at hp
     cases hp
     obtain⟨v,hv,rv⟩:=ra.get c
     refine⟨⟨xs,v,sq,hv⟩,fun x H3 y=>?_⟩
     obtain⟨t,ht,rfl,y⟩:=y
     obtain⟨x',hx',rfl⟩:=y xs sq
     rw[hv]at hx'
     cases hx'
     refine⟨aZ.upd ht,.tup (.inl aU) (.cons ?_ (.cons ((rv.aH st).aH (.same (aZ.upd ht))) .nil))⟩
     rw[zero_add]
     exact .int _
 ·cases hf
noncomputable def nC (body:PV->En->DD->Option u3):List PV->En->DD->Option u3
 |[],e,d=>some (.nx e d)
 |p::ps,e,d=>match body p e d with
  |some (.nx e1 d1)=>nC body ps e1 d1
  |some (.ct e1 d1)=>nC body ps e1 d1
  |none=>none
noncomputable def KC (fi:ZO) (fg:FG) (fb:FX):FX:=fun e d=>bE (fi e) fun ps e1=>nC (fun x e d=>bO (fg x e) fun e2=>fb e2 d) ps e1 d
theorem fF.aH {L':aI} {t':Tr} (o:jS O M W L H) (g:fF W L L' (BX a t) (BX a t') H H'):cS (aW (aW M (BX a t)) L) (aW (aW M (BX a t')) L') H H':=
 ⟨g.tup,fun c ob h n=>⟨g.obj c ob h (fun⟨i,w⟩=>n (.inl (.inl (o.wm i c w)))) (fun z=>n (.inr z)) fun z=>n (.inl (.inr z)),fun z=>by
  rcases z with(z|z)|z
  ·exact n (.inl (.inl z))
  ·exact(g.QU c z).elim (fun z=>n (.inl (.inr z))) fun z=>by rw[h]at z;cases z
  ·exact(g.new c z).elim (fun z=>n (.inr z)) fun z=>by rw[h]at z;cases z⟩⟩
theorem JP {wi:TI} {g:TG} {tb:TS} {fg:FG} {fb:FX} (hi:NS K wi fi) (hg:E7 K x g fg) (hb:A5 K x tb fb):A5 K x (U4 wi g tb) (KC fi fg fb):=by
 intro O M W a L σ H e tr r D n hf q
 obtain⟨ps,e1,f1,hf⟩:=aM hf
 refine hi _ _ _ L σ H e e1 ps _ (n.x6.UB n.ok) n.en f1 fun J H1 k1 en it=>?_
 have n1:=n.keep k1 en
 have q1:=q.later (.keep (kw k1))
 let N:Nat->St->Hp->Prop:=fun i σ' H'=>∃L' e' t',fF W L L' (BX a tr) (BX a t') H1 H'/\G6 K O M W x a L' σ' H' e' t'/\nC (fun x e d=>bO (fg x e) fun e2=>fb e2 d) (ps.drop i) e' (ofT t')=some r
 refine⟨fun i m σ' H'=>m=ps.length - i/\i<=ps.length/\N i σ' H',⟨ps.length,by simp,zero_le _,L,e1,tr,.refl,n1,by rw[drop_zero];exact hf⟩,?_⟩
 rintro i m σ2 H2 ⟨rfl,hil,L2,e2,t2,g2,n2,f2⟩
 obtain⟨itm,its⟩:=it _ H2 (g2.aH n1.ok)
 by_cases hlt:i<ps.length
 ·refine .inr ?_
  obtain⟨go,yl⟩:=itm i ps[i] (by simp[hlt])
  refine⟨go,N (i+1),fun σ' H' n=>⟨ps.length - (i+1),by omega,rfl,hlt,n⟩,fun v H3 y=>?_⟩
  obtain⟨s3,rp⟩:=yl v H3 y
  rw[drop_eq_getElem_cons hlt]at f2
  unfold nC at f2
  have k3:bX (wB W (BX a t2)) L2 H2 H3:=.same s3
  have n3:=n2.keep k3 (n2.en.same s3)
  have g3:fF W L L2 (BX a tr) (BX a t2) H1 H3:=g2.trans (.keep (kw k3))
  cases c1:fg ps[i] e2 with
  |none=>rw[c1]at f2;cases f2
  | some e3=>
   rw[c1,rS]at f2
   refine hg _ _ _ L2 σ2 H3 e2 e3 _ v _ (n3.x6.UB n3.ok) n3.en rp c1 fun σ3 ex en3=>?_
   have n4:G6 K O M W x a L2 σ3 H3 e3 t2:=⟨n3.ok,n3.x6,en3,by rw[ex];exact n3.at',n3.sec⟩
   cases c2:fb e3 (ofT t2)with
   |none=>rw[c2]at f2;cases f2
   |some r1=>
    rw[c2]at f2
    refine hb O M W a L2 σ3 H3 e3 t2 r1 _ n4 c2 ?_
    cases r1 with
    |nx e4 d4=>exact fun L' σ' H' t' g' n' ed=>⟨L',e4,t',g3.trans g',n',by rw[ed];exact f2⟩
    |ct e4 d4=>exact fun L' σ' H' t' g' n' ed=>⟨L',e4,t',g3.trans g',n',by rw[ed];exact f2⟩
 ·have e:i=ps.length:=by omega
  subst e
  rw[drop_length]at f2
  cases f2
  exact .inl ⟨its,q1 L2 σ2 H2 t2 g2 n2 rfl⟩
end
theorem C9 {α β:Type} {f:α->β}:∀{l:List α},(l.map f).Nodup->∀y∈l,∀z∈l,f y=f z->y=z
 |[],_,_,h,_,_,_=>nomatch h
 | w::l,nd,y,hy,z,hz,e=>by
  rw[map_cons,nodup_cons]at nd
  rcases mem_cons.mp hy with e1|h1
  ·rcases mem_cons.mp hz with e2|h2
   ·rw[e1,e2]
   ·exact absurd (mem_map.mpr ⟨z,h2,by rw[<-e,e1]⟩) nd.1
  ·rcases mem_cons.mp hz with e2|h2
   ·exact absurd (mem_map.mpr ⟨y,h1,by rw[e,e2]⟩) nd.1
   ·exact C9 nd.2 y h1 z h2 e
noncomputable def mY (d:DD) (k:Key) (p:PV):DD:=if(d.any fun kp=>decide (kp.1=k))=true then d.map (fun kp=>if kp.1=k then(kp.1,kp.2++[p])else kp)else d++[(k,[p])]
noncomputable def tM (t:Tr) (k:Key) (p:PV):Tr:=t.map fun z=>if z.1=k then(z.1,z.2.1,z.2.2++[p])else z
theorem vX (t:Tr) (k:Key) (p:PV):(tM t k p).map (·.2.1)=t.map (·.2.1):=by
 unfold tM
 rw[map_map]
 refine map_congr_left fun z _=>?_
 simp only[Function.comp_apply]
 split<;>rfl
theorem J6 (t:Tr) (k:Key) (p:PV):(tM t k p).map (·.1)=t.map (·.1):=by
 unfold tM
 rw[map_map]
 refine map_congr_left fun z _=>?_
 simp only[Function.comp_apply]
 split<;>rfl
theorem NM (t:Tr) (k:Key) (p:PV):(tM t k p).map (fun z=>(z.1,V.ref z.2.1))=t.map fun z=>(z.1,V.ref z.2.1):=by
 unfold tM
 rw[map_map]
 refine map_congr_left fun z _=>?_
 simp only[Function.comp_apply]
 split<;>rfl
theorem GK (t:Tr) (k:Key) (p:PV):ofT (tM t k p)=(ofT t).map fun kp=>if kp.1=k then(kp.1,kp.2++[p])else kp:=by
 unfold tM ofT
 rw[map_map,map_map]
 refine map_congr_left fun z _=>?_
 simp only[Function.comp_apply]
 split<;>rfl
theorem zD (a:Addr) (t:Tr) (k:Key) (p:PV):BX a (tM t k p)=BX a t:=by
 unfold BX
 rw[vX]
section
variable {K:Frag} {x:Nat}
theorem aP.grow {Z':aI} {W':WS} {e:En} (h:aP K Z W L H σ e) (k:cS Z Z' H H') (ew:W'.w=W.w) (od:∀a,W.old a->H a≠none->W'.old a)
  (ow:∀a o,aw W a\/ L a->H a=some o->H' a=some o) (bo:∀a o,H a=some o->W.old a->¬aw W a->¬L a->H' a=some o):aP K Z' W' L H' σ e:=by
 have aw':∀a,aw W' a->aw W a:=fun a ⟨i,w⟩=>⟨i,by rw[<-ew];exact w⟩
 refine⟨h.len,fun i s q=>?_,h.mW⟩
 obtain⟨v,h1,h2⟩:=h.at' i s q
 refine⟨v,h1,?_⟩
 have rn:∀{a:Addr} {ob:HO},Rd H a ob->H a≠none:=fun r=>by rcases r with r|⟨u,r⟩<;>(rw[r];exact fun z=>nomatch z)
 cases s with
 |val p=>exact Rep.aH k h2
 |own p=>obtain⟨a,e,w,c⟩:=h2;exact⟨a,e,by rw[ew];exact w,c.aH k fun o q=>ow a o (.inl ⟨_,w⟩) q⟩
 |loc p=>obtain⟨a,e,w,c⟩:=h2;exact⟨a,e,w,c.aH k fun o q=>ow a o (.inr w) q⟩
 |bor p=>
  obtain⟨a,e,c⟩:=h2
  refine⟨a,e,?_⟩
  cases c with
  |lst e o n m r=>exact .lst (e.elim (fun e=>.inl (bo _ _ e o n m)) fun⟨u,e⟩=>.inr ⟨u,bo _ _ e o n m⟩) (od _ o (rn e)) (fun z=>n (aw' _ z)) m (r.aH k)
  |dO e r=>exact .dO e (r.aH k)
  |a8 e o n m kk r=>exact .a8 (e.elim (fun e=>.inl (bo _ _ e o n m)) fun⟨u,e⟩=>.inr ⟨u,bo _ _ e o n m⟩) (od _ o (rn e)) (fun z=>n (aw' _ z)) m kk (r.aH k)
theorem aP.unset {e:En} {v:Option V} (h:aP K Z W L H σ e):aP K Z W L H (σ.set i v) (e.set i none):=by
 refine⟨by rw[length_set,length_set];exact h.len,fun j t q=>?_,fun j k s1 s2 hjk q1 q2 m1 m2=>?_⟩
 ·rcases eO q with⟨rfl,hl,e⟩|⟨hn,q⟩
  ·cases e
  ·rw[getElem?_set_ne hn]
   exact h.at' j t q
 ·rcases eO q1 with⟨rfl,hl,e⟩|⟨hn1,q1⟩
  ·cases e
  ·rcases eO q2 with⟨rfl,hl,e⟩|⟨hn2,q2⟩
   ·cases e
   ·rw[getElem?_set_ne hn1,getElem?_set_ne hn2]
    exact h.mW j k s1 s2 hjk q1 q2 m1 m2
theorem BJ {l:Addr} {k:Key} {ps:List PV} {e2:En} {b:Bv} {p:PV} (hv:Ref K tv fv) (n:G6 K O M W x a L σ H e t) (hz:(k,l,ps)∈t)
  (f2:fv e=some (b,e2)) (g:b.put=some p) (hl:ps.length<1000000) (q:∀H',fF W L L (BX a t) (BX a (tM t k p)) H H'->G6 K O M W x a L σ H' e2 (tM t k p)->D.nx σ H'):
  tyV K "list" (.ref l) H/\(dQ tv m9) σ H fun xs H5=>sI (.ref l) xs H5 fun _ H6=>D.nx σ H6:=by
 obtain⟨xs0,e0,_⟩:=n.sec.lst _ hz
 refine⟨.inl ⟨rfl,xs0,iB.of e0⟩,?_⟩
 refine hv _ _ _ L σ H e _ _ _ (n.x6.UB n.ok) n.en f2 fun v H5 k5 rb fr=>?_
 have o5:=(n.x6.UB n.ok).keep k5.cC
 obtain⟨en,rp⟩:=rb.put o5 g
 have n5:=n.keep k5 en
 obtain⟨xs,e5,r5⟩:=n5.sec.lst _ hz
 have bl:BX a t l:=.inr (mem_map.mpr ⟨_,hz,rfl⟩)
 have nl:=(n5.x6 l bl).2
 have st:cS (aW (aW M (BX a t)) L) (aW (aW M (BX a t)) L) H5 (upd H5 l (.lst (xs++[v]))):=.write (.inl (.inr bl)) e5 fun _ z=>nomatch z
 have cC:∀c,H5 c≠none->upd H5 l (.lst (xs++[v])) c≠none:=fun c h=>by
  by_cases hc:c=l
  ·rw[hc,aU];exact fun z=>nomatch z
  ·rw[aS hc];exact h
 have off:∀c ob,c≠l->H5 c=some ob->upd H5 l (.lst (xs++[v])) c=some ob:=fun c ob hc h=>by rw[aS hc];exact h
 refine⟨l,xs,v,rfl,rfl,e5,by rw[<-r5.length,sizeLine_eq];show ps.length<_;omega,q _ ?_ ?_⟩
 ·rw[zD]
  exact⟨fun c ob h nw nL nB=>off c ob (fun z=>nB (by rw[z];exact bl)) (k5.obj c ob h nw nL),fun c ys h=>st.tup c ys (k5.tup c ys h),fun c h=>cC c (k5.cC c h),fun _ h=>.inl h,fun _ h=>.inl h⟩
 ·have al:a≠l:=fun z=>by
   have:=n5.sec.nd
   rw[nodup_cons]at this
   exact this.1 (by rw[z];exact mem_map.mpr ⟨_,hz,rfl⟩)
  refine⟨n5.ok.keep cC,?_,?_,n5.at',?_⟩
  ·rw[zD];exact fun c h=>⟨cC c (n5.x6 c h).1,(n5.x6 c h).2⟩
  ·rw[zD]
   refine n5.en.grow st rfl (fun _ h _=>h) (fun c ob h he=>off c ob (fun z=>?_) he) fun c ob he h _ _=>off c ob (fun z=>h.2 (by rw[z];exact bl)) he
   rw[z]at h
   exact h.elim (fun⟨i,w⟩=>nl.1 (n.ok.mo _ (n.ok.wm i l w))) nl.2
  ·rw[zD]
   refine⟨?_,fun z hz'=>?_,?_,?_⟩
   ·rw[NM];exact let⟨ep,e⟩:=n5.sec.TF;⟨ep,off a _ al e⟩
   ·obtain⟨z0,h0,rfl⟩:=mem_map.mp hz'
    by_cases hk:z0.1=k
    ·have:z0=(k,l,ps):=C9 n5.sec.kd z0 h0 _ hz hk
     subst this
     rw[if_pos rfl]
     exact⟨_,aU,(r5.aH st).app (.cons (rp.aH st) .nil)⟩
    ·rw[if_neg hk]
     obtain⟨ys,h1,h2⟩:=n5.sec.lst z0 h0
     have hne:z0.2.1≠l:=fun z=>by
      have:=C9 (nodup_cons.mp n5.sec.nd).2 z0 h0 _ hz z
      exact hk (by rw[this])
     exact⟨ys,off _ _ hne h1,h2.aH st⟩
   ·rw[vX];exact n5.sec.nd
   ·rw[J6];exact n5.sec.kd
noncomputable def WQ (fk fv:FE):FX:=fun e d=>bE (fk e) fun kb e1=>bO (kb.weak.get e1) fun kp=>bO (keyOf kp) fun k=>bE (fv e1) fun b e2=>bO b.put fun p=>
 aQ (decide (d.length<1000000) && d.all fun kp=>decide (kp.2.length<1000000)) (some (.nx e2 (mY d k p)))
theorem XZ:∀(t:Tr) (k:Key),(eM (t.map fun z=>(z.1,V.ref z.2.1)) k=none/\∀z∈t,z.1≠k)\/ ∃z∈t,z.1=k/\eM (t.map fun z=>(z.1,V.ref z.2.1)) k=some (.ref z.2.1)
 |[],k=>.inl ⟨rfl,fun _ h=>nomatch h⟩
 | z::t,k=>by
  by_cases h:z.1=k
  ·refine .inr ⟨z,mem_cons_self,h,?_⟩
   unfold eM
   rw[map_cons,find?_cons,decide_eq_true h]
   rfl
  ·have e:eM ((z::t).map fun z=>(z.1,V.ref z.2.1)) k=eM (t.map fun z=>(z.1,V.ref z.2.1)) k:=by
    unfold eM
    rw[map_cons,find?_cons,decide_eq_false h]
   rw[e]
   rcases XZ t k with⟨h1,h2⟩|⟨y,hy,h1,h2⟩
   ·exact .inl ⟨h1,fun w hw=>(mem_cons.mp hw).elim (fun e=>by rw[e];exact h) (h2 w)⟩
   ·exact .inr ⟨y,mem_cons_of_mem _ hy,h1,h2⟩
theorem NQ {tk:TE} (hk:Ref K tk fk) (hv:Ref K tv fv):A5 K x (JM (ZR K "list" sI (MV (yL x) tk (JK m9)) (dQ tv m9))) (WQ fk fv):=by
 intro O M W a L σ H e tr r D n hf q
 obtain⟨kb,e1,f1,hf⟩:=aM hf
 obtain⟨kp,g1,hf⟩:=aF hf
 obtain⟨k,gk,hf⟩:=aF hf
 obtain⟨b,e2,f2,hf⟩:=aM hf
 obtain⟨p,g2,hf⟩:=aF hf
 obtain⟨gz,hf⟩:=aL hf
 cases hf
 rw[and_eq_true]at gz
 have z1:=of_decide_eq_true gz.1
 have z2:=all_eq_true.mp gz.2
 have lenT:tr.length=(ofT tr).length:=by unfold ofT;rw[length_map]
 refine⟨.ref a,n.at',a,rfl,.inl ⟨_,n.sec.TF.rd⟩,?_⟩
 refine hk _ _ _ L σ H e _ _ _ (n.x6.UB n.ok) n.en f1 fun y H2 k1 rb fr=>?_
 have o2:=(n.x6.UB n.ok).keep k1.cC
 have n2:=n.keep k1 (rb.en o2)
 have ky:y=kV k:=((rb.rv o2).red (rb.en o2) g1).key gk
 refine⟨zero_le _,fun l hl=>?_⟩
 have al:a≠l:=fun z=>(n2.x6 a (.inl rfl)).1 (by rw[z];exact hl)
 have sm:aZ H2 (upd H2 l (.lst [])):=aZ.upd hl
 have n3:G6 K O M W x a L σ (upd H2 l (.lst [])) e1 tr:=n2.keep (.same sm) (n2.en.same sm)
 refine⟨_,k,n3.sec.TF,ky,by rw[length_map,lenT,sizeLine_eq];omega,?_,?_⟩
 ·intro v hv'
  rcases XZ tr k with⟨h1,_⟩|⟨z,hz,h1,h2⟩
  ·rw[h1]at hv';cases hv'
  ·rw[h2]at hv'
   cases hv'
   have hz':(k,z.2.1,z.2.2)∈tr:=by rw[<-h1];exact hz
   have zl:=of_decide_eq_true (z2 (z.1,z.2.2) (mem_map.mpr ⟨z,hz,rfl⟩))
   refine BJ hv n3 hz' f2 g2 zl fun H' g' n'=>q L σ H' _ ((fF.keep (kw k1)).trans ((fF.keep (.same sm)).trans g')) n' ?_
   rw[GK]
   have anyT:((ofT tr).any fun kp=>decide (kp.1=k))=true:=any_eq_true.mpr ⟨(z.1,z.2.2),mem_map.mpr ⟨z,hz,rfl⟩,decide_eq_true h1⟩
   unfold mY
   rw[if_pos anyT]
 ·intro ep hv'
  rcases XZ tr k with⟨_,h2⟩|⟨z,hz,h1,h2⟩
  ·have anyF:((tr.map fun z=>(z.1,V.ref z.2.1)).any fun kv=>decide (kv.1=k))=false:=by
    rw[any_map,any_eq_false]
    intro z hz
    simpa using h2 z hz
   have eput:putK (tr.map fun z=>(z.1,V.ref z.2.1)) k (.ref l)=(tr++[(k,l,[])]:Tr).map fun z:Key×Addr×List PV=>(z.1,V.ref z.2.1):=by
    unfold putK
    rw[anyF,if_neg Bool.false_ne_true,map_append];rfl
   rw[eput]
   have cC:∀c,H2 c≠none->upd (upd H2 l (.lst [])) a (.dK ((tr++[(k,l,[])]:Tr).map fun z:Key×Addr×List PV=>(z.1,V.ref z.2.1)) ep) c≠none:=fun c h=>by
    by_cases hc:c=a
    ·rw[hc,aU];exact fun z=>nomatch z
    ·rw[aS hc]
     by_cases hc:c=l
     ·rw[hc,aU];exact fun z=>nomatch z
     ·rw[aS hc];exact h
   have off:∀c ob,c≠a->H2 c=some ob->upd (upd H2 l (.lst [])) a (.dK ((tr++[(k,l,[])]:Tr).map fun z:Key×Addr×List PV=>(z.1,V.ref z.2.1)) ep) c=some ob:=fun c ob hc h=>by
    rw[aS hc,aS (fun z=>by rw[z,hl]at h;cases h)];exact h
   have ll:upd (upd H2 l (.lst [])) a (.dK ((tr++[(k,l,[])]:Tr).map fun z:Key×Addr×List PV=>(z.1,V.ref z.2.1)) ep) l=some (.lst []):=by rw[aS (Ne.symm al),aU]
   have bx:∀c,BX a (tr++[(k,l,[])]) c->BX a tr c\/ c=l:=fun c h=>by
    rcases h with h|h
    ·exact .inl (.inl h)
    ·rw[map_append]at h
     rcases mem_append.mp h with h|h
     ·exact .inl (.inr h)
     ·exact .inr (by simpa using h)
   have st:cS (aW (aW M (BX a tr)) L) (aW (aW M (BX a (tr++[(k,l,[])]))) L) H2 (upd (upd H2 l (.lst [])) a (.dK ((tr++[(k,l,[])]:Tr).map fun z:Key×Addr×List PV=>(z.1,V.ref z.2.1)) ep)):=
    ⟨fun c ys h=>off c _ (fun z=>by obtain⟨_,e⟩:=n2.sec.TF;rw[z,e]at h;cases h) h,fun c ob h nz=>⟨off c ob (fun z=>nz (.inl (.inr (.inl z)))) h,fun z=>by
     rcases z with(z|z)|z
     ·exact nz (.inl (.inl z))
     ·rcases bx c z with z|z
      ·exact nz (.inl (.inr z))
      ·rw[z,hl]at h;cases h
     ·exact nz (.inr z)⟩⟩
   have na:=n2.x6 a (.inl rfl)
   have n4:G6 K O M W x a L σ (upd (upd H2 l (.lst [])) a (.dK ((tr++[(k,l,[])]:Tr).map fun z:Key×Addr×List PV=>(z.1,V.ref z.2.1)) ep)) e1 (tr++[(k,l,[])]):=by
    refine⟨n2.ok.keep cC,fun c h=>?_,?_,n2.at',?_⟩
    ·rcases bx c h with h|h
     ·exact⟨cC c (n2.x6 c h).1,(n2.x6 c h).2⟩
     ·rw[h]
      exact⟨by rw[ll];exact(fun z=>nomatch z),fun z=>n2.ok.old l z hl,fun z=>(n2.ok.loc l z).1 hl⟩
    ·refine n2.en.grow st rfl (fun c h hc=>⟨h.1,fun z=>(bx c z).elim h.2 fun z=>hc (by rw[z];exact hl)⟩) (fun c ob h he=>off c ob (fun z=>?_) he) fun c ob he h _ _=>off c ob (fun z=>h.2 (.inl z)) he
     rw[z]at h
     exact h.elim (fun⟨i,w⟩=>na.2.1 (n2.ok.mo _ (n2.ok.wm i a w))) na.2.2
    ·refine⟨⟨ep,aU⟩,fun z hz=>?_,?_,?_⟩
     ·rcases mem_append.mp hz with hz|hz
      ·obtain⟨xs,h1,h3⟩:=n2.sec.lst z hz
       have hne:z.2.1≠a:=fun w=>(nodup_cons.mp n2.sec.nd).1 (by rw[<-w];exact mem_map.mpr ⟨z,hz,rfl⟩)
       exact⟨xs,off _ _ hne h1,h3.aH st⟩
      ·rw[mem_singleton.mp hz]
       exact⟨[],ll,.nil⟩
     ·rw[map_append,<-cons_append]
      refine nodup_append.mpr ⟨n2.sec.nd,by simp,fun u hu w hw e=>?_⟩
      have hw':w=l:=by simpa using hw
      rw[e,hw']at hu
      rcases mem_cons.mp hu with hu|hu
      ·exact al hu.symm
      ·obtain⟨z,hz,ez⟩:=mem_map.mp hu
       obtain⟨xs,h1,_⟩:=n2.sec.lst z hz
       rw[show z.2.1=l from ez,hl]at h1
       cases h1
     ·rw[map_append]
      refine nodup_append.mpr ⟨n2.sec.kd,by simp,fun u hu w hw e=>?_⟩
      have hw':w=k:=by simpa using hw
      obtain⟨z,hz,ez⟩:=mem_map.mp hu
      exact h2 z hz (by rw[ez,e,hw'])
   have g4:fF W L L (BX a tr) (BX a (tr++[(k,l,[])])) H2 (upd (upd H2 l (.lst [])) a (.dK ((tr++[(k,l,[])]:Tr).map fun z:Key×Addr×List PV=>(z.1,V.ref z.2.1)) ep)):=
    ⟨fun c ob h _ _ nb=>off c ob (fun z=>nb (.inl z)) h,st.tup,cC,fun _ h=>.inl h,fun c h=>(bx c h).elim .inl fun z=>.inr (by rw[z];exact hl)⟩
   have hz:(k,l,[])∈tr++[(k,l,([]:List PV))]:=mem_append.mpr (.inr mem_cons_self)
   refine BJ hv n4 hz f2 g2 (by decide) fun H' g' n'=>q L σ H' _ ((fF.keep (kw k1)).trans (g4.trans g')) n' ?_
   have anyD:((ofT tr).any fun kp=>decide (kp.1=k))=false:=by
    unfold ofT
    rw[any_map,any_eq_false]
    intro z hz
    simpa using h2 z hz
   unfold mY
   rw[anyD,if_neg Bool.false_ne_true,GK]
   have eo:ofT (tr++[(k,l,[])])=ofT tr++[(k,[])]:=by unfold ofT;rw[map_append];rfl
   rw[eo,map_append]
   congr 1
   ·have:∀kp∈ofT tr,(if kp.1=k then(kp.1,kp.2++[p])else kp)=kp:=fun kp hkp=>by
     obtain⟨z,hz,rfl⟩:=mem_map.mp hkp
     exact if_neg (h2 z hz)
    rw[map_congr_left this,map_id']
   ·simp
  ·rw[h2]at hv';cases hv'
noncomputable def sX (x:Nat) (f:FX):FS:=fun e=>aQ (decide (x<e.length)) (match f (e.set x none) []with
 |some (.nx e' d)=>some (.rt (.new (.a8 (d.map fun kp=>(kp.1,.lst kp.2)))) e')
 |_=>none)
theorem uD:∀{t:Tr},(∀z∈t,∃xs,H z.2.1=some (.lst xs)/\bH K Z H z.2.2 xs/\¬Z z.2.1)->bH K Z H (((ofT t).map fun kp=>(kp.1,PV.lst kp.2)).map (·.2)) ((t.map fun z=>(z.1,V.ref z.2.1)).map (·.2))
 |[],_=>.nil
 |z::t,h=>by
  obtain⟨xs,h1,h2,h3⟩:=h z mem_cons_self
  exact .cons (.lst (.inl h1) h3 h2) (uD fun w hw=>h w (mem_cons_of_mem _ hw))
theorem D9 {ts:TS} (h:A5 K x ts f):fJ K (CV (m6 yB (gJ x)) (CV ts (WH (yL x)))) (sX x f):=by
 intro O M W L σ H e r D o he hf q
 obtain⟨hx,hf⟩:=aL hf
 have hx:=of_decide_eq_true hx
 split at hf
 ·rename_i e' d c
  cases hf
  intro a ha
  have sm:aZ H (upd H a (.dK [] 0)):=aZ.upd ha
  have na:¬O a/\¬L a:=⟨fun z=>o.old a z ha,fun z=>(o.loc a z).1 ha⟩
  have b0:∀c,BX a [] c->c=a:=fun c h=>h.elim id fun h=>nomatch h
  have n0:G6 K O M W x a L (σ.set x (some (.ref a))) (upd H a (.dK [] 0)) (e.set x none) []:=by
   refine⟨o.keep (bX.same (W:=W) (L:=L) sm).cC,fun c h=>?_,?_,?_,?_⟩
   ·rw[b0 c h,aU];exact⟨(fun z=>nomatch z),na⟩
   ·refine(he.grow (Z':=aW (aW M (BX a [])) L) (W':=wB W (BX a [])) (H':=upd H a (.dK [] 0)) ⟨fun _ _ h=>sm _ _ h,fun c ob h nz=>⟨sm _ _ h,fun z=>?_⟩⟩ rfl (fun c h hc=>⟨h,fun z=>hc (by rw[b0 c z];exact ha)⟩) (fun c ob _ h=>sm _ _ h) fun c ob h _ _ _=>sm _ _ h).unset
    rcases z with(z|z)|z
    ·exact nz (.inl z)
    ·rw[b0 c z,ha]at h;cases h
    ·exact nz (.inr z)
   ·rw[getElem?_set_self (by rw[<-he.len];exact hx)]
   ·exact⟨⟨0,aU⟩,(fun _ h=>nomatch h),by simp,by simp⟩
  refine h O M W a L _ _ _ [] _ _ n0 c fun L' σ' H' t' g n ed=>⟨.ref a,n.at',q L' σ' H' (.ref a) ?_ n.ok ?_⟩
  ·refine⟨fun c ob h nw nl=>g.obj c ob (sm _ _ h) nw nl fun z=>?_,fun c ys h=>g.tup c ys (sm _ _ h),fun c h=>g.cC c ((bX.same (W:=W) (L:=L) sm).cC c h),fun c h=>(g.new c h).elim .inl fun z=>.inr (none_of (bX.same (W:=W) (L:=L) sm).cC z)⟩
   rw[b0 c z,ha]at h;cases h
  ·subst ed
   have nb:=fun c h=>n.x6 c h
   have na':=nb a (.inl rfl)
   have less:∀c,aW M (aW L' (one a)) c->aW (aW M (BX a t')) L' c:=fun c z=>by
    rcases z with z|z|z
    ·exact .inl (.inl z)
    ·exact .inr z
    ·exact .inl (.inr (.inl z))
   have k:cS (aW (aW M (BX a t')) L') (aW M (aW L' (one a))) H' H':=.less less
   refine⟨a,rfl,na'.2.1,na'.2.2,⟨n.en.len,fun i s hs=>?_,n.en.mW⟩,fun i s hs hm es=>?_,?_⟩
   ·obtain⟨v,h1,h2⟩:=n.en.at' i s hs
    refine⟨v,h1,?_⟩
    cases s with
    |val p=>exact Rep.aH k h2
    |own p=>obtain⟨a,e,w,c⟩:=h2;exact⟨a,e,w,c.aH k fun o q=>q⟩
    |loc p=>obtain⟨a,e,w,c⟩:=h2;exact⟨a,e,.inl w,c.aH k fun o q=>q⟩
    |bor p=>
     obtain⟨a',e,c⟩:=h2
     refine⟨a',e,?_⟩
     cases c with
     |lst e od n m r=>exact .lst e od.1 n (fun z=>z.elim m fun z=>od.2 (.inl z)) (r.aH k)
     |dO e r=>exact .dO e (r.aH k)
     |a8 e od n m kk r=>exact .a8 e od.1 n (fun z=>z.elim m fun z=>od.2 (.inl z)) kk (r.aH k)
   ·obtain⟨v,h1,h2⟩:=n.en.at' i s hs
    rw[h1]at es
    cases es
    cases s with
    |val p=>cases hm
    |bor p=>cases hm
    |own p=>obtain⟨a',e,w,c⟩:=h2;cases e;exact na'.2.1 (n.ok.mo _ (n.ok.wm i a w))
    |loc p=>obtain⟨a',e,w,c⟩:=h2;cases e;exact na'.2.2 w
   ·obtain⟨_,TF⟩:=n.sec.TF
    refine .a8 TF ?_ (uD fun z hz=>?_)
    ·unfold ofT
     rw[map_map,map_map,map_map]
     rfl
    ·obtain⟨xs,h1,h2⟩:=n.sec.lst z hz
     have hb:BX a t' z.2.1:=.inr (mem_map.mpr ⟨z,hz,rfl⟩)
     have nz:=nb _ hb
     refine⟨xs,h1,h2.aH k,fun w=>?_⟩
     rcases w with w|w|w
     ·exact nz.2.1 (n.ok.mo _ w)
     ·exact nz.2.2 w
     ·exact(nodup_cons.mp n.sec.nd).1 (by rw[<-show z.2.1=a from w];exact mem_map.mpr ⟨z,hz,rfl⟩)
 ·cases hf
end
section
variable {K:Frag}
noncomputable def MW:PV->PV->PV->Option Bv
 | .a8 kvs,p,z=>bO (keyOf p) fun k=>some (.val ((cG kvs k).getD z))
 |_,_,_=>none
noncomputable def KR (fa fb fc:FE):FE:=fun e=>bE (fa e) fun x e1=>bO (x.weak.get e1) fun p1=>match p1 with
 | .a8 _=>bE (fb e1) fun y e2=>bE (fc e2) fun z e3=>bO z.put fun pz=>bO (x.weak.get e3) fun p=>bO (y.weak.get e3) fun q=>bO (MW p q pz) fun b=>some (b,e3)
 |_=>none
theorem LV {ta tb tc:TE} {fa fc:FE} (ha:Ref K ta fa) (hb:Ref K tb fb) (hc:Ref K tc fc):Ref K (J9 ta tb tc) (KR fa fb fc):=by
 intro O M W L σ H e e' b Q o he hf q
 obtain⟨x,e1,f1,hf⟩:=aM hf
 obtain⟨p1,g0,hf⟩:=aF hf
 cases p1 with
 | a8 kvs1=>
  obtain⟨y,e2,f2,hf⟩:=aM hf
  obtain⟨z,e3,f3,hf⟩:=aM hf
  obtain⟨pz,gz,hf⟩:=aF hf
  obtain⟨p,g1,hf⟩:=aF hf
  obtain⟨p',g2,hf⟩:=aF hf
  obtain⟨c,g3,hf⟩:=aF hf
  cases hf
  refine ha O M W L σ H e e1 x _ o he f1 fun v1 H1 k1 r1 fr=>?_
  have o1:=o.keep k1.cC
  obtain⟨a1,ys1,e11,ha1,_,_⟩:=((r1.rv o1).red (r1.en o1) g0).rR
  refine⟨a1,e11,.inl ⟨ys1,ha1⟩,?_⟩
  refine hb O M W L σ H1 e1 _ y _ o1 (r1.en o1) f2 fun v2 H2 k2 r2 fr=>?_
  have o2:=o1.keep k2.cC
  refine hc O M W L σ H2 e2 _ z _ o2 (r2.en o2) f3 fun v3 H3 k3 r3 fr=>?_
  have o3:=o2.keep k3.cC
  obtain⟨en,rz⟩:=r3.put o3 gz
  have rp:=(((r1.rv o1).keep o1 k2).keep o2 k3).red en g1
  have rq:=((r2.rv o2).keep o2 k3).red en g2
  cases p with
  | a8 kvs=>
   obtain⟨key,g4,g3⟩:=aF g3
   cases g3
   obtain⟨a,ys,e3',ha',ek,r⟩:=rp.rR
   rw[e11]at e3'
   cases e3'
   refine⟨eM ys key,.inl ⟨ys,key,ha',rq.key g4,rfl⟩,?_⟩
   refine q _ H3 ((k1.trans k2).trans k3) ?_ ?_
   ·refine⟨en,?_⟩
    rcases dU.val key ⟨ek,r⟩with⟨h1,h2⟩|⟨p'',v',h1,h2,h3⟩
    ·rw[h1,h2];exact rz
    ·rw[h1,h2];exact h3
   ·trivial
  |_=>cases g3
 |_=>cases hf
theorem PZ {fa fc:FE}:KR fa fb fc e=bE (fa e) fun x e1=>bO (x.weak.get e1) fun p1=>match p1 with
 | .a8 _=>bE (fb e1) fun y e2=>bE (fc e2) fun z e3=>bO z.put fun pz=>bO (x.weak.get e3) fun p=>bO (y.weak.get e3) fun q=>bO (MW p q pz) fun b=>some (b,e3)
 |_=>none:=rfl
theorem QM {f g:FX} {e:En} {d:DD} {Q:u3->Prop}:Wp (aaS f g e d) Q↔Wp (f e d) fun o=>match o with| .nx e1 d1=>Wp (g e1 d1) Q|o=>Q o:=by
 unfold aaS
 cases f e d with
 |none=>simp[oW]
 |some o=>
  rw[bW]
  cases o<;>simp[bW]
theorem PX {fb:FX}:Wp (KC fi fg fb e d) Q↔Wp (fi e) fun z=>Wp (nC (fun x e d=>bO (fg x e) fun e2=>fb e2 d) z.1 z.2 d) Q:=by
 unfold KC
 rw[j7]
theorem ab3 {x:Nat} {f:FX} {e:En} {Q:Out->Prop}:Wp (sX x f e) Q↔x<e.length/\Wp (f (e.set x none) []) fun o=>match o with| .nx e' d=>Q (.rt (.new (.a8 (d.map fun kp=>(kp.1,.lst kp.2)))) e')| .ct _ _=>False:=by
 unfold sX
 rw[eB,decide_eq_true_eq]
 refine and_congr_right fun _=>?_
 cases f (e.set x none) []with
 |none=>simp[oW]
 |some o=>
  rw[bW]
  cases o<;>simp[bW,oW]
theorem RG:MU e d=some (.nx e d):=rfl
theorem SN:ab1 e d=some (.ct e d):=rfl
theorem abZ:xIf fc f g e d=bE (fc e) fun b e1=>bB b (f e1 d) (g e1 d):=rfl
theorem V9 {f:FE}:ad0 f fg e d=bE (f e) fun b e1=>bO b.put fun p=>bO (fg p e1) fun e2=>some (.nx e2 d):=rfl
theorem abS {f:FE}:xIt f e=bE (f e) fun b e1=>match b with
 | .val (.tup ps)=>some (ps,e1)
 |_=>none:=rfl
theorem XH:UJ fa e=bE (fa e) fun bs e1=>match bs with
 |[.val (.tup ps)]=>some (ps.zipIdx.map fun z=>.tup [.int (z.2:Int),z.1],e1)
 |_=>none:=rfl
theorem XQ:WQ fk fv e d=bE (fk e) fun kb e1=>bO (kb.weak.get e1) fun kp=>bO (keyOf kp) fun k=>bE (fv e1) fun b e2=>bO b.put fun p=>
 aQ (decide (d.length<1000000) && d.all fun kp=>decide (kp.2.length<1000000)) (some (.nx e2 (mY d k p))):=rfl
theorem BS {body:PV->En->DD->Option u3} (I:Nat->En->DD->Prop) {xs:List PV} (hs:∀(i:Nat) x e d,xs[i]? =some x->I i e d->Wp (body x e d) fun o=>match o with| .nx e1 d1=>I (i+1) e1 d1| .ct e1 d1=>I (i+1) e1 d1)
  (hd:∀e d,I xs.length e d->Q (.nx e d)) {e:En} {d:DD} (h0:I 0 e d):Wp (nC body xs e d) Q:=by
 have key:∀(ys:List PV) (i:Nat) (e:En) (d:DD),i<=xs.length->xs.drop i=ys->I i e d->Wp (nC body ys e d) Q:=by
  intro ys
  induction ys with
  | nil=>
   intro i e d hil hy hi
   unfold nC
   rw[bW]
   have hl:xs.length<=i:=by
    have:=congrArg List.length hy
    rw[length_drop]at this
    simp at this
    omega
   have h:i=xs.length:=by omega
   subst h
   exact hd e d hi
  | cons x ys ih=>
   intro i e d hil hy hi
   have hlt:i<xs.length:=by
    have:=congrArg List.length hy
    rw[length_drop,length_cons]at this
    omega
   rw[drop_eq_getElem_cons hlt]at hy
   have hx:xs[i]? =some x:=by rw[getElem?_eq_getElem hlt,(List.cons.inj hy).1]
   obtain⟨o,h1,h2⟩:=hs i x e d hx hi
   unfold nC
   rw[h1]
   cases o with
   |nx e1 d1=>exact ih (i+1) e1 d1 hlt (List.cons.inj hy).2 h2
   |ct e1 d1=>exact ih (i+1) e1 d1 hlt (List.cons.inj hy).2 h2
 exact key xs 0 e d (zero_le _) rfl h0
end
end Mr
namespace L2
open PySem
section
variable {prog:Program} {w:World} {A:Around} {R:Result->Shared->Prop} {s:Shared}
theorem JG {kx vx target iter:Expr} {ifs:List Expr} {scope:Scope} {pos:Pos} {it:Value} {D:Addr} {env:Env} (I:Nat->Shared->Prop)
  (turn:∀n s,I n s->wpAny (model prog w) A (pyNext it) (fun r s₁=>match r with
   |none=>R (.ok .next) s₁
   | some v=>wpAny (model prog w) A (letOwnedTupleGo target it v) (fun _ s₁'=>wpAny (model prog w) A (assign target env v) (fun _ s₂=>
     wpAny (model prog w) A (forIn ifs true fun c r=>if r=true then do let ok<-isTrue c env (eval c env);pure (ForInStep.yield ok)else pure (ForInStep.yield r)) (fun ok s₃=>
      if ok=true then wpAny (model prog w) A (eval kx env) (fun kv s₄=>wpAny (model prog w) A (eval vx env) (fun vv s₅=>
       wpAny (model prog w) A (dictSet D kv vv) (fun _ s₆=>∃m,m<n/\I m s₆) (fun _ _=>False) s₅) (fun _ _=>False) s₄) (fun _ _=>False) s₃
      else∃m,m<n/\I m s₃) (fun _ _=>False) s₂) (fun _ _=>False) s₁') (fun _ _=>False) s₁) (fun _ _=>False) s)
  (n:Nat) (h:I n s):
  codeAny (model prog w) A (.compLoop (.DictComp kx vx [⟨target,iter,ifs,0⟩] scope pos) 0 it (.ref D) env) R s:=by
 refine codeAny_loop rfl I (fun n s hI=>?_) n h
 show wpAny _ A ((compTurn (.DictComp kx vx [⟨target,iter,ifs,0⟩] scope pos) 0 it (.ref D) env).onRaise (fun x=>do noteFrame x env;theTreesLotGoes x)) _ _ s
 refine wpAny_noted ?_
 refine wpAny_mono (E:=fun _ _=>False) ?_ (fun _ _ q=>q) (fun _ _ z=>z.elim)
 rw[compTurn_dict]
 refine wpAny_bind (wpAny_standAt (wpAny_bind (wpAny_mono (turn n s hI) (fun r s₁ h₁=>?_) fun _ _ h'=>h')))
 cases r with
 |none=>exact wpAny_pure h₁
 | some v=>
  refine wpAny_bind (wpAny_mono h₁ (fun _ s₁' h₁'=>?_) fun _ _ h'=>h')
  refine wpAny_bind (wpAny_mono h₁' (fun _ s₂ h₂=>wpAny_bind (wpAny_mono h₂ (fun ok s₃ h₃=>?_) fun _ _ h'=>h')) fun _ _ h'=>h')
  cases ok with
  |false=>exact wpAny_pure ⟨rfl,h₃⟩
  |true=>
   exact wpAny_bind (wpAny_bind (wpAny_mono h₃ (fun kv s₄ h₄=>wpAny_bind (wpAny_holding (wpAny_mono h₄ (fun vv s₅ h₅=>wpAny_bind (wpAny_standAt (wpAny_holding (wpAny_mono h₅ (fun _ s₆ h₆=>wpAny_pure ⟨rfl,h₆⟩) fun _ _ h'=>h')))) fun _ _ h'=>h'))) fun _ _ h'=>h'))
end
noncomputable def Z7 (J:It) (g:TG) (tt:TT) (tk te:TE) (l:Addr) (σ0:St) (H0:Hp) (Q:VK):Prop:=
 ∃W:Nat->Nat->St->Hp->Prop,(∃m,W 0 m σ0 H0)/\
   ∀i m σ' H2,W i m σ' H2->(J.stop i H2/\Q (.ref l) H2)\/ (J.go i H2/\∃N:St->Hp->Prop,(∀σ3 H3,N σ3 H3->∃m',m'<m/\W (i+1) m' σ3 H3)/\
    ∀x H3,J.ZQ i H2 x H3->g x σ' H3 fun σ4 H4=>tt σ4 H4 fun b H5=>if b=true then tk σ4 H5 fun kv H6=>te σ4 H6 fun y H7=>∃kvs key,tK H7 l kvs/\kv=kV key/\kvs.length<sizeLine/\∀ep,N σ4 (upd H7 l (.dK (putK kvs key y) ep))else N σ4 H5)
noncomputable def xY (wi:TI) (k:Nat) (cI:List Nat) (g:TG) (tt:TT) (tk te:TE):TE:=fun σ H Q=>wi σ H fun J H1=>∀l,H1 l=none->Z7 J g tt tk te l (eY k cI σ) (upd H1 l (.dK [] 0)) Q
section
variable {X:Cx} {kx vx tg iter:Expr} {ifs:List Expr} {scope:Scope} {pos:Pos} {wi:TI} {g:TG} {tt:TT} {tk te:TE} {N:List Str} {k:Nat} {cI:List Nat}
theorem MX {pins:List (Addr×Obj)} {σ:St} {H2:Hp} {s2:Shared} {cl:List (Str×Addr)} {C:Addr} {fp:List Addr} {h1:Heap} {tk:Nat} {m0:Str->Option Value} (S:gA X scope N k cI) (I2:Inv X pins σ H2 s2)
  (hcl1:∀y c,cl.lookup y=some c->X.env.cells.lookup y=some c) (hcl2:∀y,(y,NameKind.free)∈scope.names->(cl.lookup y).isSome=true) (hC:C=s2.heap.objs.size+1)
  (hf:∀b∈fp,pO X pins H2 b) (ho:∀b∈fp,b<s2.heap.objs.size) (hk:∀b o,s2.heap.get? b=some o->h1.get? b=some o) (hD:h1.get? s2.heap.objs.size=some {cls:=.type "dict",data:=.dict #[]}) (hns:h1.Ns C m0):
  Inv (bI X scope N ⟨cl,C,s2,H2,fp⟩) [] (eY k cI σ) (upd H2 s2.heap.objs.size (.dK [] 0)) {s2 with heap:=h1,toks:=tk}:=by
 have fr:H2 s2.heap.objs.size=none:=I2.bP.fresh (le_refl _)
 have hCf:H2 C=none:=I2.bP.fresh (hC▸le_succ _)
 refine⟨sT S I2 hcl1 hcl2 (hC▸le_succ _) hf ho,rfl,I2.bare,Un.laid hk (le_refl _) fr,⟨m0,hns,fun i y v e1 e2 e3=>?_⟩,fun x c e=>?_,?_,fun x c e=>?_,fun p hp=>absurd (show p∈([]:List (Addr×Obj))from hp) (by simp),I2.bP.laid hk (le_refl _) ?_,?_⟩
 ·obtain⟨q,j,rfl,hj,hv⟩:=wC e2
  obtain⟨z,hz1,hz2,hz3⟩:=S.cI q j hj
  have e1':N[k+q]? =some y:=e1
  rw[hz1]at e1'
  cases e1'
  obtain⟨m,hn,hl⟩:=I2.loc
  have hfr:=S.free (y,.free) (PySem.mem_of_lookup hz3) rfl
  obtain⟨u,r,l⟩:=hl j y v hz2 hv (by rcases hfr with z|z;exact .inr (.inl z);exact .inr (.inr z))
  refine⟨u,r,.inr ⟨eS (env:=X.env) hz3,?_⟩⟩
  obtain⟨c,hc⟩:=isSome_iff_exists.mp (hcl2 y (PySem.mem_of_lookup hz3))
  rcases l with⟨hk',_⟩|⟨_,c',hc',hcell⟩
  ·rcases hfr with z|z<;>(rw[hk']at z;cases z)
  ·have e:=hcl1 y c hc
   rw[hc']at e
   cases e
   obtain⟨o,ho',hd⟩:=hcell
   exact⟨_,hc,o,hk _ _ ho',hd⟩
 ·obtain⟨v,o,ho',hd⟩:=I2.cell x c (hcl1 x c e)
  exact⟨v,o,hk _ _ ho',hd⟩
 ·show upd H2 s2.heap.objs.size (.dK [] 0) C=none
  rw[aS (ne_of_gt (hC▸lt_succ_self _))]
  exact hCf
 ·have e':=hcl1 x c e
  obtain⟨v,q⟩:=I2.cell x c e'
  rw[aS (ne_of_lt q.lt)]
  exact I2.l7 x c e'
 ·exact⟨zero_le _,beq_eq_false_iff_ne.mpr (Ne.symm (ne_of_lt I2.big)),[],.nil,⟨_, #[],hD,⟨rfl,rfl,rfl⟩,rfl,(fun _ h=>absurd h (by simp)),.nil,nodup_nil⟩⟩
 ·show(eY k cI σ).length=N.length
  unfold eY
  rw[length_append,length_replicate,length_map,S.len]
theorem M9 (hc:X.calm=true) (S:gA X scope N k cI) (hi:PI X tg iter wi) (hg:∀c,PG (bI X scope N c) tg g) (ht:∀c,T9 (bI X scope N c) ifs tt) (hk:∀c,PE (bI X scope N c) kx tk) (he:∀c,PE (bI X scope N c) vx te)
  (hs:∀x,foldedSetIterable iter X.env x=pure x:=by intro _;rfl):PE X (.DictComp kx vx [⟨tg,iter,ifs,0⟩] scope pos) (xY wi k cI g tt tk te):=by
 intro pins s σ H Q I h
 rw[arm_eval_DictComp]
 obtain⟨cl,hclos,hcl1,hcl2⟩:=jP (scope:=scope) (env:=X.env) (fun p hp hf=>I.ok.has p.1 (S.free p hp hf))
 refine wpAny_comprehension_free (use:=none) rfl hs hclos S.kind S.names (cP (hi pins s σ H _ I h) fun v s1 h1=>cP h1 fun itv s2 h2=>?_)
 obtain⟨it,fp,tn,J,H2,e,I2,T,st2,f2,q2⟩:=h2
 subst e
 obtain⟨W,⟨m0,w0⟩,turn⟩:=q2 s2.heap.objs.size (I2.bP.fresh (le_refl _))
 have hob:∀b∈fp,b<s2.heap.objs.size:=fun b hb=>let⟨o,e,_⟩:=T.obj _ _ st2 b hb;lt_size e
 refine wpAny_newObj_type (wpAny_newFunctionEnv S.cell (by intro y hy;simp at hy) (fun h₁ hns₁ hsb₁=>?_) S.kind)
 dsimp only at hns₁ hsb₁⊢
 generalize hHH:s2.heap.push {cls:=.type "dict",dict:=none,data:=.dict #[]}=HH at hns₁ hsb₁⊢
 have hCC:HH.objs.size=s2.heap.objs.size+1:=by rw[<-hHH,size_push]
 have old:∀b o,s2.heap.get? b=some o->h₁.get? b=some o:=fun b o e=>hsb₁.extBut b o (ne_of_lt (hCC▸lt_succ_of_lt (lt_size e))) (get?_push_of_some _ (hHH▸get?_push_of_some _ e))
 have hD:h₁.get? s2.heap.objs.size=some {cls:=.type "dict",data:=.dict #[]}:=hsb₁.extBut _ _ (ne_of_lt (hCC▸lt_succ_self _)) (get?_push_of_some _ (hHH▸get?_push_size _ rfl))
 have I4:=fun tk=>MX (tk:=tk) S I2 hcl1 hcl2 hCC f2 hob old hD hns₁
 have X':=bI X scope N ⟨cl,HH.objs.size,s2,H2,fp⟩
 have stat:∀{H':Hp},(∀b∈fp,H' b=none)->∀b∈fp,pO (bI X scope N ⟨cl,HH.objs.size,s2,H2,fp⟩) [] H' b:=fun hn b hb=>
  ⟨hn b hb,ne_of_lt (hCC▸lt_succ_of_lt (hob b hb)),(sT S I2 hcl1 hcl2 (hCC▸le_succ _) f2 hob).z6 b hb,.inl hb,fun x c e=>(f2 b hb).2.2.2.2.1 x c (hcl1 x c e),fun p hp=>absurd (show p∈([]:List (Addr×Obj))from hp) (by simp)⟩
 have loop:∀s₃:Shared,s₃={s2 with heap:=h₁,toks:=s2.toks+([]:List (Str×Value)).length}->
   codeAny (model X.prog X.w) X.A (.compLoop (.DictComp kx vx [⟨tg,iter,ifs,0⟩] scope pos) 0 (.ref it) (.ref s2.heap.objs.size) (compEnvC scope cl HH.objs.size X.env))
    (compPost (model X.prog X.w) X.A X.xe none (EP X pins σ Q) (.ref s2.heap.objs.size) HH.objs.size) s₃:=by
  rintro s₃ rfl
  refine JG (fun n s'=>∃i σ' H',Inv (bI X scope N ⟨cl,HH.objs.size,s2,H2,fp⟩) [] σ' H' s'/\tn i s'.heap/\(∀b∈fp,H' b=none)/\W i n σ' H') ?_ m0
   ⟨0,eY k cI σ,_,I4 _,T.keep _ _ _ st2 fun b _ o e=>old b o e,fun b hb=>by rw[aS (ne_of_lt (hob b hb))];exact(f2 b hb).1,w0⟩
  rintro n s3 ⟨i,σ3,H3,I3,st3,fr3,w3⟩
  rcases turn i n σ3 H3 w3 with⟨stop,qn⟩|⟨go,NN,hN,step⟩
  ·refine cP (T.done (bI X scope N ⟨cl,HH.objs.size,s2,H2,fp⟩) rfl rfl rfl hc i [] s3 σ3 H3 _ I3 (stat fr3) st3 stop) fun r s4 ⟨hr,J4⟩=>?_
   subst hr
   obtain⟨m,hn,_⟩:=J4.loc
   refine⟨m,hn,fun h' hs'=>?_⟩
   have keepC:∀b o,b≠HH.objs.size->s4.heap.get? b=some o->h'.get? b=some o:=fun b o hb e=>hs'.extBut b o hb e
   have gB:∀b o,s2.heap.get? b=some o->b≠HH.objs.size:=fun b o e=>ne_of_lt (hCC▸lt_succ_of_lt (lt_size e))
   have u:=J4.base
   have u':Un (HJ X.stack) fp H2 H3 s2.heap h':=⟨fun b o q n hb hx=>keepC b o (gB b o q) (u.keep b o q n hb hx),fun b o q n hb hx=>by
     obtain⟨sl,e⟩:=u.slot b o q n hb hx
     exact⟨sl,keepC b _ (gB b o q) e⟩,u.free,fun b o q hx=>by
     obtain⟨o',e⟩:=u.there b o q hx
     exact⟨o',keepC b _ (gB b o q) e⟩,u.vB,u.tD,u.u5⟩
   refine⟨.ref s2.heap.objs.size,H3,I2.MK (ch:=fp) J4.os u' (J4.bP.but J4.free keepC) J4.bare fun b hb=>?_,rfl,qn⟩
   obtain⟨_,f1,_,f3,f4,f5⟩:=f2 b hb
   exact⟨f3,f1,f4,f5⟩
  ·refine cP (T.item (bI X scope N ⟨cl,HH.objs.size,s2,H2,fp⟩) rfl rfl rfl hc i [] s3 σ3 H3 _ I3 (stat fr3) st3 go) fun r s4 ⟨u,hr,h4⟩=>?_
   subst hr
   refine cP h4 fun _ s5 ⟨x,H5,I5,r5,y5,st5,fr5⟩=>?_
   have I5':=I5.pinned (stat fr5) (T.obj _ _ st5)
   have again:∀{s7:Shared} {σ7:St} {H7:Hp},Inv (bI X scope N ⟨cl,HH.objs.size,s2,H2,fp⟩) ([]++nN fp s5.heap) σ7 H7 s7->NN σ7 H7->
     ∃m,m<n/\∃i σ' H',Inv (bI X scope N ⟨cl,HH.objs.size,s2,H2,fp⟩) [] σ' H' s7/\tn i s7.heap/\(∀b∈fp,H' b=none)/\W i m σ' H':=fun{s7 σ7 H7} I7 n7=>by
    obtain⟨m',hm,w7⟩:=hN σ7 H7 n7
    refine⟨m',hm,i+1,σ7,H7,I7.j8,T.keep _ _ _ st5 fun b hb o e=>(I7.pin (b,o) (mem_append_right _ (mem_append_right _ (eJ hb e)))).1,fun b hb=>?_,w7⟩
    obtain⟨o,e,d⟩:=T.obj _ _ st5 b hb
    exact(I7.pin (b,o) (mem_append_right _ (mem_append_right _ (eJ hb e)))).2.1
   refine cP (hg _ _ s5 σ3 H5 x u _ I5' r5 (step x H5 y5)) fun _ s6 ⟨σ6,H6,I6,q6⟩=>?_
   refine cP (ht _ _ s6 σ6 H6 _ I6 q6) fun b s7 ⟨H7,I7,q7⟩=>?_
   cases b with
   |false=>exact again I7 q7
   |true=>
    refine cP (hk _ _ s7 σ6 H7 _ I7 q7) fun kv s8 ⟨kx',H8,I8,r8,q8⟩=>?_
    refine cP (he _ _ s8 σ6 H8 _ I8 q8) fun y s9 ⟨yv,H9,I9,r9,kvs,key,hl,ek,hz,n9⟩=>?_
    subst ek
    obtain⟨z,hd,vs,rel,dd⟩:=J1 I9.bP hl
    have hz':vs.length<=sizeLine:=by rw[<-rel.length];exact z
    have hl':(putK kvs key yv).length<=sizeLine:=by have:=jD kvs key yv;omega
    refine wpAny_dictSet_pairs (hsz:=hz') (pE r8) dd fun h' dd' hs'=>?_
    have hx':∃q,h'.get? s2.heap.objs.size=some q:=let⟨q,_,_,hq,_⟩:=dd';⟨q,hq⟩
    obtain⟨ep,da⟩:=dd'.dictAt
    exact again (sE I9 hl.mut hs' hx' (DN hl' hd (rel.put key r9) da)) (n9 ep)
 exact codeAny_compStart_dict (loop _ rfl) (T.self X.A 0 _ _ _ (T.keep _ _ _ st2 fun b _ o e=>old b o e) (loop _ rfl))
theorem vS (N:List Str) (k:Nat) (cI:List Nat) (XN:List Str) (xs:Scope) (hc:X.calm=true) (hN:X.N=XN) (hx:X.env.scope=xs) (hi:PI X tg iter wi) (chk:pJ XN xs scope N k cI=true)
  (hg:∀c,PG (bI X scope N c) tg g) (ht:∀c,T9 (bI X scope N c) ifs tt) (hk:∀c,PE (bI X scope N c) kx tk) (he:∀c,PE (bI X scope N c) vx te)
  (hs:∀x,foldedSetIterable iter X.env x=pure x:=by intro _;rfl):PE X (.DictComp kx vx [⟨tg,iter,ifs,0⟩] scope pos) (xY wi k cI g tt tk te):=M9 hc (lH hN hx chk) hi hg ht hk he hs
end
end L2
namespace Mr
open PySem L2
variable {fe fk:FE} {fg:FG} {fi:FI} {ft:FT} {cI:List Nat} {k:Nat} {te tk:TE} {wi:TI} {tt:TT}
noncomputable def kN (fg:FG) (ft:FT) (fk fe:FE):List PV->En->List (Key×PV)->Option (List (Key×PV)×En)
 |[],e,d=>some (d,e)
 |x::xs,e,d=>bO (fg x e) fun e1=>bE (ft e1) fun b e2=>match b with
  |false=>kN fg ft fk fe xs e2 d
  |true=>bE (fk e2) fun kb e3=>bE (fe e3) fun r e4=>bO (kb.weak.get e4) fun kp=>bO (keyOf kp) fun k=>bO r.put fun p=>kN fg ft fk fe xs e4 (eR d k p)
noncomputable def jQ (fi:FI) (k:Nat) (cI:List Nat) (ms:List (Nat×Nat)) (fg:FG) (ft:FT) (fk fe:FE):FE:=fun e=>
 bE (fi (fun i=>!(ms.any fun z=>z.1==i)) e) fun items e1=>aQ (decide (items.length<1000000)) (bE (kN fg ft fk fe items (n6 k cI ms e1) []) fun ys ei=>bO (nA ei ms e1) fun e2=>some (.new (.a8 ys),e2))
section
variable {K:Frag}
theorem HA {g:TG} (ms:List (Nat×Nat)) (hms:∀i j1 j2,(i,j1)∈ms->(i,j2)∈ms->j1=j2) (hms2:∀i1 i2 j,(i1,j)∈ms->(i2,j)∈ms->i1=i2) (hi:uB K wi fi) (hg:yS K g fg) (ht:jY K tt ft) (hk:Ref K tk fk) (he:Ref K te fe):Ref K (xY wi k cI g tt tk te) (jQ fi k cI ms fg ft fk fe):=by
 intro O M W L σ H e e' b Q o hen hf q
 obtain⟨items,e1,f1,hf⟩:=aM hf
 obtain⟨hsz,hf⟩:=aL hf
 obtain⟨ys,ei,f2,hf⟩:=aM hf
 obtain⟨e2,f3,hf⟩:=aF hf
 cases hf
 have hsz:=of_decide_eq_true hsz
 refine hi (fun i=>!(ms.any fun z=>z.1==i)) O M W L σ H e e1 items _ o hen f1 fun J H1 k1 en it=>?_
 have o1:=o.keep k1.cC
 let W':WS:=⟨fun j a=>∃i s,(i,j)∈ms/\e1[i]? =some (some s)/\s.cX=true/\σ[i]? =some (some (.ref a)),fun a=>H1 a≠none⟩
 have whose:∀(i:Nat) s a,e1[i]? =some (some s)->s.cX=true->σ[i]? =some (some (.ref a))->(aw W a\/ L a)/\∃ob,H1 a=some ob/\∀xs,ob≠ .tup xs:=fun i s a hs hm ha=>by
  obtain⟨v,h1,h2⟩:=en.at' i s hs
  rw[ha]at h1
  cases h1
  cases s with
  |val p=>cases hm
  |bor p=>cases hm
  |own p=>obtain⟨b,e,w,c⟩:=h2;cases e;exact⟨.inl ⟨i,w⟩,c.there⟩
  |loc p=>obtain⟨b,e,w,c⟩:=h2;cases e;exact⟨.inr w,c.there⟩
 have wsub:∀a,aw W' a->(aw W a\/ L a)/\∃ob,H1 a=some ob/\∀xs,ob≠ .tup xs:=fun a ⟨j,i,s,hm,hs,hmine,ha⟩=>whose i s a hs hmine ha
 have it:=it (aw W') (fun a z=>(wsub a z).1) fun i a s hst hs hm ha ⟨j,i',s',hm',hs',hmine',ha'⟩=>by
  have ne:i'≠i:=fun z=>by
   subst z
   have:(ms.any fun z=>z.1==i')=true:=any_eq_true.mpr ⟨(i',j),hm',by simp⟩
   rw[this]at hst
   cases hst
  exact en.mW i' i s' s ne hs' hs hmine' hm (by rw[ha',ha])
 intro l hl
 have zl:∀a ob,H1 a=some ob->a≠l:=fun a ob h=>cA h hl
 let M':aI:=aW M (aW L (one l))
 let O':aI:=fun a=>H1 a≠none\/ a=l
 have s0:aZ H1 (upd H1 l (.dK [] 0)):=aZ.upd hl
 have ML:∀a,(aw W a\/ L a)->aW M L a:=fun a z=>z.elim (fun⟨i,w⟩=>.inl (o.wm i a w)) .inr
 have k0:cS (aW M L) (aW M' cT) H1 (upd H1 l (.dK [] 0)):=⟨fun a xs h=>s0 _ _ h,fun a ob h n=>⟨s0 _ _ h,fun z=>by
  rcases z with(z|z|z)|z
  ·exact n (.inl z)
  ·exact n (.inr z)
  ·exact zl a ob h z
  ·exact z⟩⟩
 have okc0:∀H2,(∀a,H1 a≠none\/ a=l->H2 a≠none)->jS O' M' W' cT H2:=fun H2 d=>⟨d,fun a z=>by
   rcases z with z|z|z
   ·exact .inl (o1.old a (o1.mo a z))
   ·exact .inl (o1.loc a z).1
   ·exact .inr z,fun j a z=>by
   rcases ML a (wsub a ⟨j,z⟩).1 with z|z
   ·exact .inl z
   ·exact .inr (.inl z),fun a z=>z.elim⟩
 have lenS:(n6 k cI ms e1).length=(eY k cI σ).length:=by
  unfold n6 eY
  rw[length_append,length_append,uE,length_map,length_replicate,length_replicate]
 have en0:aP K (aW M' cT) W' cT (upd H1 l (.dK [] 0)) (eY k cI σ) (n6 k cI ms e1):=by
  have lend:∀(i:Nat) s p a,e1[i]? =some (some s)->(s= .own p\/ s= .loc p)->σ[i]? =some (some (.ref a))->gY K (aW M L) H1 a p->¬(∃j,(i,j)∈ms)->rL K (aW M' cT) W' cT (upd H1 l (.dK [] 0)) a p:=fun i s p a hs hp ha c nm=>by
   have hm:s.cX=true:=by rcases hp with rfl|rfl<;>rfl
   have nw:¬aw W' a:=fun⟨j,i',s',hm',hs',hmine',ha'⟩=>by
    have ne:i'≠i:=fun z=>nm ⟨j,z▸hm'⟩
    exact en.mW i' i s' s ne hs' hs hmine' hm (by rw[ha',ha])
   have c':=c.aH k0 fun ob h=>s0 _ _ h
   cases c' with
   |lst h r=>exact .lst (.inl h) (by obtain⟨ob,h1,_⟩:=c.there;show H1 a≠none;rw[h1];exact fun z=>nomatch z) nw (fun z=>z) r
   |a8 h kk r=>exact .a8 (.inl h) (by obtain⟨ob,h1,_⟩:=c.there;show H1 a≠none;rw[h1];exact fun z=>nomatch z) nw (fun z=>z) kk r
  have bors:∀p a,rL K (aW M L) W L H1 a p->rL K (aW M' cT) W' cT (upd H1 l (.dK [] 0)) a p:=fun p a c=>by
   cases c with
   |lst h od n m r=>exact .lst (h.elim (fun h=>.inl (s0 _ _ h)) fun⟨u,h⟩=>.inr ⟨u,s0 _ _ h⟩) (fun z=>Rd.ne h z rfl) (fun z=>(wsub a z).1.elim n m) (fun z=>z) (r.aH k0)
   |dO h r=>exact .dO h (r.aH k0)
   |a8 h od n m kk r=>exact .a8 (h.elim (fun h=>.inl (s0 _ _ h)) fun⟨u,h⟩=>.inr ⟨u,s0 _ _ h⟩) (fun z=>Rd.ne h z rfl) (fun z=>(wsub a z).1.elim n m) (fun z=>z) kk (r.aH k0)
  have row:∀(i j:Nat) s,zH e1 ms i j=some s->∃v,σ[i]? =some (some v)/\i4 K (aW M' cT) W' cT (upd H1 l (.dK [] 0)) j v s/\(s.cX=true->(i,j)∈ms/\∃s',e1[i]? =some (some s')/\s'.cX=true):=fun i j s h=>by
   unfold zH at h
   have nc:∀{p:PV},ms.contains (i,j)=true->(i,j)∈ms:=fun z=>contains_iff_mem.mp z
   cases c:e1[i]? with
   |none=>rw[c]at h;cases h
   | some s'=>
    cases s' with
    |none=>rw[c]at h;cases h
    | some s'=>
     rw[c]at h
     obtain⟨v,h1,h2⟩:=en.at' i s' c
     refine⟨v,h1,?_⟩
     cases s' with
     |val p=>cases h;exact⟨Rep.aH k0 h2,fun z=>nomatch z⟩
     |bor p=>cases h;obtain⟨a,e,c⟩:=h2;exact⟨⟨a,e,bors p a c⟩,fun z=>nomatch z⟩
     | own p=>
      obtain⟨a,e,w,ct⟩:=h2
      subst e
      dsimp only at h
      cases d:ms.contains (i,j)with
      |true=>
       rw[d,if_pos rfl]at h
       cases h
       have hm:=contains_iff_mem.mp d
       exact⟨⟨a,rfl,⟨i,_,hm,c,rfl,h1⟩,ct.aH k0 fun ob h=>s0 _ _ h⟩,fun _=>⟨hm,_,rfl,rfl⟩⟩
      | false=>
       rw[d,if_neg Bool.false_ne_true]at h
       cases d2:ms.any (fun z=>z.1==i)with
       |true=>rw[d2,if_pos rfl]at h;cases h
       |false=>
        rw[d2,if_neg Bool.false_ne_true]at h
        cases h
        refine⟨⟨a,rfl,lend i _ p a c (.inl rfl) h1 ct fun⟨j',hm'⟩=>?_⟩,fun z=>nomatch z⟩
        have:(ms.any fun z=>z.1==i)=true:=any_eq_true.mpr ⟨(i,j'),hm',by simp⟩
        rw[d2]at this
        cases this
     | loc p=>
      obtain⟨a,e,w,ct⟩:=h2
      subst e
      dsimp only at h
      cases d:ms.contains (i,j)with
      |true=>
       rw[d,if_pos rfl]at h
       cases h
       have hm:=contains_iff_mem.mp d
       exact⟨⟨a,rfl,⟨i,_,hm,c,rfl,h1⟩,ct.aH k0 fun ob h=>s0 _ _ h⟩,fun _=>⟨hm,_,rfl,rfl⟩⟩
      | false=>
       rw[d,if_neg Bool.false_ne_true]at h
       cases d2:ms.any (fun z=>z.1==i)with
       |true=>rw[d2,if_pos rfl]at h;cases h
       |false=>
        rw[d2,if_neg Bool.false_ne_true]at h
        cases h
        refine⟨⟨a,rfl,lend i _ p a c (.inr rfl) h1 ct fun⟨j',hm'⟩=>?_⟩,fun z=>nomatch z⟩
        have:(ms.any fun z=>z.1==i)=true:=any_eq_true.mpr ⟨(i,j'),hm',by simp⟩
        rw[d2]at this
        cases this
  refine⟨lenS,fun j s hj=>?_,fun j1 j2 s t hn h1 h2 m1 m2=>?_⟩
  ·obtain⟨q,i,rfl,hc,hs⟩:=j0 hj
   obtain⟨v,h1,h2,_⟩:=row i _ s hs
   exact⟨v,j5 hc h1,h2⟩
  ·obtain⟨q1,i1,rfl,c1,hs1⟩:=j0 h1
   obtain⟨q2,i2,rfl,c2,hs2⟩:=j0 h2
   obtain⟨v1,a1,_,b1⟩:=row i1 _ s hs1
   obtain⟨v2,a2,_,b2⟩:=row i2 _ t hs2
   obtain⟨w1,s1,d1,n1⟩:=b1 m1
   obtain⟨w2,s2,d2,n2⟩:=b2 m2
   rw[j5 c1 a1,j5 c2 a2]
   have ne:i1≠i2:=fun z=>by subst z;exact hn (hms _ _ _ w1 w2)
   have:=en.mW i1 i2 s1 s2 ne d1 d2 n1 n2
   rw[a1,a2]at this
   exact this
 have dl:∀a xs,H1 a=some (.tup xs)->a≠l:=fun a xs h=>zl a _ h
 let N:Nat->St->Hp->Prop:=fun i σ' H'=>∃ei' acc vs,bX W' (one l) (upd H1 l (.dK [] 0)) H'/\tK H' l vs/\dU K (aW M' cT) H' acc vs/\aP K (aW M' cT) W' cT H' σ' ei'/\acc.length<=i/\
  kN fg ft fk fe (items.drop i) ei' acc=some (ys,ei)
 have k0':∀H',bX W' (one l) (upd H1 l (.dK [] 0)) H'->∀a,H1 a≠none\/ a=l->H' a≠none:=fun H' kk a z=>kk.cC a (by
  rcases z with z|z
  ·cases e:H1 a with
   |none=>exact absurd e z
   |some u=>rw[s0 _ _ e];exact fun z=>nomatch z
  ·rw[z,aU];exact fun z=>nomatch z)
 refine⟨fun i m σ' H'=>m=items.length - i/\i<=items.length/\N i σ' H',⟨items.length,by simp,zero_le _,n6 k cI ms e1,[],[],.refl,⟨0,aU⟩,⟨rfl,.nil⟩,en0,le_refl _,by rw[drop_zero];exact f2⟩,?_⟩
 rintro i m σ2 H2 ⟨rfl,hil,ei2,acc,vs,kk,hl2,ra,en2,hacc,f4⟩
 have oki:=okc0 H2 (k0' H2 kk)
 obtain⟨itm,its⟩:=it (aW L (one l)) H2 (fun a ob h n=>kk.obj a ob (s0 _ _ h) n (zl a ob h)) (fun a xs h=>kk.tup a xs (s0 _ _ h)) (fun a z=>z.elim .inl fun z=>.inr (by rw[show a=l from z];exact hl))
 by_cases hlt:i<items.length
 ·refine .inr ?_
  obtain⟨go,yl⟩:=itm i items[i] (by simp[hlt])
  refine⟨go,N (i+1),fun σ' H' n=>⟨items.length - (i+1),by omega,rfl,hlt,n⟩,fun x H3 y=>?_⟩
  obtain⟨s3,rp⟩:=yl x H3 y
  rw[drop_eq_getElem_cons hlt]at f4
  obtain⟨e4,c1,f4⟩:=aF f4
  have oki3:=oki.keep (H':=H3) (bX.same (W:=W') (L:=cT) s3).cC
  have rp':Rep K (aW M' cT) H3 items[i] x:=rp.aH (.less fun a z=>z.elim id fun z=>z.elim)
  refine hg O' M' W' cT σ2 H3 ei2 e4 _ x _ oki3 (en2.same s3) rp' c1 fun σ3 en3=>?_
  obtain⟨b,e5,c2,f4⟩:=aM f4
  refine ht O' M' W' cT σ3 H3 e4 e5 b _ oki3 en3 c2 fun H4 k4 en4=>?_
  have oki4:=oki3.keep k4.cC
  have nlw:¬aw W' l:=fun z=>by obtain⟨_,ob,h,_⟩:=wsub l z;rw[hl]at h;cases h
  have kL:∀{A B:Hp},bX W' cT A B->bX W' (one l) A B:=fun k=>⟨fun a ob h n m=>k.obj a ob h n fun z=>z,k.tup,k.cC⟩
  have st:∀{A B:Hp},bX W' cT A B->jS O' M' W' cT A->cS (aW M' cT) (aW M' cT) A B:=fun k ok=>k.aH ok
  have k34:bX W' cT H2 H4:=(bX.same s3).trans k4
  cases b with
  |false=>
   rw[if_neg Bool.false_ne_true]
   exact⟨e5,acc,vs,kk.trans (kL k34),(let⟨ep,e⟩:=hl2;⟨ep,k34.obj l _ e nlw (fun z=>z)⟩),⟨ra.1,ra.2.aH (st k34 oki)⟩,en4,le_succ_of_le hacc,f4⟩
  | true=>
   rw[if_pos rfl]
   obtain⟨kb,e6,ck,f4⟩:=aM f4
   obtain⟨rv,e7,c3,f4⟩:=aM f4
   obtain⟨kp,cg,f4⟩:=aF f4
   obtain⟨key,cy,f4⟩:=aF f4
   obtain⟨p,c4,f4⟩:=aF f4
   refine hk O' M' W' cT σ3 H4 e5 e6 kb _ oki4 en4 ck fun kv H4' k4' rk frk=>?_
   have oki4':=oki4.keep k4'.cC
   refine he O' M' W' cT σ3 H4' e6 e7 rv _ oki4' (rk.en oki4') c3 fun v H5 k5 rb fr=>?_
   have oki5:=oki4'.keep k5.cC
   obtain⟨en5,rp5⟩:=rb.put oki5 c4
   have ek:kv=kV key:=(((rk.rv oki4').keep oki4' k5).red en5 cg).key cy
   have k35:bX W' cT H2 H5:=(k34.trans k4').trans k5
   obtain⟨ep0,hl20⟩:=hl2
   have hl5:=k35.obj l _ hl20 nlw (fun z=>z)
   have ra5:dU K (aW M' cT) H5 acc vs:=⟨ra.1,ra.2.aH (st k35 oki)⟩
   have lv:vs.length=acc.length:=by have:=congrArg List.length ra.1;rw[length_map,length_map]at this;exact this
   refine⟨vs,key,⟨_,hl5⟩,ek,by rw[sizeLine_eq];omega,fun ep=>?_⟩
   have stw:cS (aW M' cT) (aW M' cT) H5 (upd H5 l (.dK (putK vs key v) ep)):=.write (.inl (.inr (.inr rfl))) hl5 fun _ z=>nomatch z
   have kw:bX W' (one l) H5 (upd H5 l (.dK (putK vs key v) ep)):=.write (.inr rfl) hl5 fun _ z=>nomatch z
   have lp:(eR acc key p).length<=acc.length+1:=by
    unfold eR
    split
    ·rw[length_map];omega
    ·rw[length_append];exact le_refl _
   refine⟨e7,eR acc key p,putK vs key v,(kk.trans (kL k35)).trans kw,⟨ep,aU⟩,dU.put key ⟨ra5.1,ra5.2.aH stw⟩ (rp5.aH stw),?_,by omega,f4⟩
   refine⟨en5.len,fun j s hj=>?_,en5.mW⟩
   obtain⟨u,g1,g2⟩:=en5.at' j s hj
   refine⟨u,g1,?_⟩
   cases s with
   |val p=>exact Rep.aH stw g2
   |own p=>
    obtain⟨a,e,w,c⟩:=g2
    exact⟨a,e,w,c.aH stw fun ob h=>by rw[aS (fun z:a=l=>nlw (by rw[<-z];exact⟨j,w⟩))];exact h⟩
   |loc p=>obtain⟨a,e,w,c⟩:=g2;exact w.elim
   |bor p=>
    obtain⟨a,e,c⟩:=g2
    refine⟨a,e,?_⟩
    have ne:W'.old a->a≠l:=fun od z=>od (by rw[z];exact hl)
    cases c with
    |lst h od n m r=>exact .lst (h.elim (fun h=>.inl (by rw[aS (ne od)];exact h)) fun⟨u,h⟩=>.inr ⟨u,by rw[aS (ne od)];exact h⟩) od n m (r.aH stw)
    |dO h r=>exact .dO h (r.aH stw)
    |a8 h od n m kk r=>exact .a8 (h.elim (fun h=>.inl (by rw[aS (ne od)];exact h)) fun⟨u,h⟩=>.inr ⟨u,by rw[aS (ne od)];exact h⟩) od n m kk (r.aH stw)
 ·have e:i=items.length:=by omega
  subst e
  rw[drop_length]at f4
  cases f4
  have kout:bX W L H1 H2:=⟨fun a ob h n m=>kk.obj a ob (s0 _ _ h) (fun z=>(wsub a z).1.elim n m) (zl a ob h),fun a xs h=>kk.tup a xs (s0 _ _ h),fun a h=>k0' H2 kk a (.inl h)⟩
  have kf:cS (aW M L) (aW M (aW L (one l))) H1 H2:=⟨kout.tup,fun a ob h n=>⟨kk.obj a ob (s0 _ _ h) (fun z=>n (ML a (wsub a z).1)) (zl a ob h),fun z=>by
   rcases z with z|z|z
   ·exact n (.inl z)
   ·exact n (.inr z)
   ·exact zl a ob h z⟩⟩
  have pend:x8 K (aW M (aW L (one l))) W (aW L (one l)) H2 σ (fun i=>∃j,(i,j)∈ms) e1:=by
   refine⟨en.len,fun i s hs=>?_,en.mW⟩
   obtain⟨v,h1,h2⟩:=en.at' i s hs
   have keepM:∀a,s.cX=true->¬(∃j,(i,j)∈ms)->v= .ref a->∀ob,H1 a=some ob->H2 a=some ob:=fun a hm nt ev ob h=>by
    subst ev
    refine kk.obj a ob (s0 _ _ h) (fun⟨j,i',s',hm',hs',hmine',ha'⟩=>?_) (zl a ob h)
    have ne:i'≠i:=fun z=>nt ⟨j,z▸hm'⟩
    exact en.mW i' i s' s ne hs' hs hmine' hm (by rw[ha',h1])
   refine⟨v,h1,fun z=>?_,fun hm=>?_⟩
   ·cases s with
    |val p=>exact Rep.aH kf h2
    |own p=>
     obtain⟨a,e,w,c⟩:=h2
     exact⟨a,e,w,c.aH kf fun ob h=>keepM a rfl (z.elim id fun z=>nomatch z) e ob h⟩
    |loc p=>
     obtain⟨a,e,w,c⟩:=h2
     exact⟨a,e,.inl w,c.aH kf fun ob h=>keepM a rfl (z.elim id fun z=>nomatch z) e ob h⟩
    |bor p=>
     obtain⟨a,e,c⟩:=h2
     refine⟨a,e,?_⟩
     cases c with
     |lst h od n m r=>exact .lst (h.elim (fun h=>.inl (kout.obj _ _ h n m)) fun⟨u,h⟩=>.inr ⟨u,kout.obj _ _ h n m⟩) od n (fun z=>z.elim m (Rd.ne h hl)) (r.aH kf)
     |dO h r=>exact .dO h (r.aH kf)
     |a8 h od n m kk r=>exact .a8 (h.elim (fun h=>.inl (kout.obj _ _ h n m)) fun⟨u,h⟩=>.inr ⟨u,kout.obj _ _ h n m⟩) od n (fun z=>z.elim m (Rd.ne h hl)) kk (r.aH kf)
   ·cases s with
    |val p=>cases hm
    |bor p=>cases hm
    |own p=>obtain⟨a,e,w,c⟩:=h2;exact⟨a,e,.inl ⟨p,rfl,w⟩⟩
    |loc p=>obtain⟨a,e,w,c⟩:=h2;exact⟨a,e,.inr ⟨p,rfl,.inl w⟩⟩
  have enf:aP K (aW M (aW L (one l))) W (aW L (one l)) H2 σ e':=l4 pend (fun i j p a hm hp ha=>by
   rcases bQ hp with g|g
   ·obtain⟨v,h1,a',rfl,⟨i',s',hm',_,_,ha'⟩,c⟩:=en2.at' j _ g
    have ei:=hms2 i i' j hm hm'
    subst ei
    rw[ha]at ha'
    cases ha'
    exact c.aH (.less fun a z=>.inl z) fun _ h=>h
   ·obtain⟨v,h1,a',rfl,w,c⟩:=en2.at' j _ g
    exact w.elim) f3
  refine .inl ⟨its,q _ _ (k1.trans kout) ⟨l,rfl,fun z=>o1.old l z hl,fun z=>(o1.loc l z).1 hl,enf,fun i s hs hm e=>?_,.a8 hl2.choose_spec ra.1 (ra.2.aH (.less fun a z=>.inl z))⟩ (Fr.back (b:=.new (.a8 _)) k1.cC fun a e=>by cases e;exact hl)⟩
  obtain⟨s',hs',hm'⟩:=k6 f3 i s hs hm
  obtain⟨_,ob,h,_⟩:=whose i s' l hs' hm' e
  rw[hl]at h
  cases h
theorem CP {g:TG} (ms:List (Nat×Nat)) (hms:(ms.all fun z=>ms.all fun z'=>(z.1==z'.1)==(z.2==z'.2))=true) (hi:uB K wi fi) (hg:yS K g fg) (ht:jY K tt ft) (hk:Ref K tk fk) (he:Ref K te fe):Ref K (xY wi k cI g tt tk te) (jQ fi k cI ms fg ft fk fe):=by
 have key:∀z∈ms,∀z'∈ms,(z.1==z'.1)=(z.2==z'.2):=fun z hz z' hz'=>by
  have:=all_eq_true.mp (all_eq_true.mp hms z hz) z' hz'
  simpa using this
 refine HA ms (fun i j1 j2 h1 h2=>?_) (fun i1 i2 j h1 h2=>?_) hi hg ht hk he
 ·have:=key _ h1 _ h2
  simpa using this
 ·have:=key _ h1 _ h2
  simpa using this
end
theorem kE {fk fe:FE} (I:Nat->List (Key×PV)->En->Prop) {Q:List (Key×PV)×En->Prop} {xs:List PV}
  (hs:∀(i:Nat) x e d,xs[i]? =some x->I i d e->Wp (fg x e) fun e1=>Wp (ft e1) fun z=>match z.1 with|false=>I (i+1) d z.2|true=>Wp (fk z.2) fun kb=>Wp (fe kb.2) fun w=>Wp (kb.1.weak.get w.2) fun kp=>Wp (keyOf kp) fun k=>Wp w.1.put fun p=>I (i+1) (eR d k p) w.2)
  (hd:∀d e,I xs.length d e->Q (d,e)) {e:En} {d:List (Key×PV)} (h0:I 0 d e):Wp (kN fg ft fk fe xs e d) Q:=by
 have key:∀(ys:List PV) (i:Nat) (e:En) (d:List (Key×PV)),i<=xs.length->xs.drop i=ys->I i d e->Wp (kN fg ft fk fe ys e d) Q:=by
  intro ys
  induction ys with
  | nil=>
   intro i e d hil hy hi
   unfold kN
   rw[bW]
   have hl:xs.length<=i:=by
    have:=congrArg List.length hy
    rw[length_drop]at this
    simp at this
    omega
   have h:i=xs.length:=by omega
   subst h
   exact hd d e hi
  | cons x ys ih=>
   intro i e d hil hy hi
   have hlt:i<xs.length:=by
    have:=congrArg List.length hy
    rw[length_drop,length_cons]at this
    omega
   rw[drop_eq_getElem_cons hlt]at hy
   have hx:xs[i]? =some x:=by rw[getElem?_eq_getElem hlt,(List.cons.inj hy).1]
   obtain⟨e1,g1,⟨b,e2⟩,g2,h⟩:=hs i x e d hx hi
   unfold kN
   rw[g1,rS,g2,CH]
   cases b with
   |false=>exact ih (i+1) e2 d hlt (List.cons.inj hy).2 h
   |true=>
    obtain⟨⟨kb,e3⟩,g3,⟨r,e4⟩,g4,kp,g5,k,g6,p,g7,h⟩:=h
    dsimp only at g3 g4 g5 g6 g7 h⊢
    rw[g3,CH,g4,CH,g5,rS,g6,rS,g7,rS]
    exact ih (i+1) e4 _ hlt (List.cons.inj hy).2 h
 exact key xs 0 e d (zero_le _) rfl h0
theorem GS {ms:List (Nat×Nat)} {e:En} {Q:Bv×En->Prop}:
  Wp (jQ fi k cI ms fg ft fk fe e) Q↔Wp (fi (fun i=>!(ms.any fun z=>z.1==i)) e) fun z=>z.1.length<1000000/\Wp (kN fg ft fk fe z.1 (n6 k cI ms z.2) []) fun w=>Wp (nA w.2 ms z.2) fun e2=>Q (.new (.a8 w.1),e2):=by
 unfold jQ
 constructor
 ·intro h
  obtain⟨z,h1,h⟩:=j7.mp h
  obtain⟨g,h⟩:=eB.mp h
  obtain⟨w,h2,h⟩:=j7.mp h
  obtain⟨e2,h3,h⟩:=kD.mp h
  exact⟨z,h1,of_decide_eq_true g,w,h2,e2,h3,bW.mp h⟩
 ·rintro⟨z,h1,g,w,h2,e2,h3,q⟩
  exact j7.mpr ⟨z,h1,eB.mpr ⟨decide_eq_true g,j7.mpr ⟨w,h2,kD.mpr ⟨e2,h3,bW.mpr q⟩⟩⟩⟩
end Mr
namespace L2
open PySem PyProof.Rows
section
variable {X:Cx}
noncomputable def yO (K:Frag):V->List V->Hp->VK->Prop:=fun x vs H Q=>∃(l:Addr) (zs:List Str) (y:Str),x= .ref l/\vs=[.str y]/\iB K H l (zs.map V.str)/\y∈zs/\zs.length<1000000/\Q (.int (zs.idxOf y:Nat)) H
theorem nP (k:Str):∀{vs:List Value} {ys:List Str},StrsAre vs ys->∀(j:Nat) (h1:j<vs.length) (h2:j<ys.length),isStrOf k vs[j]=(ys[j]==k)
 |_,_,.cons n t h,0,_,_=>rfl
 |_,_,.cons n t h,j+1,h1,h2=>nP k h j (by simpa using h1) (by simpa using h2)
theorem A6:∀{vs:List Value} {ys:List Str},StrsAre vs ys->vs.length=ys.length
 |_,_,.nil=>rfl
 |_,_,.cons n t h=>by rw[length_cons,length_cons,A6 h]
theorem vY (K:Frag) (hK:X.K=K:=by rfl):MtR X "list.index" (yO K):=by
 subst hK
 intro pins s σ H x vs v us Q I rx rv h
 obtain⟨l,zs,y,rfl,rfl,hq,hy,hz,q⟩:=h
 cases rx
 obtain⟨u,rfl,t,rfl⟩:=vals1 rv
 obtain⟨its,r,pl,_⟩:=I.list hq
 have hi:StrsAre its zs:=sF r
 have hl:=pl.isList
 obtain⟨⟨cls,dd,data,sl⟩,ho,hc,n,hd⟩:=id hl
 simp only at hc hd
 subst hc hd
 have hlen:=A6 hi
 have hj:zs.idxOf y<zs.length:=List.idxOf_lt_length_iff.mpr hy
 refine call_meets slot_list_index ⟨_,ho,rfl⟩ PySem.F.entry_list_index (PySem.F.args_list_index_2 _ _)
  (SeqAt.list_indexAt l its.toArray n dd sl (.str y t) (isStrOf y) (zs.idxOf y) (by simpa [hlen]using hj) (by omega) ?_ ?_) ⟨ho,fun w hw=>(eq_isStrOf y t hi w (by simpa using hw)).at _ _,⟨.int (zs.idxOf y:Nat),H,I.tok _,⟨_,rfl⟩,q⟩⟩
 ·show isStrOf y its[zs.idxOf y]=true
  rw[nP y hi _ (by omega) hj]
  simpa using List.getElem_idxOf hj
 ·intro j hjs hlt
  show isStrOf y its[j]=false
  rw[nP y hi j (by simpa using hjs) (by omega)]
  have:=List.not_of_lt_findIdx (p:=(·==y)) (xs:=zs) (i:=j) hlt
  simpa using this
end
end L2
namespace Mr
open PySem L2
section
variable {K:Frag}
noncomputable def mS:PV->List PV->Option Bv
 | .lst ps,[.str y]=>bO (l9 ps) fun zs=>aQ (decide (y∈zs) && decide (zs.length<1000000)) (some (.val (.int (zs.idxOf y:Nat))))
 |_,_=>none
theorem IV:Y0 K (yO K) mS:=by
 intro Z H x vs p ps b Q hp hps h k
 unfold mS at h
 split at h
 ·obtain⟨zs,g,h⟩:=aF h
  obtain⟨c,h⟩:=aL h
  cases h
  rw[and_eq_true]at c
  obtain⟨v,rfl,hv⟩:=hps.one
  obtain⟨a,ys,rfl,ha,ra⟩:=hp.lZ
  rw[o7 g]at ra
  rw[ra.strs]at ha
  exact⟨a,zs,_,rfl,by rw[hv.str],ha.sq,of_decide_eq_true c.1,of_decide_eq_true c.2,k _ H (aZ.refl _) (Rep.int _)⟩
 ·cases h
end
end Mr
namespace Mr
open PySem PySem.Spec L2
noncomputable def Z4 (gt:PV->PV->Option Bool):List PV->List PV->Option Bool
 |[],[]=>some false
 |[],_::_=>some false
 |_::_,[]=>some true
 |x::xs,y::ys=>if bK x y=true then Z4 gt xs ys else gt x y
noncomputable def gtP:Nat->PV->PV->Option Bool
 |_,.str a,.str b=>some (decide (b.cps.toList<a.cps.toList))
 |_,.int a,.int b=>some (decide (b<a))
 |n+1,.tup xs,.tup ys=>Z4 (gtP n) xs ys
 |_,_,_=>none
section
variable {K:Frag}
noncomputable def ab6:PV->PV->Option Bv:=fun p q=>aQ (gD 3 p && gD 3 q) (bO (gtP 3 p q) fun b=>some (.val (.bl b)))
noncomputable def adH:PV->PV->Option Bv:=fun p q=>(ZI p q).or (ab6 p q)
end
end Mr
namespace Mr
open PySem L2
section
variable {K:Frag}
noncomputable def ab0 (n:Nat) (f:F4):FG:=fun p e=>match p with
 | .tup ps=>aQ (decide (ps.length=n)) (f ps e)
 | .lst ps=>aQ (decide (ps.length=n)) (f ps e)
 |_=>none
theorem QK {n:Nat} {f:F4} {p:PV} {e:En}:ab0 n f p e=match p with
 | .tup ps=>aQ (decide (ps.length=n)) (f ps e)
 | .lst ps=>aQ (decide (ps.length=n)) (f ps e)
 |_=>none:=rfl
end
end Mr
namespace L2
open PySem PySem.Spec PyProof.Rows
variable {l tg:Expr} {elts:List Expr} {P:Program} {K:Frag} {tl:TE} {w:World}
theorem Paired.WC {α β:Type} {F:α->β->Prop}:∀{l:List α} {m:List β} {i:Nat} {x:α},Paired F l m->l[i]? =some x->∃y,m[i]? =some y/\F x y
 |_,_,_,_,.nil,h=>by simp at h
 |_,_,0,_,.cons h _,e=>by simp at e;subst e;exact⟨_,rfl,h⟩
 |_,_,i+1,_,.cons _ r,e=>by
  obtain⟨y,h1,h2⟩:=Paired.WC (i:=i) r (by simpa using e)
  exact⟨y,by simpa using h1,h2⟩
theorem M8 {k:Key} {v:Value} (e:lW k v=true):RelV (kV k) v:=by
 rcases cD e with⟨i,t,rfl,rfl⟩|⟨x,t,rfl,rfl⟩
 ·exact⟨t,rfl⟩
 ·exact⟨t,rfl⟩
noncomputable def Itk (a:Addr) (kvs:List (Key×V)) (ep:Nat):It:=
 ⟨fun i H=>Rd H a (.dK kvs ep)/\i<kvs.length,fun i H x H'=>H'=H/\∀kv,kvs[i]? =some kv->x=kV kv.1,fun i H=>Rd H a (.dK kvs ep)/\i=kvs.length⟩
theorem HV (a it:Addr) (kvs:List (Key×V)) (ep:Nat):Turn P w K tg (Itk a kvs ep) [it] it (fun i h=>h.IsKeyIter it a i kvs.length ep)where
 mem:=by simp
 obj:=fun i h st b hb=>by
  have e:b=it:=by simpa using hb
  subst e
  obtain⟨o,e,c,d⟩:=st
  exact⟨o,e,fun v z=>by rw[d]at z;cases z⟩
 keep:=fun i h h' st k=>st.at fun o e=>k it (by simp) o e
 item:=by
  intro X hP hw hK hc i pins s σ H E I hf st hg
  subst hP hw hK
  obtain⟨hr,hi⟩:=hg
  obtain⟨_,_,vs,rel,dd⟩:=tO I.bP hr
  have hl:kvs.length=vs.length:=Paired.length rel
  obtain⟨q,hq,rq⟩:=Paired.WC rel (getElem?_eq_getElem hi)
  rw[hl]at st
  obtain⟨f0,f1,f2,f3,f4,f5⟩:=hf it (by simp)
  refine wpAny_pyNext_dict_item st dd (k:=q.1) (v:=q.2) hq fun key h' hk st' sb=>?_
  have I1:Inv X pins σ H {s with heap:=h'}:=I.turned (t':=s.toks) (fun b o hb e=>(sb.2 b hb).trans e) f0 f1 f3 f4 f5
  obtain⟨o,e,c,d⟩:=id st'
  rw[<-hl]at st'
  refine⟨key,rfl,wX (s:={s with heap:=h'}) e c d (by decide) ⟨kV q.1,H,I1,M8 hk,⟨rfl,fun kv hkv=>?_⟩,st',fun b hb=>(hf b hb).1⟩⟩
  rw[getElem?_eq_getElem hi]at hkv
  cases hkv
  rw[rq.1]
 done:=by
  intro X hP hw hK hc i pins s σ H E I hf st hg
  subst hP hw hK
  obtain⟨hr,hi⟩:=hg
  obtain⟨_,_,vs,rel,dd⟩:=tO I.bP hr
  have hl:kvs.length=vs.length:=Paired.length rel
  rw[hl]at st
  obtain⟨f0,f1,f2,f3,f4,f5⟩:=hf it (by simp)
  exact wpAny_pyNext_dict_end (I.ok.hd hc) st dd (List.getElem?_eq_none_iff.mpr (by omega)) fun h' eb=>⟨rfl,I.turned (t':=s.toks) (fun b o hb e=>eb b o hb e) f0 f1 f3 f4 f5⟩
 self:=fun _ _ _ _ _ st h=>wpAny_pyIter_keyiter st h
noncomputable def Iti (a:Addr) (kvs:List (Key×V)) (ep:Nat):It:=
 ⟨fun i H=>Rd H a (.dK kvs ep)/\i<kvs.length,fun i H v H'=>∃t,H t=none/\v= .ref t/\∀kv,kvs[i]? =some kv->H'=upd H t (.tup [kV kv.1,kv.2]),fun i H=>Rd H a (.dK kvs ep)/\i=kvs.length⟩
theorem DO {x1} {pos:Pos} (a it:Addr) (kvs:List (Key×V)) (ep:Nat):Turn P w K (.Tuple elts x1 pos) (Iti a kvs ep) [it] it (fun i h=>∃ok ov,IsItemIter h it a i kvs.length ep ok ov)where
 mem:=by simp
 obj:=fun i h st b hb=>by
  have e:b=it:=by simpa using hb
  subst e
  obtain⟨_,_,e⟩:=st
  exact⟨_,e,fun v z=>by cases z⟩
 keep:=fun i h h' st k=>let⟨ok,ov,e⟩:=st;⟨ok,ov,k it (by simp) _ e⟩
 item:=by
  intro X hP hw hK hc i pins s σ H E I hf st hg
  subst hP hw hK
  obtain⟨hr,hi⟩:=hg
  obtain⟨ok,ov,st⟩:=st
  obtain⟨_,_,vs,rel,dd⟩:=tO I.bP hr
  have hl:kvs.length=vs.length:=Paired.length rel
  obtain⟨q,hq,rq⟩:=Paired.WC rel (getElem?_eq_getElem hi)
  rw[hl]at st
  refine wpAny_pyNext_items_item st dd (k:=q.1) (v:=q.2) hq fun key h' hk ho' htup hsz hkp=>?_
  refine⟨_,rfl,wpAny_letOwnedTupleGo_items (s:={s with heap:=h'}) ho' fun h2 he2 sb=>?_⟩
  have hT:s.heap.objs.size≠it:=fun z=>by
   have:=lt_size st;rw[<-z]at this;exact lt_irrefl _ this
  have hk2:∀b o,b∉[it]->s.heap.get? b=some o->h2.get? b=some o:=fun b o hb q=>
   sb.extBut b o (fun z=>hb (by simp[z])) (hkp b o (fun z=>hb (by simp[z])) q)
  have hfr:H s.heap.objs.size=none:=I.bP.fresh (le_refl _)
  have htup2:h2.get? s.heap.objs.size=some {cls:=.type "tuple",data:=.seq #[key,q.2]}:=sb.extBut _ _ hT htup
  have I2:Inv X pins σ (upd H s.heap.objs.size (.tup [kV q.1,kvs[i].2])) {s with heap:=h2,toks:=s.toks}:=by
   refine I.un2 hk2 hf hfr (by simp[hT]) ⟨by show 2<=sizeLine;decide,[key,q.2],.cons (M8 hk) (.cons rq.2 .nil),pG.of htup2⟩ (fun b hb o q=>?_)
   have r:b=it:=by simpa using hb
   subst r;exact⟨_,he2⟩
  refine⟨.ref s.heap.objs.size,_,I2,rfl,⟨s.heap.objs.size,hfr,rfl,fun kv hkv=>?_⟩,⟨_,_,by rw[hl];exact he2⟩,fun b hb=>?_⟩
  ·rw[getElem?_eq_getElem hi]at hkv
   cases hkv
   rw[rq.1]
  ·have r:b=it:=by simpa using hb
   rw[aS (by rw[r];exact Ne.symm hT)]
   exact(hf b hb).1
 done:=by
  intro X hP hw hK hc i pins s σ H E I hf st hg
  subst hP hw hK
  obtain⟨hr,hi⟩:=hg
  obtain⟨ok,ov,st⟩:=st
  obtain⟨_,_,vs,rel,dd⟩:=tO I.bP hr
  have hl:kvs.length=vs.length:=Paired.length rel
  rw[hl]at st
  obtain⟨f0,f1,f2,f3,f4,f5⟩:=hf it (by simp)
  exact wpAny_pyNext_items_end (I.ok.hd hc) st dd (List.getElem?_eq_none_iff.mpr (by omega)) fun h' eb=>⟨rfl,I.turned (t':=s.toks) (fun b o hb e=>eb b o hb e) f0 f1 f3 f4 f5⟩
 self:=fun _ _ _ _ _ st h=>by
  obtain⟨_,_,e⟩:=st
  exact PySem.W.kcp_self e h
section
variable {X:Cx}
noncomputable def T3 (tl:TE):TI:=fun σ H R=>tl σ H fun x H1=>∃a kvs ep,x= .ref a/\Rd H1 a (.dK kvs ep)/\R (Itk a kvs ep) H1
theorem xX (hl:PE X l tl):PI X tg l (T3 tl):=by
 intro pins s σ H R I h
 refine cP (hl pins s σ H _ I h) fun v s1 ⟨x,H1,I1,r1,a,kvs,ep,e,hr,q⟩=>?_
 subst e
 cases r1
 obtain⟨_,hd,vs,rel,dd⟩:=tO I1.bP hr
 refine wpAny_pyIter_dict hd dd ?_
 refine⟨s1.heap.objs.size,[s1.heap.objs.size],_,_,H1,rfl,I1.kept (t':=s1.toks) fun b o e=>get?_push_of_some _ e,HV a _ kvs ep,⟨_,get?_push_size _ rfl,rfl,by rw[show kvs.length=vs.length from Paired.length rel];rfl⟩,fun b hb=>?_,q⟩
 have e:b=s1.heap.objs.size:=by simpa using hb
 subst e
 exact I1.qG (le_refl _) (I1.bP.fresh (le_refl _))
noncomputable def LL (te:TE):TI:=fun σ H R=>te σ H fun x H1=>∃v a kvs ep,x= .ref v/\H1 v=some (OQ v a)/\Rd H1 a (.dK kvs ep)/\R (Iti a kvs ep) H1
theorem ME {x1} {tpos:Pos} (hl:PE X l tl):PI X (.Tuple elts x1 tpos) l (LL tl):=by
 intro pins s σ H R I h
 refine cP (hl pins s σ H _ I h) fun v s1 ⟨x,H1,I1,r1,vw,a,kvs,ep,e,hv,hr,q⟩=>?_
 subst e
 cases r1
 obtain⟨_,hd,vs,rel,dd⟩:=tO I1.bP hr
 have vi:s1.heap.IsItemsView vw a:=(show dI X.prog X.w H1 s1.heap vw (OQ vw a)from I1.bP vw _ hv).1
 refine wpAny_pyIter_items vi dd ?_
 refine⟨s1.heap.objs.size,[s1.heap.objs.size],_,_,H1,rfl,I1.kept (t':=s1.toks) fun b o e=>get?_push_of_some _ e,DO a _ kvs ep,⟨.none,.none,by rw[show kvs.length=vs.length from Paired.length rel];exact get?_push_size _ rfl⟩,fun b hb=>?_,q⟩
 have e:b=s1.heap.objs.size:=by simpa using hb
 subst e
 exact I1.qG (le_refl _) (I1.bP.fresh (le_refl _))
end
end L2
namespace Mr
open PySem PySem.Spec L2 PyProof.Rows
variable {f:FE} {H:Hp} {kvs:List (Key×PV)} {t:TE} {Z:aI}
section
variable {K:Frag}
noncomputable def AL:PV->Option (List (Key×PV))
 | .a8 kvs=>some kvs
 |_=>none
theorem mM {p:PV} (h:AL p=some kvs):p= .a8 kvs:=by
 cases p with
 |a8 k=>cases h;rfl
 |_=>cases h
noncomputable def vI (f:FE) (st:Nat->Bool) (e:En):Option (List (Key×PV)×En):=bE (f e) fun b e1=>match b with
 | .slot i=>match e1[i]? with
  |some (some (.bor p))=>bO (AL p) fun ps=>some (ps,e1)
  |some (some (.own p))=>aQ (st i) (bO (AL p) fun ps=>some (ps,e1))
  |some (some (.loc p))=>aQ (st i) (bO (AL p) fun ps=>some (ps,e1))
  |_=>none
 | .val p=>bO (AL p) fun ps=>some (ps,e1)
 | .new p=>bO (AL p) fun ps=>some (ps,e1)
theorem BG (h:Ref K t f) {st:Nat->Bool} {O M L:aI} {W:WS} {σ:L2.St} {e e':En} {Q:VK} (o:jS O M W L H) (he:aP K (aW M L) W L H σ e) (hf:vI f st e=some (kvs,e'))
  (q:∀a ys ep H1,bX W L H H1->aP K (aW M L) W L H1 σ e'->Rd H1 a (.dK ys ep)->dU K (aW M L) H1 kvs ys->
   (∀Wr:aI,(∀a,Wr a->aw W a\/ L a)->(∀(i:Nat) a s,st i=true->e'[i]? =some (some s)->s.cX=true->σ[i]? =some (some (.ref a))->¬Wr a)->¬Wr a)->Q (.ref a) H1):t σ H Q:=by
 obtain⟨x,e1,f1,hf⟩:=aM hf
 refine h O M W L σ H e e1 x _ o he f1 fun v H1 k1 rb fr=>?_
 have o1:=o.keep k1.cC
 have en:=rb.en o1
 have vals:∀p,Rep K (aW M L) H1 p v->AL p=some kvs->e1=e'->Q v H1:=fun p hp hi ee=>by
  subst ee
  have:=mM hi
  subst this
  cases hp with
  |a8 ha n ek r=>exact q _ _ _ H1 k1 en ha ⟨ek,r⟩ fun Wr hw _ z=>n ((hw _ z).elim (fun⟨i,w⟩=>.inl (o.wm i _ w)) .inr)
 cases x with
 |val p=>
  obtain⟨ps',g,hf⟩:=aF hf
  cases hf
  exact vals p rb.2 g rfl
 |new p=>
  obtain⟨ps',g,hf⟩:=aF hf
  cases hf
  exact vals p (rb.weak o1).2 g rfl
 | slot i=>
  dsimp only at hf
  cases c:e1[i]? with
  |none=>rw[c]at hf;cases hf
  | some s=>
   cases s with
   |none=>rw[c]at hf;cases hf
   | some s=>
    rw[c]at hf
    obtain⟨u,hu,sr⟩:=rb.1.at' i s c
    have:=rb.2
    rw[hu]at this
    cases this
    cases s with
    |val p=>cases hf
    |bor p=>
     obtain⟨ps',g,hf⟩:=aF hf
     cases hf
     have:=mM g
     subst this
     obtain⟨a,rfl,lt⟩:=sr
     cases lt with
     |a8 ha od n m ek r=>exact q _ _ _ H1 k1 en ha ⟨ek,r⟩ fun Wr hw _ z=>(hw _ z).elim n m
    |own p=>
     obtain⟨hst,hf⟩:=aL hf
     obtain⟨ps',g,hf⟩:=aF hf
     cases hf
     have:=mM g
     subst this
     obtain⟨a,rfl,w,ct⟩:=sr
     cases ct with
     |a8 ha ek r=>exact q _ _ _ H1 k1 en (.inl ha) ⟨ek,r⟩ fun Wr hw hs=>hs i a _ hst c rfl hu
    |loc p=>
     obtain⟨hst,hf⟩:=aL hf
     obtain⟨ps',g,hf⟩:=aF hf
     cases hf
     have:=mM g
     subst this
     obtain⟨a,rfl,w,ct⟩:=sr
     cases ct with
     |a8 ha ek r=>exact q _ _ _ H1 k1 en (.inl ha) ⟨ek,r⟩ fun Wr hw hs=>hs i a _ hst c rfl hu
theorem ER (k:Key):Rep K Z H (tU k) (kV k):=by
 cases k with
 |inl i=>exact .int i
 |inr x=>exact .str x
theorem F6 {H':Hp} {Wr:aI} {a:Addr} {u:HO} (h:Rd H a u) (k1:∀a o,H a=some o->¬Wr a->H' a=some o) (n:¬Wr a):Rd H' a u:=by
 rcases h with h|⟨o,h⟩
 ·exact .inl (k1 _ _ h n)
 ·exact .inr ⟨o,k1 _ _ h n⟩
theorem dU.at {ys:List (Key×V)} (r:dU K Z H kvs ys) {i:Nat} {z:Key×PV} (h:kvs[i]? =some z):∃y,ys[i]? =some y/\y.1=z.1/\Rep K Z H z.2 y.2:=by
 obtain⟨r1,r2⟩:=r
 obtain⟨v,hv,rv⟩:=r2.get (i:=i) (p:=z.2) (by rw[getElem?_map,h];rfl)
 rw[getElem?_map]at hv
 cases c:ys[i]? with
 |none=>rw[c]at hv;cases hv
 |some y=>
  rw[c]at hv
  cases hv
  have e:=congrArg (·[i]?) r1
  simp only[getElem?_map,c,h]at e
  exact⟨y,rfl,Option.some.inj e,rv⟩
theorem dU.len {ys:List (Key×V)} (r:dU K Z H kvs ys):kvs.length=ys.length:=by
 have:=congrArg List.length r.1
 simpa using this.symm
noncomputable def w4 (f:FE):FI:=fun st e=>bO (vI f st e) fun z=>some (z.1.map fun kv=>tU kv.1,z.2)
theorem OA (h:Ref K t f):uB K (T3 t) (w4 f):=by
 intro st O M W L σ H e e' ps R o he hf q
 obtain⟨⟨kvs,e1⟩,g1,hf⟩:=aF hf
 cases hf
 refine BG h o he g1 fun a ys ep H1 k1 en rd r nw=>⟨a,ys,ep,rfl,rd,q _ H1 k1 en fun Wr hw hs=>?_⟩
 intro L' H' c1 c2 c3
 have rd':=F6 rd c1 (nw Wr hw hs)
 refine⟨fun k p hp=>?_,rd',by rw[length_map];exact r.len⟩
 rw[getElem?_map]at hp
 cases c:kvs[k]? with
 |none=>rw[c]at hp;cases hp
 |some z=>
  rw[c]at hp
  cases hp
  obtain⟨y,hy,ey,_⟩:=r.at c
  refine⟨⟨rd',(List.getElem?_eq_some_iff.mp hy).1⟩,fun x H3 yl=>?_⟩
  obtain⟨e,yl⟩:=yl
  subst e
  rw[yl y hy,ey]
  exact⟨aZ.refl _,ER _⟩
noncomputable def EG (f:FE):FI:=fun st e=>bO (vI f st e) fun z=>some (bG z.1,z.2)
theorem HR (h:Ref K t f):uB K (LL (CO t)) (EG f):=by
 intro st O M W L σ H e e' ps R o he hf q
 obtain⟨⟨kvs,e1⟩,g1,hf⟩:=aF hf
 cases hf
 refine BG h o he g1 fun a ys ep H1 k1 en rd r nw=>⟨a,ys,rfl,⟨ep,rd⟩,fun v hv=>?_⟩
 have s1:aZ H1 (upd H1 v (OQ v a)):=aZ.upd hv
 have k2:=k1.trans (.same s1)
 have o2:=o.keep k2.cC
 refine⟨v,a,ys,ep,rfl,aU,Rd.upd rd hv,q _ _ k2 (en.same s1) fun Wr hw hs=>?_⟩
 intro L' H' c1 c2 c3
 have rd':=F6 (Rd.upd rd hv) c1 (nw Wr hw hs)
 have st:=uJ o2 hw c1 c2 c3
 have lp:(bG kvs).length=ys.length:=by unfold bG;rw[length_map];exact r.len
 refine⟨fun k p hp=>?_,rd',lp⟩
 unfold bG at hp
 rw[getElem?_map]at hp
 cases c:kvs[k]? with
 |none=>rw[c]at hp;cases hp
 |some z=>
  rw[c]at hp
  cases hp
  obtain⟨y,hy,ey,ry⟩:=r.at c
  refine⟨⟨rd',(List.getElem?_eq_some_iff.mp hy).1⟩,fun x H3 yl=>?_⟩
  obtain⟨t',ht,rfl,yl⟩:=yl
  have e3:=yl y hy
  subst e3
  have s3:=aZ.upd (o:=.tup [kV y.1,y.2]) ht
  exact⟨s3,.tup (.inl aU) (.cons (by rw[ey];exact ER _) (.cons (((ry.aH (.same s1)).aH st).aH (.same s3)) .nil))⟩
end
end Mr
namespace Mr
open PySem L2
variable {ta tb:TE}
section
variable {K:Frag}
noncomputable def oU (fa fb:FE):FE:=fun e=>bE (fa e) fun x e1=>bO (x.weak.get e1) fun p1=>match p1 with
 | .lst _=>bE (fb e1) fun y e2=>bO (x.weak.get e2) fun p=>bO (y.weak.get e2) fun q=>bO (mS p [q]) fun b=>some (b,e2)
 |_=>none
theorem CZ {fa fb:FE} (ha:Ref K ta fa) (hb:Ref K tb fb):Ref K (ZR K "list" (yO K) ta (dQ tb m9)) (oU fa fb):=by
 intro O M W L σ H e e' b Q o he hf q
 obtain⟨x,e1,f1,hf⟩:=aM hf
 obtain⟨p1,g0,hf⟩:=aF hf
 cases p1 with
 |lst ps1=>
  obtain⟨y,e2,f2,hf⟩:=aM hf
  obtain⟨p,g1,hf⟩:=aF hf
  obtain⟨p',g2,hf⟩:=aF hf
  obtain⟨c,g3,hf⟩:=aF hf
  cases hf
  refine ha O M W L σ H e e1 x _ o he f1 fun v1 H1 k1 r1 fr=>?_
  have o1:=o.keep k1.cC
  obtain⟨a1,ys1,e11,ha1,_⟩:=((r1.rv o1).red (r1.en o1) g0).lZ
  refine⟨by rw[e11];exact .inl ⟨rfl,ys1,ha1.sq⟩,?_⟩
  refine hb O M W L σ H1 e1 _ y _ o1 (r1.en o1) f2 fun v2 H2 k2 r2 fr=>?_
  have o2:=o1.keep k2.cC
  have en:=r2.en o2
  have rp:=((r1.rv o1).keep o1 k2).red en g1
  have rq:=(r2.rv o2).red en g2
  refine IV _ H2 v1 [v2] p [p'] _ Q rp (.cons rq .nil) g3 fun v H' s rn=>?_
  exact q v H' ((k1.trans k2).trans (.same s)) (rn.rb o2 en s) (rn.fr (k1.trans k2).cC)
 |_=>cases hf
end
section
variable {K:Frag}
noncomputable def TH (t:TE):Prop:=∀(σ σ':L2.St) (H:Hp) (Q Q':VK),(∀v H',Q v H'->Q' v H')->t σ H Q->t σ' H Q'
theorem BB:TH yB:=fun _ _ _ _ _ k h p hp=>k _ _ (h p hp)
theorem GD:TH (JK m9):=fun _ _ _ _ _ k h=>⟨h.1,fun p hp=>k _ _ (h.2 p hp)⟩
theorem LU {i j:Nat} {fa fb:FS} (ia:TH ta) (ib:TH tb) (ha:fJ K (m6 ta (gJ i)) fa) (hb:fJ K (m6 tb (gJ j)) fb):fJ K (aaV i j (dQ ta (dQ tb m9))) (aT fa fb):=by
 intro O M W L σ H e r D o he hf q
 have k:=GJ ha hb O M W L σ H e r D o he hf q
 exact ia _ σ _ _ _ (fun x H1 k1=>ib _ σ _ _ _ (fun y H2 k2=>⟨_,_,rfl,k2⟩) k1) k
end
end Mr
namespace L2
open PySem PySem.Spec PyProof.Rows PySem.W
section
variable {prog:Program} {w:World} {A:Around}
theorem NH {E:Value->Shared->Prop} {s0:Shared} {x y:Value} {Q:Value->Shared->Prop} {ok:Heap->Prop} (bt:Nat->Nat->Bool) (hh:A.handled=none)
  (bP:∀h',(∀b o,s0.heap.get? b=some o->h'.get? b=some o)->ok h') (okk:∀h h':Heap,ok h->(∀b o,b<s0.heap.objs.size->h.get? b=some o->h'.get? b=some o)->ok h') (hcmp:LJ prog w A.in1 ok (fun i v=>[x,y][i]? =some v) bt)
  (hq:∀v h' tk,[x,y][argBest bt ([x,y].length - 1)]? =some v->(∀b o,s0.heap.get? b=some o->h'.get? b=some o)->Q v {s0 with heap:=h',toks:=tk}):wpAny (model prog w) A (call (.builtin "min") [x,y]) Q E s0:=by
 refine call_function_tree F.kind_min F.plain_min F.entry_min (F.args_min2 _ _) ?_
 refine wpAny_bind (m:=Builtin.Builtins.bindParams "min" ["key","default"] 0 ⟨[],[]⟩) (wpAny_of_eq (show Builtin.Builtins.bindParams "min" ["key","default"] 0 ⟨[],[]⟩=pure [none,none]from rfl) ?_)
 show wpAny _ A.in1 (newTuple [x,y]>>=_) _ _ s0
 refine wpAny_bind (wpAny_newObj_type ?_)
 let s:Shared:={s0 with heap:=s0.heap.push {cls:=.type "tuple",data:=.seq #[x,y]}}
 let l:Addr:=s0.heap.objs.size
 let vs:List Value:=[x,y]
 have lS0:s0.heap.objs.size<(s0.heap.push {cls:=.type "tuple",data:=.seq #[x,y]}).objs.size:=by rw[size_push];exact lt_succ_self _
 have hl:s.heap.IsTuple l vs.toArray:=⟨_,get?_push_size _ rfl,rfl,0,rfl⟩
 have hn:0<vs.length:=by show 0<2;decide
 have hsz:s0.heap.objs.size<s.heap.objs.size:=lS0
 have lS:l<s.heap.objs.size:=let⟨_,e,_⟩:=hl;lt_size e
 have k0:∀b o,s0.heap.get? b=some o->s.heap.get? b=some o:=fun b o e=>get?_push_of_some _ e
 refine wpAny_bind (wpAny_pyIter_tuple (s:=s) hl ?_)
 refine wpAny_bind (wpAny_newObj_type ?_)
 rw[p9]
 generalize hX:(s.heap.push {cls:=.type "tuple_iterator",data:=.fields #[.ref l,.int 0 0]})=h1
 have z1:h1.objs.size=s.heap.objs.size+1:=by rw[<-hX];exact size_push ..
 have k1:∀b o,s.heap.get? b=some o->h1.get? b=some o:=fun b o e=>by rw[<-hX];exact get?_push_of_some _ e
 have e1:h1.get? s.heap.objs.size=some {cls:=.type "tuple_iterator",data:=.fields #[.ref l,.int 0 0]}:=by rw[<-hX];exact get?_push_size _ rfl
 have nI:l≠s.heap.objs.size:=ne_of_lt lS
 have W:=Walks.tuple (prog:=prog) (w:=w) (A:=A.in1) (by exact hh) s.heap.objs.size l nI vs.toArray
 have gS:(h1.push {cls:=.type "list",data:=.seq ([]:List Value).toArray}).get? h1.objs.size=some {cls:=.type "list",dict:=none,data:=.seq #[] 0,slots:= #[]}:=get?_push_size _ rfl
 have nf:h1.objs.size∉[s.heap.objs.size,l]:=by
  rw[z1]
  simp only[mem_cons,not_mem_nil,or_false,not_or]
  exact⟨ne_of_gt (lt_succ_self _),ne_of_gt (lt_succ_of_lt lS)⟩
 have nw:h1.objs.size∉[s.heap.objs.size]:=fun z=>nf (by simp at z⊢;exact .inl z)
 have st0:(h1.push {cls:=.type "list",data:=.seq ([]:List Value).toArray}).IsTupleIter s.heap.objs.size l 0/\(h1.push {cls:=.type "list",data:=.seq ([]:List Value).toArray}).IsTuple l vs.toArray:=by
  refine⟨⟨_,get?_push_of_some _ e1,rfl,rfl⟩,?_⟩
  obtain⟨o,e,r⟩:=hl
  exact⟨o,get?_push_of_some _ (k1 _ _ e),r⟩
 refine wpAny_pure ⟨plainId_quiet F.plain_min_loop _,?_⟩
 refine codeAny_builtin F.entry_min_loop ?_
 rw[Around.under_plainId F.plain_min_loop _]
 refine wpAny_bind (m:=seqItems? (.ref h1.objs.size)) (wpAny_seqItems gS rfl ?_)
 refine wpAny_bind (m:=tryCatch (pyNext (.ref s.heap.objs.size)) _) (wpAny_tryCatch (W.item 0 {s with heap:=h1.push {cls:=.type "list",data:=.seq ([]:List Value).toArray}} _ _ (by simpa using hn) st0 fun v h' tk hP st' kp=>?_))
 have gS':=kp h1.objs.size _ nw gS
 refine wpAny_bind (m:=updateSeq h1.objs.size (fun _=> #[v,v])) (wpAny_updateSeq gS' rfl ?_)
 rw[p9]
 have ne:∀{b:Addr} {o:Obj},b≠h1.objs.size->h'.get? b=some o->(h'.update h1.objs.size (Obj.mapSeq fun _=> #[v,v])).get? b=some o:=fun h q=>(get?_update_other _ _ (Ne.symm h)).trans q
 have ltS:∀{b:Addr} {o:Obj},s.heap.get? b=some o->b∉[s.heap.objs.size]/\b≠h1.objs.size:=fun e=>by
  have:=lt_size e
  rw[z1]
  exact⟨by simp;exact ne_of_lt this,ne_of_lt (lt_succ_of_lt this)⟩
 have kq:∀b o,s.heap.get? b=some o->(h'.update h1.objs.size (Obj.mapSeq fun _=> #[v,v])).get? b=some o:=fun b o e=>ne (ltS e).2 (kp b o (ltS e).1 (get?_push_of_some _ (k1 b o e)))
 refine wpAny_pure ⟨plainId_quiet F.plain_min_loop _,A4 (ok:=ok) W bt (fun i j vi vj s Q E h1 h2 h3 h4=>hcmp i j vi vj s Q E h1 (by simpa using h2) (by simpa using h3) h4) h1.objs.size nf (fun h h2 o k=>okk h h2 o fun b u hb q=>k b u (by simp;exact ne_of_lt (lt_trans hb hsz)) (by rw[z1];exact ne_of_lt (lt_succ_of_lt (lt_trans hb hsz))) q) _ 0 _ v _ rfl (by simp;omega) (bP _ fun b o e=>kq b o (k0 b o e)) (W.frame _ _ _ st' fun b hbf o q=>ne (fun z=>nf (by rw[<-z];exact hbf)) q) (by simpa [argBest]using hP) (get?_update_self _ gS' rfl) fun v' h2 tk2 hP' kp2=>?_⟩
 exact hq v' h2 tk2 (by have h9:vs[argBest bt (vs.length - 1)]? =some v':=(by simpa using hP');exact h9) fun b o e=>kp2 b o (ltS (k0 b o e)).1 (ltS (k0 b o e)).2 (kq b o (k0 b o e))
end
section
variable {X:Cx} {k:Nat}
open Mr
noncomputable def LK (K:Frag):List V->Hp->VK->Prop:=fun xs H Q=>∃x y p q,xs=[x,y]/\bH K cT H [p,q] [x,y]/\c9 3 [p,q]=true/\Q (if rO [p,q] 1 0=true then y else x) H
theorem abG (K:Frag) (hr:dX k X.A) (hK:X.K=K:=by rfl) (hc:X.calm=true:=by rfl):cH X (.builtin "min") (LK K):=by
 subst hK
 intro pins s σ H xs us Q I r ⟨x,y,p,q,e,rp,cmp,qq⟩
 subst e
 obtain⟨u,v,rfl,rx,ry⟩:=vals2 r
 have rv:Vals [x,y] [u,v]:=.cons rx (.cons ry .nil)
 have ok:∀z∈[p,q],gD 3 z=true:=fun z hz=>by
  have:=all_eq_true.mp cmp z hz
  rw[and_eq_true]at this
  exact yQ this.1
 refine NH (ok:=fun h=>∀b o,s.heap.get? b=some o->h.get? b=some o) (rO [p,q]) (by exact I.ok.hd hc) (fun h' kp=>kp) (fun h h' o kk b u e=>kk b u (lt_size e) (o b u e)) (fun i j vi vj s' Q E bP h1 h2 hQ=>?_) fun w h' tk hv kp=>?_
 ·have hL:bS s'.heap [p,q] [u,v]:=bH.lies (I.kept (t':=s.toks) bP) (n:=3) (all_eq_true.mpr ok) rp rv
  obtain⟨p1,e1,l1⟩:=hL.get h1
  obtain⟨p2,e2,l2⟩:=hL.get h2
  have m1:=mem_of_getElem? e1
  have m2:=mem_of_getElem? e2
  refine D0 (s:=s') 3 X.A.in1 (by have:=hr.un;show X.A.units+1+3<_;omega) (ok p1 m1) (ok p2 m2) l1 l2 (mQ cmp m1 m2) _ _ _ _ ?_
  have hQ:Q (.bool (gB (code 3 ([p,q].getD i .bA)) (code 3 ([p,q].getD j .bA)))) s':=hQ
  rw[getD_eq_getElem?_getD,e1,getD_eq_getElem?_getD,e2]at hQ
  exact hQ
 ·have hv:[u,v][if rO [p,q] 1 0 then 1 else 0]? =some w:=hv
  refine⟨if rO [p,q] 1 0=true then y else x,H,I.kept (t':=tk) kp,?_,qq⟩
  by_cases hb:rO [p,q] 1 0=true
  ·rw[if_pos hb]at hv⊢
   cases hv
   exact ry
  ·rw[if_neg hb]at hv⊢
   cases hv
   exact rx
end
end L2
namespace Mr
open PySem L2
section
variable {K:Frag}
noncomputable def xK:List PV->Option Bv
 |[p,q]=>aQ (c9 3 [p,q]) (some (.val (if rO [p,q] 1 0=true then q else p)))
 |_=>none
theorem AO:gP K (LK K) xK:=by
 intro Z H vs qs b Q hp h kk
 unfold xK at h
 split at h
 ·rename_i p q
  obtain⟨c,h⟩:=aL h
  cases h
  cases hp with
  | cons h1 hp=>
   cases hp with
   | cons h2 hp=>
    cases hp
    have pl:∀z∈[p,q],nD 3 z=true:=fun z hz=>by
     have:=all_eq_true.mp c z hz
     rw[and_eq_true]at this
     exact this.1
    have rep:∀{z:PV} {v:V},nD 3 z=true->Red K Z H z v->Rep K Z H z v:=fun{z v} hz h=>by
     cases h with
     |rep h=>exact h
     |lst _ _=>cases hz
     |a8 _ _ _=>cases hz
    have r1:=rep (pl p (by simp)) h1
    have r2:=rep (pl q (by simp)) h2
    refine⟨_,_,p,q,rfl,.cons (r1.aH (.less fun _ z=>z.elim)) (.cons (r2.aH (.less fun _ z=>z.elim)) .nil),c,?_⟩
    by_cases hb:rO [p,q] 1 0=true
    ·rw[if_pos hb]at*
     exact kk _ H (aZ.refl _) r2
    ·rw[if_neg hb]at*
     exact kk _ H (aZ.refl _) r1
 ·cases h
end
end Mr
namespace Mr
open PySem PySem.Spec L2 PyProof.Rows
variable {f:Addr} {K:Frag} {a b c:Str}
structure nZ (K:Frag) (x:Str) (st:Stmt) (f:Addr):Prop where
 a:nsIn K mainGlobals x=some (some (.ref f))
 F:∃fd,XY K x x st f fd
theorem cE {x:Str} {st:Stmt} {oc:Value} {od an:Option Addr} {osl:Array (Option Value)} {kV doc pm cdv ct:Value} (a:nsIn K mainGlobals x=some (some (.ref f)))
  (l:K.lookup f=some ⟨oc,od,.func (fnOf x x (gE st) (eZ st) (aV st) .none kV doc pm an cdv ct),osl⟩) (c:codeIn K cdv x=true) (k:keepIn K (.ref f)=true):nZ K x st f:=⟨a,_,WR l c k⟩
section
variable {P:Program} {w:World} {K:Frag} {mg:Str->Option Value} {base h:Heap} {x:Str} {st:Stmt} {ps N:List Str} {k nl:Nat} {ks:List Kd} {fr:Bool} {g:FS}
noncomputable def ZP (x:Str) (st:Stmt) (ps:List Str):Prop:=∀(kV doc pm:Value) (an:Option Addr) (cdv ct:Value) (us:List Value),us.length=ps.length->bindArgs (fnOf x x (gE st) (eZ st) (aV st) .none kV doc pm an cdv ct) ⟨us,[]⟩=pure (ps.zip us)
noncomputable def Dx (K:Frag) (mg:Str->Option Value) (x:Str) (st:Stmt) (ps:List Str):Prop:=∃f fd,Def K mg x st ps f fd
theorem nZ.dx (H:nZ K x st f) (X:K.In h) (G:h.Ns mainGlobals mg) (b:ZP x st ps):Dx K mg x st ps:=let⟨fd,F⟩:=H.F;⟨f,fd,F,mg_of X G H.a,F.binds b⟩
structure Cn (P:Program) (w:World) (K:Frag) (mg:Str->Option Value) (base:Heap) (x:Str) (st:Stmt) (ps:List Str) (k:Nat) (ks:List Kd) (fr:Bool) (fn:FN):Prop where
 e:∃f fd,Def K mg x st ps f fd/\pA P w K mg base OR k f fd ps (S7 K ks fr fn)
theorem cV (D:Dx K mg x st ps) (S:o8 N ps (aV st)) (hN:N.length=ks.length+nl) (hp:ks.length=ps.length)
  (hb:o8 N ps (aV st)->∀(f:Addr) (cdv:Value) (A:Around) (outer:List Env) (s:Shared) (H:Hp) (E:XK),dX k (A.deeper (envOfC x (aV st) s.heap.objs.size f cdv))->∃t,GA (DB OR P w K mg base N x (aV st) f cdv A outer s H E).nox (eZ st) t/\fJ K t g):Cn P w K mg base x st ps (k+1) ks fr (nF ks nl fr g):=by
 obtain⟨f,fd,D⟩:=D
 refine⟨f,fd,D,D.F.ok S (fun vs H Q E h=>?_) (fun cdv A outer s H vs Q E hr h=>?_)⟩
 ·obtain⟨_,_,_,_,_,hl,_⟩:=h
  exact hl.trans hp
 ·obtain⟨t,h1,h2⟩:=hb S f cdv A outer s H E hr
  exact⟨t,h1,YS h2 hN h⟩
theorem u7 {x:Str} {st:Stmt} (h:∀(kV doc pm:Value) (an:Option Addr) (cdv ct v:Value),bindArgs (fnOf x x (gE st) (eZ st) (aV st) .none kV doc pm an cdv ct) ⟨[v],[]⟩=pure [(a,v)]):ZP x st [a]:=fun _ _ _ _ _ _ us hl=>match us,hl with|[_],_=>h _ _ _ _ _ _ _
theorem rG {x:Str} {st:Stmt} (h:∀(kV doc pm:Value) (an:Option Addr) (cdv ct v1 v2:Value),bindArgs (fnOf x x (gE st) (eZ st) (aV st) .none kV doc pm an cdv ct) ⟨[v1,v2],[]⟩=pure [(a,v1),(b,v2)]):ZP x st [a,b]:=fun _ _ _ _ _ _ us hl=>match us,hl with|[_,_],_=>h _ _ _ _ _ _ _ _
theorem IP {x:Str} {st:Stmt} (h:∀(kV doc pm:Value) (an:Option Addr) (cdv ct v1 v2 v3:Value),bindArgs (fnOf x x (gE st) (eZ st) (aV st) .none kV doc pm an cdv ct) ⟨[v1,v2,v3],[]⟩=pure [(a,v1),(b,v2),(c,v3)]):ZP x st [a,b,c]:=fun _ _ _ _ _ _ us hl=>match us,hl with|[_,_,_],_=>h _ _ _ _ _ _ _ _ _
theorem adA {d:Str} {x:Str} {st:Stmt} (h:∀(kV doc pm:Value) (an:Option Addr) (cdv ct v1 v2 v3 v4:Value),bindArgs (fnOf x x (gE st) (eZ st) (aV st) .none kV doc pm an cdv ct) ⟨[v1,v2,v3,v4],[]⟩=pure [(a,v1),(b,v2),(c,v3),(d,v4)]):ZP x st [a,b,c,d]:=fun _ _ _ _ _ _ us hl=>match us,hl with|[_,_,_,_],_=>h _ _ _ _ _ _ _ _ _ _
end
section
variable {X:Cx} {x:Str} {st:Stmt} {ps:List Str} {j k:Nat} {ks:List Kd} {fr:Bool} {fn:FN} {e:Expr} {es:List Expr} {t:TA} {p pos:Pos}
theorem aY (C:Cn X.prog X.w K X.mg X.base x st ps j ks fr fn) (hr:dX k X.A) (hjk:j<=k) (hg:Gl X x) (ha:PA X (e::es) t) (hK:X.K=K:=by rfl) (hdb:(x==("__debug__":Str))=false:=by decide)
  (he:starEach (e::es) X.env=(false,eval e X.env)::starEach es X.env:=by rfl) (hpl:(backTo pos (starEach es X.env)).any (·.1)=false:=by rfl):PE X (.Call (.Name x p) (e::es) [] pos) (BO (S7 K ks fr fn) [] E0 t):=by
 subst hK
 obtain⟨f,fd,D,G⟩:=C.e
 exact ab4 D G hr hjk hg ha hdb he hpl
end
theorem XB {P:Program} {w:World} {mg:Str->Option Value} {st:Stmt} {k:Nat} {fn:FN} {fa:Addr} (hm:mg "law"=some (.ref fa)) (D:Dx K mg "law" st [a]) (hb:ZP "law" st [a])
  (C:∀base,Cn P w K mg base "law" st [a] k [.b] false fn) (hl:∀ns:List Int,ns.length<=63->fn [.lst (ns.map PV.int)]=some (.bl true,[])):
  ∃fd:FuncData,(∀(s:Shared) (v:Value),BindsTo s fd ⟨[v],[]⟩ [(a,v)])/\∀base:Heap,K.In base->base.Ns mainGlobals mg->pA P w K mg base OR k fa fd [a] (BZ K):=by
 obtain⟨f,fd,D⟩:=D
 have e1:=D.m
 rw[hm]at e1
 cases e1
 refine⟨fd,fun s v=>?_,fun base _ _=>?_⟩
 ·obtain⟨oc,od,kV,doc,pm,an,cdv,ct,osl,rfl,lk,hcd⟩:=D.F.ex
  exact .of_eq (hb kV doc pm an cdv ct [v] rfl)
 ·obtain⟨f',fd',D',ok⟩:=(C base).e
  have e2:=D'.m
  rw[hm]at e2
  cases e2
  obtain⟨oc,od,kV,doc,pm,an,cdv,ct,osl,h1,lk,hcd⟩:=D.F.ex
  obtain⟨oc',od',kV',doc',pm',an',cdv',ct',osl',h1',lk',hcd'⟩:=D'.F.ex
  rw[lk]at lk'
  have e3:fd=fd':=by
   have:=congrArg Obj.data (Option.some.inj lk')
   exact Data.func.inj this
  subst e3
  exact ok.imp fun vs H Q E h=>RT hl h
end Mr
namespace Mr
open PySem L2
variable {e:En} {f:FS}
section
variable {K:Frag}
noncomputable def taL:List (TE×Nat)->TA
 |[]=>m9
 |z::l=>dQ z.1 (taL l)
noncomputable def ZN:List (TE×Nat)->DV
 |[]=>N9
 |z::l=>wH (gJ z.2) (ZN l)
noncomputable def tsL:List (TE×Nat)->TS
 |[]=>BE
 |z::l=>CV (m6 z.1 (gJ z.2)) (tsL l)
theorem NK:∀(l:List (TE×Nat)),(∀z∈l,TH z.1)->∀(σ σ':L2.St) (H:Hp) (D:Ends) (Q:List V->Hp->Prop),(∀vs H',ZN l vs σ' H' D.nx->Q vs H')->tsL l D σ' H->taL l σ H Q
 |[],_,_,_,_,_,_,k,h=>k _ _ ⟨rfl,h⟩
 |z::l,hi,σ,σ',H,D,Q,k,h=>hi z mem_cons_self σ' σ H _ _ (fun x H1 h1=>NK l (fun y hy=>hi y (mem_cons_of_mem _ hy)) σ _ H1 D _ (fun vs H' h2=>k _ _ ⟨x,vs,rfl,h2⟩) h1) h
theorem UD:∀(l:List (TE×Nat)) {vs xs:List V} {σ:L2.St} {H:Hp} {p:Addr} {nx:L2.St->Hp->Prop},H p=none->ZN l vs σ H (fun σ H=>∀p xs,H p=none->nx σ (upd H p (.tup xs)))->ZN l vs σ (upd H p (.tup xs)) nx
 |[],_,_,_,_,_,_,hp,h=>⟨h.1,h.2 _ _ hp⟩
 |z::l,_,_,_,_,_,_,hp,⟨v,r,e,h⟩=>⟨v,r,e,UD l hp h⟩
theorem DX:∀(l:List (TE×Nat)) {vs:List V} {σ:L2.St} {H:Hp} {nx:L2.St->Hp->Prop},ZN l vs σ H nx->vs.length=l.length
 |[],_,_,_,_,h=>by rw[h.1];rfl
 |z::l,_,_,_,_,⟨v,r,e,h⟩=>by rw[e,length_cons,length_cons,DX l h]
theorem K7 (l:List (TE×Nat)) (hl:l.length<=sizeLine) (hi:∀z∈l,TH z.1) (h:fJ K (tsL l) f):fJ K (m6 (LX (taL l)) (IJ K l.length (ZN l))) f:=by
 intro O M W L σ H e r D o he hf q
 have k:=h O M W L σ H e r {D with nx:=fun σ H=>∀p xs,H p=none->D.nx σ (upd H p (.tup xs))} o he hf (by
  cases r with
  |nx e1=>exact fun L' σ' H' g o1 he1 p xs hp=>q L' σ' _ (g.trans (.keep (.same (aZ.upd hp)))) (o1.keep (bX.same (W:=W) (L:=L') (aZ.upd hp)).cC) (he1.same (aZ.upd hp))
  |bk e1=>exact q
  |ct e1=>exact q
  |rt b e1=>exact q)
 refine NK l hi σ σ H _ _ (fun vs H' h2=>?_) k
 refine⟨?_,fun p hp=>?_⟩
 ·rw[DX l h2];exact hl
 ·exact⟨p,vs,rfl,nE.of aU,DX l h2,UD (xs:=vs) l hp h2⟩
theorem HS {ta tb:TE} {i j:Nat} (ia:TH ta) (ib:TH tb) (h:fJ K (CV (m6 ta (gJ i)) (CV (m6 tb (gJ j)) BE)) f):fJ K (m6 (LX (dQ ta (dQ tb m9))) (IJ K 2 (wH (gJ i) (wH (gJ j) N9)))) f:=
 K7 [(ta,i),(tb,j)] (by show 2<=sizeLine;decide) (by simp[ia,ib]) h
end
theorem P5 {f:FE} {st:Nat->Bool}:w4 f st e=bO (vI f st e) fun z=>some (z.1.map fun kv=>tU kv.1,z.2):=rfl
theorem MS {f:FE} {st:Nat->Bool}:EG f st e=bO (vI f st e) fun z=>some (bG z.1,z.2):=rfl
theorem IW {fa fb:FE}:oU fa fb e=bE (fa e) fun x e1=>bO (x.weak.get e1) fun p1=>match p1 with
 | .lst _=>bE (fb e1) fun y e2=>bO (x.weak.get e2) fun p=>bO (y.weak.get e2) fun q=>bO (mS p [q]) fun b=>some (b,e2)
 |_=>none:=rfl
end Mr
namespace My
open PySem L2 Mr
variable {ab hs ks:Hl} {a at' b c d k m:Int} {claimed held rows:List (Key×PV)} {F Rs:List (List Str)} {ls qs:List Let} {xs:List PV} {N R S ns ss:List Str} {ts:List i0} {i j n:Nat} {o:Option Str} {p:PV} {Q:PV×List PV->Prop} {l:PySem.W.OpenLaw} {h x y:Str} {f v v':Str->PV} {N0 N1:Str->Prop} {α β:Type} {t:i0}
noncomputable def uL:FS:=(aT (bY 1 (bF dB (aC 0) (fC (.int 0))))
  (aT (bY 2 (bF dB (aC 0) (fC (.int 3))))
  (cR (jX lQ (aB (fI (FC (aB (aC 2) aK)) 2 [1,2] [] (jI 2 (b8 (aO 0) (b8 (aO 1) jG))) (vA (bL (bF OS (aC 1) (aC 2))) (bL (bF (zJ true) (aC 1) (KA KJ (aC 3) (l0 (bF iZ (aC 0) (fC (.int 1)))) fR)))) (aC 1)) aK)))))
noncomputable def iD:FN:=nF [.b] 2 false uL
noncomputable def oA:FS:=(aT (eX 1 mK)
  (aT (iI (qZ (aC 0)) (aO 2) (pW (bL (bF (zJ true) (bF dB (aC 2) (fC (.int 0))) (aC 1))) (eQ 1 (bF dB (aC 2) (fC (.int 0))) (aC 2)) dA))
  (cR (DG (aC 1)))))
noncomputable def eF:FN:=nF [.b] 2 false oA
noncomputable def jV:FS:=(aT (pW (bL (bF (zJ false) (aC 3) (aC 0))) (cR (dY (aB (bF dB (aC 0) (aC 3)) (aB (dY (aB (fC (.str "hand")) aK)) aK)))) dA)
  (aT (pW (bL (bF (zJ false) (aC 3) (aC 1))) (aT (bY 4 (bF dB (aC 1) (aC 3)))
  (cR (SY (RD (aC 4)) (dY (aB (bF dB (aC 4) (fUn OX (fC (.int 1)))) (aB (dY (aB (fC (.str "own")) aK)) aK))) (dY (aB (fC .bA) (aB (dY (aB (fC (.str "first")) aK)) aK)))))) dA)
  (aT (pW (bL (bF (zJ false) (aC 3) (aC 2))) (aT (SI (jX vO (aB (bF dB (aC 2) (aC 3)) aK)) (jI 3 (b8 (aO 5) (b8 (aO 6) (b8 (aO 7) jG)))))
  (cR (dY (aB (bF dB (bF dB (aC 1) (aC 6)) (bF Mr.zE (aC 7) (fC (.int 1)))) (aB (dY (aB (fC (.str "told")) (aB (aC 6) (aB (aC 7) aK)))) aK))))) dA)
  (cR (dY (aB (fC .bA) (aB (dY (aB (fC (.str "first")) aK)) aK)))))))
noncomputable def cQ:FN:=nF [.b,.b,.b,.b] 4 false jV
noncomputable def nM:FS:=(aT (eX 1 mK)
  (aT (eX 2 (gZ aK))
  (aT (iI (w4 (aC 0)) (aO 3) (aT (eX 4 (gZ aK))
  (aT (bY 5 (aC 3))
  (aT (lO (vA (bL (bF (JH true) (aC 5) (fC .bA))) (bL (bF (zJ true) (aC 5) (aC 1)))) (aT (eQ 1 (aC 5) (aC 3))
  (aT (vE 4 (aC 5))
  (bY 5 (zS (aC 0) (aC 5))))) 1000)
  (pW (vA (bL (bF (JH true) (aC 5) (fC .bA))) (bL (bF IT (bF dB (aC 1) (aC 5)) (aC 3)))) (vE 2 (KA KJ (aC 4) (l0 (oU (aC 4) (aC 5))) fR)) dA)))))
  (cR (aC 2)))))
noncomputable def i5:FN:=nF [.b] 5 false nM
noncomputable def qA:FS:=(aT (bY 3 (fI (qZ (aC 0)) 1 [1] [] (aO 0) (bL (bF (zJ true) (aC 0) (aC 1))) (aC 0)))
  (aT (bY 4 (fI (qZ (aC 3)) 1 [2] [] (aO 0) (bL (bF (zJ true) (aC 0) (aC 1))) (aC 0)))
  (aT (pW (RD (aC 4)) (cR (jX vO (aB (aC 4) aK))) dA)
  (cR (bF dB (jX vO (aB (fI (qZ (aC 3)) 1 [2] [] (aO 0) dM (dY (aB (bF dB (aC 1) (aC 0)) (aB (aC 0) aK)))) aK)) (fC (.int 1)))))))
noncomputable def kX:FN:=nF [.b,.b,.b] 2 false qA
noncomputable def kO:FS:=(aT (bY 2 (oU (aC 0) (aC 1)))
  (cR (jX lQ (aB (bF iZ (KA KJ (aC 0) (l0 (aC 2)) fR) (KA KJ (aC 0) fR (l0 (aC 2)))) aK))))
noncomputable def gG:FN:=nF [.b,.b] 1 false kO
noncomputable def nK:FS:=(aT (bY 2 (SY (bL (bF gLt (aC 1) (jX rJ (aB (aC 0) aK)))) (bF dB (aC 0) (aC 1)) (fC (.int 0))))
  (aT (bY 3 (SY (bL (bF gGe (aC 2) (bF rF (fC (.int 10)) (fC (.int 18))))) (bF m4 (aC 2) (bF qR (bF qR (bF qR (bF rF (fC (.int 10)) (fC (.int 60))) (bF rF (fC (.int 10)) (fC (.int 60)))) (bF rF (fC (.int 10)) (fC (.int 60)))) (bF rF (fC (.int 10)) (fC (.int 60))))) (fC (.int 0))))
  (cR (gZ (aB (aC 3) (aB (bF m4 (bF qC (bF iZ (bF iZ (bF m4 (aC 2) (fC (.int 2305843009213693951))) (bF qC (bF qC (fC (.int 7919)) (aC 1)) (aC 1))) (fC (.int 3))) (fC (.int 48271))) (fC (.int 2305843009213693921))) (aB (fC (.int 0)) aK)))))))
noncomputable def gK:FN:=nF [.b,.b] 2 true nK
noncomputable def nQ:FS:=(aT (pW (bL (bF ZI (bF dB (aC 0) (fC (.int 0))) (fC (.int 0)))) (aT (bY 2 (bF m4 (bF dB (aC 0) (fC (.int 0))) (aC 1)))
  (aT (yM 0 (fC (.int 0)) (bF JZ (bF dB (aC 0) (fC (.int 0))) (aC 1)))
  (cR (aC 2)))) dA)
  (aT (yM 0 (fC (.int 2)) (bF iZ (bF dB (aC 0) (fC (.int 2))) (fC (.int 1))))
  (aT (bY 3 (bF m4 (bF qC (bF iZ (bF iZ (bF dB (aC 0) (fC (.int 1))) (bF qC (bF qC (fC (.int 65537)) (bF dB (aC 0) (fC (.int 2)))) (bF dB (aC 0) (fC (.int 2))))) (fC (.int 11))) (fC (.int 48271))) (fC (.int 2305843009213693921))))
  (aT (bY 3 (bF m4 (bF qC (aC 3) (bF iZ (bF m4 (aC 3) (fC (.int 1000003))) (bF qC (fC (.int 99991)) (bF dB (aC 0) (fC (.int 2)))))) (fC (.int 2305843009213693907))))
  (cR (bF m4 (bF iZ (bF JZ (aC 3) (fC (.int 97))) (bF JZ (aC 3) (fC (.int 1000033)))) (aC 1)))))))
noncomputable def aR:FN:=nF [.m,.b] 2 false nQ
noncomputable def nX:FS:=(aT (eX 2 (gZ aK))
  (aT (iI (qZ (aC 0)) (jI 4 (b8 (aO 3) (b8 (aO 4) (b8 (aO 5) (b8 (aO 6) jG))))) (aT (bY 7 (dY (aB (bF dB (aC 1) (aC 3)) (aB (aC 4) (aB (aC 5) (aB (jX lQ (aB (fI (qZ (aC 6)) 1 [1] [] (aO 0) dM (bF dB (aC 1) (aC 0))) aK)) aK))))))
  (pW (bL (bF (zJ true) (aC 7) (aC 2))) (vE 2 (aC 7)) dA)))
  (cR (jX lQ (aB (jX fL (aB (aC 2) aK)) aK)))))
noncomputable def i7:FN:=nF [.b,.b] 6 false nX
noncomputable def kJ:FS:=(aT (iI (rM (aB (bF iZ (jX EX (aB (aC 0) aK)) (fC (.int 1))) aK)) (aO 3) (aT (pW (S0 (bL (bF (JH false) (aC 1) (fC .bA))) (bL (bF IT (aC 1) (aC 2)))) (cR (bF IT (aC 1) (aC 2))) dA)
  (bY 1 (zS (aC 0) (aC 1)))))
  (cR (fC (.bl false))))
noncomputable def gH:FN:=nF [.b,.b,.b] 1 false kJ
noncomputable def pY:FS:=(aT (bY 1 (bF dB (aC 0) (fC (.int 3))))
  (cR (fI (rM (aB (jX rJ (aB (aC 1) aK)) aK)) 1 [1,0] [] (aO 0) (vA (bL (bF OS (bF dB (aC 1) (aC 0)) (bF dB (aC 2) (fC (.int 0))))) (bL (bF (zJ true) (bF dB (aC 1) (aC 0)) (KA KJ (aC 1) (l0 (bF iZ (aC 0) (fC (.int 1)))) fR)))) (bF dB (aC 1) (aC 0)))))
noncomputable def iP:FN:=nF [.b] 1 false pY
noncomputable def iH:FS:=(aT (eX 1 mK)
  (aT (iI (qZ (aC 0)) (aO 2) (pW (bL (bF (zJ true) (bF dB (aC 2) (fC (.int 0))) (aC 1))) (eQ 1 (bF dB (aC 2) (fC (.int 0))) (aC 2)) dA))
  (cR (C4 (aC 1)))))
noncomputable def e9:FN:=nF [.b] 2 false iH
noncomputable def oE:FS:=(aT (bY 2 (aC 1))
  (aT (iI (rM (aB (jX EX (aB (aC 0) aK)) aK)) (aO 3) (aT (bY 2 (bF dB (aC 0) (aC 2)))
  (pW (bL (bF (JH false) (aC 2) (fC .bA))) (cR (fC (.bl true))) dA)))
  (cR (fC (.bl false)))))
noncomputable def i9:FN:=nF [.b,.v] 2 false oE
noncomputable def pU:FS:=(cR (jQ (qZ (bC [.b] false eF (aB (aC 0) aK))) 1 [] [] (aO 0) dM (bF dB (aC 0) (fC (.int 0))) (bF dB (aC 0) (fC (.int 1)))))
noncomputable def lE:FN:=nF [.b] 0 false pU
noncomputable def pZ:FS:=(cR (jQ (qZ (bC [.b] false eF (aB (aC 0) aK))) 1 [] [] (aO 0) dM (bF dB (aC 0) (fC (.int 0))) (bC [.b] false iD (aB (aC 0) aK))))
noncomputable def lA:FN:=nF [.b] 0 false pZ
noncomputable def mD:FS:=(sX 1 (KC (xIt (bC [.b] false eF (aB (aC 0) aK))) (aO 2) (KC (UJ (aB (bC [.b] false iD (aB (aC 2) aK)) aK)) (jI 2 (b8 (aO 3) (b8 (aO 4) jG))) (xIf (bL (bF ZI (aC 3) (fC (.int 0)))) (WQ (aC 4) (dY (aB (bF dB (aC 2) (fC (.int 1))) (aB (bF dB (aC 2) (fC (.int 0))) (aB (aC 3) aK))))) MU))))
noncomputable def g9:FN:=nF [.b] 4 false mD
noncomputable def uC:FS:=(aT (eX 2 mK)
  (aT (iI (qZ (bC [.b] false eF (aB (aC 0) aK))) (aO 3) (aT (eQ 2 (bF dB (aC 3) (fC (.int 0))) (fC (.bl true)))
  (iI (qZ (bC [.b] false iD (aB (aC 3) aK))) (aO 4) (eQ 2 (aC 4) (fC (.bl true))))))
  (aT (iI (qZ (aC 1)) (jI 2 (b8 (aO 4) (b8 (aO 5) jG))) (aT (eQ 2 (aC 4) (fC (.bl true)))
  (pW (bL (bF (JH true) (aC 5) (fC .bA))) (eQ 2 (aC 5) (fC (.bl true))) dA)))
  (cR (jX lQ (aB (jX fL (aB (aC 2) aK)) aK))))))
noncomputable def kA:FN:=nF [.b,.b] 4 false uC
noncomputable def lV:FS:=(aT (eX 2 (gZ aK))
  (aT (iI (rM (aB (aC 1) aK)) (aO 3) (aT (bY 4 (bF dB (gZ (aB (fC (.int 1)) (aB (fC (.int 1)) (aB (fC (.int 2)) (aB (fC (.int 3)) (aB (fC (.int 12)) (aB (bF iZ (fC (.int 1)) (bF m4 (aC 3) (fC (.int 12)))) aK))))))) (bC [.m,.b] false aR (aB (aC 0) (aB (fC (.int 6)) aK)))))
  (aT (bY 5 (fBM AR (fC (.str "")) (aB (fI (rM (aB (aC 4) aK)) 1 [0] [(0,1)] (aO 0) dM (bF dB (fC (.str "abcdefghijklmnopqrstuvwxyz0123456789")) (bC [.m,.b] false aR (aB (aC 1) (aB (fC (.int 36)) aK))))) aK)))
  (aT (pW (bL (bF (zJ false) (aC 5) (aC 2))) (bY 5 (bF dB (fI (rM (aB (bF iZ (jX rJ (aB (aC 2) aK)) (fC (.int 1))) aK)) 1 [2] [] (aO 0) (bL (bF (zJ true) (jX A1 (aB (aC 0) aK)) (aC 1))) (jX A1 (aB (aC 0) aK))) (fC (.int 0)))) dA)
  (vE 2 (aC 5))))))
  (cR (aC 2))))
noncomputable def g8:FN:=nF [.m,.b] 4 false lV
noncomputable def kQ:FS:=(aT (bY 2 (bC [.m,.b] false aR (aB (aC 0) (aB (aC 1) aK))))
  (aT (bY 3 (bC [.m,.b] false aR (aB (aC 0) (aB (fC (.int 4)) aK))))
  (aT (bY 4 (bC [.m,.b] false aR (aB (aC 0) (aB (bF dB (gZ (aB (fC (.int 1)) (aB (fC (.int 3)) (aB (fC (.int 2)) (aB (fC (.int 100000000)) aK))))) (aC 3)) aK))))
  (aT (bY 5 (fI (rM (aB (bF dB (gZ (aB (fC (.int 0)) (aB (fC (.int 1)) (aB (fC (.int 1)) (aB (fC (.int 2)) (aB (fC (.int 3)) (aB (fC (.int 9)) aK))))))) (bC [.m,.b] false aR (aB (aC 0) (aB (fC (.int 6)) aK)))) aK)) 1 [0,1] [(0,1)] (aO 0) dM (bC [.m,.b] false aR (aB (aC 1) (aB (aC 2) aK)))))
  (aT (pW (bL (bF IT (bC [.m,.b] false aR (aB (aC 0) (aB (fC (.int 4)) aK))) (fC (.int 0)))) (bY 5 (bF iZ (KA KJ (aC 5) fR (l0 (fC (.int 8)))) (gZ (aB (bF m4 (bF iZ (aC 2) (fC (.int 1))) (aC 1)) aK)))) dA)
  (cR (dY (aB (aC 2) (aB (bF dB (gZ (aB (aC 4) (aB (bF Mr.zE (fC (.int 99999999)) (aC 4)) aK))) (jX A7 (aB (bF IT (aC 3) (fC (.int 2))) aK))) (aB (bF dB (gZ (aB (fC (.str "")) (aB (fC (.str "walls")) (aB (fC (.str "Re: walls")) aK)))) (bC [.m,.b] false aR (aB (aC 0) (aB (fC (.int 3)) aK)))) (aB (aC 5) aK)))))))))))
noncomputable def dN:FN:=nF [.m,.b] 4 false kQ
noncomputable def lN:FS:=(aT (eX 3 mK)
  (aT (iI (rM (aB (aC 2) aK)) (aO 4) (aT (bY 5 (bF dB (aC 1) (bC [.m,.b] false aR (aB (aC 0) (aB (jX rJ (aB (aC 1) aK)) aK)))))
  (aT (bY 6 (bF dB (aC 1) (bC [.m,.b] false aR (aB (aC 0) (aB (jX rJ (aB (aC 1) aK)) aK)))))
  (aT (pW (bL (bF IT (bC [.m,.b] false aR (aB (aC 0) (aB (fC (.int 3)) aK))) (fC (.int 0)))) (bY 6 (fC .bA)) dA)
  (pW (vA (bL (bF (zJ true) (aC 5) (aC 3))) (L4 (bL (bC [.b,.b,.b] false gH (aB (aC 3) (aB (aC 6) (aB (aC 5) aK))))))) (eQ 3 (aC 5) (aC 6)) dA)))))
  (cR (jX lQ (aB (C1 (aC 3)) aK)))))
noncomputable def hJ:FN:=nF [.m,.b,.b] 4 false lN
noncomputable def l5:FS:=(aT (aT (eX 2 mK) (eX 3 mK))
  (aT (bY 4 (bC [.b] false e9 (aB (aC 0) aK)))
  (aT (iI (qZ (aC 4)) (aO 5) (aT (bY 6 (bC [.b] false iP (aB (aC 5) aK)))
  (iI (FC (aB (aC 6) aK)) (jI 2 (b8 (aO 7) (b8 (aO 8) jG))) (aT (eQ 3 (aC 8) (dY (aB (fC .bA) (aB (dY (aB (fC (.str "first")) aK)) aK))))
  (pW (bL (bF ZI (aC 7) (fC (.int 0)))) (aT (bY 9 (dY (aB (bF dB (aC 5) (fC (.int 1))) (aB (bF dB (aC 5) (fC (.int 0))) (aB (aC 7) (aB (bF dB (aC 6) (bF Mr.zE (aC 7) (fC (.int 1)))) aK))))))
  (eQ 2 (aC 8) (jX xK (aB (KR (aC 2) (aC 8) (aC 9)) (aB (aC 9) aK))))) dA)))))
  (aT (VJ 2 (iI (EG (aC 2)) (jI 2 (b8 (aO 8) (b8 (aO 9) jG))) (eQ 3 (aC 8) (dY (aB (bF dB (aC 9) (fC (.int 3))) (aB (dY (aB (fC (.str "told")) (aB (bF dB (aC 9) (fC (.int 1))) (aB (bF dB (aC 9) (fC (.int 2))) aK)))) aK))))))
  (aT (iI (qZ (aC 4)) (aO 5) (aT (bY 6 (bC [.b] false iP (aB (aC 5) aK)))
  (eQ 3 (bF dB (aC 5) (fC (.int 0))) (SY (bL (bF OS (aC 6) (gZ aK))) (dY (aB (bF dB (aC 6) (fUn OX (fC (.int 1)))) (aB (dY (aB (fC (.str "own")) aK)) aK))) (dY (aB (fC .bA) (aB (dY (aB (fC (.str "first")) aK)) aK)))))))
  (aT (iI (qZ (aC 1)) (jI 2 (b8 (aO 8) (b8 (aO 10) jG))) (aT (eQ 3 (aC 8) (dY (aB (aC 10) (aB (dY (aB (fC (.str "hand")) aK)) aK))))
  (pW (vA (bL (bF (JH true) (aC 10) (fC .bA))) (bL (bF (zJ true) (aC 10) (aC 3)))) (eQ 3 (aC 10) (dY (aB (fC .bA) (aB (dY (aB (fC (.str "first")) aK)) aK)))) dA)))
  (cR (aC 3))))))))
noncomputable def hW:FN:=nF [.b,.b] 9 false l5
noncomputable def pV:FS:=(aT (bY 3 (jQ (qZ (aC 1)) 2 [] [] (jI 2 (b8 (aO 0) (b8 (aO 1) jG))) dM (aC 0) (aC 1)))
  (aT (bY 4 (bC [.b] false lA (aB (aC 0) aK)))
  (aT (bY 5 (bC [.b] false g9 (aB (aC 0) aK)))
  (cR (jQ (qZ (aC 2)) 1 [3,4,5] [] (aO 0) dM (aC 0) (bC [.b,.b,.b,.b] false cQ (aB (aC 1) (aB (aC 2) (aB (aC 3) (aB (aC 0) aK))))))))))
noncomputable def iK:FN:=nF [.b,.b,.b] 3 true pV
noncomputable def lT:FS:=(aT (bY 3 (jQ (qZ (aC 1)) 2 [] [] (jI 2 (b8 (aO 0) (b8 (aO 1) jG))) dM (aC 0) (fC (.bl true))))
  (aT (bY 4 (bC [.b] false lE (aB (aC 0) aK)))
  (aT (bY 5 (bC [.b] false i5 (aB (jQ (w4 (aC 2)) 1 [2] [] (aO 0) dM (aC 0) (bF dB (bF dB (aC 1) (aC 0)) (fC (.int 0)))) aK)))
  (cR (jX lQ (aB (jX fL (aB (fI (qZ (aC 5)) 1 [3,4] [] (aO 0) dM (bC [.b,.b] false gG (aB (aC 0) (aB (bC [.b,.b,.b] false kX (aB (aC 0) (aB (aC 1) (aB (aC 2) aK)))) aK)))) aK)) aK))))))
noncomputable def cN:FN:=nF [.b,.b,.b] 3 false lT
noncomputable def jL:FS:=(aT (eX 3 (fI (rM (aB (bC [.m,.b] false aR (aB (aC 1) (aB (fC (.int 13)) aK))) aK)) 1 [1,2] [(1,1)] (aO 0) dM (bC [.m,.b] false dN (aB (aC 1) (aB (aC 2) aK)))))
  (aT (iI (YK (aB (fC (.int 1)) (aB (jX FH (aB (jX rJ (aB (aC 0) aK)) (aB (fC (.int 40)) aK))) aK))) (aO 4) (vE 3 (C5 dN (bC [.b,.b] true gK (aB (aC 0) (aB (aC 4) aK))) 2)))
  (cR (aC 3))))
noncomputable def fO:FN:=nF [.b,.m,.b] 2 false jL
noncomputable def zG:FS:=(cR (bC [.b,.b,.b] false cN (aB (aC 0) (aB (aC 1) (aB (bC [.b,.b,.b] true iK (aB (aC 0) (aB (aC 1) (aB (bC [.b,.b] false kA (aB (aC 0) (aB (aC 1) aK))) aK)))) aK)))))
noncomputable def pK:FN:=nF [.b,.b] 0 false zG
noncomputable def oF:FS:=(aT (eX 2 (bC [.b,.b,.b] true iK (aB (aC 0) (aB (aC 1) (aB (bC [.b,.b] false kA (aB (aC 0) (aB (aC 1) aK))) aK)))))
  (aT (bY 3 (bC [.b,.b,.b] false cN (aB (aC 0) (aB (aC 1) (aB (aC 2) aK)))))
  (aT (iI (qZ (aC 3)) (aO 4) (eQ 2 (bF dB (aC 4) (fC (.int 0))) (dY (aB (fC .bA) (aB (dY (aB (fC (.str "ring")) (aB (aC 4) aK))) aK)))))
  (cR (jX lQ (aB (fI (qZ (jX fL (aB (aC 2) aK))) 1 [2] [] (aO 0) dM (dY (aB (aC 0) (aB (bF dB (bF dB (aC 1) (aC 0)) (fC (.int 0))) (aB (bF dB (bF dB (aC 1) (aC 0)) (fC (.int 1))) aK))))) aK))))))
noncomputable def jE:FN:=nF [.b,.b] 3 false oF
noncomputable def mE:FS:=(aT (bY 2 (bC [.b,.b] false hW (aB (aC 0) (aB (aC 1) aK))))
  (aT (bY 3 (bC [.b,.b] false jE (aB (aC 0) (aB (aC 1) aK))))
  (aT (pW (S0 (L4 (bL (jX uA (aB (aC 3) (aB (fC (.ty "tuple")) aK))))) (bL (bF OS (fI (qZ (aC 3)) 1 [] [] (aO 0) dM (bF dB (aC 0) (fC (.int 0)))) (jX fL (aB (aC 2) aK))))) (cR (fC (.bl false))) dA)
  (aT (aT (eX 4 mK) (aT (eX 5 (gZ aK)) dA))
  (aT (iI (qZ (aC 3)) (aO 6) (aT (pW (S0 (L4 (bL (jX uA (aB (aC 6) (aB (fC (.ty "tuple")) aK))))) (bL (bF OS (jX rJ (aB (aC 6) aK)) (fC (.int 3))))) (cR (fC (.bl false))) dA)
  (aT (SI (aC 6) (jI 3 (b8 (aO 7) (b8 (aO 8) (b8 (aO 9) jG)))))
  (aT (eQ 4 (aC 7) (aC 8))
  (pW (bL (bF OS (dY (aB (aC 8) (aB (aC 9) aK))) (bF dB (aC 2) (aC 7)))) (aT (pW (S0 (bL (bF (JH true) (aC 8) (fC .bA))) (S0 (bL (bF OS (bF dB (aC 9) (fC (.int 0))) (fC (.str "ring")))) (S0 (bL (bF OS (bF dB (bF dB (aC 9) (fC (.int 1))) (fC (.int 0))) (aC 7))) (bL (bF IT (bF dB (bF dB (aC 2) (aC 7)) (fC (.int 1))) (dY (aB (fC (.str "hand")) aK))))))) (cR (fC (.bl false))) dA)
  (vE 5 (bF dB (aC 9) (fC (.int 1))))) (pW (bL (jX P1 (aB (fI (qZ (aC 9)) 1 [] [] (aO 0) dM (jX uA (aB (aC 0) (aB (fC (.ty "bool")) aK)))) aK))) (cR (fC (.bl false))) dA))))))
  (cR (vL (bF IT (aC 5) (jX xM (aB (bC [.b,.b] false pK (aB (aC 0) (aB (aC 1) aK))) aK))) (jX PY (aB (fI (w4 (aC 4)) 1 [4] [] (aO 0) dM (bC [.b,.v] false i9 (aB (aC 1) (aB (aC 0) aK)))) aK)))))))))
noncomputable def dH:FN:=nF [.b,.b] 8 false mE
noncomputable def ND:FS:=(aT (eX 1 (bC [.b,.b] true gK (aB (aC 0) (aB (fC (.int 0)) aK))))
  (aT (bY 2 (bF iZ (fC (.int 1)) (bC [.m,.b] false aR (aB (aC 1) (aB (bF dB (gZ (aB (fC (.int 4)) (aB (fC (.int 12)) (aB (fC (.int 40)) aK)))) (bC [.m,.b] false aR (aB (aC 1) (aB (fC (.int 3)) aK)))) aK)))))
  (aT (bY 3 (bC [.m,.b] false aR (aB (aC 1) (aB (fC (.int 9)) aK))))
  (aT (bY 4 (bC [.b,.m,.b] false fO (aB (aC 0) (aB (aC 1) (aB (aC 2) aK)))))
  (aT (bY 5 (bC [.m,.b] false g8 (aB (aC 1) (aB (aC 2) aK))))
  (aT (bY 6 (bC [.b,.b] false i7 (aB (aC 4) (aB (aC 5) aK))))
  (aT (bY 7 (bC [.m,.b,.b] false hJ (aB (aC 1) (aB (aC 5) (aB (aC 3) aK)))))
  (cR (vL (bC [.b,.b] false dH (aB (aC 6) (aB (aC 7) aK))) (vL (bC [.b,.b] false dH (aB (aC 6) (aB (dY aK) aK))) (vL (bC [.b,.b] false dH (aB (KA KJ (aC 6) (l0 (fC (.int 1))) fR) (aB (aC 7) aK))) (bC [.b,.b] false dH (aB (aC 6) (aB (aC 7) aK))))))))))))))
noncomputable def yT:FN:=nF [.b] 7 false ND
noncomputable def top (i:Nat):Stmt:=PySem.Challenge.pw_answertrees_k21_by_names.main.body.getD i (.Pass ⟨0,0,0,0⟩)
noncomputable abbrev l6:Stmt:=top 1
noncomputable abbrev kP:Stmt:=top 2
noncomputable abbrev jZ:Stmt:=top 3
noncomputable abbrev j9:Stmt:=top 5
noncomputable abbrev jH:Stmt:=top 6
noncomputable abbrev oV:Stmt:=top 7
noncomputable abbrev iA:Stmt:=top 8
noncomputable abbrev k8:Stmt:=top 10
noncomputable abbrev pB:Stmt:=top 12
noncomputable abbrev gC:Stmt:=top 13
noncomputable abbrev gW:Stmt:=top 14
noncomputable abbrev eI:Stmt:=top 15
noncomputable abbrev sJ:Stmt:=top 16
noncomputable abbrev iM:Stmt:=top 17
noncomputable abbrev lD:Stmt:=top 19
noncomputable abbrev kW:Stmt:=top 20
noncomputable abbrev fG:Stmt:=top 21
noncomputable abbrev fM:Stmt:=top 22
noncomputable abbrev eW:Stmt:=top 23
noncomputable abbrev iN:Stmt:=top 24
noncomputable abbrev gT:Stmt:=top 25
noncomputable abbrev jB:Stmt:=top 26
noncomputable abbrev kH:Stmt:=top 27
noncomputable abbrev fV:Stmt:=top 28
noncomputable abbrev jF:Stmt:=top 29
noncomputable abbrev k9:Stmt:=top 30
noncomputable abbrev eA:Stmt:=top 31
noncomputable abbrev ET:Stmt:=top 32
structure Txt (K:Frag) (mg:Str->Option Value):Prop where
 eG:mg "enumerate"=none
 dG:mg "tuple"=none
 pP:mg "min"=none
 jT:mg "len"=none
 eU:mg "sorted"=none
 dP:mg "range"=none
 qH:mg "list"=none
 w8:mg "str"=none
 B7:mg "int"=none
 dF:mg "isinstance"=none
 sO:mg "bool"=none
 z9:mg "any"=none
 AB:mg "all"=none
section
variable (P:Program) (w:World) (K:Frag) (mg:Str->Option Value) (base:Heap)
noncomputable abbrev o4:Prop:=Cn P w K mg base "elders" l6 ["letter"] 1 [.b] false iD
noncomputable abbrev iR:Prop:=Cn P w K mg base "standing" kP ["pack"] 1 [.b] false eF
noncomputable abbrev zL:Prop:=Cn P w K mg base "choice" oV ["held","rows","claimed","name"] 1 [.b,.b,.b,.b] false cQ
noncomputable abbrev tJ:Prop:=Cn P w K mg base "rings_in" k8 ["above"] 1 [.b] false i5
noncomputable abbrev vH:Prop:=Cn P w K mg base "cut_one" gC ["ring","held","days"] 1 [.b,.b,.b] false kX
noncomputable abbrev pC:Prop:=Cn P w K mg base "begun_with" gW ["ring","name"] 1 [.b,.b] false gG
noncomputable abbrev nJ:Prop:=Cn P w K mg base "_law_hand" lD ["_law_script","_law_k"] 1 [.b,.b] true gK
noncomputable abbrev fX:Prop:=Cn P w K mg base "_law_take" kW ["_law_hand_here","_law_many"] 1 [.m,.b] false aR
noncomputable abbrev uG:Prop:=Cn P w K mg base "_law_pack" iN ["_law_letters_here","_law_names_here"] 1 [.b,.b] false i7
noncomputable abbrev oQ:Prop:=Cn P w K mg base "_law_climbs" gT ["_law_held","_law_here","_law_name"] 1 [.b,.b,.b] false gH
noncomputable abbrev w6:Prop:=Cn P w K mg base "_law_row" kH ["_law_letter_here"] 1 [.b] false iP
noncomputable abbrev mF:Prop:=Cn P w K mg base "_law_standing" fV ["_law_pack_here"] 1 [.b] false e9
noncomputable abbrev sR:Prop:=Cn P w K mg base "_law_ends" k9 ["_law_ties","_law_name"] 1 [.b,.v] false i9
noncomputable abbrev wR:Prop:=Cn P w K mg base "days_of" jZ ["pack"] 2 [.b] false lE
noncomputable abbrev wQ:Prop:=Cn P w K mg base "rows_of" j9 ["pack"] 2 [.b] false lA
noncomputable abbrev qT:Prop:=Cn P w K mg base "claims_of" jH ["pack"] 2 [.b] false g9
noncomputable abbrev t9:Prop:=Cn P w K mg base "places" pB ["pack","marks"] 2 [.b,.b] false kA
noncomputable abbrev rD:Prop:=Cn P w K mg base "_law_names" fG ["_law_hand_here","_law_many"] 2 [.m,.b] false g8
noncomputable abbrev oR:Prop:=Cn P w K mg base "_law_letter" fM ["_law_hand_here","_law_m"] 2 [.m,.b] false dN
noncomputable abbrev qN:Prop:=Cn P w K mg base "_law_marks" jB ["_law_hand_here","_law_names_here","_law_many"] 2 [.m,.b,.b] false hJ
noncomputable abbrev qS:Prop:=Cn P w K mg base "_law_table" jF ["_law_pack_here","_law_marks_here"] 2 [.b,.b] false hW
noncomputable abbrev qD:Prop:=Cn P w K mg base "choices" iA ["pack","marks","names"] 3 [.b,.b,.b] true iK
noncomputable abbrev mB:Prop:=Cn P w K mg base "cut_rings" eI ["pack","marks","ties"] 3 [.b,.b,.b] false cN
noncomputable abbrev nG:Prop:=Cn P w K mg base "_law_letters" eW ["_law_script","_law_hand_here","_law_m"] 3 [.b,.m,.b] false fO
noncomputable abbrev EY:Prop:=Cn P w K mg base "rings" sJ ["pack","marks"] 4 [.b,.b] false pK
noncomputable abbrev tW:Prop:=Cn P w K mg base "by_names" iM ["pack","marks"] 4 [.b,.b] false jE
noncomputable abbrev qL:Prop:=Cn P w K mg base "_law_right" eA ["_law_pack_here","_law_marks_here"] 5 [.b,.b] false dH
noncomputable abbrev ab2:Prop:=Cn P w K mg base "law" ET ["_law_script"] 6 [.b] false yT
end
section
variable {P:Program} {w:World} {K:Frag} {mg:Str->Option Value} {base:Heap}
local macro_rules | `(tactic| walk_at "rf") => `(tactic| repeat' (first | with_reducible first | apply GJ | apply QC | apply XA | apply QX | apply P2 | apply SQ | apply XI | apply M4 | apply IC | apply MT | apply O1 | apply JN | apply GU | apply HL | apply NT | apply SS | apply zT | apply XO | apply K8 | apply DS | apply JL | apply NA | apply SA | apply YG | apply O3 | apply KO | apply JS | apply HP | apply R0 | apply Q7 | apply VU | apply PD | apply U1 | apply RL | apply O0 | apply OV | apply OA | apply IA | apply R4 | apply OO | apply CZ | apply KG | apply HY | apply R9 | apply VX | apply VF | apply II | apply CP | apply J3 | apply D9 | apply JP | apply QQ | apply C7 | apply KS | apply ID | apply D8 | apply IY | apply ON | apply NQ | apply GW | apply VZ | apply QF | apply UX | apply HE | apply LU | apply LV | apply SR | apply HR | apply Q5 | apply IG | apply XF | apply HS | apply J5 | apply SW | apply E6 | apply UE | apply S8 | apply T8 | apply M5 | apply NJ | apply EL | apply KL | apply zZ | apply TZ | apply S2 | apply DC | apply T4 | apply OI | apply LY | apply FP | apply JO | apply S9 | apply KQ | apply A9 | apply F5 | apply TB | apply EH | apply E4 | apply F7 | apply BB | apply AO | apply GP | apply LG | apply GD | apply L7 | apply BW | apply NI | first | exact SW | exact E6 | exact UE | exact S8 | exact T8 | exact M5 | exact NJ | exact EL | exact KL | exact zZ | exact TZ | exact S2 | exact DC | exact T4 | exact OI | exact LY | exact FP | exact JO | exact S9 | exact KQ | exact A9 | exact F5 | exact TB | exact EH | exact E4 | exact F7 | exact BB | exact AO | exact GP | exact LG | exact GD | exact L7 | exact BW | exact NI | rfl | decide))
theorem HX (T:Txt K mg) (D:Dx K mg "elders" l6 ["letter"]):o4 P w K mg base:=cV D (N:=["letter","own","row"]) ⟨rfl,rfl,rfl,by decide+kernel,rfl,by decide+kernel,by decide+kernel⟩ rfl rfl fun S f cdv A outer s H E hr=>
 ⟨_,(aE (aX (i:=1) S.nd rfl (Or.inr rfl) (a9 (eE K hr) (pv 0) aG (fun _ _=>rfl)))
   (aE (aX (i:=2) S.nd rfl (Or.inr rfl) (a9 (eE K hr) (pv 0) aG (fun _ _=>rfl)))
   (aJ (bM (cJ (BA K) (by rfl) T.dG eK (aA (mG ["at","name","own","row"] 2 [1,2] ["letter","own","row"] (aV l6) rfl rfl rfl (yP K rfl T.eG (aA (pv 2) aD)) (by decide+kernel) (fun _=>(e8 (n:=2) K rfl (bJ (aN (i:=0) (show(["at","name","own","row"]:List Str).Nodup by decide+kernel) rfl (Or.inl rfl)) (bJ (aN (i:=1) (show(["at","name","own","row"]:List Str).Nodup by decide+kernel) rfl (Or.inl rfl)) fA)))) (fun _=>(pD (PW.pt (pS (bD (BK K hr) (pv 1) (pv 2) (cF _)) (mR (bD (iS K hr) (pv 1) (iG (W3 K) (pv 3) (kY (bR (mZ K) (pv 0) aG)) k7) (by rfl))))))) (fun _=>(pv 1))) aD)))))),by unfold uL;walk_at "rf"⟩
theorem zN (T:Txt K mg) (D:Dx K mg "standing" kP ["pack"]):iR P w K mg base:=cV D (N:=["pack","first","letter"]) ⟨rfl,rfl,rfl,by decide+kernel,rfl,by decide+kernel,by decide+kernel⟩ rfl rfl fun S f cdv A outer s H E hr=>
 ⟨_,(aE (aX (i:=1) S.nd rfl (Or.inl rfl) fT)
   (aE (cU PassesOwn.never rfl (cK K (pv 0)) (aN (i:=2) S.nd rfl (Or.inl rfl)) (aJ (dS (bD (iS K hr) (a9 (eE K hr) (pv 2) aG (fun _ _=>rfl)) (pv 1) (by rfl)) (aJ (c8 (fW hr) (pv 1) (a9 (eE K hr) (pv 2) aG (fun _ _=>rfl)) (pv 2) rfl)) b9)))
   (aJ (bM (cJ ac0 (by rfl) T.dG eK (aA (E2 (pv 1)) aD)))))),by unfold oA;walk_at "rf"⟩
theorem I0 (T:Txt K mg) (D:Dx K mg "choice" oV ["held","rows","claimed","name"]):zL P w K mg base:=cV D (N:=["held","rows","claimed","name","row","day","one","at"]) ⟨rfl,rfl,rfl,by decide+kernel,rfl,by decide+kernel,by decide+kernel⟩ rfl rfl fun S f cdv A outer s H E hr=>
 ⟨_,(aE (dS (bD (inX K hr) (pv 3) (pv 0) (by rfl)) (aJ (bM (bU (aA (a9 (eE K hr) (pv 0) (pv 3) (fun _ _=>rfl)) (aA (bU (aA dE aD)) aD))))) b9)
   (aE (dS (bD (inX K hr) (pv 3) (pv 1) (by rfl)) (aE (aX (i:=4) S.nd rfl (Or.inl rfl) (a9 (eE K hr) (pv 1) (pv 3) (fun _ _=>rfl)))
   (aJ (bM (pI (vG K (pv 4) (fun _=>rfl)) (bU (aA (a9 (eE K hr) (pv 4) (TY OG aG) (fun _ _=>rfl)) (aA (bU (aA dE aD)) aD))) (bU (aA fK (aA (bU (aA dE aD)) aD))))))) b9)
   (aE (dS (bD (inX K hr) (pv 3) (pv 2) (by rfl)) (aE (tF (bN (VC K hr) (by rfl) T.pP tE (aA (a9 (eE K hr) (pv 2) (pv 3) (fun _ _=>rfl)) aD)) (e8 (n:=3) K rfl (bJ (aN (i:=5) S.nd rfl (Or.inl rfl)) (bJ (aN (i:=6) S.nd rfl (Or.inl rfl)) (bJ (aN (i:=7) S.nd rfl (Or.inl rfl)) fA)))))
   (aJ (bM (bU (aA (a9 (eE K hr) (a9 (eE K hr) (pv 1) (pv 6) (fun _ _=>rfl)) (bR DH (pv 7) aG) (fun _ _=>rfl)) (aA (bU (aA dE (aA (pv 6) (aA (pv 7) aD)))) aD)))))) b9)
   (aJ (bM (bU (aA fK (aA (bU (aA dE aD)) aD)))))))),by unfold jV;walk_at "rf"⟩
theorem AH (T:Txt K mg) (D:Dx K mg "rings_in" k8 ["above"]):tJ P w K mg base:=cV D (N:=["above","met","found","start","climbed","name"]) ⟨rfl,rfl,rfl,by decide+kernel,rfl,by decide+kernel,by decide+kernel⟩ rfl rfl fun S f cdv A outer s H E hr=>
 ⟨_,(aE (aX (i:=1) S.nd rfl (Or.inl rfl) fT)
   (aE (aX (i:=2) S.nd rfl (Or.inl rfl) (fB aD))
   (aE (cU PassesOwn.never rfl (xX (pv 0)) (aN (i:=3) S.nd rfl (Or.inl rfl)) (aE (aX (i:=4) S.nd rfl (Or.inl rfl) (fB aD))
   (aE (aX (i:=5) S.nd rfl (Or.inl rfl) (pv 3))
   (aE (L3 PassesOwn.never (PW.pt (pS (bD oS (pv 5) fK (cF _)) (mR (bD (iS K hr) (pv 5) (pv 1) (by rfl))))) (aE (c8 (fW hr) (pv 1) (pv 5) (pv 3) rfl)
   (aE (lG (jR K plainAttrs_list PySem.F.slot_list_append PySem.F.type_list_append eL (pv 4) (aA (pv 5) aD)))
   (aJ (aX (i:=5) S.nd rfl (Or.inl rfl) (AD (fW hr) (pv 0) (pv 5) ⟨rfl,by rfl,rfl,rfl⟩))))))
   (aJ (dS (PW.pt (pS (bD oS (pv 5) fK (cF _)) (mR (bD (A2 K hr) (a9 (eE K hr) (pv 1) (pv 5) (fun _ _=>rfl)) (pv 3) (cF _))))) (aJ (lG (jR K plainAttrs_list PySem.F.slot_list_append PySem.F.type_list_append eL (pv 2) (aA (iG (W3 K) (pv 4) (kY (jR K plainAttrs_list slot_list_index PySem.F.type_list_index (vY K) (pv 4) (aA (pv 5) aD))) k7) aD)))) b9))))))
   (aJ (bM (pv 2)))))),by unfold nM;walk_at "rf"⟩
theorem C0 (T:Txt K mg) (D:Dx K mg "cut_one" gC ["ring","held","days"]):vH P w K mg base:=cV D (N:=["ring","held","days","free","empty"]) ⟨rfl,rfl,rfl,by decide+kernel,rfl,by decide+kernel,by decide+kernel⟩ rfl rfl fun S f cdv A outer s H E hr=>
 ⟨_,(aE (pF (i:=3) ["name","held"] 1 [1] ["ring","held","days","free","empty"] (aV gC) rfl rfl rfl S.nd rfl rfl (cK K (pv 0)) (by decide+kernel) (fun _=>(aN (i:=0) (show(["name","held"]:List Str).Nodup by decide+kernel) rfl (Or.inl rfl))) (fun _=>(pD (bD (iS K hr) (pv 0) (pv 1) (by rfl)))) (fun _=>(pv 0)))
   (aE (pF (i:=4) ["name","days"] 1 [2] ["ring","held","days","free","empty"] (aV gC) rfl rfl rfl S.nd rfl rfl (cK K (pv 3)) (by decide+kernel) (fun _=>(aN (i:=0) (show(["name","days"]:List Str).Nodup by decide+kernel) rfl (Or.inl rfl))) (fun _=>(pD (bD (iS K hr) (pv 0) (pv 1) (by rfl)))) (fun _=>(pv 0)))
   (aE (dS (vG K (pv 4) (fun _=>rfl)) (aJ (bM (bN (VC K hr) (by rfl) T.pP tE (aA (pv 4) aD)))) b9)
   (aJ (bM (a9 (eE K hr) (bN (VC K hr) (by rfl) T.pP tE (aA (mG ["name","days"] 1 [2] ["ring","held","days","free","empty"] (aV gC) rfl rfl rfl (cK K (pv 3)) (by decide+kernel) (fun _=>(aN (i:=0) (show(["name","days"]:List Str).Nodup by decide+kernel) rfl (Or.inl rfl))) (fun _=>cY) (fun _=>(bU (aA (a9 (eE K hr) (pv 1) (pv 0) (fun _ _=>rfl)) (aA (pv 0) aD))))) aD)) aG (fun _ _=>rfl))))))),by unfold qA;walk_at "rf"⟩
theorem u6 (T:Txt K mg) (D:Dx K mg "begun_with" gW ["ring","name"]):pC P w K mg base:=cV D (N:=["ring","name","at"]) ⟨rfl,rfl,rfl,by decide+kernel,rfl,by decide+kernel,by decide+kernel⟩ rfl rfl fun S f cdv A outer s H E hr=>
 ⟨_,(aE (aX (i:=2) S.nd rfl (Or.inl rfl) (jR K plainAttrs_list slot_list_index PySem.F.type_list_index (vY K) (pv 0) (aA (pv 1) aD)))
   (aJ (bM (cJ (BA K) (by rfl) T.dG eK (aA (bR (mZ K) (iG (W3 K) (pv 0) (kY (pv 2)) k7) (iG (W3 K) (pv 0) k7 (kY (pv 2)))) aD))))),by unfold kO;walk_at "rf"⟩
theorem z7 (T:Txt K mg) (D:Dx K mg "_law_hand" lD ["_law_script","_law_k"]):nJ P w K mg base:=cV D (N:=["_law_script","_law_k","_law_cell","_law_great"]) ⟨rfl,rfl,rfl,by decide+kernel,rfl,by decide+kernel,by decide+kernel⟩ rfl rfl fun S f cdv A outer s H E hr=>
 ⟨_,(aE (aX (i:=2) S.nd rfl (Or.inl rfl) (pI (bD ltX (pv 1) (bN (CA K) (by rfl) T.jT kK (aA (pv 0) aD)) (cF _)) (a9 (eE K hr) (pv 0) (pv 1) (fun _ _=>rfl)) aG))
   (aE (aX (i:=3) S.nd rfl (Or.inl rfl) (pI (bD abA (pv 2) (bR oT aG aG) (cF _)) (bR jM (pv 2) (bR xZ (bR xZ (bR xZ (bR oT aG aG) (bR oT aG aG)) (bR oT aG aG)) (bR oT aG aG))) aG))
   (aJ (bM (Q9.h (ad2 (YC (ew (pv 3)) (aeA (ew (bR jM (bR l3 (bR (mZ K) (bR (mZ K) (bR jM (pv 2) aG) (bR l3 (bR l3 aG (pv 1)) (pv 1))) aG) aG) aG)) (ac6 (ew aG) MG))))))))),by unfold nK;walk_at "rf"⟩
theorem B3 (T:Txt K mg) (D:Dx K mg "_law_take" kW ["_law_hand_here","_law_many"]):fX P w K mg base:=cV D (N:=["_law_hand_here","_law_many","_law_digit","_law_blent"]) ⟨rfl,rfl,rfl,by decide+kernel,rfl,by decide+kernel,by decide+kernel⟩ rfl rfl fun S f cdv A outer s H E hr=>
 ⟨_,(aE (dS (bD N3 (a9 (eE K hr) (pv 0) aG (fun _ _=>rfl)) aG (cF _)) (aE (aX (i:=2) S.nd rfl (Or.inl rfl) (bR jM (a9 (eE K hr) (pv 0) aG (fun _ _=>rfl)) (pv 1)))
   (aE (tF (bR sU (a9 (eE K hr) (pv 0) aG (fun _ _=>rfl)) (pv 1)) (NR (pv 0) aG set_list))
   (aJ (bM (pv 2))))) b9)
   (aE (tF (bR (mZ K) (a9 (eE K hr) (pv 0) aG (fun _ _=>rfl)) aG) (NR (pv 0) aG set_list))
   (aE (aX (i:=3) S.nd rfl (Or.inl rfl) (bR jM (bR l3 (bR (mZ K) (bR (mZ K) (a9 (eE K hr) (pv 0) aG (fun _ _=>rfl)) (bR l3 (bR l3 aG (a9 (eE K hr) (pv 0) aG (fun _ _=>rfl))) (a9 (eE K hr) (pv 0) aG (fun _ _=>rfl)))) aG) aG) aG))
   (aE (aX (i:=3) S.nd rfl (Or.inl rfl) (bR jM (bR l3 (pv 3) (bR (mZ K) (bR jM (pv 3) aG) (bR l3 aG (a9 (eE K hr) (pv 0) aG (fun _ _=>rfl))))) aG))
   (aJ (bM (bR jM (bR (mZ K) (bR sU (pv 3) aG) (bR sU (pv 3) aG)) (pv 1)))))))),by unfold nQ;walk_at "rf"⟩
theorem B9 (T:Txt K mg) (D:Dx K mg "_law_pack" iN ["_law_letters_here","_law_names_here"]):uG P w K mg base:=cV D (N:=["_law_letters_here","_law_names_here","_law_pack_here","_law_at","_law_day","_law_head","_law_row_here","_law_letter_here"]) ⟨rfl,rfl,rfl,by decide+kernel,rfl,by decide+kernel,by decide+kernel⟩ rfl rfl fun S f cdv A outer s H E hr=>
 ⟨_,(aE (aX (i:=2) S.nd rfl (Or.inl rfl) (fB aD))
   (aE (cU PassesOwn.never rfl (cK K (pv 0)) (e8 (n:=4) K rfl (bJ (aN (i:=3) S.nd rfl (Or.inl rfl)) (bJ (aN (i:=4) S.nd rfl (Or.inl rfl)) (bJ (aN (i:=5) S.nd rfl (Or.inl rfl)) (bJ (aN (i:=6) S.nd rfl (Or.inl rfl)) fA))))) (aE (aX (i:=7) S.nd rfl (Or.inl rfl) (bU (aA (a9 (eE K hr) (pv 1) (pv 3) (fun _ _=>rfl)) (aA (pv 4) (aA (pv 5) (aA (cJ (BA K) (by rfl) T.dG eK (aA (mG ["_law_n","_law_names_here"] 1 [1] ["_law_letters_here","_law_names_here","_law_pack_here","_law_at","_law_day","_law_head","_law_row_here","_law_letter_here"] (aV iN) rfl rfl rfl (cK K (pv 6)) (by decide+kernel) (fun _=>(aN (i:=0) (show(["_law_n","_law_names_here"]:List Str).Nodup by decide+kernel) rfl (Or.inl rfl))) (fun _=>cY) (fun _=>(a9 (eE K hr) (pv 1) (pv 0) (fun _ _=>rfl)))) aD)) aD))))))
   (aJ (dS (bD (iS K hr) (pv 7) (pv 2) (by rfl)) (aJ (lG (jR K plainAttrs_list PySem.F.slot_list_append PySem.F.type_list_append eL (pv 2) (aA (pv 7) aD)))) b9))))
   (aJ (bM (cJ (BA K) (by rfl) T.dG eK (aA (bN (AX K hr) (by rfl) T.eU iC (aA (pv 2) aD)) aD)))))),by unfold nX;walk_at "rf"⟩
theorem uX (T:Txt K mg) (D:Dx K mg "_law_climbs" gT ["_law_held","_law_here","_law_name"]):oQ P w K mg base:=cV D (N:=["_law_held","_law_here","_law_name","_law_n"]) ⟨rfl,rfl,rfl,by decide+kernel,rfl,by decide+kernel,by decide+kernel⟩ rfl rfl fun S f cdv A outer s H E hr=>
 ⟨_,(aE (cU PassesOwn.never rfl (eN rfl T.dP (aA (bR (mZ K) (bN (aaO K) (by rfl) T.jT kK (aA (pv 0) aD)) aG) aD)) (aN (i:=3) S.nd rfl (Or.inl rfl)) (aE (dS (PW.pt (vQ (bD NF (pv 1) fK (cF _)) (xP (bD (A2 K hr) (pv 1) (pv 2) (cF _))))) (aJ (bM (x3 (A2 K hr) (pv 1) (pv 2) (cF _)))) b9)
   (aJ (aX (i:=1) S.nd rfl (Or.inl rfl) (AD (fW hr) (pv 0) (pv 1) ⟨rfl,by rfl,rfl,rfl⟩)))))
   (aJ (bM lI))),by unfold kJ;walk_at "rf"⟩
theorem DJ (T:Txt K mg) (D:Dx K mg "_law_row" kH ["_law_letter_here"]):w6 P w K mg base:=cV D (N:=["_law_letter_here","_law_row_here"]) ⟨rfl,rfl,rfl,by decide+kernel,rfl,by decide+kernel,by decide+kernel⟩ rfl rfl fun S f cdv A outer s H E hr=>
 ⟨_,(aE (aX (i:=1) S.nd rfl (Or.inr rfl) (a9 (eE K hr) (pv 0) aG (fun _ _=>rfl)))
   (aJ (bM (mG ["_law_n","_law_row_here","_law_letter_here"] 1 [1,0] ["_law_letter_here","_law_row_here"] (aV kH) rfl rfl rfl (eN rfl T.dP (aA (bN (CA K) (by rfl) T.jT kK (aA (pv 1) aD)) aD)) (by decide+kernel) (fun _=>(aN (i:=0) (show(["_law_n","_law_row_here","_law_letter_here"]:List Str).Nodup by decide+kernel) rfl (Or.inl rfl))) (fun _=>(pD (PW.pt (pS (bD (BK K hr) (a9 (eE K hr) (pv 1) (pv 0) (fun _ _=>rfl)) (a9 (eE K hr) (pv 2) aG (fun _ _=>rfl)) (cF _)) (mR (bD (iS K hr) (a9 (eE K hr) (pv 1) (pv 0) (fun _ _=>rfl)) (iG (W3 K) (pv 1) (kY (bR (mZ K) (pv 0) aG)) k7) (by rfl))))))) (fun _=>(a9 (eE K hr) (pv 1) (pv 0) (fun _ _=>rfl))))))),by unfold pY;walk_at "rf"⟩
theorem rK (T:Txt K mg) (D:Dx K mg "_law_standing" fV ["_law_pack_here"]):mF P w K mg base:=cV D (N:=["_law_pack_here","_law_found","_law_letter_here"]) ⟨rfl,rfl,rfl,by decide+kernel,rfl,by decide+kernel,by decide+kernel⟩ rfl rfl fun S f cdv A outer s H E hr=>
 ⟨_,(aE (aX (i:=1) S.nd rfl (Or.inl rfl) fT)
   (aE (cU PassesOwn.never rfl (cK K (pv 0)) (aN (i:=2) S.nd rfl (Or.inl rfl)) (aJ (dS (bD (iS K hr) (a9 (eE K hr) (pv 2) aG (fun _ _=>rfl)) (pv 1) (by rfl)) (aJ (c8 (fW hr) (pv 1) (a9 (eE K hr) (pv 2) aG (fun _ _=>rfl)) (pv 2) rfl)) b9)))
   (aJ (bM (cJ ac2 (by rfl) T.qH E1 (aA (E2 (pv 1)) aD)))))),by unfold iH;walk_at "rf"⟩
theorem BU (T:Txt K mg) (D:Dx K mg "_law_ends" k9 ["_law_ties","_law_name"]):sR P w K mg base:=cV D (N:=["_law_ties","_law_name","_law_here","_law_n"]) ⟨rfl,rfl,rfl,by decide+kernel,rfl,by decide+kernel,by decide+kernel⟩ rfl rfl fun S f cdv A outer s H E hr=>
 ⟨_,(aE (aX (i:=2) S.nd rfl (Or.inl rfl) (pv 1))
   (aE (cU PassesOwn.never rfl (eN rfl T.dP (aA (bN (aaO K) (by rfl) T.jT kK (aA (pv 0) aD)) aD)) (aN (i:=3) S.nd rfl (Or.inl rfl)) (aE (aX (i:=2) S.nd rfl (Or.inl rfl) (a9 (eE K hr) (pv 0) (pv 2) (fun _ _=>rfl)))
   (aJ (dS (bD NF (pv 2) fK (cF _)) (aJ (bM lI)) b9))))
   (aJ (bM lI)))),by unfold oE;walk_at "rf"⟩
theorem EE (T:Txt K mg) (D:Dx K mg "days_of" jZ ["pack"]) (G_standing:iR P w K mg base):wR P w K mg base:=cV D (N:=["pack"]) ⟨rfl,rfl,rfl,by decide+kernel,rfl,by decide+kernel,by decide+kernel⟩ rfl rfl fun S f cdv A outer s H E hr=>
 ⟨_,(aJ (bM (vS ["letter"] 1 [] ["pack"] (aV jZ) rfl rfl rfl (cK K (aY G_standing hr (by decide) rfl (aA (pv 0) aD))) (by decide+kernel) (fun _=>(aN (i:=0) (show(["letter"]:List Str).Nodup by decide+kernel) rfl (Or.inl rfl))) (fun _=>cY) (fun _=>(a9 (eE K hr) (pv 0) aG (fun _ _=>rfl))) (fun _=>(a9 (eE K hr) (pv 0) aG (fun _ _=>rfl)))))),by unfold pU;walk_at "rf"⟩
theorem DQ (T:Txt K mg) (D:Dx K mg "rows_of" j9 ["pack"]) (G_elders:o4 P w K mg base) (G_standing:iR P w K mg base):wQ P w K mg base:=cV D (N:=["pack"]) ⟨rfl,rfl,rfl,by decide+kernel,rfl,by decide+kernel,by decide+kernel⟩ rfl rfl fun S f cdv A outer s H E hr=>
 ⟨_,(aJ (bM (vS ["letter"] 1 [] ["pack"] (aV j9) rfl rfl rfl (cK K (aY G_standing hr (by decide) rfl (aA (pv 0) aD))) (by decide+kernel) (fun _=>(aN (i:=0) (show(["letter"]:List Str).Nodup by decide+kernel) rfl (Or.inl rfl))) (fun _=>cY) (fun _=>(a9 (eE K hr) (pv 0) aG (fun _ _=>rfl))) (fun _=>(aY G_elders hr (by decide) rfl (aA (pv 0) aD)))))),by unfold pZ;walk_at "rf"⟩
theorem xI (T:Txt K mg) (D:Dx K mg "claims_of" jH ["pack"]) (G_standing:iR P w K mg base) (G_elders:o4 P w K mg base):qT P w K mg base:=cV D (N:=["pack","found","letter","at","name"]) ⟨rfl,rfl,rfl,by decide+kernel,rfl,by decide+kernel,by decide+kernel⟩ rfl rfl fun S f cdv A outer s H E hr=>
 ⟨_,(aE (aX (i:=1) S.nd rfl (Or.inl rfl) fT)
   (aE (cU PassesOwn.never rfl (cK K (aY G_standing hr (by decide) rfl (aA (pv 0) aD))) (aN (i:=2) S.nd rfl (Or.inl rfl)) (aJ (cU PassesOwn.never rfl (yP K rfl T.eG (aA (aY G_elders hr (by decide) rfl (aA (pv 2) aD)) aD)) (e8 (n:=2) K rfl (bJ (aN (i:=3) S.nd rfl (Or.inl rfl)) (bJ (aN (i:=4) S.nd rfl (Or.inl rfl)) fA))) (aJ (dS (bD N3 (pv 3) aG (cF _)) (aJ (lG (jR K plainAttrs_list PySem.F.slot_list_append PySem.F.type_list_append eL (DW (pv 1) (pv 4) (fB aD) ⟨rfl,by rfl,rfl,rfl⟩) (aA (bU (aA (a9 (eE K hr) (pv 2) aG (fun _ _=>rfl)) (aA (a9 (eE K hr) (pv 2) aG (fun _ _=>rfl)) (aA (pv 3) aD)))) aD)))) b9)))))
   (aJ (bM (pv 1))))),by unfold mD;walk_at "rf"⟩
theorem HZ (T:Txt K mg) (D:Dx K mg "places" pB ["pack","marks"]) (G_standing:iR P w K mg base) (G_elders:o4 P w K mg base):t9 P w K mg base:=cV D (N:=["pack","marks","known","letter","name","elder"]) ⟨rfl,rfl,rfl,by decide+kernel,rfl,by decide+kernel,by decide+kernel⟩ rfl rfl fun S f cdv A outer s H E hr=>
 ⟨_,(aE (aX (i:=2) S.nd rfl (Or.inl rfl) fT)
   (aE (cU PassesOwn.never rfl (cK K (aY G_standing hr (by decide) rfl (aA (pv 0) aD))) (aN (i:=3) S.nd rfl (Or.inl rfl)) (aE (c8 (fW hr) (pv 2) (a9 (eE K hr) (pv 3) aG (fun _ _=>rfl)) lI rfl)
   (aJ (cU PassesOwn.never rfl (cK K (aY G_elders hr (by decide) rfl (aA (pv 3) aD))) (aN (i:=4) S.nd rfl (Or.inl rfl)) (aJ (c8 (fW hr) (pv 2) (pv 4) lI rfl))))))
   (aE (cU PassesOwn.never rfl (cK K (pv 1)) (e8 (n:=2) K rfl (bJ (aN (i:=4) S.nd rfl (Or.inl rfl)) (bJ (aN (i:=5) S.nd rfl (Or.inl rfl)) fA))) (aE (c8 (fW hr) (pv 2) (pv 4) lI rfl)
   (aJ (dS (bD oS (pv 5) fK (cF _)) (aJ (c8 (fW hr) (pv 2) (pv 5) lI rfl)) b9))))
   (aJ (bM (cJ (BA K) (by rfl) T.dG eK (aA (bN (AX K hr) (by rfl) T.eU iC (aA (pv 2) aD)) aD))))))),by unfold uC;walk_at "rf"⟩
theorem y8 (T:Txt K mg) (D:Dx K mg "_law_names" fG ["_law_hand_here","_law_many"]) (G_law_take:fX P w K mg base):rD P w K mg base:=cV D (N:=["_law_hand_here","_law_many","_law_found","_law_k","_law_size","_law_name"]) ⟨rfl,rfl,rfl,by decide+kernel,rfl,by decide+kernel,by decide+kernel⟩ rfl rfl fun S f cdv A outer s H E hr=>
 ⟨_,(aE (aX (i:=2) S.nd rfl (Or.inr rfl) (fB aD))
   (aE (cU PassesOwn.never rfl (eN rfl T.dP (aA (pv 1) aD)) (aN (i:=3) S.nd rfl (Or.inl rfl)) (aE (aX (i:=4) S.nd rfl (Or.inl rfl) (a9 (eE K hr) (fB (aA aG (aA aG (aA aG (aA aG (aA aG (aA (bR (mZ K) aG (bR jM (pv 3) aG)) aD))))))) (aY G_law_take hr (by decide) rfl (aA (pv 0) (aA aG aD))) (fun _ _=>rfl)))
   (aE (aX (i:=5) S.nd rfl (Or.inl rfl) (jR K PySem.F.plainAttrs_str PySem.F.slot_str_join PySem.F.type_str_join (abC K) dE (aA (mG ["_law_n","_law_hand_here"] 1 [0] ["_law_hand_here","_law_many","_law_found","_law_k","_law_size","_law_name"] (aV fG) rfl rfl rfl (eN rfl T.dP (aA (pv 4) aD)) (by decide+kernel) (fun _=>(aN (i:=0) (show(["_law_n","_law_hand_here"]:List Str).Nodup by decide+kernel) rfl (Or.inl rfl))) (fun _=>cY) (fun _=>(a9 (eE K hr) dE (aY G_law_take hr (by decide) rfl (aA (pv 1) (aA aG aD))) (fun _ _=>rfl)))) aD)))
   (aE (dS (bD (inX K hr) (pv 5) (pv 2) (by rfl)) (aJ (aX (i:=5) S.nd rfl (Or.inl rfl) (a9 (eE K hr) (mG ["_law_n","_law_found"] 1 [2] ["_law_hand_here","_law_many","_law_found","_law_k","_law_size","_law_name"] (aV fG) rfl rfl rfl (eN rfl T.dP (aA (bR (mZ K) (bN (CA K) (by rfl) T.jT kK (aA (pv 2) aD)) aG) aD)) (by decide+kernel) (fun _=>(aN (i:=0) (show(["_law_n","_law_found"]:List Str).Nodup by decide+kernel) rfl (Or.inl rfl))) (fun _=>(pD (bD (iS K hr) (cJ o6 (by rfl) T.w8 K5 (aA (pv 0) aD)) (pv 1) (by rfl)))) (fun _=>(cJ o6 (by rfl) T.w8 K5 (aA (pv 0) aD)))) aG (fun _ _=>rfl)))) b9)
   (aJ (lG (jR K plainAttrs_list PySem.F.slot_list_append PySem.F.type_list_append eL (pv 2) (aA (pv 5) aD))))))))
   (aJ (bM (pv 2))))),by unfold lV;walk_at "rf"⟩
theorem uY (T:Txt K mg) (D:Dx K mg "_law_letter" fM ["_law_hand_here","_law_m"]) (G_law_take:fX P w K mg base):oR P w K mg base:=cV D (N:=["_law_hand_here","_law_m","_law_at","_law_kind","_law_day","_law_row_here"]) ⟨rfl,rfl,rfl,by decide+kernel,rfl,by decide+kernel,by decide+kernel⟩ rfl rfl fun S f cdv A outer s H E hr=>
 ⟨_,(aE (aX (i:=2) S.nd rfl (Or.inl rfl) (aY G_law_take hr (by decide) rfl (aA (pv 0) (aA (pv 1) aD))))
   (aE (aX (i:=3) S.nd rfl (Or.inl rfl) (aY G_law_take hr (by decide) rfl (aA (pv 0) (aA aG aD))))
   (aE (aX (i:=4) S.nd rfl (Or.inl rfl) (aY G_law_take hr (by decide) rfl (aA (pv 0) (aA (a9 (eE K hr) (fB (aA aG (aA aG (aA aG (aA aG aD))))) (pv 3) (fun _ _=>rfl)) aD))))
   (aE (pF (i:=5) ["_law_n","_law_hand_here","_law_m"] 1 [0,1] ["_law_hand_here","_law_m","_law_at","_law_kind","_law_day","_law_row_here"] (aV fM) rfl rfl rfl S.nd rfl rfl (eN rfl T.dP (aA (a9 (eE K hr) (fB (aA aG (aA aG (aA aG (aA aG (aA aG (aA aG aD))))))) (aY G_law_take hr (by decide) rfl (aA (pv 0) (aA aG aD))) (fun _ _=>rfl)) aD)) (by decide+kernel) (fun _=>(aN (i:=0) (show(["_law_n","_law_hand_here","_law_m"]:List Str).Nodup by decide+kernel) rfl (Or.inl rfl))) (fun _=>cY) (fun _=>(aY G_law_take hr (by decide) rfl (aA (pv 1) (aA (pv 2) aD)))))
   (aE (dS (bD (A2 K hr) (aY G_law_take hr (by decide) rfl (aA (pv 0) (aA aG aD))) aG (cF _)) (aJ (aX (i:=5) S.nd rfl (Or.inl rfl) (bR (mZ K) (iG (W3 K) (pv 5) k7 (kY aG)) (fB (aA (bR jM (bR (mZ K) (pv 2) aG) (pv 1)) aD))))) b9)
   (aJ (bM (Q9.h (acV (YC (ew (pv 2)) (Z0 (ew (a9 (eE K hr) (fB (aA (pv 4) (aA (bR DH aG (pv 4)) aD))) (cJ G8 (by rfl) T.B7 X8 (aA (x3 (A2 K hr) (pv 3) aG (cF _)) aD)) (fun _ _=>rfl))) (Z0 (ew (a9 (eE K hr) (fB (aA dE (aA dE (aA dE aD)))) (aY G_law_take hr (by decide) rfl (aA (pv 0) (aA aG aD))) (fun _ _=>rfl))) (YC (ew (pv 5)) MG))))))))))))),by unfold kQ;walk_at "rf"⟩
theorem xB (T:Txt K mg) (D:Dx K mg "_law_marks" jB ["_law_hand_here","_law_names_here","_law_many"]) (G_law_take:fX P w K mg base) (G_law_climbs:oQ P w K mg base):qN P w K mg base:=cV D (N:=["_law_hand_here","_law_names_here","_law_many","_law_held","_law_n","_law_name","_law_elder"]) ⟨rfl,rfl,rfl,by decide+kernel,rfl,by decide+kernel,by decide+kernel⟩ rfl rfl fun S f cdv A outer s H E hr=>
 ⟨_,(aE (aX (i:=3) S.nd rfl (Or.inl rfl) fT)
   (aE (cU PassesOwn.never rfl (eN rfl T.dP (aA (pv 2) aD)) (aN (i:=4) S.nd rfl (Or.inl rfl)) (aE (aX (i:=5) S.nd rfl (Or.inl rfl) (a9 (eE K hr) (pv 1) (aY G_law_take hr (by decide) rfl (aA (pv 0) (aA (bN (CA K) (by rfl) T.jT kK (aA (pv 1) aD)) aD))) (fun _ _=>rfl)))
   (aE (aX (i:=6) S.nd rfl (Or.inl rfl) (a9 (eE K hr) (pv 1) (aY G_law_take hr (by decide) rfl (aA (pv 0) (aA (bN (CA K) (by rfl) T.jT kK (aA (pv 1) aD)) aD))) (fun _ _=>rfl)))
   (aE (dS (bD (A2 K hr) (aY G_law_take hr (by decide) rfl (aA (pv 0) (aA aG aD))) aG (cF _)) (aJ (aX (i:=6) S.nd rfl (Or.inl rfl) fK)) b9)
   (aJ (dS (PW.pt (pS (bD (iS K hr) (pv 5) (pv 3) (by rfl)) (mR (DA (zF (aY G_law_climbs hr (by decide) rfl (aA (pv 3) (aA (pv 6) (aA (pv 5) aD))))))))) (aJ (c8 (fW hr) (pv 3) (pv 5) (pv 6) rfl)) b9))))))
   (aJ (bM (cJ (BA K) (by rfl) T.dG eK (aA (bN (sortI K hr) (by rfl) T.eU iC (aA (CL (pv 3)) aD)) aD)))))),by unfold lN;walk_at "rf"⟩
theorem xJ (T:Txt K mg) (D:Dx K mg "_law_table" jF ["_law_pack_here","_law_marks_here"]) (G_law_standing:mF P w K mg base) (G_law_row:w6 P w K mg base):qS P w K mg base:=cV D (N:=["_law_pack_here","_law_marks_here","_law_told","_law_found","_law_letters_here","_law_letter_here","_law_row_here","_law_at","_law_name","_law_claim","_law_elder"]) ⟨rfl,rfl,rfl,by decide+kernel,rfl,by decide+kernel,by decide+kernel⟩ rfl rfl fun S f cdv A outer s H E hr=>
 ⟨_,(aE (YQ (i:=2) (j:=3) rfl S.nd rfl rfl (by decide) rfl rfl (aA fT (aA fT aD)) rfl)
   (aE (aX (i:=4) S.nd rfl (Or.inl rfl) (aY G_law_standing hr (by decide) rfl (aA (pv 0) aD)))
   (aE (cU PassesOwn.never rfl (cK K (pv 4)) (aN (i:=5) S.nd rfl (Or.inl rfl)) (aE (aX (i:=6) S.nd rfl (Or.inl rfl) (aY G_law_row hr (by decide) rfl (aA (pv 5) aD)))
   (aJ (cU PassesOwn.never rfl (yP K rfl T.eG (aA (pv 6) aD)) (e8 (n:=2) K rfl (bJ (aN (i:=7) S.nd rfl (Or.inl rfl)) (bJ (aN (i:=8) S.nd rfl (Or.inl rfl)) fA))) (aE (c8 (fW hr) (pv 3) (pv 8) (bU (aA fK (aA (bU (aA dE aD)) aD))) rfl)
   (aJ (dS (bD N3 (pv 7) aG (cF _)) (aE (aX (i:=9) S.nd rfl (Or.inl rfl) (bU (aA (a9 (eE K hr) (pv 5) aG (fun _ _=>rfl)) (aA (a9 (eE K hr) (pv 5) aG (fun _ _=>rfl)) (aA (pv 7) (aA (a9 (eE K hr) (pv 6) (bR DH (pv 7) aG) (fun _ _=>rfl)) aD))))))
   (aJ (c8 (fW hr) (pv 2) (pv 8) (bN (abG K hr) (by rfl) T.pP tE (aA (KN (fW hr) (pv 2) (pv 8) (pv 9) ⟨rfl,by rfl,rfl,rfl⟩) (aA (pv 9) aD))) rfl))) b9)))))))
   (aE (cU PassesOwn.never rfl (ME (CL (pv 2))) (e8 (n:=2) K rfl (bJ (aN (i:=8) S.nd rfl (Or.inl rfl)) (bJ (aN (i:=9) S.nd rfl (Or.inl rfl)) fA))) (aJ (c8 (fW hr) (pv 3) (pv 8) (bU (aA (a9 (eE K hr) (pv 9) aG (fun _ _=>rfl)) (aA (bU (aA dE (aA (a9 (eE K hr) (pv 9) aG (fun _ _=>rfl)) (aA (a9 (eE K hr) (pv 9) aG (fun _ _=>rfl)) aD)))) aD))) rfl)))
   (aE (cU PassesOwn.never rfl (cK K (pv 4)) (aN (i:=5) S.nd rfl (Or.inl rfl)) (aE (aX (i:=6) S.nd rfl (Or.inl rfl) (aY G_law_row hr (by decide) rfl (aA (pv 5) aD)))
   (aJ (c8 (fW hr) (pv 3) (a9 (eE K hr) (pv 5) aG (fun _ _=>rfl)) (pI (bD (BK K hr) (pv 6) (fB aD) (cF _)) (bU (aA (a9 (eE K hr) (pv 6) (TY OG aG) (fun _ _=>rfl)) (aA (bU (aA dE aD)) aD))) (bU (aA fK (aA (bU (aA dE aD)) aD)))) rfl))))
   (aE (cU PassesOwn.never rfl (cK K (pv 1)) (e8 (n:=2) K rfl (bJ (aN (i:=8) S.nd rfl (Or.inl rfl)) (bJ (aN (i:=10) S.nd rfl (Or.inl rfl)) fA))) (aE (c8 (fW hr) (pv 3) (pv 8) (bU (aA (pv 10) (aA (bU (aA dE aD)) aD))) rfl)
   (aJ (dS (PW.pt (pS (bD oS (pv 10) fK (cF _)) (mR (bD (iS K hr) (pv 10) (pv 3) (by rfl))))) (aJ (c8 (fW hr) (pv 3) (pv 10) (bU (aA fK (aA (bU (aA dE aD)) aD))) rfl)) b9))))
   (aJ (bM (pv 3))))))))),by unfold l5;walk_at "rf"⟩
theorem CS (T:Txt K mg) (D:Dx K mg "choices" iA ["pack","marks","names"]) (G_rows_of:wQ P w K mg base) (G_claims_of:qT P w K mg base) (G_choice:zL P w K mg base):qD P w K mg base:=cV D (N:=["pack","marks","names","held","rows","claimed"]) ⟨rfl,rfl,rfl,by decide+kernel,rfl,by decide+kernel,by decide+kernel⟩ rfl rfl fun S f cdv A outer s H E hr=>
 ⟨_,(aE (aX (i:=3) S.nd rfl (Or.inr rfl) (vS ["name","elder"] 2 [] ["pack","marks","names","held","rows","claimed"] (aV iA) rfl rfl rfl (cK K (pv 1)) (by decide+kernel) (fun _=>(e8 (n:=2) K rfl (bJ (aN (i:=0) (show(["name","elder"]:List Str).Nodup by decide+kernel) rfl (Or.inl rfl)) (bJ (aN (i:=1) (show(["name","elder"]:List Str).Nodup by decide+kernel) rfl (Or.inl rfl)) fA)))) (fun _=>cY) (fun _=>(pv 0)) (fun _=>(pv 1))))
   (aE (aX (i:=4) S.nd rfl (Or.inr rfl) (aY G_rows_of hr (by decide) rfl (aA (pv 0) aD)))
   (aE (aX (i:=5) S.nd rfl (Or.inr rfl) (aY G_claims_of hr (by decide) rfl (aA (pv 0) aD)))
   (aJ (bM (vS ["name","held","rows","claimed"] 1 [3,4,5] ["pack","marks","names","held","rows","claimed"] (aV iA) rfl rfl rfl (cK K (pv 2)) (by decide+kernel) (fun _=>(aN (i:=0) (show(["name","held","rows","claimed"]:List Str).Nodup by decide+kernel) rfl (Or.inl rfl))) (fun _=>cY) (fun _=>(pv 0)) (fun _=>(aY G_choice hr (by decide) rfl (aA (pv 1) (aA (pv 2) (aA (pv 3) (aA (pv 0) aD)))))))))))),by unfold pV;walk_at "rf"⟩
theorem xE (T:Txt K mg) (D:Dx K mg "cut_rings" eI ["pack","marks","ties"]) (G_days_of:wR P w K mg base) (G_rings_in:tJ P w K mg base) (G_begun_with:pC P w K mg base) (G_cut_one:vH P w K mg base):mB P w K mg base:=cV D (N:=["pack","marks","ties","held","days","round_about"]) ⟨rfl,rfl,rfl,by decide+kernel,rfl,by decide+kernel,by decide+kernel⟩ rfl rfl fun S f cdv A outer s H E hr=>
 ⟨_,(aE (aX (i:=3) S.nd rfl (Or.inr rfl) (vS ["name","elder"] 2 [] ["pack","marks","ties","held","days","round_about"] (aV eI) rfl rfl rfl (cK K (pv 1)) (by decide+kernel) (fun _=>(e8 (n:=2) K rfl (bJ (aN (i:=0) (show(["name","elder"]:List Str).Nodup by decide+kernel) rfl (Or.inl rfl)) (bJ (aN (i:=1) (show(["name","elder"]:List Str).Nodup by decide+kernel) rfl (Or.inl rfl)) fA)))) (fun _=>cY) (fun _=>(pv 0)) (fun _=>lI)))
   (aE (aX (i:=4) S.nd rfl (Or.inr rfl) (aY G_days_of hr (by decide) rfl (aA (pv 0) aD)))
   (aE (aX (i:=5) S.nd rfl (Or.inl rfl) (aY G_rings_in hr (by decide) rfl (aA (vS ["name","ties"] 1 [2] ["pack","marks","ties","held","days","round_about"] (aV eI) rfl rfl rfl (xX (pv 2)) (by decide+kernel) (fun _=>(aN (i:=0) (show(["name","ties"]:List Str).Nodup by decide+kernel) rfl (Or.inl rfl))) (fun _=>cY) (fun _=>(pv 0)) (fun _=>(a9 (eE K hr) (a9 (eE K hr) (pv 1) (pv 0) (fun _ _=>rfl)) aG (fun _ _=>rfl)))) aD)))
   (aJ (bM (cJ (BA K) (by rfl) T.dG eK (aA (bN (AX K hr) (by rfl) T.eU iC (aA (mG ["ring","held","days"] 1 [3,4] ["pack","marks","ties","held","days","round_about"] (aV eI) rfl rfl rfl (cK K (pv 5)) (by decide+kernel) (fun _=>(aN (i:=0) (show(["ring","held","days"]:List Str).Nodup by decide+kernel) rfl (Or.inl rfl))) (fun _=>cY) (fun _=>(aY G_begun_with hr (by decide) rfl (aA (pv 0) (aA (aY G_cut_one hr (by decide) rfl (aA (pv 0) (aA (pv 1) (aA (pv 2) aD)))) aD))))) aD)) aD))))))),by unfold lT;walk_at "rf"⟩
theorem tR (T:Txt K mg) (D:Dx K mg "_law_letters" eW ["_law_script","_law_hand_here","_law_m"]) (G_law_letter:oR P w K mg base) (G_law_take:fX P w K mg base) (G_law_hand:nJ P w K mg base):nG P w K mg base:=cV D (N:=["_law_script","_law_hand_here","_law_m","_law_found","_law_k"]) ⟨rfl,rfl,rfl,by decide+kernel,rfl,by decide+kernel,by decide+kernel⟩ rfl rfl fun S f cdv A outer s H E hr=>
 ⟨_,(aE (pF (i:=3) ["_law_n","_law_hand_here","_law_m"] 1 [1,2] ["_law_script","_law_hand_here","_law_m","_law_found","_law_k"] (aV eW) rfl rfl rfl S.nd rfl rfl (eN rfl T.dP (aA (aY G_law_take hr (by decide) rfl (aA (pv 1) (aA aG aD))) aD)) (by decide+kernel) (fun _=>(aN (i:=0) (show(["_law_n","_law_hand_here","_law_m"]:List Str).Nodup by decide+kernel) rfl (Or.inl rfl))) (fun _=>cY) (fun _=>(aY G_law_letter hr (by decide) rfl (aA (pv 1) (aA (pv 2) aD)))))
   (aE (cU PassesOwn.never rfl (HK rfl T.dP (aA aG (aA (bN (G0 rfl) (by rfl) T.pP tE (aA (bN (CA K) (by rfl) T.jT kK (aA (pv 0) aD)) (aA aG aD))) aD))) (aN (i:=4) S.nd rfl (Or.inl rfl)) (aJ (lG (jR K plainAttrs_list PySem.F.slot_list_append PySem.F.type_list_append eL (pv 3) (aA (aY G_law_letter hr (by decide) rfl (aA (aY G_law_hand hr (by decide) rfl (aA (pv 0) (aA (pv 4) aD))) (aA (pv 2) aD))) aD)))))
   (aJ (bM (pv 3))))),by unfold jL;walk_at "rf"⟩
theorem LN (T:Txt K mg) (D:Dx K mg "rings" sJ ["pack","marks"]) (G_cut_rings:mB P w K mg base) (G_choices:qD P w K mg base) (G_places:t9 P w K mg base):EY P w K mg base:=cV D (N:=["pack","marks"]) ⟨rfl,rfl,rfl,by decide+kernel,rfl,by decide+kernel,by decide+kernel⟩ rfl rfl fun S f cdv A outer s H E hr=>
 ⟨_,(aJ (bM (aY G_cut_rings hr (by decide) rfl (aA (pv 0) (aA (pv 1) (aA (aY G_choices hr (by decide) rfl (aA (pv 0) (aA (pv 1) (aA (aY G_places hr (by decide) rfl (aA (pv 0) (aA (pv 1) aD))) aD)))) aD)))))),by unfold zG;walk_at "rf"⟩
theorem BL (T:Txt K mg) (D:Dx K mg "by_names" iM ["pack","marks"]) (G_choices:qD P w K mg base) (G_cut_rings:mB P w K mg base) (G_places:t9 P w K mg base):tW P w K mg base:=cV D (N:=["pack","marks","ties","cut","ring"]) ⟨rfl,rfl,rfl,by decide+kernel,rfl,by decide+kernel,by decide+kernel⟩ rfl rfl fun S f cdv A outer s H E hr=>
 ⟨_,(aE (aX (i:=2) S.nd rfl (Or.inr rfl) (aY G_choices hr (by decide) rfl (aA (pv 0) (aA (pv 1) (aA (aY G_places hr (by decide) rfl (aA (pv 0) (aA (pv 1) aD))) aD)))))
   (aE (aX (i:=3) S.nd rfl (Or.inl rfl) (aY G_cut_rings hr (by decide) rfl (aA (pv 0) (aA (pv 1) (aA (pv 2) aD)))))
   (aE (cU PassesOwn.never rfl (cK K (pv 3)) (aN (i:=4) S.nd rfl (Or.inl rfl)) (aJ (c8 (fW hr) (pv 2) (a9 (eE K hr) (pv 4) aG (fun _ _=>rfl)) (bU (aA fK (aA (bU (aA dE (aA (pv 4) aD))) aD))) rfl)))
   (aJ (bM (cJ (BA K) (by rfl) T.dG eK (aA (mG ["name","ties"] 1 [2] ["pack","marks","ties","cut","ring"] (aV iM) rfl rfl rfl (cK K (bN (AX K hr) (by rfl) T.eU iC (aA (pv 2) aD))) (by decide+kernel) (fun _=>(aN (i:=0) (show(["name","ties"]:List Str).Nodup by decide+kernel) rfl (Or.inl rfl))) (fun _=>cY) (fun _=>(bU (aA (pv 0) (aA (a9 (eE K hr) (a9 (eE K hr) (pv 1) (pv 0) (fun _ _=>rfl)) aG (fun _ _=>rfl)) (aA (a9 (eE K hr) (a9 (eE K hr) (pv 1) (pv 0) (fun _ _=>rfl)) aG (fun _ _=>rfl)) aD)))))) aD))))))),by unfold oF;walk_at "rf"⟩
theorem yU (T:Txt K mg) (D:Dx K mg "_law_right" eA ["_law_pack_here","_law_marks_here"]) (G_law_table:qS P w K mg base) (G_by_names:tW P w K mg base) (G_rings:EY P w K mg base) (G_law_ends:sR P w K mg base):qL P w K mg base:=cV D (N:=["_law_pack_here","_law_marks_here","_law_table_here","_law_found","_law_ties","_law_cut","_law_one","_law_name","_law_elder","_law_reason"]) ⟨rfl,rfl,rfl,by decide+kernel,rfl,by decide+kernel,by decide+kernel⟩ rfl rfl fun S f cdv A outer s H E hr=>
 ⟨_,(aE (aX (i:=2) S.nd rfl (Or.inl rfl) (aY G_law_table hr (by decide) rfl (aA (pv 0) (aA (pv 1) aD))))
   (aE (aX (i:=3) S.nd rfl (Or.inl rfl) (aY G_by_names hr (by decide) rfl (aA (pv 0) (aA (pv 1) aD))))
   (aE (dS (PW.pt (vQ (DA (zF (bN (YF K) (by rfl) T.dF jN (aA (pv 3) (aA (zA (v:=.ty "tuple") rfl T.dG eK rfl) aD))))) (xP (bD (BK K hr) (mG ["_law_one"] 1 [] ["_law_pack_here","_law_marks_here","_law_table_here","_law_found","_law_ties","_law_cut","_law_one","_law_name","_law_elder","_law_reason"] (aV eA) rfl rfl rfl (cK K (pv 3)) (by decide+kernel) (fun _=>(aN (i:=0) (show(["_law_one"]:List Str).Nodup by decide+kernel) rfl (Or.inl rfl))) (fun _=>cY) (fun _=>(a9 (eE K hr) (pv 0) aG (fun _ _=>rfl)))) (bN (AX K hr) (by rfl) T.eU iC (aA (pv 2) aD)) (cF _))))) (aJ (bM lI)) b9)
   (aE (tF (bU (aA fT (aA (fB aD) aD))) (e8 (n:=2) K rfl (bJ (aN (i:=4) S.nd rfl (Or.inr rfl)) (bJ (aN (i:=5) S.nd rfl (Or.inl rfl)) fA))))
   (aE (cU PassesOwn.never rfl (cK K (pv 3)) (aN (i:=6) S.nd rfl (Or.inl rfl)) (aE (dS (PW.pt (vQ (DA (zF (bN (YF K) (by rfl) T.dF jN (aA (pv 6) (aA (zA (v:=.ty "tuple") rfl T.dG eK rfl) aD))))) (xP (bD (BK K hr) (bN (CA K) (by rfl) T.jT kK (aA (pv 6) aD)) aG (cF _))))) (aJ (bM lI)) b9)
   (aE (tF (pv 6) (e8 (n:=3) K rfl (bJ (aN (i:=7) S.nd rfl (Or.inl rfl)) (bJ (aN (i:=8) S.nd rfl (Or.inl rfl)) (bJ (aN (i:=9) S.nd rfl (Or.inl rfl)) fA)))))
   (aE (c8 (fW hr) (pv 4) (pv 7) (pv 8) rfl)
   (aJ (dS (bD (BK K hr) (bU (aA (pv 8) (aA (pv 9) aD))) (a9 (eE K hr) (pv 2) (pv 7) (fun _ _=>rfl)) (cF _)) (aE (dS (PW.pt (vQ (bD oS (pv 8) fK (cF _)) (vQ (bD (BK K hr) (a9 (eE K hr) (pv 9) aG (fun _ _=>rfl)) dE (cF _)) (vQ (bD (BK K hr) (a9 (eE K hr) (a9 (eE K hr) (pv 9) aG (fun _ _=>rfl)) aG (fun _ _=>rfl)) (pv 7) (cF _)) (xP (bD (A2 K hr) (a9 (eE K hr) (a9 (eE K hr) (pv 2) (pv 7) (fun _ _=>rfl)) aG (fun _ _=>rfl)) (bU (aA dE aD)) (cF _))))))) (aJ (bM lI)) b9)
   (aJ (lG (jR K plainAttrs_list PySem.F.slot_list_append PySem.F.type_list_append eL (pv 5) (aA (a9 (eE K hr) (pv 9) aG (fun _ _=>rfl)) aD))))) (aJ (dS (zF (bN (ac1 K rfl) (by rfl) T.z9 X2 (aA (mG ["_law_part"] 1 [] ["_law_pack_here","_law_marks_here","_law_table_here","_law_found","_law_ties","_law_cut","_law_one","_law_name","_law_elder","_law_reason"] (aV eA) rfl rfl rfl (cK K (pv 9)) (by decide+kernel) (fun _=>(aN (i:=0) (show(["_law_part"]:List Str).Nodup by decide+kernel) rfl (Or.inl rfl))) (fun _=>cY) (fun _=>(bN (YF K) (by rfl) T.dF jN (aA (pv 0) (aA (zA (v:=.ty "bool") rfl T.sO P7 rfl) aD))))) aD))) (aJ (bM lI)) b9))))))))
   (aJ (bM (xU (x3 (A2 K hr) (pv 5) (cJ (aaI K) (by rfl) T.qH E1 (aA (aY G_rings hr (by decide) rfl (aA (pv 0) (aA (pv 1) aD))) aD)) (cF _)) (LZ (bN (adX K rfl) (by rfl) T.AB UO (aA (mG ["_law_name","_law_ties"] 1 [4] ["_law_pack_here","_law_marks_here","_law_table_here","_law_found","_law_ties","_law_cut","_law_one","_law_name","_law_elder","_law_reason"] (aV eA) rfl rfl rfl (xX (pv 4)) (by decide+kernel) (fun _=>(aN (i:=0) (show(["_law_name","_law_ties"]:List Str).Nodup by decide+kernel) rfl (Or.inl rfl))) (fun _=>cY) (fun _=>(aY G_law_ends hr (by decide) rfl (aA (pv 1) (aA (pv 0) aD))))) aD))))))))))),by unfold mE;walk_at "rf"⟩
theorem ZC (T:Txt K mg) (D:Dx K mg "law" ET ["_law_script"]) (G_law_hand:nJ P w K mg base) (G_law_take:fX P w K mg base) (G_law_letters:nG P w K mg base) (G_law_names:rD P w K mg base) (G_law_pack:uG P w K mg base) (G_law_marks:qN P w K mg base) (G_law_right:qL P w K mg base):ab2 P w K mg base:=cV D (N:=["_law_script","_law_hand_here","_law_m","_law_many","_law_letters_here","_law_names_here","_law_pack_here","_law_marks_here"]) ⟨rfl,rfl,rfl,by decide+kernel,rfl,by decide+kernel,by decide+kernel⟩ rfl rfl fun S f cdv A outer s H E hr=>
 ⟨_,(aE (aX (i:=1) S.nd rfl (Or.inl rfl) (aY G_law_hand hr (by decide) rfl (aA (pv 0) (aA aG aD))))
   (aE (aX (i:=2) S.nd rfl (Or.inl rfl) (bR (mZ K) aG (aY G_law_take hr (by decide) rfl (aA (pv 1) (aA (a9 (eE K hr) (fB (aA aG (aA aG (aA aG aD)))) (aY G_law_take hr (by decide) rfl (aA (pv 1) (aA aG aD))) (fun _ _=>rfl)) aD)))))
   (aE (aX (i:=3) S.nd rfl (Or.inl rfl) (aY G_law_take hr (by decide) rfl (aA (pv 1) (aA aG aD))))
   (aE (aX (i:=4) S.nd rfl (Or.inl rfl) (aY G_law_letters hr (by decide) rfl (aA (pv 0) (aA (pv 1) (aA (pv 2) aD)))))
   (aE (aX (i:=5) S.nd rfl (Or.inl rfl) (aY G_law_names hr (by decide) rfl (aA (pv 1) (aA (pv 2) aD))))
   (aE (aX (i:=6) S.nd rfl (Or.inl rfl) (aY G_law_pack hr (by decide) rfl (aA (pv 4) (aA (pv 5) aD))))
   (aE (aX (i:=7) S.nd rfl (Or.inl rfl) (aY G_law_marks hr (by decide) rfl (aA (pv 1) (aA (pv 5) (aA (pv 3) aD)))))
   (aJ (bM (xU (aY G_law_right hr (by decide) rfl (aA (pv 6) (aA (pv 7) aD))) (xU (aY G_law_right hr (by decide) rfl (aA (pv 6) (aA (bU aD) aD))) (xU (aY G_law_right hr (by decide) rfl (aA (iG (W3 K) (pv 6) (kY aG) k7) (aA (pv 7) aD))) (LZ (aY G_law_right hr (by decide) rfl (aA (pv 6) (aA (pv 7) aD)))))))))))))))),by unfold ND;walk_at "rf"⟩
end
namespace Rg
variable {α:Type}
noncomputable def cW (up:α->Option α):Nat->α->Option α
 |0,x=>some x
 |n+1,x=>(up x).bind (cW up n)
noncomputable def zK (up:α->Option α) (x:α):Prop:=∃n,cW up (n+1) x=some x
noncomputable def Path (up:α->Option α):List α->Option α->Prop
 |[],_=>True
 |[x],e=>up x=e
 |x::y::l,e=>up x=some y/\Path up (y::l) e
structure Ring (up:α->Option α) (l:List α):Prop where
 ne:l≠[]
 nd:l.Nodup
 path:Path up l l.head?
noncomputable def zB (up:α->Option α) (T:α->Prop):Prop:=∀x y,T x->up x=some y->T y
variable {up:α->Option α}
theorem fZ:∀(m n:Nat) (x:α),cW up (m+n) x=(cW up m x).bind (cW up n)
 |0,n,x=>by rw[zero_add];rfl
 |m+1,n,x=>by
  rw[Nat.add_right_comm]
  show(up x).bind (cW up (m+n))=((up x).bind (cW up m)).bind (cW up n)
  cases up x with
  |none=>rfl
  |some y=>exact fZ m n y
theorem zB.walk {T:α->Prop} (h:zB up T):∀(n:Nat) {x y:α},T x->cW up n x=some y->T y
 |0,_,_,hx,e=>by cases e;exact hx
 |n+1,x,y,hx,e=>by
  cases c:up x with
  |none=>rw[cW,c]at e;cases e
  |some z=>rw[cW,c]at e;exact h.walk n (h x z hx c) e
theorem FZ {x:α} (h:cW up n x=some x):∀k,cW up (k*n) x=some x
 |0=>by rw[Nat.zero_mul];rfl
 |k+1=>by rw[Nat.succ_mul,fZ,FZ h k];exact h
theorem zK.back {x:α} (h:zK up x) (m:Nat):∃y j,cW up m x=some y/\cW up j y=some x:=by
 obtain⟨n,h⟩:=h
 have k:=FZ h m
 have e:m*(n+1)=m+m*n:=by rw[Nat.mul_succ,Nat.add_comm]
 rw[e,fZ]at k
 cases c:cW up m x with
 |none=>rw[c]at k;cases k
 |some y=>rw[c]at k;exact⟨y,_,rfl,k⟩
theorem Path.z4:∀{l:List α} {e:Option α} {i:Nat} {x:α},Path up l e->l[i]? =some x->cW up (l.length - i) x=e
 |[],_,_,_,_,h=>by simp at h
 |[a],e,0,x,p,h=>by
  cases h
  show(up a).bind (cW up 0)=e
  rw[show up a=e from p]
  cases e<;>rfl
 |[a],e,i+1,x,p,h=>by simp at h
 |a::b::l,e,0,x,p,h=>by
  cases h
  show(up a).bind (cW up (b::l).length)=e
  rw[p.1]
  exact Path.z4 (l:=b::l) (i:=0) p.2 rfl
 |a::b::l,e,i+1,x,p,h=>by
  have:=Path.z4 (l:=b::l) (i:=i) p.2 (by simpa using h)
  simpa using this
theorem Path.drop:∀{l:List α} {e:Option α} (n:Nat),Path up l e->Path up (l.drop n) e
 |_,_,0,p=>p
 |[],_,_+1,p=>p
 |[a],_,n+1,p=>by simp[Path]
 |a::b::l,e,n+1,p=>by
  rw[List.drop_succ_cons]
  exact Path.drop n p.2
theorem Path.snoc:∀{l:List α} {x:α} {e:Option α},Path up l (some x)->up x=e->Path up (l++[x]) e
 |[],x,e,_,h=>h
 |[a],x,e,p,h=>⟨p,h⟩
 |a::b::l,x,e,p,h=>⟨p.1,Path.snoc (l:=b::l) p.2 h⟩
theorem Path.step:∀{l:List α} {e:Option α} {x:α},Path up l e->x∈l->(∃y∈l,up x=some y)\/ up x=e
 |[],_,_,_,h=>by simp at h
 |[a],e,x,p,h=>by
  rw[mem_singleton.mp h]
  exact .inr p
 | a::b::l,e,x,p,h=>by
  rcases mem_cons.mp h with rfl|h
  ·exact .inl ⟨b,by simp,p.1⟩
  ·rcases Path.step (l:=b::l) p.2 h with⟨y,hy,e⟩|e
   ·exact .inl ⟨y,mem_cons_of_mem _ hy,e⟩
   ·exact .inr e
theorem Path.no {l:List α} {e:Option α} {x:α} (p:Path up l e) (hx:x∈l) (h:∀y,e=some y->∀j,cW up j y≠some x):¬zK up x:=fun c=>by
 obtain⟨i,hi⟩:=getElem?_of_mem hx
 obtain⟨y,j,h1,h2⟩:=c.back (l.length - i)
 rw[p.z4 hi]at h1
 exact h y h1 j h2
theorem Ring.closed {l:List α} (r:Ring up l):zB up fun x=>x∈l:=fun x y hx e=>by
 rcases r.path.step hx with⟨z,hz,e'⟩|e'
 ·rw[e]at e';cases e';exact hz
 ·rw[e]at e'
  cases l with
  |nil=>exact absurd rfl r.ne
  |cons a l=>cases e';simp
theorem Ring.turn {l:List α} (r:Ring up l) {x:α} (hx:x∈l):cW up l.length x=some x:=by
 cases l with
 |nil=>exact absurd rfl r.ne
 | cons a l=>
  obtain⟨i,hi⟩:=getElem?_of_mem hx
  have hl:i<(a::l).length:=(List.getElem?_eq_some_iff.mp hi).1
  have h1:=r.path.z4 hi
  have h0:=r.path.z4 (l:=a::l) (i:=0) (x:=a) rfl
  have ha:∀j,j<=(a::l).length->∀z,(a::l)[j]? =some z->cW up j a=some z:=by
   intro j
   induction j with
   |zero=>intro _ z hz;cases hz;rfl
   |succ j ih=>
    intro hj z hz
    have hj':j<(a::l).length:=by omega
    have e1:=ih (by omega) _ (getElem?_eq_getElem hj')
    rw[fZ j 1,e1]
    have e2:=r.path.z4 (getElem?_eq_getElem hj')
    have e3:=r.path.z4 hz
    have hlt:j+1<(a::l).length:=(List.getElem?_eq_some_iff.mp hz).1
    have:Path up ((a::l).drop j) (a::l).head?:=r.path.drop j
    rw[drop_eq_getElem_cons hj',drop_eq_getElem_cons hlt]at this
    show(up _).bind (cW up 0)=_
    rw[this.1]
    rw[getElem?_eq_getElem hlt]at hz
    cases hz
    rfl
  have e2:=ha i (by omega) x hi
  have e3:cW up ((a::l).length - i+i) x=some x:=by
   rw[fZ,h1]
   exact e2
  have:(a::l).length - i+i=(a::l).length:=by omega
  rw[this]at e3
  exact e3
theorem Ring.zK {l:List α} (r:Ring up l) {x:α} (hx:x∈l):zK up x:=by
 refine⟨l.length - 1,?_⟩
 have:0<l.length:=length_pos_of_mem hx
 rw[show l.length - 1+1=l.length by omega]
 exact r.turn hx
structure Found (up:α->Option α) (S:List α) (F:List (List α)):Prop where
 cl:zB up fun x=>x∈S
 ring:∀R∈F,Ring up R
 sub:∀R∈F,∀x∈R,x∈S
 nd:F.flatten.Nodup
 all:∀x∈S,zK up x->x∈F.flatten
theorem Found.nil:Found up [] []:=⟨fun x y h=>by simp at h,by simp,by simp,by simp,by simp⟩
theorem Found.out {S:List α} {F:List (List α)} {l:List α} {e:Option α} (f:Found up S F) (p:Path up l e) (hd:∀x∈l,x∉S) (h:∀y,e=some y->y∈S):Found up (S++l) F where
 cl:=fun x y hx u=>by
  rcases mem_append.mp hx with hx|hx
  ·exact mem_append_left _ (f.cl x y hx u)
  ·rcases p.step hx with⟨z,hz,e'⟩|e'
   ·rw[u]at e';cases e';exact mem_append_right _ hz
   ·rw[u]at e';exact mem_append_left _ (h y e'.symm)
 ring:=f.ring
 sub:=fun R hR x hx=>mem_append_left _ (f.sub R hR x hx)
 nd:=f.nd
 all:=fun x hx c=>by
  rcases mem_append.mp hx with hx|hx
  ·exact f.all x hx c
  ·exact absurd c (p.no hx fun y ey j ej=>hd x hx (f.cl.walk j (h y ey) ej))
theorem Found.aaW {S:List α} {F:List (List α)} {p r:List α} (f:Found up S F) (hr:r≠[]) (hp:Path up (p++r) r.head?) (nd:(p++r).Nodup) (hd:∀x∈p++r,x∉S):Found up (S++(p++r)) (F++[r]):=by
 obtain⟨nd1,nd2,nd3⟩:=nodup_append.mp nd
 have R:Ring up r:=⟨hr,nd2,by have:=hp.drop p.length;rwa[List.drop_left]at this⟩
 refine⟨fun x y hx u=>?_,fun Q hQ=>?_,fun Q hQ x hx=>?_,?_,fun x hx c=>?_⟩
 ·rcases mem_append.mp hx with hx|hx
  ·exact mem_append_left _ (f.cl x y hx u)
  ·rcases hp.step hx with⟨z,hz,e'⟩|e'
   ·rw[u]at e';cases e';exact mem_append_right _ hz
   ·rw[u]at e'
    cases r with
    |nil=>exact absurd rfl hr
    |cons a r=>cases e';exact mem_append_right _ (mem_append_right _ (by simp))
 ·rcases mem_append.mp hQ with h|h
  ·exact f.ring Q h
  ·rw[mem_singleton.mp h];exact R
 ·rcases mem_append.mp hQ with h|h
  ·exact mem_append_left _ (f.sub Q h x hx)
  ·rw[mem_singleton.mp h]at hx
   exact mem_append_right _ (mem_append_right _ hx)
 ·rw[List.flatten_append]
  refine nodup_append.mpr ⟨f.nd,by simpa using nd2,fun x hx y hy e=>?_⟩
  subst e
  obtain⟨Q,hQ,hx⟩:=mem_flatten.mp hx
  exact hd x (mem_append_right _ (by simpa using hy)) (f.sub Q hQ x hx)
 ·rw[List.flatten_append]
  rcases mem_append.mp hx with hx|hx
  ·exact mem_append_left _ (f.all x hx c)
  ·rcases mem_append.mp hx with hx|hx
   ·refine absurd c (Path.no (l:=p++r) hp (mem_append_left _ hx) fun y ey j ej=>?_)
    have hy:y∈r:=by
     cases r with
     |nil=>cases ey
     |cons a r=>cases ey;simp
    exact nd3 x hx x (R.closed.walk j hy ej) rfl
   ·exact mem_append_right _ (by simpa using hx)
end Rg
namespace Rg
variable {α:Type} {up:α->Option α}
theorem sub_len [DecidableEq α]:∀{l m:List α},l.Nodup->(∀x∈l,x∈m)->l.length<=m.length
 |[],m,_,_=>zero_le _
 |x::l,m,hn,h=>by
  have hx:=h x mem_cons_self
  obtain⟨h1,h2⟩:=nodup_cons.mp hn
  have:=sub_len (l:=l) (m:=m.erase x) h2 fun y hy=>(List.mem_erase_of_ne (fun(e:y=x)=>h1 (by rw[<-e];exact hy))).mpr (h y (mem_cons_of_mem _ hy))
  rw[List.length_erase_of_mem hx]at this
  have h0:0<m.length:=length_pos_of_mem hx
  rw[length_cons]
  omega
theorem nS {y x:α} (h:cW up j y=some x):∀i,i<=j->∃z,cW up i y=some z/\cW up (j - i) z=some x:=fun i hi=>by
 have e:j=i+(j - i):=by omega
 rw[e,fZ]at h
 cases c:cW up i y with
 |none=>rw[c]at h;cases h
 |some z=>rw[c]at h;exact⟨z,rfl,h⟩
theorem RF {K:List α} (hK:∀z w,up z=some w->z∈K) {y x:α} (h:cW up j y=some x) {i:Nat} (hi:i<j) {z:α} (hz:cW up i y=some z):z∈K:=by
 obtain⟨z',h1,h2⟩:=nS h i (by omega)
 rw[hz]at h1
 cases h1
 rw[show j - i=(j - i - 1)+1 by omega,cW]at h2
 cases c:up z with
 |none=>rw[c]at h2;cases h2
 |some w=>exact hK z w c
theorem CK [DecidableEq α] {K:List α} (hK:∀z w,up z=some w->z∈K) {y x:α}:∀(j:Nat),cW up j y=some x->∃i,i<=K.length/\cW up i y=some x:=by
 intro j
 induction j using Nat.strongRecOn with
 | _ j ih=>
  intro h
  by_cases hj:j<=K.length
  ·exact⟨j,hj,h⟩
  ·have hex:∃a b,a<b/\b<j/\cW up a y=cW up b y:=by
    apply Classical.byContradiction
    intro hno
    have nd:((List.range j).map fun i=>(cW up i y).getD y).Nodup:=by
     unfold List.Nodup
     rw[List.pairwise_iff_getElem]
     intro a b ha hb hab e
     rw[length_map,length_range]at ha hb
     rw[getElem_map,getElem_map,getElem_range,getElem_range]at e
     obtain⟨za,h1,_⟩:=nS h a (by omega)
     obtain⟨zb,h2,_⟩:=nS h b (by omega)
     rw[h1,h2]at e
     exact hno ⟨a,b,hab,hb,by rw[h1,h2];exact congrArg some e⟩
    have:=sub_len nd (m:=K) fun z hz=>by
     obtain⟨i,hi,rfl⟩:=mem_map.mp hz
     have hi:=mem_range.mp hi
     obtain⟨zi,h1,_⟩:=nS h i (by omega)
     rw[h1]
     exact RF hK h hi h1
    rw[length_map,length_range]at this
    omega
   obtain⟨a,b,hab,hb,e⟩:=hex
   obtain⟨zb,h1,h2⟩:=nS h b (by omega)
   refine ih (a+(j - b)) (by omega) ?_
   rw[fZ,e,h1]
   exact h2
theorem AS {up':α->Option α} {x:α} (hs:∀z,z≠x->up' z=up z) {y:α}:∀(j:Nat) {w:α},(∀i,i<j->cW up' i y≠some x)->cW up' j y=some w->cW up j y=some w:=by
 intro j
 induction j with
 |zero=>intro w _ h;exact h
 | succ j ih=>
  intro w hn h
  obtain⟨z,h1,h2⟩:=nS h j (by omega)
  have hz:=ih (fun i hi=>hn i (by omega)) h1
  have hzx:z≠x:=fun e=>hn j (by omega) (by rw[h1,e])
  rw[show j+1 - j=1 by omega]at h2
  rw[fZ j 1,hz]
  show cW up 1 z=some w
  have e2:cW up' 1 z=cW up 1 z:=by
   show(up' z).bind (cW up' 0)=(up z).bind (cW up 0)
   rw[hs z hzx]
   cases up z<;>rfl
  rw[<-e2]
  exact h2
theorem MB {up':α->Option α} {x:α} (hs:∀z,z≠x->up' z=up z) (hx:up x=none) (hno:∀y,¬zK up y) (o:Option α) (ho:up' x=o) (hr:∀y,o=some y->∀j,cW up j y≠some x):∀y,¬zK up' y:=by
 have hxn:¬zK up' x:=fun⟨n,h⟩=>by
  rw[cW,ho]at h
  cases o with
  |none=>cases h
  | some y=>
   have h:cW up' n y=some x:=h
   have hex:∃m,cW up' m y=some x/\∀i,i<m->cW up' i y≠some x:=by
    clear hr ho
    induction n using Nat.strongRecOn with
    | _ n ih=>
     by_cases hc:∃i,i<n/\cW up' i y=some x
     ·obtain⟨i,hi,e⟩:=hc
      exact ih i hi e e
     ·exact⟨n,h,fun i hi e=>hc ⟨i,hi,e⟩⟩
   obtain⟨m,h1,h2⟩:=hex
   exact hr y rfl m (AS hs m h2 h1)
 intro y hc
 by_cases hp:∃i,cW up' i y=some x
 ·obtain⟨i,hi⟩:=hp
  obtain⟨z,j,h1,h2⟩:=hc.back i
  rw[hi]at h1
  cases h1
  refine hxn ?_
  obtain⟨n,hn⟩:=hc
  have h3:cW up' (j+(n+1)+i) x=some x:=by
   rw[fZ,fZ,h2]
   show((cW up' (n+1) y).bind (cW up' i))=some x
   rw[hn]
   exact hi
  exact⟨j+n+i,by rw[show j+n+i+1=j+(n+1)+i by omega];exact h3⟩
 ·obtain⟨n,hn⟩:=hc
  exact hno y ⟨n,AS hs (n+1) (fun i _ e=>hp ⟨i,e⟩) hn⟩
end Rg
namespace Rg
variable {α:Type} {up up':α->Option α}
inductive F2 {α β:Type} (R:α->β->Prop):List α->List β->Prop
 |nil:F2 R [] []
 |cons {a:α} {b:β} {l:List α} {m:List β}:R a b->F2 R l m->F2 R (a::l) (b::m)
theorem Path.app:∀{A B:List α} {e:Option α},B≠[]->(Path up (A++B) e↔Path up A B.head?/\Path up B e)
 |[],B,e,h=>⟨fun p=>⟨trivial,p⟩,fun p=>p.2⟩
 |[a],b::B,e,h=>⟨fun p=>⟨p.1,p.2⟩,fun p=>⟨p.1,p.2⟩⟩
 | a::c::A,B,e,h=>by
  have ih:=Path.app (A:=c::A) (B:=B) (e:=e) h
  constructor
  ·intro p
   obtain⟨h1,h2⟩:=ih.mp p.2
   exact⟨⟨p.1,h1⟩,h2⟩
  ·intro p
   exact⟨p.1.1,ih.mpr ⟨p.1.2,p.2⟩⟩
theorem Path.congr:∀{l:List α} {e:Option α},Path up l e->(∀x∈l,up x=up' x)->Path up' l e
 |[],_,_,_=>trivial
 |[a],e,p,h=>by
  show up' a=e
  rw[<-h a (by simp)]
  exact p
 |a::b::l,e,p,h=>⟨by rw[<-h a (by simp)];exact p.1,Path.congr (l:=b::l) p.2 fun x hx=>h x (mem_cons_of_mem _ hx)⟩
theorem Ring.congr {l:List α} (r:Ring up l) (h:∀x∈l,up x=up' x):Ring up' l:=⟨r.ne,r.nd,r.path.congr h⟩
theorem uS {A B:List α} (h:A≠[]):(A++B).head? =A.head?:=by
 cases A with
 |nil=>exact absurd rfl h
 |cons a A=>rfl
theorem Ring.rot {l:List α} (r:Ring up l) (i:Nat) (hi:i<l.length):Ring up (l.drop i++l.take i):=by
 have hB:l.drop i≠[]:=fun e=>by have:=congrArg List.length e;rw[length_drop,length_nil]at this;omega
 refine⟨fun e=>hB (List.append_eq_nil_iff.mp e).1,?_,?_⟩
 ·exact(List.perm_append_comm.nodup_iff.trans (by rw[take_append_drop])).mpr r.nd
 ·by_cases hA:l.take i=[]
  ·have e:=take_append_drop i l
   rw[hA,nil_append]at e
   rw[hA,append_nil,e]
   exact r.path
  ·have h:=r.path
   rw[<-take_append_drop i l]at h
   have h:=(Path.app hB).mp h
   rw[uS hA]at h
   rw[uS hB]
   exact(Path.app hA).mpr ⟨h.2,h.1⟩
theorem uH (l:List α) (i:Nat):(l.drop i++l.take i).Perm l:=List.perm_append_comm.trans (by rw[take_append_drop])
end Rg
namespace Rg
variable {α:Type} {up up':α->Option α}
theorem tV (n:Nat) (x:α):cW up (n+1) x=(cW up n x).bind up:=by
 rw[fZ n 1]
 congr 1
 funext y
 show(up y).bind (cW up 0)=up y
 cases up y<;>rfl
theorem ends [DecidableEq α] {K:List α} (no:∀y,¬zK up y) (hK:∀z w,up z=some w->w∈K) {x:α} (hx:x∈K):∃n,n<K.length/\∃y,cW up n x=some y/\up y=none:=by
 apply Classical.byContradiction
 intro hno
 have all:∀n,n<=K.length->∃y,cW up n x=some y/\y∈K:=by
  intro n
  induction n with
  |zero=>exact fun _=>⟨x,rfl,hx⟩
  |succ n ih=>
   intro h
   obtain⟨y,h1,h2⟩:=ih (by omega)
   cases c:up y with
   |none=>exact absurd ⟨n,by omega,y,h1,c⟩ hno
   |some w=>exact⟨w,by rw[tV,h1];exact c,hK y w c⟩
 have nd:((List.range (K.length+1)).map fun n=>(cW up n x).getD x).Nodup:=by
  unfold List.Nodup
  rw[List.pairwise_map]
  refine List.Pairwise.imp_of_mem (fun{i j} hi hj hij e=>?_) List.pairwise_lt_range
  have hi:=mem_range.mp hi
  have hj:=mem_range.mp hj
  obtain⟨y,h1,_⟩:=all i (by omega)
  obtain⟨z,h2,_⟩:=all j (by omega)
  rw[h1,h2]at e
  have e:y=z:=e
  subst e
  refine no y ⟨j - i - 1,?_⟩
  rw[show j=i+(j - i - 1+1) by omega,fZ,h1]at h2
  exact h2
 have:=sub_len nd (m:=K) fun y hy=>by
  obtain⟨n,hn,rfl⟩:=mem_map.mp hy
  obtain⟨z,h1,h2⟩:=all n (by have:=mem_range.mp hn;omega)
  rw[h1];exact h2
 rw[length_map,length_range]at this
 omega
theorem t8 (h:∀x w,up' x=some w->up x=some w):∀(n:Nat) {x y:α},cW up' n x=some y->cW up n x=some y
 |0,_,_,e=>e
 |n+1,x,y,e=>by
  cases c:up' x with
  |none=>rw[cW,c]at e;cases e
  |some w=>rw[cW,c]at e;rw[cW,h x w c];exact t8 h n e
theorem WO {Rs:List (List α)} (all:∀x,zK up x->∃R∈Rs,x∈R) (ring:∀R∈Rs,Ring up R) (hd:∀R∈Rs,∀h,R.head? =some h->up' h=none) (same:∀x w,up' x=some w->up x=some w) (y:α):¬zK up' y:=by
 intro c
 obtain⟨R,hR,hy⟩:=all y (let⟨n,h⟩:=c;⟨n,t8 same _ h⟩)
 obtain⟨i,hi⟩:=getElem?_of_mem hy
 have g:=(ring R hR).path.z4 hi
 cases e:R.head? with
 |none=>rw[e]at g;exact absurd (List.head?_eq_none_iff.mp e) (ring R hR).ne
 |some h=>
  rw[e]at g
  obtain⟨z,_,h1,_⟩:=c.back (R.length - i)
  obtain⟨w,_,h2,_⟩:=c.back (R.length - i+1)
  have h3:=t8 same _ h1
  rw[g]at h3
  cases h3
  rw[tV,h1]at h2
  have:up' h=some w:=h2
  rw[hd R hR h e]at this
  cases this
end Rg
local macro_rules | `(tactic| walk_at "wp") => `(tactic| simp only [YY, j7, kD, bW, oW, eB, wp_seq, wp_call, L9, QH, acT, acQ, QS, VI, acU, Z1, abQ, YD, RE, abJ, abE, VA, VN, V3, RQ, UK, ZV, X0, P4, RC, YA, P8, abI, HN, RU, abP, Q3, JR, OZ, VR, QR, PJ, aaP, WZ, SM, X9, WT, MY, R7, NX, O9, M6, QG, ZH, WB, aaQ, UH, YJ, U7, PQ, K4, Y1, P0, CH, rS, zC, mX, DT, List.replicate, cons_append, nil_append, rel, gQ, putL, getL, G3, ED, bZ, nY, Mr.resB, nA, n6, y3, zH, Bv.weak, Bv.get, Bv.put, rd, Sl.pv, ownAt, cB, XC, abU, qW, adU, adK, adE, adL, adM, aeE, adR, ad9, acR, aeD, at0, at1, at2, at3, dB, Mr.zE, qC, aa7, W4, JZ, m4, rF, OX, iZ, JX, N4, NV, gI, SV, IT, OS, zJ, Y5, US, gLt, gLe, ZI, gGe, GN, JH, isNone, KJ, rJ, lQ, xM, adQ, abH, FH, A7, A1, uA, kdOf, JU, Y7, U0, P9, aa5, WJ, RR, aa2, RP, PY, P1, XE, gD, LQ, YI, W8, XG, WA, XD, XW, U8, Y3, VS, W9, V5, XX, WK, VM, YW, VY, WM, X4, YN, YV, yC, YM, VB, X5, ZD, U2, W0, W2, UP, UT, YZ, WN, WI, W5, UG, P6, QW, SE, RW, D6, List.getElem?_cons_zero, List.getElem?_cons_succ, List.set_cons_zero, List.set_cons_succ, List.zipIdx_cons, List.zipIdx_nil, map_cons, map_nil, all_nil, all_cons, List.contains_nil, List.contains_cons, List.any_nil, any_cons, nodup_cons, nodup_nil, not_mem_nil, mem_cons, not_false_eq_true, and_true, true_and, decide_true, decide_false, Bool.and_self, Bool.and_true, Bool.true_and, Bool.not_true, Bool.not_false, if_true, if_false, ite_true, ite_false, Option.or_some, none_or, Option.some_or, or_none, decide_eq_true_eq, decide_eq_false_iff_not, and_eq_true, reduceCtorEq, false_eq_true, length_cons, length_nil, Nat.reduceAdd, Nat.reduceLT, Int.reduceLT, Int.reduceLE, PV.int.injEq, PV.str.injEq, PV.bl.injEq, Option.some.injEq, KP, beq_self_eq_true, Bool.or_false, Bool.or_true, Bool.true_or, Bool.false_or, Bool.false_and, Bool.and_false, Nat.reduceBEq, length_map, length_range, Int.reduceToNat, and_self, true_implies, forall_const, Int.reduceAdd, Int.reduceNeg, L6, N5, CQ, qR, V4, keyOf, K1, getD_none, Option.getD_some, PH, QA, MO, BQ, O4, OF, EX, F8, VW, vO, QM, PX, ab3, RG, SN, abZ, V9, abS, XH, XQ, PZ, MW, GS, mS, adH, ab6, QK, P5, vI, AL, MS, IW, mS, xK])
section
open PySem L2 Mr
noncomputable abbrev hd (a b c:Int):PV:=.lst [.int a,.int b,.int c]
structure Hand (a b c:Int) (n:Nat):Prop where
 a0:0<=a
 b0:0<=b
 b1:b<2305843009213693921
 c0:0<=c
 c1:c<=n
theorem Hand.mono {m:Nat} (h:Hand a b c n) (l:n<=m):Hand a b c m:=⟨h.a0,h.b0,h.b1,h.c0,by have:=h.c1;omega⟩
theorem QT {i j:Int} (h0:0<=i) (h1:i<18446744073709551616):vZ i j=true:=decide_eq_true (.inl ⟨by omega,h1⟩)
theorem mulR {i j:Int} (h0:0<=j) (h1:j<18446744073709551616):vZ i j=true:=decide_eq_true (.inr ⟨by omega,h1⟩)
theorem cZ (h:Hand a b c n) (hn:n<1000000) (m0:0<m) (m1:m<1073741824) (q:∀d a' b' c',0<=d->d<m->Hand a' b' c' (n+1)->Q (.int d,[hd a' b' c'])):Wp (aR [hd a b c,.int m]) Q:=by
 unfold aR nQ
 have a0:=h.a0
 have b0:=h.b0
 have b1:=h.b1
 have c0:=h.c0
 have c1:=h.c1
 walk_at "wp"
 refine⟨fun ha=>⟨m0,⟨m0,by omega⟩,q _ _ _ _ (emod_nonneg _ (by omega)) (emod_lt_of_pos _ m0) ⟨Int.ediv_nonneg a0 (by omega),b0,b1,c0,by omega⟩⟩,fun ha=>⟨QT (by decide) (by decide),mulR (by omega) (by omega),mulR (by decide) (by decide),QT (by decide) (by decide),QT (emod_nonneg _ (by decide)) ?_,m0,q _ _ _ _ (emod_nonneg _ (by omega)) (emod_lt_of_pos _ m0) ⟨a0,b0,b1,by omega,by omega⟩⟩⟩
 have:=emod_lt_of_pos ((b+65537*(c+1)*(c+1)+11)*48271) (show(0:Int)<2305843009213693921 by decide)
 omega
theorem fN {Q:PV->Prop} (h0:0<=k) (h1:k<(xs.length:Int)) (q:∀x∈xs,Q x):Wp (oN xs k) Q:=by
 obtain⟨c,hc,e⟩:=SJ h0 h1
 exact⟨c,e,q c hc⟩
noncomputable def lF:FS:=(aT (bY 3 (SY (bL (bF gGe (aC 2) (bF rF (fC (.int 10)) (fC (.int 18))))) (bF m4 (aC 2) (bF qR (bF qR (bF qR (bF rF (fC (.int 10)) (fC (.int 60))) (bF rF (fC (.int 10)) (fC (.int 60)))) (bF rF (fC (.int 10)) (fC (.int 60)))) (bF rF (fC (.int 10)) (fC (.int 60))))) (fC (.int 0))))
  (cR (gZ (aB (aC 3) (aB (bF m4 (bF qC (bF iZ (bF iZ (bF m4 (aC 2) (fC (.int 2305843009213693951))) (bF qC (bF qC (fC (.int 7919)) (aC 1)) (aC 1))) (fC (.int 3))) (fC (.int 48271))) (fC (.int 2305843009213693921))) (aB (fC (.int 0)) aK))))))
theorem yR:nK=(aT (bY 2 (SY (bL (bF gLt (aC 1) (jX rJ (aB (aC 0) aK)))) (bF dB (aC 0) (aC 1)) (fC (.int 0))))
  lF):=rfl
theorem wO {x:Int} {v0 v3:Option Sl} {Q:Out->Prop} (k0:0<=k) (k1:k<1000) (q:∀a b v0 v1 v2 v3,Hand a b 0 0->Q (.rt (.new (hd a b 0)) [v0,v1,v2,v3])):Wp (lF [v0,some (.val (.int k)),some (.val (.int x)),v3]) Q:=by
 unfold lF
 walk_at "wp"
 have r0:0<=x % 2305843009213693951:=emod_nonneg _ (by decide)
 have r1:x % 2305843009213693951<2305843009213693951:=emod_lt_of_pos _ (by decide)
 have kk:0<=7919*k*k:=Int.mul_nonneg (by omega) k0
 have m1:vZ 7919 k=true:=QT (by decide) (by decide)
 have m2:vZ (7919*k) k=true:=mulR k0 (by omega)
 have m3:vZ (x % 2305843009213693951+7919*k*k+3) 48271=true:=mulR (by decide) (by decide)
 have b0:0<=(x % 2305843009213693951+7919*k*k+3)*48271 % 2305843009213693921:=emod_nonneg _ (by decide)
 have b1:(x % 2305843009213693951+7919*k*k+3)*48271 % 2305843009213693921<2305843009213693921:=emod_lt_of_pos _ (by decide)
 refine⟨by decide+kernel,fun hx=>⟨by decide+kernel,by decide+kernel,by decide+kernel,by decide+kernel,by decide+kernel,by decide+kernel,by decide+kernel,by decide+kernel,m1,m2,m3,q _ _ _ _ _ _ ⟨emod_nonneg _ (by decide+kernel),b0,b1,by decide,by decide⟩⟩,fun hx=>⟨m1,m2,m3,q _ _ _ _ _ _ ⟨by decide,b0,b1,by decide,by decide⟩⟩⟩
theorem GQ {ns:List Int} (k0:0<=k) (k1:k<1000) (hn:ns.length<=63) (q:∀a b,Hand a b 0 0->Q (hd a b 0,[])):Wp (gK [.lst (ns.map PV.int),.int k]) Q:=by
 unfold gK
 rw[yR]
 walk_at "wp"
 refine⟨fun g=>?_,fun g=>?_⟩
 ·refine fN k0 (by rw[length_map];exact g) fun p hp=>?_
  obtain⟨c,_,rfl⟩:=mem_map.mp hp
  walk_at "wp"
  refine wO k0 k1 fun a b v0 v1 v2 v3 h=>?_
  walk_at "wp"
  exact q a b h
 ·refine wO k0 k1 fun a b v0 v1 v2 v3 h=>?_
  walk_at "wp"
  exact q a b h
end
section
open PySem L2 Mr
noncomputable def sg:Str:="abcdefghijklmnopqrstuvwxyz0123456789"
theorem atS {Z:Str} {Q:Nat->Prop} (h0:0<=d) (h:d<(Z.length:Int)) (q:∀c∈Z.cps.toList,Q c):Wp (oN Z.cps.toList d) Q:=by
 obtain⟨c,hc,e⟩:=OL h0 h
 exact⟨c,e,q c hc⟩
theorem NP {a b c:Int} {s:Option Sl} {Q:List PV×En->Prop} (hp:Hand a b c n) (hn:n+xs.length<1000000)
  (q:∀(zs:List Str) s' a' b' c',zs.length=xs.length->(∀z∈zs,∃k∈sg.cps.toList,z=⟨#[k]⟩)->Hand a' b' c' (n+xs.length)->Q (zs.map PV.str,[s',some (.own (hd a' b' c'))])):
  Wp (iO (aO 0) dM (bF dB (fC (.str "abcdefghijklmnopqrstuvwxyz0123456789")) (bC [.m,.b] false aR (aB (aC 1) (aB (fC (.int 36)) aK)))) xs [s,some (.own (hd a b c))]) Q:=by
 refine dR (fun i acc e=>∃(zs:List Str) (s:Option Sl) (a b c:Int),acc=zs.map PV.str/\zs.length=i/\(∀z∈zs,∃k∈sg.cps.toList,z=⟨#[k]⟩)/\e=[s,some (.own (hd a b c))]/\Hand a b c (n+i)) ?_ ?_ ⟨[],s,a,b,c,rfl,rfl,fun _ h=>(nomatch h),rfl,hp⟩
 ·rintro i x e acc hx ⟨zs,s,a,b,c,rfl,hl',hz,rfl,hp⟩
  have hi:=(List.getElem?_eq_some_iff.mp hx).1
  walk_at "wp"
  refine cZ hp (by omega) (by decide) (by decide) fun d a' b' c' d0 d1 hp'=>?_
  walk_at "wp"
  refine⟨by decide+kernel,?_⟩
  refine atS d0 (Int.lt_of_lt_of_le d1 (by decide+kernel)) fun k hk=>?_
  walk_at "wp"
  exact⟨zs++[⟨#[k]⟩],_,a',b',c',by rw[map_append];rfl,by rw[length_append,hl'];rfl,fun z hz'=>(mem_append.mp hz').elim (hz z) fun h=>⟨k,hk,mem_singleton.mp h⟩,rfl,hp'⟩
 ·rintro acc e ⟨zs,s,a,b,c,rfl,hl',hz,rfl,hp⟩
  exact q zs s a b c hl' hz hp
theorem OU {zs:List Str} (h:∀z∈zs,∃k∈sg.cps.toList,z=⟨#[k]⟩):(zs.map (·.length)).sum=zs.length:=by
 induction zs with
 |nil=>rfl
 |cons z zs ih=>
  obtain⟨k,_,rfl⟩:=h z mem_cons_self
  rw[map_cons,List.sum_cons,length_cons,ih fun w hw=>h w (mem_cons_of_mem _ hw)]
  show 1+_=_
  omega
theorem e0:(Str.ofString "").length=0:=by decide+kernel
theorem RX {zs:List Str} {Q:Bv->Prop} (h:∀z∈zs,∃k∈sg.cps.toList,z=⟨#[k]⟩) (hs:zs.length<1000) (q:∀x:Str,x.length<=zs.length->Q (.val (.str x))):
  Wp (AR (.str (Str.ofString "")) [.lst (zs.map PV.str)]) Q:=by
 have l1:=OU h
 have l2:(Txt.join (Str.ofString "") zs).length<=(zs.map (·.length)).sum:=joined
 unfold AR
 simp only[p8,kD,bW,eB,decide_eq_true_eq,e0]
 exact⟨by omega,q _ (by omega)⟩
theorem iL [DecidableEq α]:∀{l m:List α},l.Nodup->(∀x∈l,x∈m)->l.length<=m.length
 |[],m,_,_=>zero_le _
 |x::l,m,hn,h=>by
  have hx:=h x mem_cons_self
  rw[nodup_cons]at hn
  have:=iL (l:=l) (m:=m.erase x) hn.2 fun y hy=>(List.mem_erase_of_ne (fun e:y=x=>hn.1 (by rw[<-e];exact hy))).mpr (h y (mem_cons_of_mem _ hy))
  rw[List.length_erase_of_mem hx]at this
  have:0<m.length:=length_pos_of_mem hx
  rw[length_cons]
  omega
noncomputable abbrev sN (k:Nat):Str:=toString (0+(k:Int))
theorem NY:((List.range 64).map sN).Nodup:=by decide+kernel
theorem RH (h:ss.length<63):∃k∈List.range (ss.length+1),sN k∉ss:=by
 refine Classical.byContradiction fun no=>?_
 have all:∀x∈(List.range (ss.length+1)).map sN,x∈ss:=fun x hx=>by
  obtain⟨k,hk,rfl⟩:=mem_map.mp hx
  exact Classical.byContradiction fun z=>no ⟨k,hk,z⟩
 have nd:((List.range (ss.length+1)).map sN).Nodup:=by
  have e:List.range (ss.length+1)=(List.range 64).take (ss.length+1):=by rw[List.take_range];congr 1;omega
  rw[e,map_take]
  exact NY.sublist (List.take_sublist _ _)
 have:=iL nd all
 rw[length_map,length_range]at this
 omega
theorem Y9:∀k∈List.range 64,(sN k).length<=2:=by decide+kernel
end
section
open PySem L2 Mr
theorem xH:((ss.map PV.str).any fun z=>bK z (PV.str x))=decide (x∈ss):=by
 rw[Bool.eq_iff_iff,any_eq_true,decide_eq_true_eq]
 constructor
 ·rintro⟨p,hp,e⟩
  obtain⟨y,hy,rfl⟩:=mem_map.mp hp
  rw[yC]at e
  rw[<-eq_of_beq e]
  exact hy
 ·intro h
  exact⟨.str x,mem_map.mpr ⟨x,h,rfl⟩,by rw[yC];exact beq_self_eq_true x⟩
theorem vF (h:j<64):(0+(j:Int)).natAbs.log2<1920:=by
 rw[Int.zero_add,Int.natAbs_natCast]
 exact Nat.lt_of_le_of_lt (Nat.log2_le_self j) (by omega)
theorem K0 {a b c:Int} (h:Hand a b c n) (m0:0<=m) (m1:m<=60) (hn:n<100000)
  (q:∀(ss:List Str) a' b' c',(ss.length:Int)=m->(∀x∈ss,x.length<=12)->Hand a' b' c' (n+13*60)->Q (.lst (ss.map PV.str),[hd a' b' c'])):Wp (g8 [hd a b c,.int m]) Q:=by
 unfold g8 lV
 walk_at "wp"
 refine⟨iT (by omega) (by omega),?_⟩
 refine cM (fun i e=>∃(ss:List Str) (a b c:Int) (v3 v4 v5:Option Sl),ss.length=i/\(∀x∈ss,x.length<=12)/\Hand a b c (n+13*i)/\e=[some (.own (hd a b c)),some (.val (.int m)),some (.loc (.lst (ss.map PV.str))),v3,v4,v5]) ?_ ?_ ⟨[],a,b,c,_,_,_,rfl,fun _ h=>(nomatch h),h,rfl⟩
 ·rintro i x e hx ⟨ss,a,b,c,v3,v4,v5,hl,hs,hp,rfl⟩
  rw[getElem?_map]at hx
  obtain⟨k,hk,rfl⟩:=map_eq_some_iff.mp hx
  have hi:=(List.getElem?_eq_some_iff.mp hk).1
  rw[length_range]at hi
  walk_at "wp"
  refine cZ hp (by omega) (by decide) (by decide) fun d a1 b1 c1 d0 d1 hp=>?_
  walk_at "wp"
  refine fN d0 d1 fun p hp'=>?_
  obtain⟨z,rfl,z0,z1⟩:∃z:Int,p= .int z/\1<=z/\z<=12:=by
   have r0:=emod_nonneg (0+(k:Int)) (show(12:Int)≠0 by decide)
   have r1:=emod_lt_of_pos (0+(k:Int)) (show(0:Int)<12 by decide)
   simp only[mem_cons,not_mem_nil,or_false]at hp'
   rcases hp' with rfl|rfl|rfl|rfl|rfl|rfl
   ·exact⟨_,rfl,by decide,by decide⟩
   ·exact⟨_,rfl,by decide,by decide⟩
   ·exact⟨_,rfl,by decide,by decide⟩
   ·exact⟨_,rfl,by decide,by decide⟩
   ·exact⟨_,rfl,by decide,by decide⟩
   ·exact⟨_,rfl,by omega,by omega⟩
  walk_at "wp"
  refine⟨iT (by omega) (by omega),by omega,?_⟩
  refine NP hp (by rw[length_map,length_range];omega) fun zs s' a2 b2 c2 zl hz hp=>?_
  rw[length_map,length_range]at zl hp
  walk_at "wp"
  refine RX hz (by omega) fun x hx=>?_
  walk_at "wp"
  have ok8:(ss.map PV.str).all (gD 8)=true:=all_eq_true.mpr fun p hp=>by obtain⟨y,_,rfl⟩:=mem_map.mp hp;rfl
  have done:∀y:Str,y.length<=12->∃(ss':List Str) (a b c:Int) (v3 v4 v5:Option Sl),ss'.length=i+1/\(∀x∈ss',x.length<=12)/\Hand a b c (n+13*(i+1))/\[some (Sl.own (hd a2 b2 c2)),some (Sl.val (PV.int m)),some (Sl.loc (PV.lst (ss.map PV.str++[PV.str y]))),some (Sl.val (PV.int (0+(k:Int)))),some (Sl.val (PV.int z)),some (Sl.val (PV.str y))]=[some (.own (hd a b c)),some (.val (.int m)),some (.loc (.lst (ss'.map PV.str))),v3,v4,v5]:=fun y hy=>
   ⟨ss++[y],a2,b2,c2,_,_,_,by rw[length_append,hl];rfl,fun w hw=>(mem_append.mp hw).elim (hs w) fun e=>by rw[mem_singleton.mp e];exact hy,hp.mono (by omega),by rw[map_append];rfl⟩
  refine⟨ok8,fun g=>⟨iT (by omega) (by omega),by omega,?_⟩,fun g=>⟨by omega,done x (by omega)⟩⟩
  rw[show((ss.length:Int)+1).toNat=ss.length+1 by omega]
  refine dR (fun j acc e=>acc=(((List.range j).filter fun k=>decide (sN k∉ss)).map fun k=>PV.str (sN k))/\∃s,e=[s,some (Sl.bor (PV.lst (ss.map PV.str)))]) ?_ ?_ ⟨rfl,_,rfl⟩
  ·rintro j y e acc hy ⟨rfl,s1,rfl⟩
   rw[getElem?_map]at hy
   obtain⟨k',hk',rfl⟩:=map_eq_some_iff.mp hy
   have hj:=(List.getElem?_eq_some_iff.mp hk').1
   have ej:=(List.getElem?_eq_some_iff.mp hk').2
   rw[length_range]at hj
   rw[getElem_range]at ej
   subst ej
   walk_at "wp"
   refine⟨vF (by omega),ok8,?_⟩
   rw[xH]
   have er:(List.range (j+1)).filter (fun k=>decide (sN k∉ss))=(List.range j).filter (fun k=>decide (sN k∉ss))++(if sN j∉ss then [j]else []):=by
    rw[List.range_succ,List.filter_append]
    congr 1
    by_cases hm:sN j∉ss
    ·rw[if_pos hm];simp[hm]
    ·rw[if_neg hm];simp at hm;simp[hm]
   by_cases hm:sN j∈ss
   ·rw[show decide (Str.ofString (toString (0+(j:Int)))∈ss)=true from decide_eq_true hm]
    refine⟨?_,_,rfl⟩
    rw[er,if_neg (fun z=>z hm),append_nil]
   ·rw[show decide (Str.ofString (toString (0+(j:Int)))∈ss)=false from decide_eq_false hm]
    refine⟨vF (by omega),?_,_,rfl⟩
    rw[er,if_pos hm,map_append]
    rfl
  ·rintro acc e ⟨rfl,s1,rfl⟩
   rw[length_map,length_range]
   obtain⟨k0,hk0,hf⟩:=RH (ss:=ss) (by omega)
   have hm:k0∈(List.range (ss.length+1)).filter fun k=>decide (sN k∉ss):=mem_filter.mpr ⟨hk0,decide_eq_true hf⟩
   have sub:∀k∈(List.range (ss.length+1)).filter fun k=>decide (sN k∉ss),(sN k).length<=12:=fun k hk=>by
    have:=mem_range.mp (mem_filter.mp hk).1
    have:=Y9 k (mem_range.mpr (by omega))
    omega
   cases ef:(List.range (ss.length+1)).filter fun k=>decide (sN k∉ss)with
   |nil=>rw[ef]at hm;cases hm
   |cons k1 r=>
    have:=sub k1 (by rw[ef];exact mem_cons_self)
    walk_at "wp"
    exact⟨by omega,done _ this⟩
 ·rintro e ⟨ss,a,b,c,v3,v4,v5,hl,hs,hp,rfl⟩
  walk_at "wp"
  rw[length_map,length_range]at hl
  rw[length_map,length_range]at hp
  exact q ss a b c (by omega) hs (hp.mono (by omega))
end
section
open PySem L2 Mr
structure DZ where
 at':Int
 day:Int
 head:Str
 row:List Int
noncomputable def PN (l:DZ):PV:=.tup [.int l.at',.int l.day,.str l.head,.lst (l.row.map PV.int)]
structure XT (m:Int) (l:DZ):Prop where
 a0:0<=l.at'
 a1:l.at'<m
 r:∀x∈l.row,0<=x/\x<m
 n:l.row.length<=9
theorem Q4 {a b c:Int} {s:Option Sl} {Q:List PV×En->Prop} (hp:Hand a b c n) (m0:0<m) (m1:m<=64) (hn:n+xs.length<1000000)
  (q:∀(zs:List Int) s' a' b' c',zs.length=xs.length->(∀z∈zs,0<=z/\z<m)->Hand a' b' c' (n+xs.length)->Q (zs.map PV.int,[s',some (.own (hd a' b' c')),some (.val (.int m))])):
  Wp (iO (aO 0) dM (bC [.m,.b] false aR (aB (aC 1) (aB (aC 2) aK))) xs [s,some (.own (hd a b c)),some (.val (.int m))]) Q:=by
 refine dR (fun i acc e=>∃(zs:List Int) (s:Option Sl) (a b c:Int),acc=zs.map PV.int/\zs.length=i/\(∀z∈zs,0<=z/\z<m)/\e=[s,some (.own (hd a b c)),some (.val (.int m))]/\Hand a b c (n+i)) ?_ ?_ ⟨[],s,a,b,c,rfl,rfl,fun _ h=>(nomatch h),rfl,hp⟩
 ·rintro i x e acc hx ⟨zs,s,a,b,c,rfl,hl',hz,rfl,hp⟩
  have hi:=(List.getElem?_eq_some_iff.mp hx).1
  walk_at "wp"
  refine cZ hp (by omega) m0 (by omega) fun d a' b' c' d0 d1 hp'=>?_
  walk_at "wp"
  exact⟨zs++[d],_,a',b',c',by rw[map_append];rfl,by rw[length_append,hl'];rfl,fun z hz'=>(mem_append.mp hz').elim (hz z) fun h=>by rw[mem_singleton.mp h];exact⟨d0,d1⟩,rfl,hp'⟩
 ·rintro acc e ⟨zs,s,a,b,c,rfl,hl',hz,rfl,hp⟩
  exact q zs s a b c hl' hz hp
noncomputable def iU:FS:=(cR (dY (aB (aC 2) (aB (bF dB (gZ (aB (aC 4) (aB (bF Mr.zE (fC (.int 99999999)) (aC 4)) aK))) (jX A7 (aB (bF IT (aC 3) (fC (.int 2))) aK))) (aB (bF dB (gZ (aB (fC (.str "")) (aB (fC (.str "walls")) (aB (fC (.str "Re: walls")) aK)))) (bC [.m,.b] false aR (aB (aC 0) (aB (fC (.int 3)) aK)))) (aB (aC 5) aK))))))
theorem tQ:kQ=(aT (bY 2 (bC [.m,.b] false aR (aB (aC 0) (aB (aC 1) aK))))
  (aT (bY 3 (bC [.m,.b] false aR (aB (aC 0) (aB (fC (.int 4)) aK))))
  (aT (bY 4 (bC [.m,.b] false aR (aB (aC 0) (aB (bF dB (gZ (aB (fC (.int 1)) (aB (fC (.int 3)) (aB (fC (.int 2)) (aB (fC (.int 100000000)) aK))))) (aC 3)) aK))))
  (aT (bY 5 (fI (rM (aB (bF dB (gZ (aB (fC (.int 0)) (aB (fC (.int 1)) (aB (fC (.int 1)) (aB (fC (.int 2)) (aB (fC (.int 3)) (aB (fC (.int 9)) aK))))))) (bC [.m,.b] false aR (aB (aC 0) (aB (fC (.int 6)) aK)))) aK)) 1 [0,1] [(0,1)] (aO 0) dM (bC [.m,.b] false aR (aB (aC 1) (aB (aC 2) aK)))))
  (aT (pW (bL (bF IT (bC [.m,.b] false aR (aB (aC 0) (aB (fC (.int 4)) aK))) (fC (.int 0)))) (bY 5 (bF iZ (KA KJ (aC 5) fR (l0 (fC (.int 8)))) (gZ (aB (bF m4 (bF iZ (aC 2) (fC (.int 1))) (aC 1)) aK)))) dA)
  iU))))):=rfl
theorem zX (xs:List PV) (k:Nat):yF xs none (some (k:Int))=xs.take k:=by
 unfold yF
 rw[HT.BF,HT.FL,drop_zero,Nat.sub_zero]
 by_cases h:k<=xs.length
 ·rw[Nat.min_eq_left h]
 ·rw[Nat.min_eq_right (by omega),take_of_length_le (le_refl _),take_of_length_le (by omega)]
theorem lU (xs:List PV) (k:Nat):yF xs (some (k:Int)) none=xs.drop k:=by
 unfold yF
 rw[HT.BF,HT.FL]
 by_cases h:k<=xs.length
 ·rw[Nat.min_eq_left h,take_of_length_le (by rw[length_drop];exact le_refl _)]
 ·rw[Nat.min_eq_right (by omega),List.drop_of_length_le (le_refl _),List.drop_of_length_le (by omega),List.take_nil]
theorem acY (zs:List Int):yF (zs.map PV.int) none (some 8)=(zs.take 8).map PV.int:=by
 have:=zX (zs.map PV.int) 8
 rw[map_take]
 exact this
theorem qY {kind day:Int} {zs:List Int} {Q:Out->Prop} (h:Hand a b c n) (hn:n<100100) (a0:0<=at') (a1:at'<m) (hz:∀z∈zs,0<=z/\z<m) (zl:zs.length<=9)
  (q:∀l a' b' c' v1 v2 v3 v4 v5,XT m l->Hand a' b' c' (n+1)->Q (.rt (.val (PN l)) [some (.own (hd a' b' c')),v1,v2,v3,v4,v5])):
  Wp (iU [some (.own (hd a b c)),some (.val (.int m)),some (.val (.int at')),some (.val (.int kind)),some (.val (.int day)),some (.val (.lst (zs.map PV.int)))]) Q:=by
 unfold iU
 walk_at "wp"
 refine fN (by split<;>decide) (by simp only[length_cons,length_nil];split<;>decide) fun p hp'=>?_
 obtain⟨z,rfl⟩:∃z:Int,p= .int z:=by
  simp only[mem_cons,not_mem_nil,or_false]at hp'
  rcases hp' with rfl|rfl<;>exact⟨_,rfl⟩
 walk_at "wp"
 refine cZ h (by omega) (by decide) (by decide) fun e a6 b6 c6 e0 e1 hp=>?_
 walk_at "wp"
 refine fN e0 e1 fun p hp'=>?_
 obtain⟨x,rfl⟩:∃z:Str,p= .str z:=by
  simp only[mem_cons,not_mem_nil,or_false]at hp'
  rcases hp' with rfl|rfl|rfl<;>exact⟨_,rfl⟩
 walk_at "wp"
 exact q ⟨at',z,x,zs⟩ _ _ _ _ _ _ _ _ ⟨a0,a1,hz,zl⟩ hp
theorem wL (h:Hand a b c n) (m0:0<m) (m1:m<=64) (hn:n<100000)
  (q:∀l a' b' c',XT m l->Hand a' b' c' (n+20)->Q (PN l,[hd a' b' c'])):Wp (dN [hd a b c,.int m]) Q:=by
 unfold dN
 rw[tQ]
 walk_at "wp"
 refine cZ h (by omega) m0 (by omega) fun at' a1 b1 c1 at0 at1 hp=>?_
 walk_at "wp"
 refine cZ hp (by omega) (by decide) (by decide) fun kind a2 b2 c2 k0 k1 hp=>?_
 walk_at "wp"
 refine fN k0 k1 fun p hp'=>?_
 obtain⟨z,rfl,z0,z1⟩:∃z:Int,p= .int z/\0<z/\z<=100000000:=by
  simp only[mem_cons,not_mem_nil,or_false]at hp'
  rcases hp' with rfl|rfl|rfl|rfl<;>exact⟨_,rfl,by decide,by decide⟩
 walk_at "wp"
 refine cZ hp (by omega) z0 (by omega) fun day a3 b3 c3 dy0 dy1 hp=>?_
 walk_at "wp"
 refine cZ hp (by omega) (by decide) (by decide) fun d a4 b4 c4 d0 d1 hp=>?_
 walk_at "wp"
 refine fN d0 d1 fun p hp'=>?_
 obtain⟨w,rfl,w0,w1⟩:∃z:Int,p= .int z/\0<=z/\z<=9:=by
  simp only[mem_cons,not_mem_nil,or_false]at hp'
  rcases hp' with rfl|rfl|rfl|rfl|rfl|rfl<;>exact⟨_,rfl,by decide,by decide⟩
 walk_at "wp"
 refine⟨iT (by omega) (by omega),by omega,?_⟩
 refine Q4 hp m0 m1 (by rw[length_map,length_range];omega) fun zs s' a5 b5 c5 zl hz hp=>?_
 rw[length_map,length_range]at zl hp
 walk_at "wp"
 refine cZ hp (by omega) (by decide) (by decide) fun e a6 b6 c6 e0 e1 hp=>?_
 walk_at "wp"
 have r0:=emod_nonneg (at'+1) (show m≠0 by omega)
 have r1:=emod_lt_of_pos (at'+1) m0
 rw[acY]
 have l8:(zs.take 8).length<=8:=by rw[length_take];omega
 refine⟨fun _=>⟨m0,by rw[length_map];omega,?_⟩,fun _=>?_⟩
 ·have ee:(zs.take 8).map PV.int++[PV.int ((at'+1) % m)]=((zs.take 8)++[(at'+1) % m]).map PV.int:=by rw[map_append];rfl
  rw[ee]
  refine qY hp (by omega) at0 at1 (fun z hz'=>?_) (by rw[length_append];simp;omega) fun l a' b' c' v1 v2 v3 v4 v5 hl hp=>?_
  ·rcases mem_append.mp hz' with g|g
   ·exact hz z (mem_of_mem_take g)
   ·rw[mem_singleton.mp g];exact⟨r0,r1⟩
  ·walk_at "wp"
   exact q l a' b' c' hl (hp.mono (by omega))
 ·refine qY hp (by omega) at0 at1 hz (by omega) fun l a' b' c' v1 v2 v3 v4 v5 hl hp=>?_
  walk_at "wp"
  exact q l a' b' c' hl (hp.mono (by omega))
end
section
open PySem L2 Mr
theorem O5 {a b c:Int} {s:Option Sl} {Q:List PV×En->Prop} (hp:Hand a b c n) (m0:0<m) (m1:m<=64) (hn:n+20*xs.length<100000)
  (q:∀(zs:List DZ) s' a' b' c',zs.length=xs.length->(∀z∈zs,XT m z)->Hand a' b' c' (n+20*xs.length)->Q (zs.map PN,[s',some (.own (hd a' b' c')),some (.val (.int m))])):
  Wp (iO (aO 0) dM (bC [.m,.b] false dN (aB (aC 1) (aB (aC 2) aK))) xs [s,some (.own (hd a b c)),some (.val (.int m))]) Q:=by
 refine dR (fun i acc e=>∃(zs:List DZ) (s:Option Sl) (a b c:Int),acc=zs.map PN/\zs.length=i/\(∀z∈zs,XT m z)/\e=[s,some (.own (hd a b c)),some (.val (.int m))]/\Hand a b c (n+20*i)) ?_ ?_ ⟨[],s,a,b,c,rfl,rfl,fun _ h=>(nomatch h),rfl,hp⟩
 ·rintro i x e acc hx ⟨zs,s,a,b,c,rfl,hl',hz,rfl,hp⟩
  have hi:=(List.getElem?_eq_some_iff.mp hx).1
  walk_at "wp"
  refine wL hp m0 m1 (by omega) fun l a' b' c' hl hp'=>?_
  walk_at "wp"
  exact⟨zs++[l],_,a',b',c',by rw[map_append];rfl,by rw[length_append,hl'];rfl,fun z hz'=>(mem_append.mp hz').elim (hz z) fun h=>by rw[mem_singleton.mp h];exact hl,rfl,hp'.mono (by omega)⟩
 ·rintro acc e ⟨zs,s,a,b,c,rfl,hl',hz,rfl,hp⟩
  exact q zs s a b c hl' hz hp
theorem DY {ns:List Int} (hns:ns.length<=63) (h:Hand a b c n) (m0:0<m) (m1:m<=64) (hn:n<50000)
  (q:∀(zs:List DZ) a' b' c',zs.length<=51->(∀z∈zs,XT m z)->Hand a' b' c' (n+300)->Q (.lst (zs.map PN),[hd a' b' c'])):Wp (fO [.lst (ns.map PV.int),hd a b c,.int m]) Q:=by
 unfold fO jL
 walk_at "wp"
 refine cZ h (by omega) (by decide) (by decide) fun d a1 b1 c1 d0 d1 hp=>?_
 walk_at "wp"
 refine⟨iT (by omega) (by omega),by omega,?_⟩
 refine O5 hp m0 m1 (by rw[length_map,length_range];omega) fun zs s' a2 b2 c2 zl hz hp=>?_
 rw[length_map,length_range]at zl hp
 walk_at "wp"
 have hm1:(if(40:Int)<(ns.length:Int)then(40:Int)else(ns.length:Int))<=40:=by split<;>omega
 have hm0:0<=(if(40:Int)<(ns.length:Int)then(40:Int)else(ns.length:Int)):=by split<;>omega
 refine⟨⟨iT (by decide) (by decide),iT (by omega) (by omega)⟩,?_⟩
 generalize(if(40:Int)<(ns.length:Int)then(40:Int)else(ns.length:Int))=N at hm0 hm1
 refine cM (fun i e=>∃(ys:List DZ) (v4:Option Sl),ys.length=zs.length+i/\(∀z∈ys,XT m z)/\e=[some (Sl.bor (PV.lst (ns.map PV.int))),some (Sl.own (hd a2 b2 c2)),some (Sl.val (PV.int m)),some (Sl.loc (PV.lst (ys.map PN))),v4]) ?_ ?_ ⟨zs,_,rfl,hz,rfl⟩
 ·rintro i x e hx ⟨ys,v4,yl,hy,rfl⟩
  rw[getElem?_map]at hx
  obtain⟨k,hk,rfl⟩:=map_eq_some_iff.mp hx
  have hi:=(List.getElem?_eq_some_iff.mp hk).1
  have ek:=(List.getElem?_eq_some_iff.mp hk).2
  rw[length_range]at hi
  rw[getElem_range]at ek
  walk_at "wp"
  refine GQ (by omega) (by omega) hns fun a3 b3 hh=>?_
  walk_at "wp"
  refine wL hh m0 m1 (by omega) fun l a' b' c' hl _=>?_
  walk_at "wp"
  refine⟨by omega,ys++[l],_,by rw[length_append,yl];simp;omega,fun z hz'=>(mem_append.mp hz').elim (hy z) fun h=>by rw[mem_singleton.mp h];exact hl,by rw[map_append];rfl⟩
 ·rintro e ⟨ys,v4,yl,hy,rfl⟩
  rw[length_map,length_range]at yl
  walk_at "wp"
  exact q ys _ _ _ (by omega) hy (hp.mono (by omega))
end
section
open PySem L2 Mr
structure Let where
 name:Str
 day:Int
 head:Str
 row:List Str
 deriving DecidableEq
noncomputable def lP (l:Let):PV:=.tup [.str l.name,.int l.day,.str l.head,.tup (l.row.map PV.str)]
theorem gO (ss:List Str) (n:Nat):(ss.map PV.str).all (gD n)=true:=all_eq_true.mpr fun p hp=>by obtain⟨y,_,rfl⟩:=mem_map.mp hp;cases n<;>rfl
theorem yN (ss:List Str) (n:Nat):(ss.map PV.str).all (nD n)=true:=all_eq_true.mpr fun p hp=>by obtain⟨y,_,rfl⟩:=mem_map.mp hp;cases n<;>rfl
theorem aa1 (l:Let):gD 8 (lP l)=true:=by
 show([PV.str l.name,PV.int l.day,PV.str l.head,PV.tup (l.row.map PV.str)].all (gD 7))=true
 simp only[all_cons,all_nil,gD,gO,Bool.and_true]
theorem Z3 (l:Let):nD 3 (lP l)=true:=by
 show([PV.str l.name,PV.int l.day,PV.str l.head,PV.tup (l.row.map PV.str)].all (nD 2))=true
 simp only[all_cons,all_nil,nD,yN,Bool.and_true]
theorem jO (n:Nat):∀xs ys:List Str,(dW (oO n) (xs.map PV.str) (ys.map PV.str)).isSome=true
 |[],[]=>rfl
 |[],_::_=>rfl
 |_::_,[]=>rfl
 |x::xs,y::ys=>by
  rw[map_cons,map_cons]
  unfold dW
  split
  ·exact jO n xs ys
  ·cases n<;>rfl
theorem ab7 (l k:Let):(oO 3 (lP l) (lP k)).isSome=true:=by
 show(dW (oO 2) [PV.str l.name,PV.int l.day,PV.str l.head,PV.tup (l.row.map PV.str)] [PV.str k.name,PV.int k.day,PV.str k.head,PV.tup (k.row.map PV.str)]).isSome=true
 unfold dW
 split
 ·unfold dW
  split
  ·unfold dW
   split
   ·unfold dW
    split
    ·rfl
    ·exact jO 1 _ _
   ·rfl
  ·rfl
 ·rfl
theorem J2 (ls:List Let):c9 3 (ls.map lP)=true:=all_eq_true.mpr fun p hp=>by
 obtain⟨l,_,rfl⟩:=mem_map.mp hp
 rw[and_eq_true]
 refine⟨Z3 l,all_eq_true.mpr fun q hq=>?_⟩
 obtain⟨k,_,rfl⟩:=mem_map.mp hq
 exact ab7 l k
theorem MZ (ls:List Let):(ls.map lP).all (mV true)=true:=all_eq_true.mpr fun p hp=>by obtain⟨l,_,rfl⟩:=mem_map.mp hp;rfl
theorem zP {ps:List PV} (h:ps.Perm (ls.map lP)):∃ks:List Let,ks.Perm ls/\ps=ks.map lP:=by
 have key:∀(ps:List PV) (ls:List Let),ps.Perm (ls.map lP)->∃ks:List Let,ks.Perm ls/\ps=ks.map lP:=by
  intro ps
  induction ps with
  |nil=>intro ls h;have:=h.nil_eq;rw[List.eq_nil_of_map_eq_nil this.symm];exact⟨[],.refl _,rfl⟩
  |cons p ps ih=>
   intro ls h
   obtain⟨l,hl,e⟩:=mem_map.mp (h.mem_iff.mp mem_cons_self)
   subst e
   have h2:(lP l::ps).Perm ((l::ls.erase l).map lP):=h.trans ((perm_cons_erase hl).map lP)
   obtain⟨ks,k1,k2⟩:=ih _ (h2.cons_inv)
   exact⟨l::ks,(k1.cons l).trans (perm_cons_erase hl).symm,by rw[k2];rfl⟩
 exact key ps ls h
theorem JC {ls:List Let} {Q:Bv->Prop} (h:ls.length<64) (q:∀ks:List Let,ks.Perm ls->(ks.map lP).Pairwise (fun a b=>kS 3 a b=true)->Q (.new (.lst (ks.map lP)))):Wp (fL [.lst (ls.map lP)]) Q:=by
 cases ls with
 |nil=>exact⟨_,rfl,by rw[show cL []=[] by unfold cL;simp];exact q [] (.refl _) .nil⟩
 | cons l ls=>
  have e1:t7 [.lst ((l::ls).map lP)]=none:=rfl
  have e2:oB [.lst ((l::ls).map lP)]=none:=rfl
  unfold fL
  rw[e1,e2,none_or,none_or]
  unfold sM
  simp only[eB,bW]
  refine⟨?_,?_⟩
  ·rw[MZ,J2,length_map,decide_eq_true h];rfl
  ·obtain⟨ks,k1,k2⟩:=zP (dC 3 ((l::ls).map lP))
   have:=hZ 3 ((l::ls).map lP)
   rw[k2]at this⊢
   exact q ks k1 this
end
section
open PySem L2 Mr
theorem J7 {rs:List Int} {s:Option Sl} {Q:List PV×En->Prop} (hm:(ss.length:Int)=m) (hr:∀x∈rs,0<=x/\x<m)
  (q:∀(zs:List Str) s',zs.length=rs.length->(∀z∈zs,z∈ss)->Q (zs.map PV.str,[s',some (Sl.bor (PV.lst (ss.map PV.str)))])):
  Wp (iO (aO 0) dM (bF dB (aC 1) (aC 0)) (rs.map PV.int) [s,some (Sl.bor (PV.lst (ss.map PV.str)))]) Q:=by
 refine dR (fun i acc e=>∃(zs:List Str) (s:Option Sl),acc=zs.map PV.str/\zs.length=i/\(∀z∈zs,z∈ss)/\e=[s,some (Sl.bor (PV.lst (ss.map PV.str)))]) ?_ ?_ ⟨[],s,rfl,rfl,fun _ h=>(nomatch h),rfl⟩
 ·rintro i x e acc hx ⟨zs,s,rfl,hl,hz,rfl⟩
  rw[getElem?_map]at hx
  obtain⟨k,hk,rfl⟩:=map_eq_some_iff.mp hx
  obtain⟨k0,k1⟩:=hr k (mem_of_getElem? hk)
  walk_at "wp"
  refine fN k0 (by rw[length_map];omega) fun p hp=>?_
  obtain⟨y,hy,rfl⟩:=mem_map.mp hp
  walk_at "wp"
  exact⟨zs++[y],_,by rw[map_append];rfl,by rw[length_append,hl];rfl,fun z hz'=>(mem_append.mp hz').elim (hz z) fun h=>by rw[mem_singleton.mp h];exact hy,rfl⟩
 ·rintro acc e ⟨zs,s,rfl,hl,hz,rfl⟩
  rw[length_map]at hl
  exact q zs s hl hz
theorem SO {zs:List DZ} (hm:(ss.length:Int)=m) (hz:∀z∈zs,XT m z) (hl:zs.length<=60)
  (q:∀ls:List Let,ls.length<=zs.length->(ls.map lP).Pairwise (fun a b=>kS 3 a b=true)->(∀l∈ls,l.row.length<=9/\l.name∈ss/\∀x∈l.row,x∈ss)->Q (.tup (ls.map lP),[])):Wp (i7 [.lst (zs.map PN),.lst (ss.map PV.str)]) Q:=by
 unfold i7 nX
 walk_at "wp"
 refine cM (fun i e=>∃(ls:List Let) (v3 v4 v5 v6 v7:Option Sl),ls.length<=i/\(∀l∈ls,l.row.length<=9/\l.name∈ss/\∀x∈l.row,x∈ss)/\e=[some (Sl.bor (PV.lst (zs.map PN))),some (Sl.bor (PV.lst (ss.map PV.str))),some (Sl.loc (PV.lst (ls.map lP))),v3,v4,v5,v6,v7]) ?_ ?_ ⟨[],_,_,_,_,_,le_refl _,fun _ h=>(nomatch h),rfl⟩
 ·rintro i x e hx ⟨ls,v3,v4,v5,v6,v7,ll,hls,rfl⟩
  rw[getElem?_map]at hx
  obtain⟨z,hk,rfl⟩:=map_eq_some_iff.mp hx
  have hi:=(List.getElem?_eq_some_iff.mp hk).1
  have ok:=hz z (mem_of_getElem? hk)
  rw[show PN z=PV.tup [PV.int z.at',PV.int z.day,PV.str z.head,PV.lst (z.row.map PV.int)]from rfl]
  walk_at "wp"
  refine fN ok.a0 (by rw[length_map,hm];exact ok.a1) fun p hp=>?_
  obtain⟨y,hy,rfl⟩:=mem_map.mp hp
  walk_at "wp"
  have hn:=ok.n
  refine⟨by omega,J7 hm ok.r fun xs s' xl hxs=>?_⟩
  walk_at "wp"
  have hnew:Let:=⟨y,z.day,z.head,xs⟩
  refine⟨⟨gO xs 6,all_eq_true.mpr fun p hp=>by obtain⟨l,_,rfl⟩:=mem_map.mp hp;exact aa1 l⟩,fun _=>⟨by omega,ls++[⟨y,z.day,z.head,xs⟩],_,_,_,_,_,by rw[length_append];simp;omega,fun l hl'=>?_,by rw[map_append];rfl⟩,fun _=>⟨ls,_,_,_,_,_,by omega,hls,rfl⟩⟩
  rcases mem_append.mp hl' with g|g
  ·exact hls l g
  ·rw[mem_singleton.mp g];exact⟨by rw[show(Let.mk y z.day z.head xs).row=xs from rfl,xl];exact hn,hy,hxs⟩
 ·rintro e ⟨ls,v3,v4,v5,v6,v7,ll,hls,rfl⟩
  rw[length_map]at ll
  walk_at "wp"
  refine JC (by omega) fun ks k1 k2=>?_
  walk_at "wp"
  exact q ks (by rw[k1.length_eq];exact ll) k2 fun l h=>hls l (k1.mem_iff.mp h)
end
section
open PySem L2 Mr
noncomputable def lJ (acc:List Let) (l:Let):List Let:=if(acc.any fun k=>decide (k.name=l.name))=true then acc else acc++[l]
noncomputable def st (qs:List Let):List Let:=qs.foldl lJ []
noncomputable def GY (acc:List Let):List (Key×PV):=acc.map fun l=>(Sum.inr l.name,lP l)
theorem E5 (acc:List Let) (x:Str):(cG (GY acc) (Sum.inr x)).isSome=acc.any fun k=>decide (k.name=x):=by
 unfold cG GY
 induction acc with
 |nil=>rfl
 | cons l acc ih=>
  rw[map_cons,find?_cons,any_cons]
  by_cases h:l.name=x
  ·subst h;simp
  ·have h':¬(Sum.inr l.name:Key)=Sum.inr x:=fun z=>h (Sum.inr.inj z)
   rw[decide_eq_false h',decide_eq_false h,Bool.false_or]
   exact ih
theorem GI {acc:List Let} {l:Let} (h:(acc.any fun k=>decide (k.name=l.name))=false):eR (GY acc) (Sum.inr l.name) (lP l)=GY (acc++[l]):=by
 unfold eR
 have e:((GY acc).any fun kv=>decide (kv.1=Sum.inr l.name))=false:=by
  rw[<-h]
  unfold GY
  rw[any_map]
  congr 1
  funext k
  simp
 rw[e,if_neg Bool.false_ne_true]
 unfold GY
 rw[map_append];rfl
theorem GL (qs:List Let) (i:Nat) (l:Let) (h:qs[i]? =some l):st (qs.take (i+1))=lJ (st (qs.take i)) l:=by
 unfold st
 rw[take_succ,h,toList_some,foldl_append];rfl
theorem uM (qs:List Let):(st qs).length<=qs.length:=by
 have key:∀(l k:List Let),(l.foldl lJ k).length<=k.length+l.length:=by
  intro l
  induction l with
  |nil=>intro k;exact le_refl _
  | cons x l ih=>
   intro k
   have:=ih (lJ k x)
   have h:(lJ k x).length<=k.length+1:=by
    unfold lJ;split
    ·omega
    ·rw[length_append];exact le_refl _
   rw[foldl_cons,length_cons];omega
 have:=key qs []
 simpa [st]using this
theorem oD {l:Let} (h:l∈st qs):l∈qs:=by
 have key:∀(xs k:List Let),l∈xs.foldl lJ k->l∈k\/ l∈xs:=by
  intro xs
  induction xs with
  |nil=>intro k h;exact .inl h
  | cons x xs ih=>
   intro k h
   rcases ih _ h with g|g
   ·unfold lJ at g
    split at g
    ·exact .inl g
    ·rcases mem_append.mp g with g|g
     ·exact .inl g
     ·exact .inr (by rw[mem_singleton.mp g];exact mem_cons_self)
   ·exact .inr (mem_cons_of_mem _ g)
 exact(key qs [] h).resolve_left (fun z=>nomatch z)
theorem CF (acc:List Let):(GY acc).map (·.2)=acc.map lP:=by unfold GY;rw[map_map];rfl
theorem jA {qs:List Let} (hl:qs.length<=100) (q:Q (.tup ((st qs).map lP),[])):Wp (eF [.tup (qs.map lP)]) Q:=by
 unfold eF oA
 walk_at "wp"
 refine cM (fun i e=>∃v2,e=[some (Sl.val (PV.tup (qs.map lP))),some (Sl.loc (PV.a8 (GY (st (qs.take i))))),v2]) ?_ ?_ ⟨_,rfl⟩
 ·rintro i x e hx ⟨v2,rfl⟩
  rw[getElem?_map]at hx
  obtain⟨l,hk,rfl⟩:=map_eq_some_iff.mp hx
  have hi:=(List.getElem?_eq_some_iff.mp hk).1
  have hs:=GL qs i l hk
  have hlen:=uM (qs.take i)
  rw[length_take]at hlen
  rw[show lP l=PV.tup [PV.str l.name,PV.int l.day,PV.str l.head,PV.tup (l.row.map PV.str)]from rfl]
  walk_at "wp"
  rw[E5]
  rw[hs]
  unfold lJ
  cases g:(st (qs.take i)).any fun k=>decide (k.name=l.name)with
  |true=>exact⟨fun z=>(by cases z),fun _=>⟨_,by rw[if_pos rfl]⟩⟩
  |false=>
   refine⟨fun _=>⟨by unfold GY;rw[length_map];omega,some (Sl.val (lP l)),?_⟩,fun z=>(by cases z)⟩
   rw[if_neg Bool.false_ne_true]
   have:=GI g
   rw[<-this];rfl
 ·rintro e ⟨v2,rfl⟩
  rw[length_map,take_length]
  walk_at "wp"
  rw[CF]
  exact q
theorem yY {qs:List Let} (hl:qs.length<=100) (q:Q (.lst ((st qs).map lP),[])):Wp (e9 [.tup (qs.map lP)]) Q:=by
 unfold e9 iH
 walk_at "wp"
 refine cM (fun i e=>∃v2,e=[some (Sl.val (PV.tup (qs.map lP))),some (Sl.loc (PV.a8 (GY (st (qs.take i))))),v2]) ?_ ?_ ⟨_,rfl⟩
 ·rintro i x e hx ⟨v2,rfl⟩
  rw[getElem?_map]at hx
  obtain⟨l,hk,rfl⟩:=map_eq_some_iff.mp hx
  have hi:=(List.getElem?_eq_some_iff.mp hk).1
  have hs:=GL qs i l hk
  have hlen:=uM (qs.take i)
  rw[length_take]at hlen
  rw[show lP l=PV.tup [PV.str l.name,PV.int l.day,PV.str l.head,PV.tup (l.row.map PV.str)]from rfl]
  walk_at "wp"
  rw[E5]
  rw[hs]
  unfold lJ
  cases g:(st (qs.take i)).any fun k=>decide (k.name=l.name)with
  |true=>exact⟨fun z=>(by cases z),fun _=>⟨_,by rw[if_pos rfl]⟩⟩
  |false=>
   refine⟨fun _=>⟨by unfold GY;rw[length_map];omega,some (Sl.val (lP l)),?_⟩,fun z=>(by cases z)⟩
   rw[if_neg Bool.false_ne_true]
   have:=GI g
   rw[<-this];rfl
 ·rintro e ⟨v2,rfl⟩
  rw[length_map,take_length]
  walk_at "wp"
  rw[CF]
  exact q
noncomputable def FW (own:Str) (row:List Str) (k:Nat):List Str:=(List.range k).filterMap fun i=>(row[i]?).bind fun x=>if x≠own/\x∉row.drop (i+1)then some x else none
noncomputable def el (l:Let):List Str:=FW l.name l.row l.row.length
theorem uO {own:Str} {row:List Str} (h:row[i]? =some x):FW own row (i+1)=FW own row i++(if x≠own/\x∉row.drop (i+1)then [x]else []):=by
 unfold FW
 rw[List.range_succ,filterMap_append]
 congr 1
 rw[filterMap_cons,h,bind_some]
 split
 ·rename_i e;split at e
  ·cases e
  ·rename_i g;rw[if_neg g];rfl
 ·rename_i e;split at e
  ·rename_i g;cases e;rw[if_pos g];rfl
  ·cases e
theorem pT {l:Let} (hl:l.row.length<=9) (q:Q (.tup ((el l).map PV.str),[])):Wp (iD [lP l]) Q:=by
 unfold iD uL
 rw[show lP l=PV.tup [PV.str l.name,PV.int l.day,PV.str l.head,PV.tup (l.row.map PV.str)]from rfl]
 walk_at "wp"
 refine⟨by rw[length_zipIdx,length_map];omega,?_⟩
 refine dR (fun i acc e=>acc=(FW l.name l.row i).map PV.str/\∃v0 v1,e=[v0,v1,some (Sl.val (PV.str l.name)),some (Sl.val (PV.tup (l.row.map PV.str)))]) ?_ ?_ ⟨rfl,_,_,rfl⟩
 ·rintro i x e acc hx ⟨rfl,v0,v1,rfl⟩
  rw[getElem?_map,getElem?_zipIdx,getElem?_map,Option.map_map,Option.map_map]at hx
  obtain⟨y,hy,rfl⟩:=map_eq_some_iff.mp hx
  have hi:=(List.getElem?_eq_some_iff.mp hy).1
  have hs:=uO (own:=l.name) hy
  simp only[Function.comp_apply]
  walk_at "wp"
  rw[show(((0+i:Nat):Int)+1)=((i+1:Nat):Int) by omega,lU,<-map_drop,xH,hs]
  have ok8:=gO (l.row.drop (i+1)) 8
  by_cases h1:y=l.name
  ·refine⟨fun z=>absurd z (by simp[h1]),fun _=>⟨?_,_,_,rfl⟩⟩
   rw[if_neg (fun z=>z.1 h1),append_nil]
  ·refine⟨fun _=>⟨ok8,?_⟩,fun z=>absurd z (by simp[h1])⟩
   by_cases h2:y∈l.row.drop (i+1)
   ·rw[decide_eq_true h2]
    refine⟨?_,_,_,rfl⟩
    rw[if_neg (fun z=>z.2 h2),append_nil]
   ·rw[decide_eq_false h2]
    refine⟨?_,_,_,rfl⟩
    rw[if_pos ⟨h1,h2⟩,map_append];rfl
 ·rintro acc e ⟨rfl,v0,v1,rfl⟩
  rw[length_map,length_zipIdx,length_map]
  walk_at "wp"
  exact q
theorem E9 {l:Let} (hl:l.row.length<=9) (q:Q (.lst ((el l).map PV.str),[])):Wp (iP [lP l]) Q:=by
 unfold iP pY
 rw[show lP l=PV.tup [PV.str l.name,PV.int l.day,PV.str l.head,PV.tup (l.row.map PV.str)]from rfl]
 walk_at "wp"
 refine⟨iT (by omega) (by omega),by omega,?_⟩
 rw[toNat_natCast]
 refine dR (fun i acc e=>acc=(FW l.name l.row i).map PV.str/\∃v0,e=[v0,some (Sl.val (PV.tup (l.row.map PV.str))),some (Sl.val (PV.tup [PV.str l.name,PV.int l.day,PV.str l.head,PV.tup (l.row.map PV.str)]))]) ?_ ?_ ⟨rfl,_,rfl⟩
 ·rintro i x e acc hx ⟨rfl,v0,rfl⟩
  rw[getElem?_map]at hx
  obtain⟨k,hk,rfl⟩:=map_eq_some_iff.mp hx
  have hi:=(List.getElem?_eq_some_iff.mp hk).1
  have ek:=(List.getElem?_eq_some_iff.mp hk).2
  rw[length_range]at hi
  rw[getElem_range]at ek
  subst ek
  have hy:l.row[i]? =some l.row[i]:=getElem?_eq_getElem hi
  have hs:=uO (own:=l.name) hy
  generalize l.row[i]=y at hy hs
  have ea:oN (l.row.map PV.str) (0+(i:Int))=some (.str y):=by rw[Int.zero_add];exact gX (by rw[getElem?_map,hy];rfl)
  walk_at "wp"
  rw[ea]
  walk_at "wp"
  have ok8:=gO (l.row.drop (i+1)) 8
  by_cases h1:y=l.name
  ·refine⟨fun z=>absurd z (by simp[h1]),fun _=>⟨?_,_,rfl⟩⟩
   rw[hs,if_neg (fun z=>z.1 h1),append_nil]
  ·refine⟨fun _=>?_,fun z=>absurd z (by simp[h1])⟩
   rw[ea]
   walk_at "wp"
   rw[show(0+(i:Int)+1)=((i+1:Nat):Int) by omega,lU,<-map_drop,xH,hs]
   refine⟨ok8,?_⟩
   by_cases h2:y∈l.row.drop (i+1)
   ·rw[decide_eq_true h2]
    refine⟨?_,_,rfl⟩
    rw[if_neg (fun z=>z.2 h2),append_nil]
   ·rw[decide_eq_false h2]
    simp only[Bool.not_false]
    rw[ea]
    walk_at "wp"
    refine⟨?_,_,rfl⟩
    rw[if_pos ⟨h1,h2⟩,map_append];rfl
 ·rintro acc e ⟨rfl,v0,rfl⟩
  rw[length_map,length_range]
  walk_at "wp"
  exact q
end
section
open PySem L2 Mr
noncomputable def oP:Option Str->PV
 |none=>.bA
 |some x=>.str x
noncomputable abbrev Hl:=List (Str×Option Str)
noncomputable def kM (hs:Hl):List (Key×PV):=hs.map fun z=>(Sum.inr z.1,oP z.2)
theorem xD (hs:Hl) (x:Str):(cG (kM hs) (Sum.inr x)=none/\x∉hs.map (·.1))\/ ∃o,cG (kM hs) (Sum.inr x)=some (oP o)/\(x,o)∈hs:=by
 unfold cG kM
 induction hs with
 |nil=>exact .inl ⟨rfl,fun h=>nomatch h⟩
 | cons z hs ih=>
  rw[map_cons,find?_cons]
  by_cases h:z.1=x
  ·right
   subst h
   exact⟨z.2,by simp,mem_cons_self⟩
  ·have h':¬(Sum.inr z.1:Key)=Sum.inr x:=fun e=>h (Sum.inr.inj e)
   rw[decide_eq_false h']
   rcases ih with⟨a,b⟩|⟨o,a,b⟩
   ·exact .inl ⟨a,fun e=>by rcases mem_cons.mp e with e|e;exact h e.symm;exact b e⟩
   ·exact .inr ⟨o,a,mem_cons_of_mem _ b⟩
theorem yD (h:x∉hs.map (·.1)):eR (kM hs) (Sum.inr x) (oP o)=kM (hs++[(x,o)]):=by
 unfold eR
 have e:((kM hs).any fun kv=>decide (kv.1=Sum.inr x))=false:=by
  unfold kM
  rw[any_map,any_eq_false]
  intro z hz
  have:z.1≠x:=fun e=>h (mem_map.mpr ⟨z,hz,e⟩)
  simp[this]
 rw[e,if_neg Bool.false_ne_true]
 unfold kM
 rw[map_append];rfl
structure MOk (ss:List Str) (hs:Hl):Prop where
 nd:(hs.map (·.1)).Nodup
 nm:∀z∈hs,z.1∈ss/\∀y,z.2=some y->y∈ss
noncomputable def mP (hs:Hl):List PV:=hs.map fun z=>.tup [.str z.1,oP z.2]
theorem GR (hs:Hl):bG (kM hs)=mP hs:=by unfold bG kM mP;rw[map_map];rfl
theorem abF (z:Str×Option Str):nD 3 (.tup [.str z.1,oP z.2])=true:=by
 show([PV.str z.1,oP z.2].all (nD 2))=true
 cases z.2<;>rfl
theorem XU (h:(hs.map (·.1)).Nodup):c9 3 (mP hs)=true:=all_eq_true.mpr fun p hp=>by
 obtain⟨z,hz,rfl⟩:=mem_map.mp hp
 rw[and_eq_true]
 refine⟨abF z,all_eq_true.mpr fun q hq=>?_⟩
 obtain⟨w,hw,rfl⟩:=mem_map.mp hq
 show(dW (oO 2) [PV.str z.1,oP z.2] [PV.str w.1,oP w.2]).isSome=true
 unfold dW
 split
 ·rename_i e
  rw[yC]at e
  have e1:z.1=w.1:=eq_of_beq e
  have e2:z=w:=by
   have key:∀(l:Hl),(l.map (·.1)).Nodup->∀a∈l,∀b∈l,a.1=b.1->a=b:=by
    intro l
    induction l with
    |nil=>intro _ a ha;cases ha
    | cons c l ih=>
     intro hn a ha b hb hab
     rw[map_cons,nodup_cons]at hn
     rcases mem_cons.mp ha with rfl|ha
     ·rcases mem_cons.mp hb with rfl|hb
      ·rfl
      ·exact absurd (mem_map.mpr ⟨b,hb,hab.symm⟩) hn.1
     ·rcases mem_cons.mp hb with e|hb
      ·exact absurd (mem_map.mpr ⟨a,ha,by rw[hab,e]⟩) hn.1
      ·exact ih hn.2 a ha b hb hab
   exact key hs h z hz w hw e1
  subst e2
  unfold dW
  rw[if_pos (kB (n:=0) (by cases z.2<;>rfl))]
  rfl
 ·rfl
theorem UI (hs:Hl):(mP hs).all (mV true)=true:=all_eq_true.mpr fun p hp=>by obtain⟨z,_,rfl⟩:=mem_map.mp hp;rfl
theorem PU {ps:List PV} (h:ps.Perm (mP hs)):∃ks:Hl,ks.Perm hs/\ps=mP ks:=by
 have key:∀(ps:List PV) (ls:Hl),ps.Perm (mP ls)->∃ks:Hl,ks.Perm ls/\ps=mP ks:=by
  intro ps
  induction ps with
  |nil=>intro ls h;have:=h.nil_eq;unfold mP at this;rw[List.eq_nil_of_map_eq_nil this.symm];exact⟨[],.refl _,rfl⟩
  |cons p ps ih=>
   intro ls h
   obtain⟨l,hl,e⟩:=mem_map.mp (h.mem_iff.mp mem_cons_self)
   subst e
   have h2:(PV.tup [.str l.1,oP l.2]::ps).Perm (mP (l::ls.erase l)):=h.trans ((perm_cons_erase hl).map _)
   obtain⟨ks,k1,k2⟩:=ih _ (h2.cons_inv)
   exact⟨l::ks,(k1.cons l).trans (perm_cons_erase hl).symm,by rw[k2];rfl⟩
 exact key ps hs h
end
section
open PySem L2 Mr
structure i0 where
 key:Str
 day:Int
 name:Str
 at':Int
noncomputable def tP (t:i0):PV:=.tup [.int t.day,.str t.name,.int t.at']
noncomputable def trF (l:Let) (z:Str×Nat):Option i0:=if 0<z.2 then some ⟨z.1,l.day,l.name,(z.2:Int)⟩else none
noncomputable def m7 (l:Let) (j:Nat):List i0:=((el l).zipIdx.take j).filterMap (trF l)
noncomputable def AU (l:Let):List i0:=(el l).zipIdx.filterMap (trF l)
noncomputable def iY (qs:List Let):List i0:=(st qs).flatMap AU
noncomputable def lY (x:Str) (ts:List i0):List i0:=ts.filter fun t=>decide (t.key=x)
noncomputable def GC (ts:List i0):DD:=ts.foldl (fun d t=>mY d (Sum.inr t.key) (tP t)) []
theorem NU (ts:List i0) (t:i0):GC (ts++[t])=mY (GC ts) (Sum.inr t.key) (tP t):=by unfold GC;rw[foldl_append];rfl
theorem wJ {l:Let} {n:Str} (h:(el l)[j]? =some n):m7 l (j+1)=m7 l j++(if 0<j then [⟨n,l.day,l.name,(j:Int)⟩]else []):=by
 unfold m7
 have e:(el l).zipIdx[j]? =some (n,j):=by rw[getElem?_zipIdx,h];simp
 rw[take_succ,e,toList_some,filterMap_append]
 congr 1
 rw[filterMap_cons,show trF l (n,j)=if 0<j then some ⟨n,l.day,l.name,(j:Int)⟩else none from rfl]
 by_cases g:0<j
 ·rw[if_pos g,if_pos g];rfl
 ·rw[if_neg g,if_neg g];rfl
theorem tX (l:Let):m7 l (el l).length=AU l:=by
 unfold m7 AU
 rw[take_of_length_le (by rw[length_zipIdx];exact le_refl _)]
theorem uI {f:α->List β} {xs:List α} {x:α} (h:xs[i]? =some x):(xs.take (i+1)).flatMap f=(xs.take i).flatMap f++f x:=by
 rw[take_succ,h,toList_some,List.flatMap_append]
 simp
theorem FR {f:α->List β} {k:Nat}:∀{xs:List α},(∀x∈xs,(f x).length<=k)->(xs.flatMap f).length<=k*xs.length
 |[],_=>by simp
 |x::xs,h=>by
  have:=FR (f:=f) (k:=k) (xs:=xs) fun y hy=>h y (mem_cons_of_mem _ hy)
  have:=h x mem_cons_self
  rw[List.flatMap_cons,length_append,length_cons,Nat.mul_succ]
  omega
theorem OD (l:Let):(el l).length<=l.row.length:=by
 unfold el FW
 have:=List.length_filterMap_le (fun i=>(l.row[i]?).bind fun x=>if x≠l.name/\x∉l.row.drop (i+1)then some x else none) (List.range l.row.length)
 rw[length_range]at this
 exact this
theorem CJ (l:Let) (j:Nat):(m7 l j).length<=(el l).length:=by
 unfold m7
 refine le_trans (List.length_filterMap_le _ _) ?_
 rw[length_take,length_zipIdx]
 omega
theorem PR (l:Let):(AU l).length<=(el l).length:=by rw[<-tX];exact CJ l _
noncomputable def lk (d:DD) (k:Key):List PV:=((d.find? fun kp=>decide (kp.1=k)).map (·.2)).getD []
theorem Y8 (d:DD) (k k':Key) (p:PV):lk (mY d k p) k'=if k=k' then lk d k'++[p]else lk d k':=by
 unfold mY
 cases c:d.any fun kp=>decide (kp.1=k)with
 | true=>
  rw[if_pos rfl]
  have key:∀d:DD,(d.map fun kp=>if kp.1=k then(kp.1,kp.2++[p])else kp).find? (fun kp=>decide (kp.1=k'))=(d.find? fun kp=>decide (kp.1=k')).map fun kp=>if kp.1=k then(kp.1,kp.2++[p])else kp:=by
   intro d
   induction d with
   |nil=>rfl
   |cons z d ih=>
    have e1:(if z.1=k then(z.1,z.2++[p])else z).1=z.1:=by split<;>rfl
    rw[map_cons,find?_cons,find?_cons,e1]
    cases decide (z.1=k')with
    |true=>rfl
    |false=>exact ih
  unfold lk
  rw[key]
  by_cases hk:k=k'
  ·subst hk
   rw[if_pos rfl]
   cases f:d.find? fun kp=>decide (kp.1=k)with
   |none=>
    have:=find?_eq_none.mp f
    obtain⟨z,hz,e⟩:=any_eq_true.mp c
    exact absurd e (by simpa using this z hz)
   |some z=>
    have hz:z.1=k:=by have:=find?_some f;simpa using this
    simp[hz]
  ·rw[if_neg hk]
   cases f:d.find? fun kp=>decide (kp.1=k')with
   |none=>rfl
   |some z=>
    have hz:z.1=k':=by have:=find?_some f;simpa using this
    have:¬z.1=k:=fun e=>hk (e.symm.trans hz)
    simp[this]
 | false=>
  rw[if_neg Bool.false_ne_true]
  unfold lk
  rw[find?_append]
  by_cases hk:k=k'
  ·subst hk
   rw[if_pos rfl]
   have f:(d.find? fun kp=>decide (kp.1=k))=none:=find?_eq_none.mpr fun z hz=>by
    have:=any_eq_false.mp c z hz
    simpa using this
   rw[f]
   simp
  ·rw[if_neg hk]
   have f:([(k,[p])]:DD).find? (fun kp=>decide (kp.1=k'))=none:=by simp[hk]
   rw[f,or_none]
theorem NB (ts:List i0) (x:Str):lk (GC ts) (Sum.inr x)=(lY x ts).map tP:=by
 have key:∀(ts:List i0) (d:DD),lk (ts.foldl (fun d t=>mY d (Sum.inr t.key) (tP t)) d) (Sum.inr x)=lk d (Sum.inr x)++(lY x ts).map tP:=by
  intro ts
  induction ts with
  |nil=>intro d;simp[lY]
  |cons t ts ih=>
   intro d
   rw[foldl_cons,ih,Y8]
   unfold lY
   by_cases h:t.key=x
   ·rw[if_pos (by rw[h]),List.filter_cons_of_pos (by simpa using h),map_cons,append_assoc];rfl
   ·rw[if_neg (fun e=>h (Sum.inr.inj e)),List.filter_cons_of_neg (by simpa using h)]
 have:=key ts []
 simpa [GC,lk]using this
theorem JQ (d:DD) (k:Key):(cG (d.map fun kp=>(kp.1,PV.lst kp.2)) k).getD (.lst [])= .lst (lk d k):=by
 unfold cG lk
 induction d with
 |nil=>rfl
 |cons z d ih=>
  rw[map_cons,find?_cons,find?_cons]
  cases decide (z.1=k)with
  |true=>rfl
  |false=>exact ih
theorem QO (d:DD) (k:Key) (p:PV) {m:Nat} (h1:d.length<=m) (h2:∀kp∈d,kp.2.length<=m):(mY d k p).length<=m+1/\∀kp∈mY d k p,kp.2.length<=m+1:=by
 unfold mY
 split
 ·refine⟨by rw[length_map];omega,fun kp hk=>?_⟩
  obtain⟨z,hz,rfl⟩:=mem_map.mp hk
  have:=h2 z hz
  split
  ·rw[length_append];simp only[length_cons,length_nil];omega
  ·omega
 ·refine⟨by rw[length_append];simp only[length_cons,length_nil];omega,fun kp hk=>?_⟩
  rcases mem_append.mp hk with h|h
  ·have:=h2 kp h;omega
  ·rw[mem_singleton.mp h];simp
theorem SD (ts:List i0):(GC ts).length<=ts.length/\∀kp∈GC ts,kp.2.length<=ts.length:=by
 have key:∀(ts:List i0) (d:DD) (m:Nat),d.length<=m->(∀kp∈d,kp.2.length<=m)->(ts.foldl (fun d t=>mY d (Sum.inr t.key) (tP t)) d).length<=m+ts.length/\∀kp∈ts.foldl (fun d t=>mY d (Sum.inr t.key) (tP t)) d,kp.2.length<=m+ts.length:=by
  intro ts
  induction ts with
  |nil=>intro d m h1 h2;exact⟨h1,h2⟩
  |cons t ts ih=>
   intro d m h1 h2
   obtain⟨g1,g2⟩:=QO d (Sum.inr t.key) (tP t) h1 h2
   have:=ih _ (m+1) g1 g2
   rw[foldl_cons,length_cons]
   rw[show m+(ts.length+1)=m+1+ts.length by omega]
   exact this
 have:=key ts [] 0 (le_refl _) (fun _ h=>(nomatch h))
 rw[zero_add]at this
 exact this
theorem wZ {own:Str} {row:List Str}:∀k,k<=row.length->(FW own row k).Nodup/\∀x∈FW own row k,∃i,i<k/\row[i]? =some x/\x∉row.drop (i+1)
 |0,_=>⟨by unfold FW;simp,fun x h=>by unfold FW at h;simp at h⟩
 | k+1,hk=>by
  obtain⟨h1,h2⟩:=wZ (own:=own) (row:=row) k (by omega)
  have hx:row[k]? =some row[k]:=getElem?_eq_getElem (by omega)
  rw[uO hx]
  split
  ·rename_i g
   refine⟨nodup_append.mpr ⟨h1,by simp,fun u hu v hv e=>?_⟩,fun x h=>?_⟩
   ·have hv':v=row[k]:=by simpa using hv
    obtain⟨i,i1,i2,i3⟩:=h2 u hu
    refine i3 ?_
    rw[e,hv']
    have:row[k]? =(row.drop (i+1))[k - (i+1)]?:=by rw[List.getElem?_drop];congr 1;omega
    exact mem_of_getElem? (this.symm.trans hx)
   ·rcases mem_append.mp h with h|h
    ·obtain⟨i,i1,i2,i3⟩:=h2 x h
     exact⟨i,by omega,i2,i3⟩
    ·have:x=row[k]:=by simpa using h
     exact⟨k,by omega,by rw[this];exact hx,by rw[this];exact g.2⟩
  ·refine⟨by rw[append_nil];exact h1,fun x h=>?_⟩
   rw[append_nil]at h
   obtain⟨i,i1,i2,i3⟩:=h2 x h
   exact⟨i,by omega,i2,i3⟩
theorem AV (l:Let):(el l).Nodup:=(wZ _ (le_refl _)).1
end
section
open PySem L2 Mr
theorem aaR (t:i0):nD 3 (tP t)=true:=rfl
theorem Z5 (l k:i0):(oO 3 (tP l) (tP k)).isSome=true:=by
 show(dW (oO 2) [PV.int l.day,PV.str l.name,PV.int l.at'] [PV.int k.day,PV.str k.name,PV.int k.at']).isSome=true
 unfold dW
 split
 ·unfold dW
  split
  ·unfold dW
   split
   ·rfl
   ·rfl
  ·rfl
 ·rfl
theorem FK (ls:List i0):c9 3 (ls.map tP)=true:=all_eq_true.mpr fun p hp=>by
 obtain⟨l,_,rfl⟩:=mem_map.mp hp
 rw[and_eq_true]
 refine⟨aaR l,all_eq_true.mpr fun q hq=>?_⟩
 obtain⟨k,_,rfl⟩:=mem_map.mp hq
 exact Z5 l k
noncomputable abbrev srt (ts:List i0):List PV:=rA 3 (ts.map tP)
theorem OB (hr:∀l∈qs,l.row.length<=9) (hl:qs.length<=100) (i:Nat):(((st qs).take i).flatMap AU).length<=900:=by
 have:=FR (f:=AU) (k:=9) (xs:=(st qs).take i) fun l h=>by
  have:=hr l (oD (mem_of_mem_take h))
  have:=OD l
  have:=PR l
  omega
 rw[length_take]at this
 have:=uM qs
 omega
theorem yK (hr:∀l∈qs,l.row.length<=9) (hl:qs.length<=100) (q:Q (.a8 ((GC (iY qs)).map fun kp=>(kp.1,PV.lst kp.2)),[])):Wp (g9 [.tup (qs.map lP)]) Q:=by
 unfold g9 mD
 walk_at "wp"
 refine jA hl ?_
 walk_at "wp"
 refine BS (fun i e d=>d=GC (((st qs).take i).flatMap AU)/\∃v2 v3 v4,e=[some (Sl.val (PV.tup (qs.map lP))),none,v2,v3,v4]) ?_ ?_ ⟨rfl,_,_,_,rfl⟩
 ·rintro i p e d hx ⟨rfl,v2,v3,v4,rfl⟩
  rw[getElem?_map]at hx
  obtain⟨l,hk,rfl⟩:=map_eq_some_iff.mp hx
  have hrow:=hr l (oD (mem_of_getElem? hk))
  have b1:=OB hr hl i
  walk_at "wp"
  refine pT (l:=l) hrow ?_
  walk_at "wp"
  refine BS (fun j e d=>d=GC (((st qs).take i).flatMap AU++m7 l j)/\∃v3 v4,e=[some (Sl.val (PV.tup (qs.map lP))),none,some (Sl.val (lP l)),v3,v4]) ?_ ?_ ⟨by rw[show m7 l 0=[]from rfl,append_nil],_,_,rfl⟩
  ·rintro j p e d hx ⟨rfl,v3,v4,rfl⟩
   rw[getElem?_map,getElem?_zipIdx,getElem?_map]at hx
   cases hn:(el l)[j]? with
   |none=>rw[hn]at hx;cases hx
   | some n=>
    rw[hn]at hx
    cases hx
    have hs:=wJ hn
    have b2:=CJ l j
    have b3:=OD l
    have g:=SD (((st qs).take i).flatMap AU++m7 l j)
    rw[length_append]at g
    rw[show lP l=PV.tup [PV.str l.name,PV.int l.day,PV.str l.head,PV.tup (l.row.map PV.str)]from rfl]
    walk_at "wp"
    rw[hs,zero_add]
    refine⟨fun hj=>?_,fun hj=>?_⟩
    ·have hj':0<j:=by omega
     refine⟨⟨by omega,all_eq_true.mpr fun kp hkp=>decide_eq_true (by have:=g.2 kp hkp;omega)⟩,?_,_,_,rfl⟩
     rw[if_pos hj',<-append_assoc,NU];rfl
    ·have hj':¬0<j:=by omega
     refine⟨?_,_,_,rfl⟩
     rw[if_neg hj',append_nil]
  ·rintro e d ⟨rfl,v3,v4,rfl⟩
   walk_at "wp"
   rw[length_zipIdx,length_map,tX,uI hk]
   exact⟨rfl,_,_,_,rfl⟩
 ·rintro e d ⟨rfl,v2,v3,v4,rfl⟩
  rw[length_map,take_length]
  walk_at "wp"
  exact q
end
section
open PySem L2 Mr
theorem mC {ks:List Str}:y∈gU ks x↔y∈ks\/ y=x:=by
 unfold gU
 split
 ·rename_i h
  exact⟨.inl,fun z=>z.elim id fun e=>by rw[e];exact h⟩
 ·rw[mem_append,mem_singleton]
theorem oJ {xs:List Str}:y∈bV xs↔y∈xs:=by
 have key:∀(l k:List Str),y∈l.foldl gU k↔y∈k\/ y∈l:=by
  intro l
  induction l with
  |nil=>intro k;simp
  |cons x l ih=>
   intro k
   rw[foldl_cons,ih,mC,mem_cons,or_assoc]
 have:=key xs []
 simpa [bV]using this
theorem p4 (xs:List Str):(bV xs).Nodup:=by
 have key:∀(l k:List Str),k.Nodup->(l.foldl gU k).Nodup:=by
  intro l
  induction l with
  |nil=>intro k h;exact h
  | cons x l ih=>
   intro k h
   rw[foldl_cons]
   refine ih _ ?_
   unfold gU
   split
   ·exact h
   ·rename_i hx
    refine nodup_append.mpr ⟨h,by simp,fun u hu v hv e=>?_⟩
    have:v=x:=by simpa using hv
    rw[e,this]at hu
    exact hx hu
 exact key xs [] nodup_nil
theorem LS (qs:List Let):(st qs).map (·.name)=bV (qs.map (·.name)):=by
 have key:∀(xs k:List Let),(xs.foldl lJ k).map (·.name)=(xs.map (·.name)).foldl gU (k.map (·.name)):=by
  intro xs
  induction xs with
  |nil=>intro k;rfl
  | cons x xs ih=>
   intro k
   rw[foldl_cons,ih,map_cons,foldl_cons]
   congr 1
   unfold lJ gU
   by_cases h:x.name∈k.map (·.name)
   ·have:(k.any fun y=>decide (y.name=x.name))=true:=by
     obtain⟨y,hy,e⟩:=mem_map.mp h
     exact any_eq_true.mpr ⟨y,hy,decide_eq_true e⟩
    rw[if_pos this,if_pos h]
   ·have:¬(k.any fun y=>decide (y.name=x.name))=true:=fun z=>by
     obtain⟨y,hy,e⟩:=any_eq_true.mp z
     exact h (mem_map.mpr ⟨y,hy,of_decide_eq_true e⟩)
    rw[if_neg this,if_neg h,map_append];rfl
 exact key qs []
theorem FY (qs:List Let):((st qs).map (·.name)).Nodup:=by rw[LS];exact p4 _
noncomputable def GX (ls:List Let):List (Key×PV):=ls.map fun l=>(Sum.inr l.name,PV.tup ((el l).map PV.str))
theorem O7 {l:Let} (h:l.name∉ls.map (·.name)):eR (GX ls) (Sum.inr l.name) (PV.tup ((el l).map PV.str))=GX (ls++[l]):=by
 unfold eR
 have e:((GX ls).any fun kv=>decide (kv.1=Sum.inr l.name))=false:=by
  unfold GX
  rw[any_map,any_eq_false]
  intro k hk
  have:k.name≠l.name:=fun z=>h (mem_map.mpr ⟨k,hk,z⟩)
  simp[this]
 rw[e,if_neg Bool.false_ne_true]
 unfold GX
 rw[map_append];rfl
theorem y4 (ls:List Let) (x:Str):cG (GX ls) (Sum.inr x)=(ls.find? fun l=>decide (l.name=x)).map fun l=>PV.tup ((el l).map PV.str):=by
 unfold cG GX
 induction ls with
 |nil=>rfl
 | cons l ls ih=>
  rw[map_cons,find?_cons,find?_cons]
  by_cases h:l.name=x
  ·subst h;simp
  ·have h':¬(Sum.inr l.name:Key)=Sum.inr x:=fun z=>h (Sum.inr.inj z)
   rw[decide_eq_false h',decide_eq_false h]
   exact ih
theorem O6 (hr:∀l∈qs,l.row.length<=9) (hl:qs.length<=100) (q:Q (.a8 (GX (st qs)),[])):Wp (lA [.tup (qs.map lP)]) Q:=by
 unfold lA pZ
 walk_at "wp"
 refine jA hl ?_
 walk_at "wp"
 have sl:=uM qs
 refine⟨by omega,?_⟩
 refine kE (fun i d e=>d=GX ((st qs).take i)/\∃s,e=[s]) ?_ ?_ ⟨rfl,_,rfl⟩
 ·rintro i x e d hx ⟨rfl,s,rfl⟩
  rw[getElem?_map]at hx
  obtain⟨l,hk,rfl⟩:=map_eq_some_iff.mp hx
  have hrow:=hr l (oD (mem_of_getElem? hk))
  have ok:=pT (l:=l) (Q:=fun w=>w=(PV.tup ((el l).map PV.str),[])) hrow rfl
  rw[show lP l=PV.tup [PV.str l.name,PV.int l.day,PV.str l.head,PV.tup (l.row.map PV.str)]from rfl]at ok⊢
  walk_at "wp"
  refine ok.mono fun w hw=>?_
  subst hw
  walk_at "wp"
  refine⟨?_,_,rfl⟩
  have nd:=FY qs
  have hn:l.name∉((st qs).take i).map (·.name):=fun z=>by
   obtain⟨k,hk2,e⟩:=mem_map.mp z
   obtain⟨j,hj⟩:=List.mem_iff_getElem?.mp hk2
   rw[getElem?_take]at hj
   have hji:j<i:=Classical.byContradiction fun z=>by rw[if_neg z]at hj;cases hj
   rw[if_pos hji]at hj
   have e1:((st qs).map (·.name))[j]? =some l.name:=by rw[getElem?_map,hj];simp[e]
   have e2:((st qs).map (·.name))[i]? =some l.name:=by rw[getElem?_map,hk];rfl
   have hlt:j<((st qs).map (·.name)).length:=(List.getElem?_eq_some_iff.mp e1).1
   have:=(getElem?_inj hlt nd).mp (e1.trans e2.symm)
   omega
  rw[O7 hn,take_succ,hk];rfl
 ·rintro d e ⟨rfl,s,rfl⟩
  rw[length_map,take_length]
  walk_at "wp"
  exact q
end
section
open PySem L2 Mr
theorem CI {v:PV} (h:cG held (Sum.inr x)=some v) (q:Q (.tup [v,.tup [.str (Str.ofString "hand")]],[])):Wp (cQ [.a8 held,.a8 rows,.a8 claimed,.str x]) Q:=by
 unfold cQ jV
 walk_at "wp"
 rw[h]
 walk_at "wp"
 exact⟨fun _=>q,fun z=>(by cases z)⟩
noncomputable def UY (ps:List PV):PV:=match ps.getLast? with
 |some p=>.tup [p,.tup [.str (Str.ofString "own")]]
 |none=>.tup [.bA,.tup [.str (Str.ofString "first")]]
theorem EZ {ps:List PV} (h:ps.getLast? =some p):oN ps (-1)=some p:=by
 have hne:ps≠[]:=fun z=>by rw[z]at h;cases h
 have hl:0<ps.length:=length_pos_iff.mpr hne
 rw[List.getLast?_eq_getElem?]at h
 unfold oN
 have e:rY ps.length (-1)=some (ps.length - 1):=by
  unfold rY
  rw[if_neg (by decide),if_pos (by omega)]
  congr 1
  omega
 rw[e]
 exact h
theorem DF {ps:List PV} (h:cG held (Sum.inr x)=none) (hr:cG rows (Sum.inr x)=some (.tup ps)) (q:Q (UY ps,[])):Wp (cQ [.a8 held,.a8 rows,.a8 claimed,.str x]) Q:=by
 unfold cQ jV
 walk_at "wp"
 rw[h,hr]
 refine⟨fun z=>(by cases z),fun _=>⟨fun _=>?_,fun z=>(by cases z)⟩⟩
 walk_at "wp"
 cases e:ps.getLast? with
 |none=>
  have hn:ps=[]:=List.getLast?_eq_none_iff.mp e
  subst hn
  exact⟨fun z=>(by cases z),fun _=>q⟩
 |some p=>
  have hn:ps.isEmpty=false:=by cases ps with|nil=>cases e|cons a r=>rfl
  unfold UY at q
  rw[e]at q
  refine⟨fun _=>?_,fun z=>by rw[hn]at z;cases z⟩
  rw[EZ e]
  walk_at "wp"
  exact q
theorem AY {one:Str} {ts r:List PV} {e:PV} (h:cG held (Sum.inr x)=none) (hr:cG rows (Sum.inr x)=none) (hc:cG claimed (Sum.inr x)=some (.lst ts)) (h0:0<ts.length) (ok:c9 3 ts=true)
  (hm:yE ts= .tup [.int d,.str one,.int at']) (ho:cG rows (Sum.inr one)=some (.tup r)) (he:oN r (at' - 1)=some e) (q:Q (.tup [e,.tup [.str (Str.ofString "told"),.str one,.int at']],[])):Wp (cQ [.a8 held,.a8 rows,.a8 claimed,.str x]) Q:=by
 unfold cQ jV
 walk_at "wp"
 rw[h,hr,hc]
 refine⟨fun z=>(by cases z),fun _=>⟨fun z=>(by cases z),fun _=>⟨fun _=>?_,fun z=>(by cases z)⟩⟩⟩
 walk_at "wp"
 rw[hm]
 refine⟨⟨h0,ok⟩,?_⟩
 walk_at "wp"
 rw[ho]
 walk_at "wp"
 rw[he]
 walk_at "wp"
 exact q
end
section
open PySem L2 Mr
theorem EU (d:List (Key×PV)) (k k':Key) (v:PV):cG (eR d k v) k'=if k=k' then some v else cG d k':=by
 unfold eR
 cases c:d.any fun kv=>decide (kv.1=k)with
 | true=>
  rw[if_pos rfl]
  have key:∀d:List (Key×PV),(d.map fun kv=>if kv.1=k then(kv.1,v)else kv).find? (fun kp=>decide (kp.1=k'))=(d.find? fun kp=>decide (kp.1=k')).map fun kv=>if kv.1=k then(kv.1,v)else kv:=by
   intro d
   induction d with
   |nil=>rfl
   |cons z d ih=>
    have e1:(if z.1=k then(z.1,v)else z).1=z.1:=by split<;>rfl
    rw[map_cons,find?_cons,find?_cons,e1]
    cases decide (z.1=k')with
    |true=>rfl
    |false=>exact ih
  unfold cG
  rw[key]
  by_cases hk:k=k'
  ·subst hk
   rw[if_pos rfl]
   cases f:d.find? fun kp=>decide (kp.1=k)with
   |none=>
    have:=find?_eq_none.mp f
    obtain⟨z,hz,e⟩:=any_eq_true.mp c
    exact absurd e (by simpa using this z hz)
   |some z=>
    have hz:z.1=k:=by have:=find?_some f;simpa using this
    simp[hz]
  ·rw[if_neg hk]
   cases f:d.find? fun kp=>decide (kp.1=k')with
   |none=>rfl
   |some z=>
    have hz:z.1=k':=by have:=find?_some f;simpa using this
    have:¬z.1=k:=fun e=>hk (e.symm.trans hz)
    simp[this]
 | false=>
  rw[if_neg Bool.false_ne_true]
  unfold cG
  rw[find?_append]
  by_cases hk:k=k'
  ·subst hk
   rw[if_pos rfl]
   have f:(d.find? fun kp=>decide (kp.1=k))=none:=find?_eq_none.mpr fun z hz=>by
    have:=any_eq_false.mp c z hz
    simpa using this
   rw[f]
   simp
  ·rw[if_neg hk]
   have f:([(k,v)]:List (Key×PV)).find? (fun kp=>decide (kp.1=k'))=none:=by simp[hk]
   rw[f,or_none]
noncomputable def heldOf (ks:Hl):List (Key×PV):=ks.foldl (fun d z=>eR d (Sum.inr z.1) (oP z.2)) []
theorem yZ:∀(ks:Hl) (d:List (Key×PV)),(∀z∈ks,z.1≠x)->cG (ks.foldl (fun d z=>eR d (Sum.inr z.1) (oP z.2)) d) (Sum.inr x)=cG d (Sum.inr x)
 |[],d,_=>rfl
 |z::ks,d,h=>by
  rw[foldl_cons,yZ ks _ fun y hy=>h y (mem_cons_of_mem _ hy),EU,if_neg fun e=>h z mem_cons_self (Sum.inr.inj e)]
theorem G2 (h:∀z∈ks,z.1≠x):cG (heldOf ks) (Sum.inr x)=none:=yZ ks [] h
theorem FD:∀(ks:Hl) (d:List (Key×PV)),(∀z∈ks,z.1=x->z.2=o)->(x,o)∈ks->cG (ks.foldl (fun d z=>eR d (Sum.inr z.1) (oP z.2)) d) (Sum.inr x)=some (oP o)
 | z::ks,d,h,hm=>by
  rw[foldl_cons]
  by_cases hin:(x,o)∈ks
  ·exact FD ks _ (fun y hy=>h y (mem_cons_of_mem _ hy)) hin
  ·have hz:z=(x,o):=((mem_cons.mp hm).resolve_right hin).symm
   rw[yZ ks _ fun y hy e=>hin (by have:=h y (mem_cons_of_mem _ hy) e;rw[<-e,<-this];exact hy),EU,hz,if_pos rfl]
theorem HU (h:∀z∈ks,z.1=x->z.2=o) (hm:(x,o)∈ks):cG (heldOf ks) (Sum.inr x)=some (oP o):=FD ks [] h hm
end
section
open PySem L2 Mr
noncomputable def gM (ab:Hl) (x:Str):Option Str:=(ab.find? fun z=>decide (z.1=x)).bind (·.2)
theorem GB (ab:Hl) (x:Str):(cG (kM ab) (Sum.inr x)).getD .bA=oP (gM ab x):=by
 unfold cG kM gM
 induction ab with
 |nil=>rfl
 | cons z ab ih=>
  rw[map_cons,find?_cons,find?_cons]
  by_cases h:z.1=x
  ·have e1:decide ((Sum.inr z.1:Key)=Sum.inr x)=true:=decide_eq_true (by rw[h])
   have e2:decide (z.1=x)=true:=decide_eq_true h
   simp only[e1,e2]
   rfl
  ·have e1:decide ((Sum.inr z.1:Key)=Sum.inr x)=false:=decide_eq_false fun e=>h (Sum.inr.inj e)
   have e2:decide (z.1=x)=false:=decide_eq_false h
   simp only[e1,e2]
   exact ih
theorem JW (ab:Hl):((kM ab).map fun kv=>tU kv.1)=(ab.map (·.1)).map PV.str:=by
 unfold kM
 rw[map_map,map_map]
 rfl
theorem X3 (ab:Hl) (x:Str):(cG (kM ab) (Sum.inr x)).isSome=decide (x∈ab.map (·.1)):=by
 rcases xD ab x with⟨h1,h2⟩|⟨o,h1,h2⟩
 ·rw[h1,decide_eq_false h2];rfl
 ·rw[h1,decide_eq_true (mem_map.mpr ⟨_,h2,rfl⟩)];rfl
noncomputable abbrev rP (r:List Str):PV:=.lst (r.map PV.str)
noncomputable def fP (ab:Hl):List Str:=ab.map (·.1)++ab.filterMap (·.2)
theorem oM (ab:Hl):(fP ab).length<=2*ab.length:=by
 unfold fP
 rw[length_append,length_map]
 have:=List.length_filterMap_le (·.2:Str×Option Str->Option Str) ab
 omega
theorem XM {ab:Hl} {x:Str} (h:gM ab x=some y):y∈fP ab:=by
 unfold gM at h
 cases c:ab.find? fun z=>decide (z.1=x)with
 |none=>rw[c]at h;cases h
 |some z=>
  rw[c]at h
  exact mem_append_right _ (mem_filterMap.mpr ⟨z,mem_of_find?_eq_some c,h⟩)
structure Clm (ab:Hl) (ms:Hl) (start:Str) (l:List Str) (nm:Option Str):Prop where
 path:Rg.Path (gM ab) l nm
 nil:l=[]->nm=some start
 nd:(ms.map (·.1)++l).Nodup
 sub:∀x∈l,x∈fP ab
 nms:∀x,nm=some x->x∈fP ab
 st:l≠[]->start∈l
noncomputable def nR (ms:Hl) (start:Str) (l:List Str):Hl:=ms++l.map fun x=>(x,some start)
theorem fE (ms:Hl) (start:Str) (l:List Str):(nR ms start l).map (·.1)=ms.map (·.1)++l:=by
 unfold nR
 rw[map_append,map_map]
 congr 1
 exact map_id' _
noncomputable def zI:FS:=(lO (vA (bL (bF (JH true) (aC 5) (fC .bA))) (bL (bF (zJ true) (aC 5) (aC 1)))) (aT (eQ 1 (aC 5) (aC 3))
  (aT (vE 4 (aC 5))
  (bY 5 (zS (aC 0) (aC 5))))) 1000)
noncomputable def DL:FS:=(pW (vA (bL (bF (JH true) (aC 5) (fC .bA))) (bL (bF IT (bF dB (aC 1) (aC 5)) (aC 3)))) (vE 2 (KA KJ (aC 4) (l0 (oU (aC 4) (aC 5))) fR)) dA)
theorem D5:nM=(aT (eX 1 mK)
  (aT (eX 2 (gZ aK))
  (aT (iI (w4 (aC 0)) (aO 3) (aT (eX 4 (gZ aK))
  (aT (bY 5 (aC 3))
  (aT zI DL))))
  (cR (aC 2))))):=rfl
noncomputable abbrev tN (ab met:Hl) (F:List (List Str)) (start:Str) (l:List Str) (nm:Option Str):En:=
 [some (.bor (.a8 (kM ab))),some (.loc (.a8 (kM met))),some (.loc (.lst (F.map rP))),some (.val (.str start)),some (.loc (.lst (l.map PV.str))),some (.val (oP nm))]
noncomputable def Y4 (e:En):Nat:=match e[4]? with
 |some (some (Sl.loc (PV.lst ps)))=>ps.length
 |_=>0
theorem LB {ms:Hl} {start:Str} {Q:Out->Prop} (hl:ab.length<=400) (hm:ms.length<=2*ab.length) (hms:∀x∈ms.map (·.1),x∈fP ab) (hs:start∈fP ab) (hnd:(ms.map (·.1)).Nodup)
  (q:∀l nm,Clm ab ms start l nm->(∀x,nm=some x->x∈ms.map (·.1)++l)->Q (.nx (tN ab (nR ms start l) F start l nm))):
  Wp (zI (tN ab ms F start [] (some start))) Q:=by
 unfold zI
 have len:∀{l:List Str} {nm:Option Str},Clm ab ms start l nm->ms.length+l.length<=2*ab.length:=fun{l nm} c=>by
  have h1:=iL c.nd (m:=fP ab) fun x hx=>(mem_append.mp hx).elim (hms x) (c.sub x)
  rw[length_append,length_map]at h1
  have:=oM ab
  omega
 refine tG (fun e=>∃l nm,Clm ab ms start l nm/\e=tN ab (nR ms start l) F start l nm) (fun e=>2*ab.length+1 - Y4 e) ?_ ?_ ⟨[],some start,⟨trivial,fun _=>rfl,by rw[append_nil];exact hnd,(fun _ h=>nomatch h),(fun x e=>by cases e;exact hs),fun h=>absurd rfl h⟩,by unfold nR;rw[map_nil,append_nil]⟩
 ·rintro e ⟨l,nm,c,rfl⟩
  have hle:=len c
  cases nm with
  |none=>
   have eo:oP none=PV.bA:=rfl
   have:=q l none c (fun _ e=>nomatch e)
   unfold tN at this⊢
   rw[eo]at this⊢
   walk_at "wp"
   exact this
  | some x=>
   have eo:oP (some x)=PV.str x:=rfl
   unfold tN
   rw[eo]
   walk_at "wp"
   rw[X3,fE]
   by_cases hx:x∈ms.map (·.1)++l
   ·rw[decide_eq_true hx]
    exact q l (some x) c fun y e=>by cases e;exact hx
   ·rw[decide_eq_false hx]
    have hxl:x∉l:=fun h=>hx (mem_append_right _ h)
    have pt:eR (kM (nR ms start l)) (Sum.inr x) (PV.str start)=kM (nR ms start (l++[x])):=by
     have:=yD (hs:=nR ms start l) (x:=x) (o:=some start) (by rw[fE];exact hx)
     rw[show oP (some start)=PV.str start from rfl]at this
     rw[this]
     unfold nR
     rw[map_append,append_assoc]
     rfl
    have kl:(kM (nR ms start l)).length=ms.length+l.length:=by unfold kM nR;rw[length_map,length_append,length_map]
    refine⟨by rw[kl];omega,by omega,⟨l++[x],gM ab x,⟨c.path.snoc rfl,fun h=>absurd h (by simp),?_,?_,fun y e=>XM e,fun _=>?_⟩,?_⟩,?_⟩
    ·rw[<-append_assoc]
     refine nodup_append.mpr ⟨c.nd,by simp,fun u hu w hw e=>?_⟩
     rw[mem_singleton.mp hw]at e
     rw[e]at hu
     exact hx hu
    ·intro y hy
     rcases mem_append.mp hy with hy|hy
     ·exact c.sub y hy
     ·rw[mem_singleton.mp hy];exact c.nms x rfl
    ·by_cases h:l=[]
     ·have:=c.nil h
      cases this
      simp
     ·exact mem_append_left _ (c.st h)
    ·rw[pt,GB,map_append]
     rfl
    ·show 2*ab.length+1 - (l.map PV.str++[PV.str x]).length<2*ab.length+1 - (l.map PV.str).length
     rw[length_append,length_map]
     simp only[length_cons,length_nil]
     omega
 ·show 2*ab.length+1 - 0<1000
  omega
theorem OT {ms:Hl} {start:Str} {l:List Str} {nm:Option Str} {Q:Out->Prop} (c:Clm ab ms start l nm) (hn:∀x,nm=some x->x∈ms.map (·.1)++l) (hst:∀z∈ms,z.2≠some start) (hsm:∀z∈ms,∃y,z.2=some y)
  (hl:l.length<1000) (hF:F.length<1000) (f:Rg.Found (gM ab) (ms.map (·.1)) F) (q:∀G,Rg.Found (gM ab) (ms.map (·.1)++l) G->G.length<=F.length+1->Q (.nx (tN ab (nR ms start l) G start l nm))):
  Wp (DL (tN ab (nR ms start l) F start l nm)) Q:=by
 unfold DL
 have dj:∀x∈l,x∉ms.map (·.1):=fun x hx h=>(nodup_append.mp c.nd).2.2 x h x hx rfl
 cases nm with
 |none=>
  have:=q F (f.out c.path dj fun y e=>nomatch e) (by omega)
  have eo:oP none=PV.bA:=rfl
  unfold tN at this⊢
  rw[eo]at this⊢
  walk_at "wp"
  exact this
 | some x=>
  have eo:oP (some x)=PV.str x:=rfl
  have hx:=hn x rfl
  unfold tN
  rw[eo]
  walk_at "wp"
  rcases xD (nR ms start l) x with⟨_,h2⟩|⟨o,h1,h2⟩
  ·rw[fE]at h2
   exact absurd hx h2
  ·rw[h1]
   rcases mem_append.mp h2 with h2|h2
   ·obtain⟨y,hy⟩:=hsm _ h2
    have hy:o=some y:=hy
    have hne:y≠start:=fun e=>hst _ h2 (by rw[<-e];exact hy)
    have:=q F (f.out c.path dj fun w e=>by cases e;exact mem_map.mpr ⟨_,h2,rfl⟩) (by omega)
    unfold tN at this
    rw[eo]at this
    subst hy
    rw[show oP (some y)=PV.str y from rfl]
    walk_at "wp"
    refine⟨fun h=>absurd (eq_of_beq h) hne,fun _=>this⟩
   ·obtain⟨w,hw,ew⟩:=mem_map.mp h2
    cases ew
    rw[show oP (some start)=PV.str start from rfl]
    walk_at "wp"
    rw[p8]
    walk_at "wp"
    refine⟨⟨hw,by omega⟩,by omega,?_⟩
    have hi:l.idxOf x<l.length:=List.idxOf_lt_length_iff.mpr hw
    have hh:(l.drop (l.idxOf x)).head? =some x:=by
     rw[List.head?_drop,getElem?_eq_getElem hi,List.getElem_idxOf]
    have hf:=f.aaW (p:=l.take (l.idxOf x)) (r:=l.drop (l.idxOf x)) (fun e=>by rw[e]at hh;cases hh) (by rw[hh,take_append_drop];exact c.path) (by rw[take_append_drop];exact(nodup_append.mp c.nd).2.1) (by rw[take_append_drop];exact dj)
    rw[take_append_drop]at hf
    have:=q _ hf (by rw[length_append];exact le_refl _)
    unfold tN at this
    rw[eo,map_append]at this
    rw[lU,<-map_drop]
    exact this
theorem BM (hl:ab.length<=400) (hk:(ab.map (·.1)).Nodup) (q:∀(S:List Str) (F:List (List Str)),Rg.Found (gM ab) S F->(∀x∈ab.map (·.1),x∈S)->(∀x∈S,x∈fP ab)->Q (.lst (F.map rP),[])):Wp (i5 [.a8 (kM ab)]) Q:=by
 unfold i5
 rw[D5]
 walk_at "wp"
 rw[JW]
 refine cM (fun i e=>∃(ms:Hl) (F:List (List Str)) (v3 v4 v5:Option Sl),e=[some (.bor (.a8 (kM ab))),some (.loc (.a8 (kM ms))),some (.loc (.lst (F.map rP))),v3,v4,v5]/\Rg.Found (gM ab) (ms.map (·.1)) F/\F.length<=i/\(ms.map (·.1)).Nodup/\
  (∀x∈ms.map (·.1),x∈fP ab)/\(∀z∈ms,∃(j:Nat) (y:Str),j<i/\z.2=some y/\(ab.map (·.1))[j]? =some y)/\∀(j:Nat) (x:Str),j<i->(ab.map (·.1))[j]? =some x->x∈ms.map (·.1)) ?_ ?_ ⟨[],[],none,none,none,rfl,Rg.Found.nil,le_refl _,nodup_nil,(fun _ h=>nomatch h),(fun _ h=>nomatch h),fun j _ h=>absurd h (Nat.not_lt_zero _)⟩
 ·rintro i p e hp ⟨ms,F,v3,v4,v5,rfl,hf,hF,hnd,hsub,hst,hdone⟩
  rw[getElem?_map]at hp
  obtain⟨start,hs,rfl⟩:=map_eq_some_iff.mp hp
  have hil:i<ab.length:=by have:=(List.getElem?_eq_some_iff.mp hs).1;rwa[length_map]at this
  have hsA:start∈fP ab:=mem_append_left _ (mem_of_getElem? hs)
  have hml:ms.length<=2*ab.length:=by
   have h1:=iL hnd (m:=fP ab) hsub
   rw[length_map]at h1
   have:=oM ab
   omega
  walk_at "wp"
  refine LB (F:=F) hl hml hsub hsA hnd fun l nm c hn=>?_
  have hll:l.length<=2*ab.length:=by
   have h1:=iL (nodup_append.mp c.nd).2.1 (m:=fP ab) c.sub
   have:=oM ab
   omega
  refine OT c hn (fun z hz e=>?_) (fun z hz=>let⟨_,y,_,h,_⟩:=hst z hz;⟨y,h⟩) (by omega) (by omega) hf fun G hG hGl=>?_
  ·obtain⟨j,y,hj,h1,h2⟩:=hst z hz
   rw[e]at h1
   cases h1
   have e1:=(getElem?_inj (by rw[length_map];omega) hk).mp (h2.trans hs.symm)
   omega
  ·refine⟨nR ms start l,G,_,_,_,rfl,by rw[fE];exact hG,by omega,by rw[fE];exact c.nd,fun x hx=>?_,fun z hz=>?_,fun j x hj hx=>?_⟩
   ·rw[fE]at hx
    exact(mem_append.mp hx).elim (hsub x) (c.sub x)
   ·rcases mem_append.mp hz with hz|hz
    ·obtain⟨j,y,h1,h2⟩:=hst z hz
     exact⟨j,y,by omega,h2⟩
    ·obtain⟨w,_,rfl⟩:=mem_map.mp hz
     exact⟨i,start,by omega,rfl,hs⟩
   ·rw[fE]
    by_cases hj':j=i
    ·subst hj'
     rw[hs]at hx
     cases hx
     by_cases h:l=[]
     ·have h1:=hn start (by rw[c.nil h])
      exact h1
     ·exact mem_append_right _ (c.st h)
    ·exact mem_append_left _ (hdone j x (by omega) hx)
 ·rintro e ⟨ms,F,v3,v4,v5,rfl,hf,hF,hnd,hsub,hst,hdone⟩
  walk_at "wp"
  refine q _ F hf (fun x hx=>?_) hsub
  obtain⟨j,hj⟩:=getElem?_of_mem hx
  have:=(List.getElem?_eq_some_iff.mp hj).1
  exact hdone j x (by rw[length_map];exact this) hj
end
section
open PySem L2 Mr
noncomputable abbrev TQ (qs:List Let):List (Key×PV):=(GC (iY qs)).map fun kp=>(kp.1,PV.lst kp.2)
noncomputable def fU (f:Str->PV) (ns:List Str):List (Key×PV):=ns.map fun x=>(Sum.inr x,f x)
theorem sC (h:x∉ns):eR (fU f ns) (Sum.inr x) (f x)=fU f (ns++[x]):=by
 unfold eR
 have e:((fU f ns).any fun kv=>decide (kv.1=Sum.inr x))=false:=by
  unfold fU
  rw[any_map,any_eq_false]
  intro z hz
  simp only[Function.comp,decide_eq_true_eq]
  intro e
  rw[Sum.inr.inj e]at hz
  exact h hz
 rw[if_neg (by rw[e];exact Bool.false_ne_true)]
 unfold fU
 rw[map_append]
 rfl
theorem tS (hr:∀l∈qs,l.row.length<=9) (hl:qs.length<=100) (hk:ks.length<=100) (hn:ns.Nodup) (hnl:ns.length<=200)
  (hc:∀x∈ns,∀R:PV×List PV->Prop,R (f x,[])->Wp (cQ [.a8 (heldOf ks),.a8 (GX (st qs)),.a8 (TQ qs),.str x]) R) (q:Q (.a8 (fU f ns),[])):Wp (iK [.tup (qs.map lP),.tup (mP ks),.tup (ns.map PV.str)]) Q:=by
 unfold iK pV
 walk_at "wp"
 refine⟨by unfold mP;rw[length_map];omega,?_⟩
 refine kE (fun i d e=>d=heldOf (ks.take i)/\∃s t,e=[s,t]) ?_ ?_ ⟨rfl,_,_,rfl⟩
 ·rintro i p e d hx ⟨rfl,s,t,rfl⟩
  unfold mP at hx
  rw[getElem?_map]at hx
  obtain⟨z,hz,rfl⟩:=map_eq_some_iff.mp hx
  walk_at "wp"
  refine⟨?_,_,_,rfl⟩
  unfold heldOf
  rw[take_succ,hz,toList_some,foldl_append];rfl
 ·rintro d e ⟨rfl,s,t,rfl⟩
  rw[show(mP ks).length=ks.length by unfold mP;rw[length_map],take_length]
  walk_at "wp"
  refine O6 hr hl ?_
  walk_at "wp"
  refine yK hr hl ?_
  walk_at "wp"
  refine⟨by omega,?_⟩
  refine kE (fun i d e=>d=fU f (ns.take i)/\∃s,e=[s,some (Sl.val (.a8 (heldOf ks))),some (Sl.val (.a8 (GX (st qs)))),some (Sl.val (.a8 (TQ qs)))]) ?_ ?_ ⟨rfl,_,rfl⟩
  ·rintro i p e d hx ⟨rfl,s,rfl⟩
   rw[getElem?_map]at hx
   obtain⟨x,hxe,rfl⟩:=map_eq_some_iff.mp hx
   have hi:=(List.getElem?_eq_some_iff.mp hxe).1
   have nx:x∉ns.take i:=fun h=>by
    obtain⟨j,hj⟩:=getElem?_of_mem h
    rw[getElem?_take]at hj
    split at hj
    ·have:=(getElem?_inj (by omega) hn).mp (hj.trans hxe.symm)
     omega
    ·cases hj
   walk_at "wp"
   refine hc x (mem_of_getElem? hxe) _ ?_
   walk_at "wp"
   exact⟨by rw[sC nx,take_add_one,hxe];rfl,_,rfl⟩
  ·rintro d e ⟨rfl,s,rfl⟩
   rw[length_map,take_length]
   walk_at "wp"
   exact q
end
section
open PySem L2 Mr
structure Ch where
 e:Option Str
 r:PV
noncomputable def C2 (ts:List i0):Option i0:=ts[argBest (rO (ts.map tP)) (ts.length - 1)]?
noncomputable def rT (qs:List Let) (t:i0):Option Str:=((st qs).find? fun l=>decide (l.name=t.name)).bind fun l=>(el l)[(t.at' - 1).toNat]?
noncomputable abbrev z3:PV:=.tup [.str (Str.ofString "hand")]
noncomputable abbrev Q2:PV:=.tup [.str (Str.ofString "own")]
noncomputable abbrev pX:PV:=.tup [.str (Str.ofString "first")]
noncomputable def uV (qs:List Let) (ks:Hl) (x:Str):Ch:=match ks.find? fun z=>decide (z.1=x)with
 |some z=>⟨z.2,z3⟩
 | none=>match(st qs).find? fun l=>decide (l.name=x)with
  |some l=>(match(el l).getLast? with
   |some y=>⟨some y,Q2⟩
   |none=>⟨none,pX⟩)
  |none=>match C2 (lY x (iY qs))with
   |some t=>⟨rT qs t,.tup [.str (Str.ofString "told"),.str t.name,.int t.at']⟩
   |none=>⟨none,pX⟩
noncomputable def uW (qs:List Let) (ks:Hl) (x:Str):PV:=.tup [oP (uV qs ks x).e,(uV qs ks x).r]
theorem xG {l:Let} (h:t∈AU l):t.name=l.name/\t.day=l.day/\∃i:Nat,t.at'=(i:Int)/\0<i/\(el l)[i]? =some t.key:=by
 unfold AU at h
 obtain⟨z,hz,e⟩:=mem_filterMap.mp h
 unfold trF at e
 split at e
 ·rename_i h0
  cases e
  obtain⟨i,hi⟩:=getElem?_of_mem hz
  rw[getElem?_zipIdx]at hi
  cases c:(el l)[i]? with
  |none=>rw[c]at hi;cases hi
  |some y=>
   rw[c]at hi
   cases hi
   exact⟨rfl,rfl,0+i,rfl,h0,by rw[zero_add];exact c⟩
 ·cases e
theorem p7 (h:t∈lY x (iY qs)):t.key=x/\∃l∈st qs,t∈AU l:=by
 unfold lY at h
 obtain⟨h1,h2⟩:=mem_filter.mp h
 unfold iY at h1
 obtain⟨l,hl,ht⟩:=mem_flatMap.mp h1
 exact⟨of_decide_eq_true h2,l,hl,ht⟩
theorem mU {l:Let} (h:l∈st qs):(st qs).find? (fun k=>decide (k.name=l.name))=some l:=by
 have nd:=FY qs
 revert h nd
 generalize st qs=ls
 intro h nd
 induction ls with
 |nil=>cases h
 | cons k ls ih=>
  rw[map_cons,nodup_cons]at nd
  rw[find?_cons]
  rcases mem_cons.mp h with rfl|h
  ·rw[decide_eq_true rfl]
  ·have hne:k.name≠l.name:=fun e=>nd.1 (mem_map.mpr ⟨l,h,e.symm⟩)
   rw[decide_eq_false hne]
   exact ih h nd.2
theorem vU (h:ts≠[]):∃t∈ts,C2 ts=some t/\yE (ts.map tP)=tP t:=by
 have h0:0<ts.length:=length_pos_iff.mpr h
 have hlt:argBest (rO (ts.map tP)) (ts.length - 1)<ts.length:=by have:=kR (rO (ts.map tP)) (ts.length - 1);omega
 refine⟨ts[argBest (rO (ts.map tP)) (ts.length - 1)],getElem_mem hlt,getElem?_eq_getElem hlt,?_⟩
 unfold yE
 rw[length_map,getD_eq_getElem?_getD,getElem?_map,getElem?_eq_getElem hlt]
 rfl
theorem WV (ts:List i0):∀kp∈GC ts,kp.2≠[]:=by
 have key:∀(ts:List i0) (d:DD),(∀kp∈d,kp.2≠[])->∀kp∈ts.foldl (fun d t=>mY d (Sum.inr t.key) (tP t)) d,kp.2≠[]:=by
  intro ts
  induction ts with
  |nil=>intro d h;exact h
  | cons t ts ih=>
   intro d h
   rw[foldl_cons]
   refine ih _ fun kp hkp=>?_
   unfold mY at hkp
   split at hkp
   ·obtain⟨k,hk,rfl⟩:=mem_map.mp hkp
    split
    ·simp
    ·exact h k hk
   ·rcases mem_append.mp hkp with h1|h1
    ·exact h kp h1
    ·rw[mem_singleton.mp h1];simp
 exact key ts [] (fun _ h=>nomatch h)
theorem Q0 {qs:List Let} {x:Str} (h:lY x (iY qs)≠[]):cG (TQ qs) (Sum.inr x)=some (.lst ((lY x (iY qs)).map tP)):=by
 have v:=JQ (GC (iY qs)) (Sum.inr x)
 rw[NB]at v
 cases c:cG (TQ qs) (Sum.inr x)with
 |none=>
  rw[c]at v
  have e:=PV.lst.inj v
  exact absurd (List.eq_nil_of_map_eq_nil e.symm) h
 |some p=>rw[c]at v;exact congrArg some v
theorem QV {qs:List Let} {x:Str} (h:lY x (iY qs)=[]):cG (TQ qs) (Sum.inr x)=none:=by
 have v:=JQ (GC (iY qs)) (Sum.inr x)
 rw[NB,h]at v
 cases c:cG (TQ qs) (Sum.inr x)with
 |none=>rfl
 |some p=>
  rw[c]at v
  have e:p= .lst []:=v
  unfold cG TQ at c
  obtain⟨kv,h1,h2⟩:=map_eq_some_iff.mp c
  have h3:=mem_of_find?_eq_some h1
  obtain⟨kp,h4,rfl⟩:=mem_map.mp h3
  rw[e]at h2
  exact absurd (PV.lst.inj h2) (WV _ kp h4)
theorem yI (h:cG held (Sum.inr x)=none) (hr:cG rows (Sum.inr x)=none) (hc:cG claimed (Sum.inr x)=none) (q:Q (.tup [.bA,pX],[])):Wp (cQ [.a8 held,.a8 rows,.a8 claimed,.str x]) Q:=by
 unfold cQ jV
 walk_at "wp"
 rw[h,hr,hc]
 refine⟨fun z=>(by cases z),fun _=>⟨fun z=>(by cases z),fun _=>⟨fun z=>(by cases z),fun _=>?_⟩⟩⟩
 exact q
theorem sZ {qs:List Let} {ks:Hl} {x:Str} {R:PV×List PV->Prop} (hk:(ks.map (·.1)).Nodup) (r:R (uW qs ks x,[])):Wp (cQ [.a8 (heldOf ks),.a8 (GX (st qs)),.a8 (TQ qs),.str x]) R:=by
 unfold uW uV at r
 cases e1:ks.find? fun z=>decide (z.1=x)with
 | some z=>
  rw[e1]at r
  have hz:=mem_of_find?_eq_some e1
  have hzx:z.1=x:=of_decide_eq_true (by have:=find?_some e1;exact this)
  refine CI (HU (o:=z.2) (fun w hw ew=>?_) (by rw[<-hzx];exact hz)) r
  have key:∀(l:Hl),(l.map (·.1)).Nodup->∀a∈l,∀b∈l,a.1=b.1->a=b:=by
   intro l
   induction l with
   |nil=>intro _ a ha;cases ha
   | cons c l ih=>
    intro hn a ha b hb hab
    rw[map_cons,nodup_cons]at hn
    rcases mem_cons.mp ha with rfl|ha
    ·rcases mem_cons.mp hb with rfl|hb
     ·rfl
     ·exact absurd (mem_map.mpr ⟨b,hb,hab.symm⟩) hn.1
    ·rcases mem_cons.mp hb with e|hb
     ·exact absurd (mem_map.mpr ⟨a,ha,by rw[hab,e]⟩) hn.1
     ·exact ih hn.2 a ha b hb hab
  rw[key ks hk w hw z hz (ew.trans hzx.symm)]
 | none=>
  rw[e1]at r
  have hnone:∀z∈ks,z.1≠x:=fun z hz e=>by
   have:=find?_eq_none.mp e1 z hz
   exact this (decide_eq_true e)
  have hh:=G2 hnone
  cases e2:(st qs).find? fun l=>decide (l.name=x)with
  |some l=>
   rw[e2]at r
   refine DF (ps:=(el l).map PV.str) hh (by rw[y4,e2];rfl) ?_
   unfold UY
   rw[List.getLast?_map]
   dsimp only at r
   cases e3:(el l).getLast? with
   |none=>rw[e3]at r;exact r
   |some y=>rw[e3]at r;exact r
  | none=>
   rw[e2]at r
   have hrow:cG (GX (st qs)) (Sum.inr x)=none:=by rw[y4,e2];rfl
   by_cases hf:lY x (iY qs)=[]
   ·refine yI hh hrow (QV hf) ?_
    rw[hf]at r
    exact r
   ·obtain⟨t,ht,em,emP⟩:=vU hf
    rw[em]at r
    obtain⟨hkey,l,hl,htl⟩:=p7 ht
    obtain⟨hn1,_,i,hi,hi0,hel⟩:=xG htl
    have hil:i<(el l).length:=(List.getElem?_eq_some_iff.mp hel).1
    have hfind:(st qs).find? (fun k=>decide (k.name=t.name))=some l:=by rw[hn1];exact mU hl
    have hat:(t.at' - 1).toNat=i - 1:=by rw[hi];omega
    have hpre:(el l)[i - 1]? =some (el l)[i - 1]:=getElem?_eq_getElem (by omega)
    have hE:rT qs t=some (el l)[i - 1]:=by unfold rT;rw[hfind,hat];exact hpre
    dsimp only at r
    rw[hE]at r
    refine AY (one:=t.name) (at':=t.at') (d:=t.day) (r:=(el l).map PV.str) (e:=.str (el l)[i - 1]) hh hrow (Q0 hf) (by rw[length_map];exact length_pos_iff.mpr hf) (FK _) emP (by rw[y4,hfind];rfl) ?_ r
    rw[hi,show((i:Int) - 1)=((i - 1:Nat):Int) by omega]
    refine gX ?_
    rw[getElem?_map,hpre]
    rfl
end
section
open PySem L2 Mr
theorem jW {xs:List Str} (h:∀x∈xs,x∈ss):(bV xs).length<=ss.length:=iL (p4 xs) fun x hx=>h x (oJ.mp hx)
noncomputable def kT (ks:List Str):List (Key×PV):=ks.map fun x=>(Sum.inr x,PV.bl true)
theorem tL (ks:List Str):(kT ks).length=ks.length:=by unfold kT;rw[length_map]
theorem qJ (ks:List Str) (x:Str):eR (kT ks) (Sum.inr x) (.bl true)=kT (gU ks x):=by
 unfold eR gU
 by_cases h:x∈ks
 ·have e:((kT ks).any fun kv=>decide (kv.1=Sum.inr x))=true:=by
   unfold kT
   rw[any_map,any_eq_true]
   exact⟨x,h,by simp⟩
  rw[e,if_pos rfl,if_pos h]
  unfold kT
  rw[map_map]
  refine map_congr_left fun y hy=>?_
  simp only[Function.comp_apply]
  split<;>rfl
 ·have e:((kT ks).any fun kv=>decide (kv.1=Sum.inr x))=false:=by
   unfold kT
   rw[any_map,any_eq_false]
   intro y hy
   have:y≠x:=fun e=>h (e▸hy)
   simp[this]
  rw[e,if_neg Bool.false_ne_true,if_neg h]
  unfold kT
  rw[map_append];rfl
theorem AN:∀ks:List Str,pM (kT ks)=some ks
 |[]=>rfl
 |x::ks=>by
  show bO (pM (kT ks)) (fun ss=>some (x::ss))=_
  rw[AN ks];rfl
noncomputable def rX (l:Let):List Str:=l.name::el l
noncomputable def pQ (z:Str×Option Str):List Str:=z.1::z.2.toList
theorem yG {f:α->List Str} {xs:List α} {x:α} (h:xs[i]? =some x):(xs.take (i+1)).flatMap f=(xs.take i).flatMap f++f x:=by
 rw[take_succ,h,toList_some,List.flatMap_append]
 simp
theorem QJ {own:Str} {row:List Str} {k:Nat} (h:x∈FW own row k):x∈row:=by
 unfold FW at h
 obtain⟨i,_,hi⟩:=mem_filterMap.mp h
 cases c:row[i]? with
 |none=>rw[c]at hi;cases hi
 |some y=>
  rw[c,bind_some]at hi
  split at hi
  ·cases hi;exact mem_of_getElem? c
  ·cases hi
noncomputable def Good (ss:List Str) (qs:List Let) (hs:Hl):Prop:=(∀l∈qs,l.row.length<=9/\l.name∈ss/\∀x∈l.row,x∈ss)/\∀z∈hs,z.1∈ss/\∀y,z.2=some y->y∈ss
theorem mH (g:Good ss qs hs) {l:Let} (h:l∈st qs):∀x∈rX l,x∈ss:=fun x hx=>by
 obtain⟨_,h2,h3⟩:=g.1 l (oD h)
 rcases mem_cons.mp hx with rfl|hx
 ·exact h2
 ·exact h3 x (QJ hx)
theorem x4 (g:Good ss qs hs) {z:Str×Option Str} (h:z∈hs):∀x∈pQ z,x∈ss:=fun x hx=>by
  obtain⟨h2,h3⟩:=g.2 z h
  rcases mem_cons.mp hx with rfl|hx
  ·exact h2
  · cases e:z.2 with
    |none=>rw[e]at hx;cases hx
    | some y => rw[e]at hx;have:x=y:=by simpa using hx
                rw[this];exact h3 y e
noncomputable def j6 (qs:List Let) (hs:Hl):List Str:=(st qs).flatMap rX++hs.flatMap pQ
theorem vN (g:Good ss qs hs) (hl:qs.length<=100) (h60:ss.length<=62) (q:Q (.tup ((cL (bV (j6 qs hs))).map PV.str),[])):Wp (kA [.tup (qs.map lP),.tup (mP hs)]) Q:=by
 unfold kA uC
 walk_at "wp"
 refine jA hl ?_
 walk_at "wp"
 refine cM (fun i e=>∃v3 v4 v5,e=[some (Sl.val (PV.tup (qs.map lP))),some (Sl.val (PV.tup (mP hs))),some (Sl.loc (PV.a8 (kT (bV (((st qs).take i).flatMap rX))))),v3,v4,v5]) ?_ ?_ ⟨_,_,_,rfl⟩
 ·rintro i p e hx ⟨v3,v4,v5,rfl⟩
  rw[getElem?_map]at hx
  obtain⟨l,hk,rfl⟩:=map_eq_some_iff.mp hx
  have hm:=mem_of_getElem? hk
  have hrow:=(g.1 l (oD hm)).1
  have sub:∀k,∀x∈((st qs).take k).flatMap rX,x∈ss:=fun k x hx=>by
   obtain⟨l',h1,h2⟩:=mem_flatMap.mp hx
   exact mH g (mem_of_mem_take h1) x h2
  have b1:=jW (sub i)
  rw[show lP l=PV.tup [PV.str l.name,PV.int l.day,PV.str l.head,PV.tup (l.row.map PV.str)]from rfl]
  walk_at "wp"
  rw[qJ,tL]
  refine⟨by omega,pT (l:=l) hrow ?_⟩
  walk_at "wp"
  rw[<-fH]
  refine cM (fun j e=>∃v4,e=[some (Sl.val (PV.tup (qs.map lP))),some (Sl.val (PV.tup (mP hs))),some (Sl.loc (PV.a8 (kT (bV (((st qs).take i).flatMap rX++l.name::(el l).take j))))),some (Sl.val (PV.tup [PV.str l.name,PV.int l.day,PV.str l.head,PV.tup (l.row.map PV.str)])),v4,v5]) ?_ ?_ ⟨_,rfl⟩
  ·rintro j p e hx ⟨v4,rfl⟩
   rw[getElem?_map]at hx
   obtain⟨x,hk2,rfl⟩:=map_eq_some_iff.mp hx
   walk_at "wp"
   rw[qJ,tL,<-fH]
   refine⟨?_,some (.val (.str x)),?_⟩
   ·have:=jW (ss:=ss) (xs:=((st qs).take i).flatMap rX++l.name::(el l).take j) fun x hx=>by
     rcases mem_append.mp hx with z|z
     ·exact sub i x z
     ·refine mH g hm x ?_
      rcases mem_cons.mp z with z|z
      ·exact mem_cons.mpr (.inl z)
      ·exact mem_cons_of_mem _ (mem_of_mem_take z)
    omega
   ·rw[take_succ,hk2,toList_some]
    simp only[append_assoc,cons_append]
  ·rintro e ⟨v4,rfl⟩
   rw[length_map,take_length]
   have ee:((st qs).take (i+1)).flatMap rX=((st qs).take i).flatMap rX++l.name::el l:=by rw[yG hk];rfl
   exact⟨_,_,_,by rw[ee]⟩
 ·rintro e ⟨v3,v4,v5,rfl⟩
  rw[length_map,take_length]
  walk_at "wp"
  refine cM (fun i e=>∃v3 v4 v5,e=[some (Sl.val (PV.tup (qs.map lP))),some (Sl.val (PV.tup (mP hs))),some (Sl.loc (PV.a8 (kT (bV ((st qs).flatMap rX++(hs.take i).flatMap pQ))))),v3,v4,v5]) ?_ ?_ ⟨v3,v4,v5,by rw[List.take_zero,List.flatMap_nil,append_nil]⟩
  ·rintro i p e hx ⟨v3,v4,v5,rfl⟩
   unfold mP at hx
   rw[getElem?_map]at hx
   obtain⟨z,hk,rfl⟩:=map_eq_some_iff.mp hx
   have hm:=mem_of_getElem? hk
   have sub:∀x∈(st qs).flatMap rX++(hs.take i).flatMap pQ,x∈ss:=fun x hx=>by
    rcases mem_append.mp hx with w|w
    ·obtain⟨l',h1,h2⟩:=mem_flatMap.mp w
     exact mH g h1 x h2
    ·obtain⟨l',h1,h2⟩:=mem_flatMap.mp w
     exact x4 g (mem_of_mem_take h1) x h2
   have b1:=jW sub
   have hz:=(g.2 z hm).1
   have b2:=jW (ss:=ss) (xs:=((st qs).flatMap rX++(hs.take i).flatMap pQ)++[z.1]) fun x hx=>by
    rcases mem_append.mp hx with w|w
    ·exact sub x w
    ·rw[mem_singleton.mp w];exact hz
   have es:=yG (f:=pQ) hk
   cases eo:z.2 with
   |none=>
    rw[show oP none=PV.bA from rfl]
    walk_at "wp"
    rw[qJ,tL,<-fH]
    have ee:(st qs).flatMap rX++(hs.take (i+1)).flatMap pQ=(st qs).flatMap rX++(hs.take i).flatMap pQ++[z.1]:=by rw[es,show pQ z=[z.1] by unfold pQ;rw[eo];rfl,append_assoc]
    exact⟨by omega,_,_,_,by rw[ee]⟩
   | some y=>
    rw[show oP (some y)=PV.str y from rfl]
    walk_at "wp"
    rw[qJ,qJ,tL,tL,<-fH,<-fH]
    have ee:(st qs).flatMap rX++(hs.take (i+1)).flatMap pQ=(st qs).flatMap rX++(hs.take i).flatMap pQ++[z.1]++[y]:=by
     rw[es,show pQ z=[z.1,y] by unfold pQ;rw[eo];rfl]
     simp only[append_assoc,cons_append,nil_append]
    exact⟨by omega,by omega,_,_,_,by rw[ee]⟩
  ·rintro e ⟨v3,v4,v5,rfl⟩
   have b1:(bV (j6 qs hs)).length<=ss.length:=jW fun x hx=>by
    rcases mem_append.mp hx with w|w
    ·obtain⟨l',h1,h2⟩:=mem_flatMap.mp w
     exact mH g h1 x h2
    ·obtain⟨l',h1,h2⟩:=mem_flatMap.mp w
     exact x4 g h1 x h2
   rw[show(mP hs).length=hs.length by unfold mP;rw[length_map],take_length]
   rw[show(st qs).flatMap rX++hs.flatMap pQ=j6 qs hs from rfl]
   walk_at "wp"
   have eg:fL [.a8 (kT (bV (j6 qs hs)))]=some (.new (.lst ((cL (bV (j6 qs hs))).map PV.str))):=by
    have e1:oB [.a8 (kT (bV (j6 qs hs)))]=some (.new (.lst ((cL (bV (j6 qs hs))).map PV.str))):=by
     show bO (pM (kT (bV (j6 qs hs)))) _=_
     rw[AN,rS,decide_eq_true (show(bV (j6 qs hs)).length<64 by omega)]
     rfl
    unfold fL
    rw[e1]
    rfl
   rw[eg]
   walk_at "wp"
   exact q
end
section
open PySem L2 Mr
theorem tY {hs:Hl} {x:Str} (e:gM hs x=some y):x∈hs.map (·.1):=by
 unfold gM at e
 cases e2:hs.find? fun z=>decide (z.1=x)with
 |none=>rw[e2]at e;cases e
 |some z=>
  have h1:=mem_of_find?_eq_some e2
  have h2:=find?_some e2
  exact mem_map.mpr ⟨z,h1,of_decide_eq_true h2⟩
theorem wY {ks:Hl} {o:Option Str} (hl:ks.length<=100) (q:∀b,(b=true↔∃y j,o=some y/\Rg.cW (gM ks) j y=some x)->Q (.bl b,[])):Wp (gH [.a8 (kM ks),oP o,.str x]) Q:=by
 unfold gH kJ
 have kl:(kM ks).length=ks.length:=by unfold kM;rw[length_map]
 walk_at "wp"
 refine⟨iT (by omega) (by omega),?_⟩
 refine cM (fun i e=>∃(v3:Option Sl),e=[some (Sl.bor (PV.a8 (kM ks))),some (Sl.val (oP (o.bind (Rg.cW (gM ks) i)))),some (Sl.val (PV.str x)),v3]/\∀k,k<i->∃y,o.bind (Rg.cW (gM ks) k)=some y/\y≠x) ?_ ?_ ⟨none,by cases o<;>rfl,fun k h=>absurd h (Nat.not_lt_zero _)⟩
 ·rintro i p e hx ⟨v3,rfl,hne⟩
  cases e:o.bind (Rg.cW (gM ks) i)with
  | none=>
   rw[show oP none=PV.bA from rfl]
   walk_at "wp"
   refine q _ ⟨fun h=>(by cases h),fun⟨y,j,h1,h2⟩=>?_⟩
   exfalso
   subst h1
   by_cases hj:j<i
   ·obtain⟨z,h3,h4⟩:=hne j hj
    rw[show(some y).bind (Rg.cW (gM ks) j)=Rg.cW (gM ks) j y from rfl,h2]at h3
    cases h3
    exact h4 rfl
   ·obtain⟨z,h3,_⟩:=Rg.nS h2 i (by omega)
    rw[show(some y).bind (Rg.cW (gM ks) i)=Rg.cW (gM ks) i y from rfl,h3]at e
    cases e
  | some y=>
   rw[show oP (some y)=PV.str y from rfl]
   walk_at "wp"
   refine⟨fun h=>?_,fun h=>⟨some (Sl.val p),?_,fun k hk=>?_⟩⟩
   ·have hy:=eq_of_beq h
    subst hy
    rw[beq_self_eq_true]
    refine q _ ⟨fun _=>?_,fun _=>rfl⟩
    cases o with
    |none=>cases e
    |some y0=>exact⟨y0,i,rfl,e⟩
   ·have nx:o.bind (Rg.cW (gM ks) (i+1))=gM ks y:=by
     cases o with
     |none=>cases e
     |some y0=>
      have e:Rg.cW (gM ks) i y0=some y:=e
      show Rg.cW (gM ks) (i+1) y0=_
      rw[Rg.fZ i 1,e]
      show(gM ks y).bind (Rg.cW (gM ks) 0)=_
      cases gM ks y<;>rfl
    rw[nx,GB]
   ·by_cases hki:k=i
    ·rw[hki];exact⟨y,e,fun z=>by rw[z,beq_self_eq_true]at h;cases h⟩
    ·exact hne k (by omega)
 ·rintro e ⟨v3,rfl,hne⟩
  rw[length_map,length_range]at hne
  walk_at "wp"
  refine q _ ⟨fun h=>(by cases h),fun⟨y,j,h1,h2⟩=>?_⟩
  exfalso
  subst h1
  obtain⟨i,hi,h3⟩:=Rg.CK (K:=ks.map (·.1)) (fun z w h=>tY h) j h2
  rw[length_map]at hi
  obtain⟨z,h4,h5⟩:=hne i (by omega)
  rw[show(some y).bind (Rg.cW (gM ks) i)=Rg.cW (gM ks) i y from rfl,h3]at h4
  cases h4
  exact h5 rfl
end
section
open PySem L2 Mr
noncomputable def wG (hs:Hl):Prop:=∀y,¬Rg.zK (gM hs) y
theorem wG.nil:wG []:=fun y ⟨n,h⟩=>by cases h
theorem EW {hs:Hl} (hx:x∉hs.map (·.1)) (z:Str):gM (hs++[(x,o)]) z=if z=x then o else gM hs z:=by
 unfold gM
 rw[find?_append]
 by_cases h:z=x
 ·subst h
  rw[if_pos rfl]
  have:hs.find? (fun w=>decide (w.1=z))=none:=find?_eq_none.mpr fun w hw e=>hx (mem_map.mpr ⟨w,hw,of_decide_eq_true e⟩)
  rw[this,find?_cons,decide_eq_true rfl]
  rfl
 ·rw[if_neg h]
  cases c:hs.find? fun w=>decide (w.1=z)with
  |some w=>rfl
  |none=>
   rw[find?_cons,decide_eq_false (fun e=>h e.symm)]
   rfl
theorem wG.add {hs:Hl} (h:wG hs) {x:Str} (hx:x∉hs.map (·.1)) (hr:∀y,o=some y->∀j,Rg.cW (gM hs) j y≠some x):wG (hs++[(x,o)]):=by
 have hn:gM hs x=none:=by
  cases e:gM hs x with
  |none=>rfl
  |some y=>exact absurd (tY e) hx
 exact Rg.MB (up:=gM hs) (fun z hz=>by rw[EW hx,if_neg hz]) hn h o (by rw[EW hx,if_pos rfl]) hr
theorem sD {hs:Hl} (hn:(hs.map (·.1)).Nodup) (h:(x,o)∈hs):gM hs x=o:=by
 induction hs with
 |nil=>cases h
 | cons z hs ih=>
  rw[map_cons,nodup_cons]at hn
  unfold gM
  rw[find?_cons]
  rcases mem_cons.mp h with e|h
  ·rw[<-e,decide_eq_true rfl];rfl
  ·have hne:z.1≠x:=fun e=>hn.1 (mem_map.mpr ⟨_,h,e.symm⟩)
   rw[decide_eq_false hne]
   exact ih hn.2 h
theorem LR {hs ks:Hl} (hn:(hs.map (·.1)).Nodup) (p:ks.Perm hs):gM ks=gM hs:=by
 funext x
 have hn2:(ks.map (·.1)).Nodup:=(p.map _).nodup_iff.mpr hn
 by_cases hx:x∈hs.map (·.1)
 ·obtain⟨z,hz,rfl⟩:=mem_map.mp hx
  rw[sD hn (o:=z.2) hz,sD hn2 (o:=z.2) (p.mem_iff.mpr hz)]
 ·have h1:gM hs x=none:=by cases e:gM hs x with|none=>rfl|some y=>exact absurd (tY e) hx
  have h2:gM ks x=none:=by cases e:gM ks x with|none=>rfl|some y=>exact absurd ((p.map _).mem_iff.mp (tY e)) hx
  rw[h1,h2]
theorem wG.perm (h:wG hs) (hn:(hs.map (·.1)).Nodup) (p:ks.Perm hs):wG ks:=by unfold wG;rw[LR hn p];exact h
theorem M7 {a b c many:Int} (h:Hand a b c n) (hs0:0<ss.length) (hs1:ss.length<=60) (m0:0<=many) (m1:many<=40) (hn:n<100000)
  (q:∀(hs:Hl) a' b' c',hs.length<=many.toNat->MOk ss hs->wG hs->Hand a' b' c' (n+130)->Q (.tup (mP hs),[hd a' b' c'])):Wp (hJ [hd a b c,.lst (ss.map PV.str),.int many]) Q:=by
 unfold hJ lN
 walk_at "wp"
 refine⟨iT (by omega) (by omega),?_⟩
 refine cM (fun i e=>∃(hs:Hl) (a b c:Int) (v4 v5 v6:Option Sl),hs.length<=i/\(MOk ss hs/\wG hs)/\Hand a b c (n+3*i)/\e=[some (.own (hd a b c)),some (.bor (.lst (ss.map PV.str))),some (.val (.int many)),some (.loc (.a8 (kM hs))),v4,v5,v6]) ?_ ?_ ⟨[],a,b,c,_,_,_,le_refl _,⟨⟨nodup_nil,fun _ h=>(nomatch h)⟩,wG.nil⟩,h,rfl⟩
 ·rintro i x e hx ⟨hs,a,b,c,v4,v5,v6,hl,⟨ok,nr⟩,hp,rfl⟩
  rw[getElem?_map]at hx
  obtain⟨k,hk,rfl⟩:=map_eq_some_iff.mp hx
  have hi:=(List.getElem?_eq_some_iff.mp hk).1
  rw[length_range]at hi
  walk_at "wp"
  refine cZ hp (by omega) (by omega) (by omega) fun d a1 b1 c1 d0 d1 hp=>?_
  walk_at "wp"
  refine fN d0 (by rw[length_map];exact d1) fun p hp'=>?_
  obtain⟨x,hx,rfl⟩:=mem_map.mp hp'
  walk_at "wp"
  refine cZ hp (by omega) (by omega) (by omega) fun d a1 b1 c1 d0 d1 hp=>?_
  walk_at "wp"
  refine fN d0 (by rw[length_map];exact d1) fun p hp'=>?_
  obtain⟨y,hy,rfl⟩:=mem_map.mp hp'
  walk_at "wp"
  refine cZ hp (by omega) (by decide) (by decide) fun d a1 b1 c1 d0 d1 hp=>?_
  walk_at "wp"
  have aH:∀p6:PV,∃(hs':Hl) (a b c:Int) (v4 v5 v6:Option Sl),hs'.length<=i+1/\(MOk ss hs'/\wG hs')/\Hand a b c (n+3*(i+1))/\[some (Sl.own (hd a1 b1 c1)),some (Sl.bor (PV.lst (ss.map PV.str))),some (Sl.val (PV.int many)),some (Sl.loc (PV.a8 (kM hs))),some (Sl.val (PV.int (0+(k:Int)))),some (Sl.val (PV.str x)),some (Sl.val p6)]=[some (.own (hd a b c)),some (.bor (.lst (ss.map PV.str))),some (.val (.int many)),some (.loc (.a8 (kM hs'))),v4,v5,v6]:=fun p6=>
   ⟨hs,a1,b1,c1,_,_,_,by omega,⟨ok,nr⟩,hp.mono (by omega),rfl⟩
  have put:∀o:Option Str,(∀y,o=some y->y∈ss)->(¬∃y j,o=some y/\Rg.cW (gM hs) j y=some x)->(!(cG (kM hs) (Sum.inr x)).isSome)=true->∃(hs':Hl) (a b c:Int) (v4 v5 v6:Option Sl),hs'.length<=i+1/\(MOk ss hs'/\wG hs')/\Hand a b c (n+3*(i+1))/\[some (Sl.own (hd a1 b1 c1)),some (Sl.bor (PV.lst (ss.map PV.str))),some (Sl.val (PV.int many)),some (Sl.loc (PV.a8 (eR (kM hs) (Sum.inr x) (oP o)))),some (Sl.val (PV.int (0+(k:Int)))),some (Sl.val (PV.str x)),some (Sl.val (oP o))]=[some (.own (hd a b c)),some (.bor (.lst (ss.map PV.str))),some (.val (.int many)),some (.loc (.a8 (kM hs'))),v4,v5,v6]:=fun o ho hcl g=>by
   have hxn:x∉hs.map (·.1):=by
    rcases xD hs x with⟨_,e⟩|⟨o,e,_⟩
    ·exact e
    ·rw[e]at g;cases g
   refine⟨hs++[(x,o)],a1,b1,c1,_,_,_,by rw[length_append];simp;omega,⟨⟨?_,fun z hz=>?_⟩,nr.add hxn fun y hy j hj=>hcl ⟨y,j,hy,hj⟩⟩,hp.mono (by omega),by rw[yD hxn]⟩
   ·rw[map_append]
    refine nodup_append.mpr ⟨ok.nd,by simp,fun u hu v hv e=>?_⟩
    have:v=x:=by simpa using hv
    rw[e,this]at hu
    exact hxn hu
   ·rcases mem_append.mp hz with g|g
    ·exact ok.nm z g
    ·rw[mem_singleton.mp g];exact⟨hx,ho⟩
  have hkl:(kM hs).length<1000000:=by unfold kM;rw[length_map];omega
  refine⟨fun _=>⟨fun g=>wY (o:=none) (by omega) fun b hb=>?_,fun g=>aH _⟩,fun _=>⟨fun g=>wY (o:=some y) (by omega) fun b hb=>?_,fun g=>aH _⟩⟩
  ·cases b with
   |true=>walk_at "wp";exact aH _
   |false=>walk_at "wp";exact⟨hkl,put none (fun y e=>by cases e) (fun h=>absurd (hb.mpr h) Bool.false_ne_true) g⟩
  ·cases b with
   |true=>walk_at "wp";exact aH _
   |false=>walk_at "wp";exact⟨hkl,put (some y) (fun z e=>by cases e;exact hy) (fun h=>absurd (hb.mpr h) Bool.false_ne_true) g⟩
 ·rintro e ⟨hs,a,b,c,v4,v5,v6,hl,⟨ok,nr⟩,hp,rfl⟩
  rw[length_map,length_range]at hl hp
  walk_at "wp"
  rw[GR,UI,XU ok.nd]
  obtain⟨ks,k1,k2⟩:=PU (dC 3 (mP hs))
  rw[k2]
  have hk:(kM hs).length=hs.length:=by unfold kM;rw[length_map]
  walk_at "wp"
  refine⟨by omega,q ks a b c (by rw[k1.length_eq];exact hl) ⟨(k1.map _).nodup_iff.mpr ok.nd,fun z hz=>ok.nm z (k1.mem_iff.mp hz)⟩ (nr.perm ok.nd k1) (hp.mono (by omega))⟩
end
section
open PySem L2 Mr
theorem fQ (f:Str->PV) (ns:List Str) (x:Str):cG (fU f ns) (Sum.inr x)=if x∈ns then some (f x)else none:=by
 unfold cG fU
 induction ns with
 |nil=>rfl
 | cons y ns ih=>
  rw[map_cons,find?_cons]
  by_cases h:y=x
  ·subst h
   rw[decide_eq_true rfl,if_pos mem_cons_self];rfl
  ·rw[decide_eq_false (fun e=>h (Sum.inr.inj e))]
   rw[ih]
   have:(x∈y::ns)↔(x∈ns):=by simp[Ne.symm h]
   simp only[this]
theorem JE {g:Str->PV} (h:∀x∈ns,f x=g x):fU f ns=fU g ns:=map_congr_left fun x hx=>by rw[h x hx]
noncomputable def m8 (f:Str->PV) (x:Str) (v:PV) (y:Str):PV:=if y=x then v else f y
theorem gF (f:Str->PV) (ns:List Str) (x:Str) (v:PV):eR (fU f ns) (Sum.inr x) v=fU (m8 f x v) (gU ns x):=by
 unfold eR gU
 by_cases h:x∈ns
 ·have e:((fU f ns).any fun kv=>decide (kv.1=Sum.inr x))=true:=by
   unfold fU
   rw[any_map,any_eq_true]
   exact⟨x,h,by simp⟩
  rw[e,if_pos rfl,if_pos h]
  unfold fU
  rw[map_map]
  refine map_congr_left fun y hy=>?_
  simp only[Function.comp_apply,m8]
  by_cases hyx:y=x
  ·subst hyx;simp
  ·rw[if_neg (by simpa using hyx),if_neg hyx]
 ·have e:((fU f ns).any fun kv=>decide (kv.1=Sum.inr x))=false:=by
   unfold fU
   rw[any_map,any_eq_false]
   intro y hy
   have:y≠x:=fun e=>h (e▸hy)
   simp[this]
  rw[e,if_neg Bool.false_ne_true,if_neg h]
  unfold fU
  rw[map_append]
  congr 1
  ·refine map_congr_left fun y hy=>?_
   have:y≠x:=fun e=>h (e▸hy)
   unfold m8
   rw[if_neg this]
  ·simp[m8]
theorem dD (f:Str->PV) (ns:List Str):(fU f ns).length=ns.length:=by unfold fU;rw[length_map]
theorem E8 (h:ns.Nodup):(gU ns x).Nodup:=by
 unfold gU
 split
 ·exact h
 ·rename_i hx
  refine nodup_append.mpr ⟨h,by simp,fun a ha b hb e=>?_⟩
  rw[mem_singleton.mp hb]at e
  exact hx (e▸ha)
theorem RM (h:x∈ns):gU ns x=ns:=by unfold gU;rw[if_pos h]
theorem zQ (f:Str->PV) (ns:List Str):((fU f ns).map fun kv=>tU kv.1)=ns.map PV.str:=by
 unfold fU
 rw[map_map];rfl
theorem AG {ks:Hl} (h:x∈ks.map (·.1)) (hn:(ks.map (·.1)).Nodup):(uV qs ks x).e=gM ks x/\(uV qs ks x).r=z3:=by
 unfold uV gM
 obtain⟨z,hz,rfl⟩:=mem_map.mp h
 cases e:ks.find? fun w=>decide (w.1=z.1)with
 |none=>exact absurd (decide_eq_true rfl) (find?_eq_none.mp e z hz)
 |some w=>exact⟨rfl,rfl⟩
theorem QN (h:t∈lY x (iY qs)):∃l∈st qs,∃i:Nat,t.name=l.name/\t.day=l.day/\t.at'=(i:Int)/\0<i/\(el l)[i]? =some x/\∃y,(el l)[i - 1]? =some y/\rT qs t=some y:=by
 obtain⟨hkey,l,hl,htl⟩:=p7 h
 obtain⟨hn1,hd,i,hi,hi0,hel⟩:=xG htl
 have hil:i<(el l).length:=(List.getElem?_eq_some_iff.mp hel).1
 have hfind:(st qs).find? (fun k=>decide (k.name=t.name))=some l:=by rw[hn1];exact mU hl
 have hat:(t.at' - 1).toNat=i - 1:=by rw[hi];omega
 have hpre:(el l)[i - 1]? =some (el l)[i - 1]:=getElem?_eq_getElem (by omega)
 exact⟨l,hl,i,hn1,hd,hi,hi0,by rw[<-hkey];exact hel,_,hpre,by unfold rT;rw[hfind,hat];exact hpre⟩
theorem K3 (h:C2 ts=some t):t∈ts:=mem_of_getElem? h
theorem UR {l:Let} (h:x∈el l):x≠l.name:=by
 unfold el FW at h
 obtain⟨i,_,hi⟩:=mem_filterMap.mp h
 cases c:l.row[i]? with
 |none=>rw[c]at hi;cases hi
 |some y=>
  rw[c,bind_some]at hi
  split at hi
  ·rename_i hh;cases hi;exact hh.1
  ·cases hi
theorem w9 {qs:List Let} {ks:Hl} {x:Str} (hk:(ks.map (·.1)).Nodup) (nr:wG ks) (h:(uV qs ks x).e=some y):y≠x/\y∈j6 qs ks:=by
 unfold uV at h
 cases e1:ks.find? fun z=>decide (z.1=x)with
 | some z=>
  rw[e1]at h
  have hz:=mem_of_find?_eq_some e1
  have hzx:z.1=x:=of_decide_eq_true (by have:=find?_some e1;exact this)
  have h:z.2=some y:=h
  refine⟨fun e=>nr x ⟨0,?_⟩,mem_append_right _ (mem_flatMap.mpr ⟨z,hz,?_⟩)⟩
  ·have:gM ks x=some x:=by unfold gM;rw[e1,<-e];exact h
   unfold Rg.cW
   rw[this];rfl
  ·unfold pQ;rw[h];simp
 | none=>
  rw[e1]at h
  cases e2:(st qs).find? fun l=>decide (l.name=x)with
  | some l=>
   rw[e2]at h
   have hl:=mem_of_find?_eq_some e2
   have hlx:l.name=x:=of_decide_eq_true (by have:=find?_some e2;exact this)
   dsimp only at h
   cases e3:(el l).getLast? with
   |none=>rw[e3]at h;cases h
   |some w=>
    rw[e3]at h
    cases h
    have hw:=List.mem_of_getLast? e3
    exact⟨by rw[<-hlx];exact UR hw,mem_append_left _ (mem_flatMap.mpr ⟨l,hl,mem_cons_of_mem _ hw⟩)⟩
  | none=>
   rw[e2]at h
   dsimp only at h
   cases e3:C2 (lY x (iY qs))with
   |none=>rw[e3]at h;cases h
   |some t=>
    rw[e3]at h
    obtain⟨l,hl,i,_,_,_,hi0,hx,w,hw,he⟩:=QN (K3 e3)
    have h:rT qs t=some y:=h
    rw[he]at h
    cases h
    refine⟨fun e=>?_,mem_append_left _ (mem_flatMap.mpr ⟨l,hl,mem_cons_of_mem _ (mem_of_getElem? hw)⟩)⟩
    rw[e]at hw
    have:=(getElem?_inj (List.getElem?_eq_some_iff.mp hw).1 (AV l)).mp (hw.trans hx.symm)
    omega
end
section
open PySem L2 Mr
noncomputable abbrev uU (qs:List Let) (ks:Hl) (x:Str):Option Str:=(uV qs ks x).e
noncomputable abbrev N8 (qs:List Let) (ks:Hl) (ns:List Str):Hl:=ns.map fun x=>(x,uU qs ks x)
theorem fY (qs:List Let) (ks:Hl) (ns:List Str):(N8 qs ks ns).map (·.1)=ns:=by rw[map_map];exact map_id' _
theorem find_none {p:α->Bool} {l:List α} (h:∀a∈l,p a=false):l.find? p=none:=find?_eq_none.mpr fun a ha e=>by rw[h a ha]at e;cases e
theorem sA {l:Let} (h:t∈AU l):t.key∈el l:=by
 obtain⟨_,_,i,_,_,hi⟩:=xG h
 exact mem_of_getElem? hi
theorem x5 (h:x∉j6 qs ks):uV qs ks x=⟨none,pX⟩:=by
 have h1:ks.find? (fun z=>decide (z.1=x))=none:=find_none fun z hz=>decide_eq_false fun e=>h (mem_append_right _ (mem_flatMap.mpr ⟨z,hz,by unfold pQ;rw[e];exact mem_cons_self⟩))
 have h2:(st qs).find? (fun l=>decide (l.name=x))=none:=find_none fun z hz=>decide_eq_false fun e=>h (mem_append_left _ (mem_flatMap.mpr ⟨z,hz,by unfold rX;rw[e];exact mem_cons_self⟩))
 have h3:lY x (iY qs)=[]:=List.eq_nil_iff_forall_not_mem.mpr fun t ht=>by
  obtain⟨hk,l,hl,htl⟩:=p7 ht
  exact h (mem_append_left _ (mem_flatMap.mpr ⟨l,hl,by rw[<-hk];exact mem_cons_of_mem _ (sA htl)⟩))
 unfold uV
 rw[h1,h2,h3]
 rfl
theorem RJ {qs:List Let} {ks:Hl} {ns:List Str} (hm:∀x,x∈ns↔x∈j6 qs ks) (hn:ns.Nodup):gM (N8 qs ks ns)=uU qs ks:=by
 funext x
 by_cases h:x∈ns
 ·exact sD (by rw[fY];exact hn) (mem_map.mpr ⟨x,h,rfl⟩)
 ·have e:uU qs ks x=none:=by show(uV qs ks x).e=none;rw[x5 fun z=>h ((hm x).mpr z)]
  rw[e]
  cases c:gM (N8 qs ks ns) x with
  |none=>rfl
  |some y=>exact absurd (by have:=tY c;rwa[fY]at this) h
noncomputable def zR (qs:List Let) (x:Str):PV:=match(st qs).find? fun l=>decide (l.name=x)with
 |some l=>.int l.day
 |none=>.bA
theorem r6 {l:List α} (nd:l.Nodup) {x:α} (h:l[i]? =some x):x∉l.take i:=fun hx=>by
 obtain⟨j,hj⟩:=getElem?_of_mem hx
 rw[getElem?_take]at hj
 split at hj
 ·have:=(getElem?_inj (List.getElem?_eq_some_iff.mp hj).1 nd).mp (hj.trans h.symm)
  omega
 ·cases hj
theorem R5 (hl:qs.length<=100) (q:Q (.a8 (fU (zR qs) ((st qs).map (·.name))),[])):Wp (lE [.tup (qs.map lP)]) Q:=by
 unfold lE pU
 walk_at "wp"
 refine jA hl ?_
 walk_at "wp"
 have:=uM qs
 refine⟨by omega,?_⟩
 refine kE (fun i d e=>d=fU (zR qs) (((st qs).take i).map (·.name))/\∃s,e=[s]) ?_ ?_ ⟨rfl,_,rfl⟩
 ·rintro i p e d hx ⟨rfl,s,rfl⟩
  rw[getElem?_map]at hx
  obtain⟨l,hk,rfl⟩:=map_eq_some_iff.mp hx
  unfold lP
  walk_at "wp"
  refine⟨?_,_,rfl⟩
  have hf:zR qs l.name= .int l.day:=by unfold zR;rw[mU (mem_of_getElem? hk)]
  rw[<-hf,sC,take_add_one,hk,map_append]
  ·rfl
  ·rw[map_take]
   exact r6 (FY qs) (by rw[getElem?_map,hk];rfl)
 ·rintro d e ⟨rfl,s,rfl⟩
  rw[length_map,take_length]
  walk_at "wp"
  exact q
structure Cut (qs:List Let) (ks:Hl) (R:List Str) (x:Str):Prop where
 mem:x∈R
 free:x∉ks.map (·.1)
 empty:∀y∈R,y∉ks.map (·.1)->y∉(st qs).map (·.name)->x∉(st qs).map (·.name)/\kS 3 (.str x) (.str y)=true
 full:(∀y∈R,y∉ks.map (·.1)->y∈(st qs).map (·.name))->∀y∈R,y∉ks.map (·.1)->kS 3 (.tup [zR qs x,.str x]) (.tup [zR qs y,.str y])=true
theorem q5 {ns:List Str} {p:Str->Bool} {fg:FG} {ft:FT} {fe:FE} {Q:List PV×En->Prop} {I:En->Prop} {e:En} (h0:I e) (hs:∀x∈ns,∀e,I e->Wp (fg (.str x) e) fun e1=>Wp (ft e1) fun z=>z.1=p x/\match z.1 with|false=>I z.2|true=>Wp (fe z.2) fun w=>Wp w.1.put fun q=>q= .str x/\I w.2) (q:∀e,I e->Q ((ns.filter p).map PV.str,e)):Wp (iO fg ft fe (ns.map PV.str) e) Q:=by
 refine dR (fun i acc e=>acc=((ns.take i).filter p).map PV.str/\I e) ?_ ?_ ⟨rfl,h0⟩
 ·rintro i x e acc hx ⟨rfl,hi⟩
  rw[getElem?_map]at hx
  obtain⟨y,hy,rfl⟩:=map_eq_some_iff.mp hx
  refine(hs y (mem_of_getElem? hy) e hi).mono fun e1 h=>h.mono fun z ⟨h1,h2⟩=>?_
  obtain⟨b,e2⟩:=z
  dsimp only at h1 h2⊢
  have et:(ns.take (i+1)).filter p=(ns.take i).filter p++if p y=true then [y]else []:=by
   rw[take_add_one,hy,toList_some,List.filter_append]
   congr 1
   rw[filter_cons]
   rfl
  cases b with
  |false=>exact⟨by rw[et,<-h1,if_neg Bool.false_ne_true,append_nil],h2⟩
  |true=>exact h2.mono fun w h=>h.mono fun q ⟨hq,hi⟩=>⟨by rw[et,<-h1,if_pos rfl,hq,map_append];rfl,hi⟩
 ·rintro acc e ⟨rfl,hi⟩
  rw[length_map,take_length]
  exact q e hi
theorem VG (ks:List Str) (x:Str):(cG (kT ks) (Sum.inr x)).isSome=decide (x∈ks):=by
 have:kT ks=fU (fun _=>.bl true) ks:=rfl
 rw[this,fQ]
 by_cases h:x∈ks
 ·rw[if_pos h,decide_eq_true h];rfl
 ·rw[if_neg h,decide_eq_false h];rfl
theorem EM (f:Str->PV) (ks:List Str) (x:Str):(cG (fU f ks) (Sum.inr x)).isSome=decide (x∈ks):=by
 rw[fQ]
 by_cases h:x∈ks
 ·rw[if_pos h,decide_eq_true h];rfl
 ·rw[if_neg h,decide_eq_false h];rfl
theorem KY (ns:List Str):c9 3 (ns.map PV.str)=true:=all_eq_true.mpr fun p hp=>by
 obtain⟨x,_,rfl⟩:=mem_map.mp hp
 rw[and_eq_true]
 refine⟨rfl,all_eq_true.mpr fun q hq=>?_⟩
 obtain⟨y,_,rfl⟩:=mem_map.mp hq
 rfl
theorem KU (h:x∈(st qs).map (·.name)):∃d,zR qs x= .int d:=by
 obtain⟨l,hl,rfl⟩:=mem_map.mp h
 exact⟨l.day,by unfold zR;rw[mU hl]⟩
theorem OH (h:∀x∈ns,x∈(st qs).map (·.name)):c9 3 (ns.map fun x=>.tup [zR qs x,.str x])=true:=all_eq_true.mpr fun p hp=>by
 obtain⟨x,hx,rfl⟩:=mem_map.mp hp
 obtain⟨d,e⟩:=KU (h x hx)
 rw[and_eq_true,e]
 refine⟨rfl,all_eq_true.mpr fun q hq=>?_⟩
 obtain⟨y,hy,rfl⟩:=mem_map.mp hq
 obtain⟨d2,e2⟩:=KU (h y hy)
 rw[e2]
 unfold oO dW
 split
 ·unfold dW;split
  ·rfl
  ·rfl
 ·rfl
theorem YR {hn:List Str} (hh:∀x,x∈hn↔x∈ks.map (·.1)) (hR:R.length<=100) (hf:∃x∈R,x∉ks.map (·.1)) (q:∀x,Cut qs ks R x->Q (.str x,[])):Wp (kX [.lst (R.map PV.str),.a8 (kT hn),.a8 (fU (zR qs) ((st qs).map (·.name)))]) Q:=by
 unfold kX qA
 walk_at "wp"
 refine⟨by omega,?_⟩
 refine q5 (p:=fun x=>!decide (x∈hn)) (I:=fun e=>∃s,e=[s,some (Sl.bor (.a8 (kT hn)))]) ⟨_,rfl⟩ ?_ ?_
 ·rintro x hx e ⟨s,rfl⟩
  walk_at "wp"
  rw[VG]
  refine⟨rfl,?_⟩
  by_cases h:x∈hn
  ·rw[decide_eq_true h];exact⟨_,rfl⟩
  ·rw[decide_eq_false h];exact⟨_,rfl⟩
 rintro e ⟨s,rfl⟩
 have fl:(R.filter fun x=>!decide (x∈hn)).length<=100:=le_trans (List.length_filter_le _ _) hR
 generalize hfr:(R.filter fun x=>!decide (x∈hn))=fr at fl
 have hmf:∀x,x∈fr↔x∈R/\x∉ks.map (·.1):=fun x=>by
  rw[<-hfr,mem_filter,<-hh x]
  simp
 walk_at "wp"
 refine⟨by omega,?_⟩
 refine q5 (p:=fun x=>!decide (x∈(st qs).map (·.name))) (I:=fun e=>∃s,e=[s,some (Sl.bor (.a8 (fU (zR qs) ((st qs).map (·.name)))))]) ⟨_,rfl⟩ ?_ ?_
 ·rintro x hx e ⟨s,rfl⟩
  walk_at "wp"
  rw[EM]
  refine⟨rfl,?_⟩
  by_cases h:x∈(st qs).map (·.name)
  ·rw[decide_eq_true h];exact⟨_,rfl⟩
  ·rw[decide_eq_false h];exact⟨_,rfl⟩
 rintro e ⟨s,rfl⟩
 have el:(fr.filter fun x=>!decide (x∈(st qs).map (·.name))).length<=100:=le_trans (List.length_filter_le _ _) fl
 generalize hem:(fr.filter fun x=>!decide (x∈(st qs).map (·.name)))=em at el
 have hme:∀x,x∈em↔x∈fr/\x∉(st qs).map (·.name):=fun x=>by
  rw[<-hem,mem_filter]
  simp only[not_eq_true',decide_eq_false_iff_not]
 walk_at "wp"
 cases em with
 |cons z em=>
  walk_at "wp"
  have hc:=KY (z::em)
  rw[map_cons]at hc
  refine⟨fun _=>⟨⟨by simp,hc⟩,?_⟩,fun h=>(by cases h)⟩
  obtain⟨x,hx,e⟩:=mem_map.mp (AW (ps:=(z::em).map PV.str) (by simp))
  rw[map_cons]at e
  rw[<-e]
  obtain⟨hxf,hxn⟩:=(hme x).mp hx
  obtain⟨hxR,hxk⟩:=(hmf x).mp hxf
  refine q x ⟨hxR,hxk,fun y hy hyk hyn=>⟨hxn,?_⟩,fun h=>absurd (h x hxR hxk) hxn⟩
  have:=oI (ps:=(z::em).map PV.str) (q:=.str y) (mem_map.mpr ⟨y,(hme y).mpr ⟨(hmf y).mpr ⟨hy,hyk⟩,hyn⟩,rfl⟩)
  rw[map_cons,<-e]at this
  exact this
 | nil=>
  have hall:∀x∈fr,x∈(st qs).map (·.name):=fun x hx=>Classical.byContradiction fun h=>by have:=(hme x).mpr ⟨hx,h⟩;cases this
  walk_at "wp"
  refine⟨fun h=>(by cases h),fun _=>⟨by omega,?_⟩⟩
  refine dR (fun i acc e=>acc=(fr.take i).map (fun x=>.tup [zR qs x,.str x])/\∃s,e=[s,some (Sl.bor (.a8 (fU (zR qs) ((st qs).map (·.name)))))]) ?_ ?_ ⟨rfl,_,rfl⟩
  ·rintro i p e acc hx ⟨rfl,s,rfl⟩
   rw[getElem?_map]at hx
   obtain⟨y,hy,rfl⟩:=map_eq_some_iff.mp hx
   walk_at "wp"
   rw[fQ,if_pos (hall y (mem_of_getElem? hy))]
   walk_at "wp"
   refine⟨by rw[take_add_one,hy,map_append];rfl,_,rfl⟩
  ·rintro acc e ⟨rfl,s,rfl⟩
   rw[length_map,take_length]
   obtain⟨x0,hx0,hxk0⟩:=hf
   have h0:x0∈fr:=(hmf x0).mpr ⟨hx0,hxk0⟩
   have hpos:0<(fr.map fun x=>PV.tup [zR qs x,.str x]).length:=by rw[length_map];exact length_pos_of_mem h0
   walk_at "wp"
   refine⟨⟨length_pos_of_mem h0,OH hall⟩,?_⟩
   obtain⟨x,hx,e⟩:=mem_map.mp (AW hpos)
   rw[<-e]
   walk_at "wp"
   obtain⟨hxR,hxk⟩:=(hmf x).mp hx
   refine q x ⟨hxR,hxk,fun y hy hyk hyn=>absurd (hall y ((hmf y).mpr ⟨hy,hyk⟩)) hyn,fun _ y hy hyk=>?_⟩
   have:=oI (ps:=fr.map fun x=>PV.tup [zR qs x,.str x]) (q:=.tup [zR qs y,.str y]) (mem_map.mpr ⟨y,(hmf y).mpr ⟨hy,hyk⟩,rfl⟩)
   rw[<-e]at this
   exact this
theorem JT (hx:x∈R) (hR:R.length<=100) (q:Q (.tup ((R.drop (R.idxOf x)++R.take (R.idxOf x)).map PV.str),[])):Wp (gG [.lst (R.map PV.str),.str x]) Q:=by
 unfold gG kO
 walk_at "wp"
 rw[p8]
 walk_at "wp"
 refine⟨⟨hx,by omega⟩,?_⟩
 rw[lU,zX,<-map_drop,<-map_take,<-map_append]
 refine⟨?_,q⟩
 rw[length_map,length_map,length_drop,length_take]
 omega
end
section
open PySem L2 Mr
noncomputable abbrev tT (R:List Str):PV:=.tup (R.map PV.str)
theorem T1 (R:List Str):nD 3 (tT R)=true:=yN R 2
theorem G7 (Rs:List (List Str)):c9 3 (Rs.map tT)=true:=all_eq_true.mpr fun p hp=>by
 obtain⟨x,_,rfl⟩:=mem_map.mp hp
 rw[and_eq_true]
 refine⟨T1 x,all_eq_true.mpr fun q hq=>?_⟩
 obtain⟨y,_,rfl⟩:=mem_map.mp hq
 exact jO 2 x y
theorem HD (h:∀R∈Rs,R≠[]):(Rs.map tT).all (mV true)=true:=all_eq_true.mpr fun p hp=>by
 obtain⟨x,hx,rfl⟩:=mem_map.mp hp
 cases x with
 |nil=>exact absurd rfl (h _ hx)
 |cons a x=>rfl
theorem CD {Rs:List (List Str)}:∀{ps:List PV},ps.Perm (Rs.map tT)->∃Ks:List (List Str),Ks.Perm Rs/\ps=Ks.map tT:=by
 intro ps h
 generalize e:Rs.map tT=qs at h
 induction h generalizing Rs with
 |nil=>cases Rs with
  |nil=>exact⟨[],.refl _,rfl⟩
  |cons a b=>cases e
 | cons x _ ih=>cases Rs with
  |nil=>cases e
  |cons a b=>
   cases e
   obtain⟨Ks,h1,h2⟩:=ih rfl
   exact⟨a::Ks,h1.cons a,by rw[h2];rfl⟩
 | swap x y l=>match Rs,e with
  |a::b::c,e=>
   cases e
   exact⟨b::a::c,.swap _ _ _,rfl⟩
 |trans _ _ ih1 ih2=>
  obtain⟨Ks,h1,h2⟩:=ih2 e
  obtain⟨Js,h3,h4⟩:=ih1 h2.symm
  exact⟨Js,h3.trans h1,h4⟩
theorem CU {Rs:List (List Str)} {Q:Bv->Prop} (h:Rs.length<64) (hne:∀R∈Rs,R≠[]) (q:∀Ks:List (List Str),Ks.Perm Rs->(Ks.map tT).Pairwise (fun a b=>kS 3 a b=true)->Q (.new (.lst (Ks.map tT)))):Wp (fL [.lst (Rs.map tT)]) Q:=by
 cases Rs with
 |nil=>exact⟨_,rfl,by rw[show cL []=[] by unfold cL;simp];exact q [] (.refl _) .nil⟩
 | cons l ls=>
  have e1:t7 [.lst ((l::ls).map tT)]=none:=rfl
  have e2:oB [.lst ((l::ls).map tT)]=none:=rfl
  unfold fL
  rw[e1,e2,none_or,none_or]
  unfold sM
  simp only[eB,bW]
  refine⟨?_,?_⟩
  ·rw[HD hne,G7,length_map,decide_eq_true h];rfl
  ·obtain⟨ks,k1,k2⟩:=CD (dC 3 ((l::ls).map tT))
   have:=hZ 3 ((l::ls).map tT)
   rw[k2]at this⊢
   exact q ks k1 this
structure ZU (qs:List Let) (ks:Hl) (ns:List Str) (Rs:List (List Str)):Prop where
 srt:(Rs.map tT).Pairwise fun a b=>kS 3 a b=true
 ring:∀R∈Rs,Rg.Ring (uU qs ks) R
 cut:∀R∈Rs,∀x,R.head? =some x->Cut qs ks R x
 nd:Rs.flatten.Nodup
 sub:∀R∈Rs,∀x∈R,x∈ns
 all:∀x∈ns,Rg.zK (uU qs ks) x->x∈Rs.flatten
 len:Rs.length<=ns.length
theorem M0 (hk:(ks.map (·.1)).Nodup) (nr:wG ks) (r:Rg.Ring (uU qs ks) R):∃x∈R,x∉ks.map (·.1):=by
 apply Classical.byContradiction
 intro hno
 have hall:∀x∈R,x∈ks.map (·.1):=fun x hx=>Classical.byContradiction fun h=>hno ⟨x,hx,h⟩
 have r':Rg.Ring (gM ks) R:=r.congr fun x hx=>(AG (hall x hx) hk).1
 obtain⟨x,hx⟩:=List.exists_mem_of_ne_nil _ r.ne
 exact nr x (r'.zK hx)
theorem NO (h:S.Perm R) (c:Cut qs ks R x):Cut qs ks S x:=
 ⟨h.mem_iff.mpr c.mem,c.free,fun y hy=>c.empty y (h.mem_iff.mp hy),fun k y hy=>c.full (fun z hz=>k z (h.mem_iff.mpr hz)) y (h.mem_iff.mp hy)⟩
theorem aeG (h:Rg.F2 (fun a b:List Str=>∃i,i<b.length/\a=b.drop i++b.take i) Rs F):(∀R∈Rs,∃S∈F,∃i,i<S.length/\R=S.drop i++S.take i)/\Rs.flatten.Perm F.flatten:=by
 induction h with
 |nil=>exact⟨fun _ h=>(nomatch h),.refl _⟩
 | cons h _ ih=>
  obtain⟨i,hi,rfl⟩:=h
  refine⟨fun R hR=>?_,(Rg.uH _ i).append ih.2⟩
  rcases mem_cons.mp hR with rfl|hR
  ·exact⟨_,mem_cons_self,i,hi,rfl⟩
  ·obtain⟨S,h1,h2⟩:=ih.1 R hR
   exact⟨S,mem_cons_of_mem _ h1,h2⟩
theorem xC (hl:qs.length<=100) (hk:ks.length<=100) (hkn:(ks.map (·.1)).Nodup) (nr:wG ks) (hn:ns.Nodup) (hm:∀x,x∈ns↔x∈j6 qs ks) (hnl:ns.length<=60)
  (q:∀Rs,ZU qs ks ns Rs->Q (.tup (Rs.map tT),[])):Wp (cN [.tup (qs.map lP),.tup (mP ks),.a8 (fU (uW qs ks) ns)]) Q:=by
 unfold cN lT
 walk_at "wp"
 refine⟨by unfold mP;rw[length_map];omega,?_⟩
 refine kE (fun i d e=>d=kT (bV ((ks.take i).map (·.1)))/\∃s t,e=[s,t]) ?_ ?_ ⟨rfl,_,_,rfl⟩
 ·rintro i p e d hx ⟨rfl,s,t,rfl⟩
  unfold mP at hx
  rw[getElem?_map]at hx
  obtain⟨z,hz,rfl⟩:=map_eq_some_iff.mp hx
  walk_at "wp"
  refine⟨?_,_,_,rfl⟩
  rw[qJ,<-fH,take_add_one,hz,map_append];rfl
 ·rintro d e ⟨rfl,s,t,rfl⟩
  rw[show(mP ks).length=ks.length by unfold mP;rw[length_map],take_length]
  have hh:∀x,x∈bV (ks.map (·.1))↔x∈ks.map (·.1):=fun x=>oJ
  generalize bV (ks.map (·.1))=hn' at hh
  walk_at "wp"
  refine R5 hl ?_
  walk_at "wp"
  rw[zQ]
  refine⟨by rw[dD];omega,?_⟩
  refine kE (fun i d e=>d=kM (N8 qs ks (ns.take i))/\∃s,e=[s,some (Sl.bor (.a8 (fU (uW qs ks) ns)))]) ?_ ?_ ⟨rfl,_,rfl⟩
  ·rintro i p e d hx ⟨rfl,s,rfl⟩
   rw[getElem?_map]at hx
   obtain⟨x,hxe,rfl⟩:=map_eq_some_iff.mp hx
   walk_at "wp"
   rw[fQ,if_pos (mem_of_getElem? hxe)]
   unfold uW
   walk_at "wp"
   refine⟨?_,_,rfl⟩
   rw[yD (by rw[fY];exact r6 hn hxe),take_add_one,hxe]
   unfold N8
   rw[map_append];rfl
  ·rintro d e ⟨rfl,s,rfl⟩
   rw[length_map,take_length]
   walk_at "wp"
   refine BM (by rw[length_map];omega) (by rw[fY];exact hn) fun S F hF hS1 hS2=>?_
   rw[RJ hm hn]at hF
   rw[fY]at hS1
   have sub:∀R∈F,∀x∈R,x∈ns:=fun R hR x hx=>by
    have h1:=hS2 x (hF.sub R hR x hx)
    unfold fP at h1
    rw[fY]at h1
    rcases mem_append.mp h1 with h1|h1
    ·exact h1
    ·obtain⟨z,hz,hzx⟩:=mem_filterMap.mp h1
     obtain⟨w,hw,rfl⟩:=mem_map.mp hz
     exact(hm x).mpr (w9 hkn nr hzx).2
   have fl:F.flatten.length<=ns.length:=iL hF.nd fun x hx=>by
    obtain⟨R,hR,hx⟩:=mem_flatten.mp hx
    exact sub R hR x hx
   have rl:∀R∈F,R.length<=100:=fun R hR=>by
    have:=iL (hF.ring R hR).nd (sub R hR)
    omega
   have nl:∀F:List (List Str),(∀R∈F,R≠[])->F.length<=F.flatten.length:=by
    intro F
    induction F with
    |nil=>intro _;exact le_refl _
    |cons R F ih=>
     intro h
     have h1:=ih fun R hR=>h R (mem_cons_of_mem _ hR)
     have h2:=length_pos_iff.mpr (h R mem_cons_self)
     rw[List.flatten_cons,length_append,length_cons]
     omega
   have hFl:=nl F fun R hR=>(hF.ring R hR).ne
   walk_at "wp"
   refine⟨by omega,?_⟩
   refine dR (fun i acc e=>(∃Rs:List (List Str),acc=Rs.map tT/\Rg.F2 (fun a b:List Str=>∃i,i<b.length/\a=b.drop i++b.take i) Rs (F.take i)/\∀R∈Rs,∀x,R.head? =some x->Cut qs ks R x)/\∃s,e=[s,some (Sl.val (.a8 (kT hn'))),some (Sl.val (.a8 (fU (zR qs) ((st qs).map (·.name)))))]) ?_ ?_ ⟨⟨[],rfl,.nil,fun _ h=>(nomatch h)⟩,_,rfl⟩
   ·rintro i p e acc hx ⟨⟨Rs,rfl,h2,hcut⟩,s,rfl⟩
    rw[getElem?_map]at hx
    obtain⟨R,hR,rfl⟩:=map_eq_some_iff.mp hx
    have hRF:=mem_of_getElem? hR
    walk_at "wp"
    refine YR (R:=R) hh (rl R hRF) (M0 hkn nr (hF.ring R hRF)) fun x hc=>?_
    walk_at "wp"
    refine JT hc.mem (rl R hRF) ?_
    walk_at "wp"
    have hi:R.idxOf x<R.length:=List.idxOf_lt_length_iff.mpr hc.mem
    refine⟨⟨Rs++[R.drop (R.idxOf x)++R.take (R.idxOf x)],(map_append (f:=tT) (l₁:=Rs) (l₂:=[R.drop (R.idxOf x)++R.take (R.idxOf x)])).symm,?_,fun S hS y hy=>?_⟩,_,rfl⟩
    ·rw[take_add_one,hR]
     have ap:∀{A B:List (List Str)},Rg.F2 (fun a b:List Str=>∃i,i<b.length/\a=b.drop i++b.take i) A B->∀{a b:List Str},(∃i,i<b.length/\a=b.drop i++b.take i)->Rg.F2 (fun a b:List Str=>∃i,i<b.length/\a=b.drop i++b.take i) (A++[a]) (B++[b]):=by
      intro A B h
      induction h with
      |nil=>intro a b h;exact .cons h .nil
      |cons h _ ih=>intro a b h';exact .cons h (ih h')
     exact ap h2 ⟨_,hi,rfl⟩
    ·rcases mem_append.mp hS with hS|hS
     ·exact hcut S hS y hy
     ·rw[mem_singleton.mp hS]at hy⊢
      have hne:R.drop (R.idxOf x)≠[]:=fun e=>by have:=congrArg List.length e;rw[length_drop,length_nil]at this;omega
      rw[Rg.uS hne,List.head?_drop,getElem?_eq_getElem hi,List.getElem_idxOf]at hy
      cases hy
      exact NO (Rg.uH R _) hc
   ·rintro acc e ⟨⟨Rs,rfl,h2,hcut⟩,s,rfl⟩
    rw[length_map,take_length]at h2
    obtain⟨ro,fp⟩:=aeG h2
    have ring:∀R∈Rs,Rg.Ring (uU qs ks) R:=fun R hR=>by
     obtain⟨S,hS,i,hi,rfl⟩:=ro R hR
     exact(hF.ring S hS).rot i hi
    have rlen:Rs.length<=ns.length:=by
     have:=nl Rs fun R hR=>(ring R hR).ne
     rw[fp.length_eq]at this
     omega
    walk_at "wp"
    refine CU (by omega) (fun R hR=>(ring R hR).ne) fun Ks hK hs=>?_
    walk_at "wp"
    have kf:Ks.flatten.Perm F.flatten:=(List.Perm.flatten hK).trans fp
    refine q Ks ⟨hs,fun R hR=>ring R (hK.mem_iff.mp hR),fun R hR=>hcut R (hK.mem_iff.mp hR),kf.nodup_iff.mpr hF.nd,fun R hR x hx=>?_,fun x hx c=>kf.mem_iff.mpr (hF.all x (hS1 x hx) c),by rw[hK.length_eq];exact rlen⟩
    obtain⟨S,hS,i,hi,rfl⟩:=ro R (hK.mem_iff.mp hR)
    exact sub S hS x ((Rg.uH S i).mem_iff.mp hx)
end
section
open PySem L2 Mr
noncomputable abbrev jK:PV:=.tup [.bA,pX]
noncomputable def c4 (t:i0) (y:Str):PV:=.tup [.int t.day,.str t.name,.int t.at',.str y]
theorem aaU {t u:i0} {z:Str} (h:t.name≠u.name):gB (code 3 (c4 t y)) (code 3 (c4 u z))=gB (code 3 (tP t)) (code 3 (tP u)):=by
 have hn:t.name.cps.toList≠u.name.cps.toList:=fun e=>h (by cases ht:t.name;cases hu:u.name;rw[ht,hu]at e;congr 1;exact toList_inj.mp e)
 have key:∀(r r':List Int),gB (1::t.day::1::(t.name.cps.toList.map (fun c:Nat=>(c:Int)+1)++[0]++r)) (1::u.day::1::(u.name.cps.toList.map (fun c:Nat=>(c:Int)+1)++[0]++r'))=if t.day=u.day then decide (t.name.cps.toList<u.name.cps.toList)else decide (t.day<u.day):=by
  intro r r'
  rw[eC,if_pos rfl,eC]
  by_cases hd:t.day=u.day
  ·rw[if_pos hd,if_pos hd,eC,if_pos rfl,sG,if_neg hn]
  ·rw[if_neg hd,if_neg hd]
 have e4:∀(t:i0) (y:Str),code 3 (c4 t y)=1::t.day::1::(t.name.cps.toList.map (fun c:Nat=>(c:Int)+1)++[0]++(1::t.at'::1::(y.cps.toList.map (fun c:Nat=>(c:Int)+1)++[0]++[0]))):=fun t y=>by
  unfold c4 Mr.code
  simp[Mr.code]
 have e3:∀(t:i0),code 3 (tP t)=1::t.day::1::(t.name.cps.toList.map (fun c:Nat=>(c:Int)+1)++[0]++(1::t.at'::[0])):=fun t=>by
  unfold tP Mr.code
  simp[Mr.code]
 rw[e4,e4,e3,e3,key,key]
theorem MI (t u:i0) (y z:Str):c9 3 [c4 t y,c4 u z]=true:=by
 have pl:∀(t:i0) (y:Str),nD 3 (c4 t y)=true:=fun _ _=>rfl
 have lt:∀(t u:i0) (y z:Str),(oO 3 (c4 t y) (c4 u z)).isSome=true:=fun t u y z=>by
  unfold c4 oO dW
  split
  ·unfold dW
   split
   ·unfold dW
    split
    ·unfold dW
     split
     ·rfl
     ·rfl
    ·rfl
   ·rfl
  ·rfl
 simp only[c9,all_cons,all_nil,pl,lt,Bool.and_self]
noncomputable def TR (ts:List i0) (x:Str) (t:i0):Prop:=t∈lY x ts/\∀u∈lY x ts,kS 3 (tP t) (tP u)=true
structure TI (qs:List Let) (ts:List i0) (G:Str->PV) (M:List Str):Prop where
 nd:M.Nodup
 mem:∀x,x∈M↔lY x ts≠[]
 val:∀x∈M,∃t y,TR ts x t/\rT qs t=some y/\G x=c4 t y
theorem sS (x:Str) (ts:List i0) (t:i0):lY x (ts++[t])=lY x ts++if t.key=x then [t]else []:=by
 unfold lY
 rw[List.filter_append]
 congr 1
 rw[filter_cons]
 by_cases h:t.key=x
 ·rw[decide_eq_true h,if_pos rfl,if_pos h];rfl
 ·rw[decide_eq_false h,if_neg Bool.false_ne_true,if_neg h];rfl
theorem B6 (p:PV):kS 3 p p=true:=by
 have:=qI (n:=3) p p
 rw[Bool.or_self]at this
 exact this
theorem TI.same {G:Str->PV} {M:List Str} (h:TI qs ts G M) {G':Str->PV} {M':List Str} {t:i0} {v:PV} (hy:rT qs t=some y) (hu:∀u∈lY t.key ts,u.name≠t.name)
  (hG:G'=m8 G t.key v) (hM:M'=gU M t.key) (hv:v=if t.key∈M then(if gB (code 3 (c4 t y)) (code 3 (G t.key))=true then c4 t y else G t.key)else c4 t y):TI qs (ts++[t]) G' M':=by
 subst hG hM
 refine⟨E8 h.nd,fun x=>?_,fun x hx=>?_⟩
 ·rw[mC,sS,h.mem]
  by_cases e:t.key=x
  ·rw[if_pos e];simp[e]
  ·rw[if_neg e,append_nil];simp[Ne.symm e]
 ·by_cases e:x=t.key
  ·subst e
   have hx':lY t.key (ts++[t])=lY t.key ts++[t]:=by rw[sS,if_pos rfl]
   have hval:m8 G t.key v t.key=v:=by unfold m8;rw[if_pos rfl]
   rw[hval]
   by_cases hm:t.key∈M
   ·obtain⟨t0,y0,m0,e0,g0⟩:=h.val _ hm
    rw[if_pos hm,g0,aaU (hu t0 m0.1).symm]at hv
    by_cases hl:gB (code 3 (tP t)) (code 3 (tP t0))=true
    ·rw[if_pos hl]at hv
     have hle:kS 3 (tP t) (tP t0)=true:=by
      rcases or_eq_true _ _|>.mp (qI (n:=3) (tP t) (tP t0))with h|h
      ·exact h
      ·unfold kS at h;rw[hl]at h;cases h
     refine⟨t,y,⟨by rw[hx'];simp,fun u hu=>?_⟩,hy,hv⟩
     rw[hx']at hu
     rcases mem_append.mp hu with hu|hu
     ·exact qB _ _ _ hle (m0.2 u hu)
     ·rw[mem_singleton.mp hu];exact B6 _
    ·rw[if_neg hl]at hv
     refine⟨t0,y0,⟨by rw[hx'];exact mem_append_left _ m0.1,fun u hu=>?_⟩,e0,hv⟩
     rw[hx']at hu
     rcases mem_append.mp hu with hu|hu
     ·exact m0.2 u hu
     ·rw[mem_singleton.mp hu];unfold kS;rw[Bool.not_eq_true]at hl;rw[hl];rfl
   ·rw[if_neg hm]at hv
    have h0:lY t.key ts=[]:=Classical.byContradiction fun c=>hm ((h.mem _).mpr c)
    refine⟨t,y,⟨by rw[hx'];simp,fun u hu=>?_⟩,hy,hv⟩
    rw[hx',h0]at hu
    rw[mem_singleton.mp hu];exact B6 _
  ·have hxM:x∈M:=(mC.mp hx).resolve_right e
   obtain⟨t0,y0,m0,e0,g0⟩:=h.val x hxM
   have hx':lY x (ts++[t])=lY x ts:=by rw[sS,if_neg (Ne.symm e),append_nil]
   refine⟨t0,y0,⟨by rw[hx'];exact m0.1,by rw[hx'];exact m0.2⟩,e0,?_⟩
   unfold m8
   rw[if_neg e]
   exact g0
theorem OK {qs:List Let} {x:Str} {t:i0} (h:TR (iY qs) x t):C2 (lY x (iY qs))=some t:=by
 obtain⟨t0,h0,e0,eP⟩:=vU (ts:=lY x (iY qs)) (fun e=>by have:=h.1;rw[e]at this;cases this)
 rw[e0]
 have h1:kS 3 (tP t0) (tP t)=true:=by rw[<-eP];exact oI (mem_map.mpr ⟨t,h.1,rfl⟩)
 have h2:=h.2 t0 h0
 have:=uP (FK (lY x (iY qs))) (mem_map.mpr ⟨t0,h0,rfl⟩) (mem_map.mpr ⟨t,h.1,rfl⟩) h1 h2
 have hk:=(p7 h0).1.trans (p7 h.1).1.symm
 have e1:t0=t:=by
  cases t0;cases t
  simp only[tP,PV.tup.injEq,List.cons.injEq,PV.int.injEq,PV.str.injEq,and_true]at this
  simp only at hk
  obtain⟨a,b,c⟩:=this
  subst a b c hk
  rfl
 rw[e1]
noncomputable def v2 (qs:List Let) (x:Str):PV:=match C2 (lY x (iY qs))with
 |some t=>.tup [oP (rT qs t),.tup [.str (Str.ofString "told"),.str t.name,.int t.at']]
 |none=>jK
noncomputable def v3 (qs:List Let) (x:Str):PV:=match(st qs).find? fun l=>decide (l.name=x)with
 | some l=>(match(el l).getLast? with
   |some y=>.tup [.str y,Q2]
   |none=>jK)
 |none=>v2 qs x
theorem EN {qs:List Let} {x:Str} (h:x∉ks.map (·.1)):uW qs ks x=v3 qs x:=by
 have h1:ks.find? (fun z=>decide (z.1=x))=none:=find_none fun z hz=>decide_eq_false fun e=>h (mem_map.mpr ⟨z,hz,e⟩)
 unfold uW v3 uV
 rw[h1]
 cases(st qs).find? fun l=>decide (l.name=x)with
 |some l=>
  dsimp only
  cases(el l).getLast? with
  |none=>rfl
  |some y=>rfl
 |none=>
  dsimp only
  unfold v2
  cases C2 (lY x (iY qs))with
  |none=>rfl
  |some t=>rfl
theorem LA {z:Str×Option Str} (h:z∈ks) (hn:(ks.map (·.1)).Nodup):uW qs ks z.1= .tup [oP z.2,z3]:=by
 have h1:=AG (qs:=qs) (mem_map.mpr ⟨z,h,rfl⟩) hn
 unfold uW
 rw[h1.1,h1.2,sD hn (o:=z.2) h]
end
section
open PySem L2 Mr
structure FI (N0:Str->Prop) (v:Str->PV) (f:Str->PV) (N:List Str):Prop where
 nd:N.Nodup
 mem:∀x,x∈N↔N0 x
 val:∀x∈N,f x=v x
theorem FI.put (h:FI N0 v f N) (h1:∀y,N1 y↔N0 y\/ y=x) (h2:v' x=p) (h3:∀y,y≠x->v' y=v y):FI N1 v' (m8 f x p) (gU N x):=
 ⟨E8 h.nd,fun y=>by rw[mC,h.mem,h1],fun y hy=>by
  unfold m8
  by_cases e:y=x
  ·rw[if_pos e,e,h2]
  ·rw[if_neg e,h3 y e]
   exact h.val y ((mC.mp hy).resolve_right e)⟩
theorem FI.of (h:FI N0 v f N) (h1:∀y,N1 y↔N0 y) (h2:∀y,N0 y->v' y=v y):FI N1 v' f N:=⟨h.nd,fun y=>by rw[h.mem,h1],fun y hy=>by rw[h2 y ((h.mem y).mp hy)];exact h.val y hy⟩
theorem FI.len (h:FI N0 v f N) (hs:∀x,N0 x->x∈ss):N.length<=ss.length:=iL h.nd fun x hx=>hs x ((h.mem x).mp hx)
theorem HC (G:Str->PV) (M:List Str):bG (fU G M)=M.map fun x=>.tup [.str x,G x]:=by unfold bG fU;rw[map_map];rfl
theorem abX (p q:PV):rO [p,q] 1 0=gB (code 3 q) (code 3 p):=rfl
theorem atT {xs:List Str} (h0:0<i) (h:xs[i - 1]? =some y):oN (xs.map PV.str) ((i:Int) - 1)=some (.str y):=by
 rw[show((i:Int) - 1)=((i - 1:Nat):Int) by omega]
 exact gX (by rw[getElem?_map,h];rfl)
theorem KH (g:Good ss qs ks) (hss:ss.length<=62) (hl:qs.length<=100) (hkn:(ks.map (·.1)).Nodup)
  (q:∀N,N.Nodup->(∀x,x∈N↔x∈j6 qs ks)->Q (.a8 (fU (uW qs ks) N),[])):Wp (hW [.tup (qs.map lP),.tup (mP ks)]) Q:=by
 have hel:∀l∈st qs,∀x∈el l,x∈ss:=fun l h x hx=>mH g h x (mem_cons_of_mem _ hx)
 unfold hW l5
 walk_at "wp"
 refine yY hl ?_
 walk_at "wp"
 refine cM (fun i e=>∃(G f:Str->PV) (M N:List Str) (v5 v6 v7 v8 v9 v10:Option Sl),TI qs (((st qs).take i).flatMap AU) G M/\FI (fun x=>x∈((st qs).take i).flatMap el) (fun _=>jK) f N/\
  e=[some (Sl.val (PV.tup (qs.map lP))),some (Sl.val (PV.tup (mP ks))),some (Sl.loc (.a8 (fU G M))),some (Sl.loc (.a8 (fU f N))),some (Sl.val (.lst ((st qs).map lP))),v5,v6,v7,v8,v9,v10]) ?_ ?_
  ⟨fun _=>.bA,fun _=>.bA,[],[],_,_,_,_,_,_,⟨nodup_nil,fun x=>⟨fun h=>(nomatch h),fun h=>absurd rfl h⟩,fun _ h=>(nomatch h)⟩,⟨nodup_nil,fun x=>Iff.rfl,fun _ h=>(nomatch h)⟩,rfl⟩
 ·rintro i p e hx ⟨G,f,M,N,v5,v6,v7,v8,v9,v10,ti,fi,rfl⟩
  rw[getElem?_map]at hx
  obtain⟨l,hk,rfl⟩:=map_eq_some_iff.mp hx
  have hlm:=mem_of_getElem? hk
  have hrow:=(g.1 l (oD hlm)).1
  walk_at "wp"
  refine E9 (l:=l) hrow ?_
  walk_at "wp"
  refine cM (fun j e=>∃(G f:Str->PV) (M N:List Str) (v7 v8 v9:Option Sl),TI qs (((st qs).take i).flatMap AU++m7 l j) G M/\FI (fun x=>x∈((st qs).take i).flatMap el++(el l).take j) (fun _=>jK) f N/\
   e=[some (Sl.val (PV.tup (qs.map lP))),some (Sl.val (PV.tup (mP ks))),some (Sl.loc (.a8 (fU G M))),some (Sl.loc (.a8 (fU f N))),some (Sl.val (.lst ((st qs).map lP))),some (Sl.val (lP l)),some (Sl.val (.lst ((el l).map PV.str))),v7,v8,v9,v10]) ?_ ?_
   ⟨G,f,M,N,_,_,_,by rw[show m7 l 0=[]from rfl,append_nil];exact ti,by rw[List.take_zero,append_nil];exact fi,rfl⟩
  ·rintro j p e hx ⟨G,f,M,N,v7,v8,v9,ti,fi,rfl⟩
   rw[getElem?_map,getElem?_zipIdx,getElem?_map]at hx
   cases hn:(el l)[j]? with
   |none=>rw[hn]at hx;cases hx
   | some n=>
    rw[hn]at hx
    cases hx
    have hs:=wJ hn
    have Nl:=fi.len (ss:=ss) fun x hx=>by
     rcases mem_append.mp hx with hx|hx
     ·obtain⟨k,h1,h2⟩:=mem_flatMap.mp hx
      exact hel k (mem_of_mem_take h1) x h2
     ·exact hel l hlm x (mem_of_mem_take hx)
    have Ml:M.length<=ss.length:=iL ti.nd fun x hx=>by
     obtain⟨t,y,m0,_⟩:=ti.val x hx
     have h1:=m0.1
     unfold lY at h1
     obtain⟨h1,h2⟩:=mem_filter.mp h1
     have h2:=of_decide_eq_true h2
     rw[<-h2]
     rcases mem_append.mp h1 with h1|h1
     ·obtain⟨k,h3,h4⟩:=mem_flatMap.mp h1
      exact hel k (mem_of_mem_take h3) _ (sA h4)
     ·unfold m7 at h1
      obtain⟨z,h3,h4⟩:=mem_filterMap.mp h1
      exact hel l hlm _ (sA (mem_filterMap.mpr ⟨z,mem_of_mem_take h3,h4⟩))
    have fi':FI (fun x=>x∈((st qs).take i).flatMap el++(el l).take (j+1)) (fun _=>jK) (m8 f n jK) (gU N n):=fi.put (fun y=>by
     rw[take_add_one,hn,toList_some,<-append_assoc,mem_append,mem_singleton]) rfl fun _ _=>rfl
    rw[show lP l=PV.tup [PV.str l.name,PV.int l.day,PV.str l.head,PV.tup (l.row.map PV.str)]from rfl]
    walk_at "wp"
    rw[hs,zero_add,gF]
    refine⟨by rw[dD];omega,fun hj=>?_,fun hj=>?_⟩
    ·have hj':0<j:=by omega
     have hjl:j<(el l).length:=(List.getElem?_eq_some_iff.mp hn).1
     have hpre:(el l)[j - 1]? =some (el l)[j - 1]:=getElem?_eq_getElem (by omega)
     rw[atT hj' hpre,if_pos hj']
     walk_at "wp"
     generalize hy:(el l)[j - 1]=y at hpre
     have ht:rT qs ⟨n,l.day,l.name,(j:Int)⟩=some y:=by
      unfold rT
      rw[mU hlm]
      show(el l)[((j:Int) - 1).toNat]? =_
      rw[show((j:Int) - 1).toNat=j - 1 by omega]
      exact hpre
     have hu:∀u∈lY n (((st qs).take i).flatMap AU++m7 l j),u.name≠l.name:=fun u hu e=>by
      unfold lY at hu
      obtain⟨h1,h2⟩:=mem_filter.mp hu
      have h2:=of_decide_eq_true h2
      rcases mem_append.mp h1 with h1|h1
      ·obtain⟨k,h3,h4⟩:=mem_flatMap.mp h1
       have h5:=(xG h4).1
       have:=r6 (FY qs) (i:=i) (x:=l.name) (by rw[getElem?_map,hk];rfl)
       rw[<-map_take]at this
       exact this (mem_map.mpr ⟨k,h3,by rw[<-e,h5]⟩)
      ·unfold m7 at h1
       obtain⟨z,h3,h4⟩:=mem_filterMap.mp h1
       unfold trF at h4
       split at h4
       ·cases h4
        obtain⟨k,hk2⟩:=getElem?_of_mem h3
        rw[getElem?_take]at hk2
        split at hk2
        ·rename_i hkj
         rw[getElem?_zipIdx]at hk2
         cases c:(el l)[k]? with
         |none=>rw[c]at hk2;cases hk2
         |some w=>
          rw[c]at hk2
          cases hk2
          have h2:w=n:=h2
          rw[h2]at c
          have:=(getElem?_inj (List.getElem?_eq_some_iff.mp c).1 (AV l)).mp (c.trans hn.symm)
          omega
        ·cases hk2
       ·cases h4
     have fin:∀v:PV,v=(if n∈M then(if gB (code 3 (c4 ⟨n,l.day,l.name,(j:Int)⟩ y)) (code 3 (G n))=true then c4 ⟨n,l.day,l.name,(j:Int)⟩ y else G n)else c4 ⟨n,l.day,l.name,(j:Int)⟩ y)->TI qs (((st qs).take i).flatMap AU++(m7 l j++[⟨n,l.day,l.name,(j:Int)⟩])) (m8 G n v) (gU M n):=fun v hv=>by
      rw[<-append_assoc]
      exact ti.same (t:=⟨n,l.day,l.name,(j:Int)⟩) ht hu rfl rfl hv
     rw[fQ]
     by_cases hm:n∈M
     ·rw[if_pos hm]
      obtain⟨t0,y0,m0,e0,g0⟩:=ti.val _ hm
      walk_at "wp"
      rw[abX,g0]
      refine⟨MI _ ⟨n,l.day,l.name,(j:Int)⟩ _ y,?_,?_⟩
      ·rw[dD];omega
      ·rw[gF]
       refine⟨_,_,_,_,_,_,_,fin _ ?_,fi',rfl⟩
       rw[if_pos hm,g0]
       rfl
     ·rw[if_neg hm]
      walk_at "wp"
      rw[abX]
      refine⟨MI ⟨n,l.day,l.name,(j:Int)⟩ ⟨n,l.day,l.name,(j:Int)⟩ y y,?_,?_⟩
      ·rw[dD];omega
      ·rw[gF,ite_self]
       exact⟨_,_,_,_,_,_,_,fin _ (by rw[if_neg hm];rfl),fi',rfl⟩
    ·have hj':¬0<j:=by omega
     rw[if_neg hj',append_nil]
     exact⟨_,_,_,_,_,_,_,ti,fi',rfl⟩
  ·rintro e ⟨G,f,M,N,v7,v8,v9,ti,fi,rfl⟩
   rw[length_map,length_zipIdx,length_map]at ti fi
   rw[tX]at ti
   rw[take_length]at fi
   exact⟨G,f,M,N,_,_,_,_,_,_,by rw[uI hk];exact ti,by rw[uI hk];exact fi,rfl⟩
 ·rintro e ⟨G,f,M,N,v5,v6,v7,v8,v9,v10,ti,fi,rfl⟩
  rw[length_map,take_length]at ti fi
  have ti:TI qs (iY qs) G M:=ti
  walk_at "wp"
  rw[HC]
  have N1:∀x,x∈(st qs).flatMap el->x∈ss:=fun x hx=>by
   obtain⟨k,h1,h2⟩:=mem_flatMap.mp hx
   exact hel k h1 x h2
  have MN:∀x∈M,x∈(st qs).flatMap el:=fun x hx=>by
   obtain⟨t,y,m0,_⟩:=ti.val x hx
   obtain⟨hk,l,h1,h2⟩:=p7 m0.1
   exact mem_flatMap.mpr ⟨l,h1,by rw[<-hk];exact sA h2⟩
  have V2:∀x∈M,∃t y,rT qs t=some y/\G x=c4 t y/\v2 qs x= .tup [.str y,.tup [.str (Str.ofString "told"),.str t.name,.int t.at']]:=fun x hx=>by
   obtain⟨t,y,m0,e0,g0⟩:=ti.val x hx
   refine⟨t,y,e0,g0,?_⟩
   unfold v2
   rw[OK m0]
   dsimp only
   rw[e0];rfl
  have V2n:∀x,x∉M->v2 qs x=jK:=fun x hx=>by
   have h0:lY x (iY qs)=[]:=Classical.byContradiction fun c=>hx ((ti.mem x).mpr c)
   unfold v2
   rw[h0];rfl
  refine cM (fun i e=>∃(f:Str->PV) (N:List Str) (v8 v9:Option Sl),FI (fun x=>x∈(st qs).flatMap el) (fun x=>if x∈M.take i then v2 qs x else jK) f N/\
   e=[some (Sl.val (PV.tup (qs.map lP))),some (Sl.val (PV.tup (mP ks))),some (Sl.val (.a8 (fU G M))),some (Sl.loc (.a8 (fU f N))),some (Sl.val (.lst ((st qs).map lP))),v5,v6,v7,v8,v9,v10]) ?_ ?_
   ⟨f,N,_,_,fi,rfl⟩
  ·rintro i p e hx ⟨f,N,v8,v9,fi,rfl⟩
   rw[getElem?_map]at hx
   obtain⟨x,hk,rfl⟩:=map_eq_some_iff.mp hx
   have hxM:=mem_of_getElem? hk
   obtain⟨t,y,e0,g0,e2⟩:=V2 x hxM
   have Nl:=fi.len N1
   rw[g0,show c4 t y= .tup [.int t.day,.str t.name,.int t.at',.str y]from rfl]
   walk_at "wp"
   rw[gF]
   refine⟨by rw[dD];omega,_,_,_,_,fi.put (x:=x) (fun z=>⟨.inl,fun h=>h.elim id fun e=>by rw[e];exact MN x hxM⟩) ?_ fun z hz=>?_,rfl⟩
   ·rw[if_pos (by rw[take_add_one,hk];simp)]
    exact e2
   ·have:z∈M.take (i+1)↔z∈M.take i:=by rw[take_add_one,hk,toList_some,mem_append,mem_singleton];simp[hz]
    simp only[this]
  ·rintro e ⟨f,N,v8,v9,fi,rfl⟩
   rw[length_map,take_length]at fi
   have fi:FI (fun x=>x∈(st qs).flatMap el) (v2 qs) f N:=fi.of (fun _=>Iff.rfl) fun y _=>by
    by_cases h:y∈M
    ·rw[if_pos h]
    ·rw[if_neg h,V2n y h]
   walk_at "wp"
   refine cM (fun i e=>∃(f:Str->PV) (N:List Str) (v5 v6:Option Sl),FI (fun x=>x∈(st qs).flatMap el\/ x∈((st qs).map (·.name)).take i) (fun x=>if x∈((st qs).map (·.name)).take i then v3 qs x else v2 qs x) f N/\
    e=[some (Sl.val (PV.tup (qs.map lP))),some (Sl.val (PV.tup (mP ks))),some (Sl.val (.a8 (fU G M))),some (Sl.loc (.a8 (fU f N))),some (Sl.val (.lst ((st qs).map lP))),v5,v6,v7,v8,v9,v10]) ?_ ?_
    ⟨f,N,_,_,fi.of (fun y=>by simp) fun _ _=>by simp,rfl⟩
   ·rintro i p e hx ⟨f,N,v5,v6,fi,rfl⟩
    rw[getElem?_map]at hx
    obtain⟨l,hk,rfl⟩:=map_eq_some_iff.mp hx
    have hlm:=mem_of_getElem? hk
    have hrow:=(g.1 l (oD hlm)).1
    have hkn':((st qs).map (·.name))[i]? =some l.name:=by rw[getElem?_map,hk];rfl
    have Nl:=fi.len (ss:=ss) fun x hx=>by
     rcases hx with hx|hx
     ·exact N1 x hx
     ·obtain⟨k,h1,rfl⟩:=mem_map.mp (mem_of_mem_take hx)
      exact mH g h1 _ mem_cons_self
    have fin:∀p,v3 qs l.name=p->FI (fun x=>x∈(st qs).flatMap el\/ x∈((st qs).map (·.name)).take (i+1)) (fun x=>if x∈((st qs).map (·.name)).take (i+1)then v3 qs x else v2 qs x) (m8 f l.name p) (gU N l.name):=fun p hp=>
     fi.put (x:=l.name) (fun z=>by rw[take_add_one,hkn',toList_some,mem_append,mem_singleton,or_assoc]) (by rw[if_pos (by rw[take_add_one,hkn'];simp)];exact hp) fun z hz=>by
      have:z∈((st qs).map (·.name)).take (i+1)↔z∈((st qs).map (·.name)).take i:=by rw[take_add_one,hkn',toList_some,mem_append,mem_singleton];simp[hz]
      simp only[this]
    walk_at "wp"
    refine E9 (l:=l) hrow ?_
    have hv:v3 qs l.name=match(el l).getLast? with
      |some y=>.tup [.str y,Q2]
      |none=>jK:=by
     have h0:=mU hlm
     unfold v3
     cases e3:(el l).getLast? with
     |none=>simp only[h0,e3]
     |some y=>simp only[h0,e3]
    rw[show lP l=PV.tup [PV.str l.name,PV.int l.day,PV.str l.head,PV.tup (l.row.map PV.str)]from rfl]
    cases e3:(el l).getLast? with
    |none=>
     have e4:=List.getLast?_eq_none_iff.mp e3
     rw[e3]at hv
     rw[e4]
     walk_at "wp"
     rw[gF]
     exact⟨by rw[dD];omega,_,_,_,_,fin _ hv,rfl⟩
    | some y=>
     rw[e3]at hv
     have e5:oN ((el l).map PV.str) (-1)=some (.str y):=EZ (by rw[List.getLast?_map,e3];rfl)
     have e6:∃z zs,el l=z::zs:=by
      cases h:el l with
      |nil=>rw[h]at e3;cases e3
      |cons z zs=>exact⟨z,zs,rfl⟩
     obtain⟨z,zs,e6⟩:=e6
     rw[e6,map_cons]at e5⊢
     walk_at "wp"
     rw[e5]
     walk_at "wp"
     rw[gF]
     exact⟨gO zs 8,by rw[dD];omega,_,_,_,_,fin _ hv,rfl⟩
   ·rintro e ⟨f,N,v5,v6,fi,rfl⟩
    have fi:FI (fun x=>x∈(st qs).flatMap rX) (v3 qs) f N:=fi.of (fun y=>by
      rw[show((st qs).map lP).length=((st qs).map (·.name)).length by rw[length_map,length_map],take_length]
      constructor
      ·intro h
       obtain⟨l,h1,h2⟩:=mem_flatMap.mp h
       rcases mem_cons.mp h2 with h2|h2
       ·exact .inr (mem_map.mpr ⟨l,h1,h2.symm⟩)
       ·exact .inl (mem_flatMap.mpr ⟨l,h1,h2⟩)
      ·rintro(h|h)
       ·obtain⟨l,h1,h2⟩:=mem_flatMap.mp h
        exact mem_flatMap.mpr ⟨l,h1,mem_cons_of_mem _ h2⟩
       ·obtain⟨l,h1,rfl⟩:=mem_map.mp h
        exact mem_flatMap.mpr ⟨l,h1,mem_cons_self⟩) fun y _=>by
     rw[show((st qs).map lP).length=((st qs).map (·.name)).length by rw[length_map,length_map],take_length]
     by_cases h:y∈(st qs).map (·.name)
     ·rw[if_pos h]
     ·rw[if_neg h]
      unfold v3
      rw[find_none fun z hz=>decide_eq_false fun e=>h (mem_map.mpr ⟨z,hz,e⟩)]
    have out:∀x,x∉(st qs).flatMap rX->v3 qs x=jK:=fun x hx=>by
     have h:=x5 (qs:=qs) (ks:=[]) (x:=x) fun h=>(mem_append.mp h).elim hx fun z=>nomatch z
     rw[<-EN (ks:=[]) (fun z=>nomatch z)]
     unfold uW
     rw[h];rfl
    walk_at "wp"
    refine cM (fun i e=>∃(f:Str->PV) (N:List Str) (v8 v10:Option Sl),FI (fun x=>x∈(st qs).flatMap rX\/ x∈(ks.take i).flatMap pQ) (fun x=>if x∈(ks.take i).map (·.1)then uW qs ks x else v3 qs x) f N/\
     e=[some (Sl.val (PV.tup (qs.map lP))),some (Sl.val (PV.tup (mP ks))),some (Sl.val (.a8 (fU G M))),some (Sl.loc (.a8 (fU f N))),some (Sl.val (.lst ((st qs).map lP))),v5,v6,v7,v8,v9,v10]) ?_ ?_
     ⟨f,N,_,_,fi.of (fun y=>by simp) fun _ _=>by simp,rfl⟩
    ·rintro i p e hx ⟨f,N,v8,v10,fi,rfl⟩
     unfold mP at hx
     rw[getElem?_map]at hx
     obtain⟨z,hk,rfl⟩:=map_eq_some_iff.mp hx
     have hzm:=mem_of_getElem? hk
     have hin:∀x,(x∈(st qs).flatMap rX\/ x∈(ks.take i).flatMap pQ)->x∈ss:=fun x hx=>by
      rcases hx with hx|hx
      ·obtain⟨k,h1,h2⟩:=mem_flatMap.mp hx
       exact mH g h1 x h2
      ·obtain⟨k,h1,h2⟩:=mem_flatMap.mp hx
       exact x4 g (mem_of_mem_take h1) x h2
     have Nl:=fi.len hin
     have ht:(ks.take (i+1)).map (·.1)=(ks.take i).map (·.1)++[z.1]:=by rw[take_add_one,hk,map_append];rfl
     have f1:FI (fun x=>(x∈(st qs).flatMap rX\/ x∈(ks.take i).flatMap pQ)\/ x=z.1) (fun x=>if x∈(ks.take (i+1)).map (·.1)then uW qs ks x else v3 qs x) (m8 f z.1 (.tup [oP z.2,z3])) (gU N z.1):=
      fi.put (fun y=>Iff.rfl) (by rw[ht,if_pos (by simp)];exact LA hzm hkn) fun y hy=>by
       have:y∈(ks.take (i+1)).map (·.1)↔y∈(ks.take i).map (·.1):=by rw[ht,mem_append,mem_singleton];simp[hy]
       simp only[this]
     have Nl1:=f1.len (ss:=ss) fun x hx=>hx.elim (hin x) fun e=>by rw[e];exact(g.2 z hzm).1
     have es:=yG (f:=pQ) hk
     cases eo:z.2 with
     |none=>
      rw[eo]at f1
      rw[show oP none=PV.bA from rfl]at f1⊢
      walk_at "wp"
      rw[gF]
      refine⟨by rw[dD];omega,_,_,_,_,f1.of (fun y=>?_) fun _ _=>rfl,rfl⟩
      rw[es,show pQ z=[z.1] by unfold pQ;rw[eo];rfl,mem_append,mem_singleton,or_assoc]
     | some y=>
      rw[eo]at f1
      rw[show oP (some y)=PV.str y from rfl]at f1⊢
      walk_at "wp"
      rw[gF,EM]
      refine⟨by rw[dD];omega,?_⟩
      have mem:∀w,(w∈(st qs).flatMap rX\/ w∈(ks.take (i+1)).flatMap pQ)↔(((w∈(st qs).flatMap rX\/ w∈(ks.take i).flatMap pQ)\/ w=z.1)\/ w=y):=fun w=>by
       rw[es,show pQ z=[z.1,y] by unfold pQ;rw[eo];rfl,mem_append]
       simp[or_assoc]
      by_cases hy:y∈gU N z.1
      ·rw[decide_eq_true hy]
       refine⟨fun h=>(by cases h),fun _=>⟨_,_,_,_,f1.of (fun w=>?_) fun _ _=>rfl,rfl⟩⟩
       rw[mem]
       exact⟨fun h=>h.elim id fun e=>by rw[e];exact(f1.mem y).mp hy,.inl⟩
      ·rw[decide_eq_false hy]
       refine⟨fun _=>?_,fun h=>(by cases h)⟩
       rw[gF]
       refine⟨by rw[dD];omega,_,_,_,_,f1.put mem ?_ fun _ _=>rfl,rfl⟩
       have hy':=fun h=>hy ((f1.mem y).mpr h)
       rw[if_neg fun h=>hy' ?_]
       ·exact out y fun h=>hy' (.inl (.inl h))
       ·rw[ht]at h
        rcases mem_append.mp h with h|h
        ·obtain⟨w,h1,h2⟩:=mem_map.mp h
         exact .inl (.inr (mem_flatMap.mpr ⟨w,h1,by unfold pQ;rw[h2];exact mem_cons_self⟩))
        ·exact .inr (mem_singleton.mp h)
    ·rintro e ⟨f,N,v8,v10,fi,rfl⟩
     rw[show(mP ks).length=ks.length by unfold mP;rw[length_map],take_length]at fi
     walk_at "wp"
     rw[JE (g:=uW qs ks) fun x hx=>?_]
     ·exact q N fi.nd fun x=>by rw[fi.mem];unfold j6;rw[mem_append]
     ·rw[fi.val x hx]
      by_cases h:x∈ks.map (·.1)
      ·rw[if_pos h]
      ·rw[if_neg h,EN h]
end
section
open PySem L2 Mr
theorem GG {l m:List Str} (h1:l.Nodup) (h2:m.Nodup) (h:∀x,x∈l↔x∈m):l.Perm m:=(List.perm_ext_iff_of_nodup h1 h2).mpr h
theorem aaY {x y:Str} {a b:List Str} (h:kS 3 (tT (x::a)) (tT (y::b))=true) (hne:x≠y):yW x y:=by
 have hn:y.cps.toList≠x.cps.toList:=fun e=>hne (by cases x;cases y;congr 1;exact toList_inj.mp e.symm)
 have e3:∀(x:Str) (a:List Str),∃r,code 3 (tT (x::a))=1::(x.cps.toList.map (fun c:Nat=>(c:Int)+1)++[0]++r):=fun x a=>by
  unfold tT Mr.code
  simp[Mr.code]
 obtain⟨r,e1⟩:=e3 x a
 obtain⟨r',e2⟩:=e3 y b
 unfold kS at h
 rw[e1,e2,eC,if_pos rfl,sG,if_neg hn]at h
 unfold yW
 simpa using h
noncomputable abbrev FJ (R:List Str):PV:=.tup [.str (Str.ofString "ring"),tT R]
noncomputable abbrev A8 (E:Str->Option Str) (Rn:Str->PV) (x:Str):PV:=.tup [.str x,oP (E x),Rn x]
noncomputable abbrev qP (qs:List Let) (ks:Hl):List Str:=cL (bV (j6 qs ks))
structure Cuts (qs:List Let) (ks:Hl) (Rs:List (List Str)) (E:Str->Option Str) (Rn:Str->PV):Prop where
 hd:∀R∈Rs,∀h,R.head? =some h->E h=none/\Rn h=FJ R
 ot:∀x,(∀R∈Rs,R.head?≠some x)->E x=uU qs ks x/\Rn x=(uV qs ks x).r
theorem uK (qs:List Let) (ks:Hl) (x:Str):x∈qP qs ks↔x∈j6 qs ks:=(dJ _).mem_iff.trans oJ
theorem sV (qs:List Let) (ks:Hl):(qP qs ks).Nodup:=(dJ _).nodup_iff.mpr (p4 _)
theorem XJ (g:Good ss qs ks):∀x∈j6 qs ks,x∈ss:=fun x hx=>by
 rcases mem_append.mp hx with w|w
 ·obtain⟨l',h1,h2⟩:=mem_flatMap.mp w
  exact mH g h1 x h2
 ·obtain⟨l',h1,h2⟩:=mem_flatMap.mp w
  exact x4 g h1 x h2
theorem uT (g:Good ss qs ks):(qP qs ks).length<=ss.length:=iL (sV qs ks) fun x hx=>XJ g x ((uK qs ks x).mp hx)
theorem sY (nd:Rs.flatten.Nodup) (hR:Rs[i]? =some R) (hS:S∈Rs.take i) (h1:R.head? =some h) (h2:S.head? =some h):False:=by
 have hi:=(List.getElem?_eq_some_iff.mp hR).1
 rw[<-take_append_drop i Rs,List.flatten_append]at nd
 refine(nodup_append.mp nd).2.2 h (mem_flatten.mpr ⟨S,hS,mem_of_head? h2⟩) h (mem_flatten.mpr ⟨R,?_,mem_of_head? h1⟩) rfl
 refine mem_of_getElem? (i:=0) ?_
 rw[List.getElem?_drop];exact hR
theorem Z8 (g:Good ss qs ks) (hss:ss.length<=60) (hl:qs.length<=100) (hk:ks.length<=100) (hkn:(ks.map (·.1)).Nodup) (nr:wG ks):
  ∃Rs,ZU qs ks (qP qs ks) Rs/\cN [.tup (qs.map lP),.tup (mP ks),.a8 (fU (uW qs ks) (qP qs ks))]=some (.tup (Rs.map tT),[]):=by
 have k:Wp (cN [.tup (qs.map lP),.tup (mP ks),.a8 (fU (uW qs ks) (qP qs ks))]) fun w=>∃Rs,ZU qs ks (qP qs ks) Rs/\w=(.tup (Rs.map tT),[]):=
  xC hl hk hkn nr (sV qs ks) (uK qs ks) (le_trans (uT g) hss) fun Rs h=>⟨Rs,h,rfl⟩
 obtain⟨w,e,Rs,h,rfl⟩:=k
 exact⟨Rs,h,e⟩
end
section
open PySem L2 Mr
theorem vP {ns:List Str} {Q:Bv->Prop} (h:ns.length<64) (q:Q (.new (.lst ((cL ns).map PV.str)))):Wp (fL [.a8 (fU f ns)]) Q:=by
 have ks:∀ns:List Str,pM (fU f ns)=some ns:=by
  intro ns
  induction ns with
  |nil=>rfl
  |cons x ns ih=>
   show bO (pM (fU f ns)) (fun ss=>some (x::ss))=_
   rw[ih];rfl
 have e1:oB [.a8 (fU f ns)]=some (.new (.lst ((cL ns).map PV.str))):=by
  show bO (pM (fU f ns)) _=_
  rw[ks,rS,decide_eq_true h]
  rfl
 unfold fL
 rw[e1]
 exact⟨_,rfl,q⟩
theorem OE (g:Good ss qs ks) (hss:ss.length<=60) (hl:qs.length<=100) (hk:ks.length<=100) (hkn:(ks.map (·.1)).Nodup)
  (e:cN [.tup (qs.map lP),.tup (mP ks),.a8 (fU (uW qs ks) (qP qs ks))]=some (.tup (Rs.map tT),[])) (q:Q (.tup (Rs.map tT),[])):Wp (pK [.tup (qs.map lP),.tup (mP ks)]) Q:=by
 unfold pK zG
 walk_at "wp"
 refine vN g hl (by omega) ?_
 walk_at "wp"
 refine tS (fun l h=>(g.1 l h).1) hl hk (sV qs ks) (by have:(cL (bV (j6 qs ks))).length<=_:=uT g;omega) (fun x hx R r=>sZ hkn r) ?_
 walk_at "wp"
 refine SX e ?_
 walk_at "wp"
 exact q
theorem BY (g:Good ss qs ks) (hss:ss.length<=60) (hl:qs.length<=100) (hk:ks.length<=100) (hkn:(ks.map (·.1)).Nodup)
  (hR:ZU qs ks (qP qs ks) Rs) (e:cN [.tup (qs.map lP),.tup (mP ks),.a8 (fU (uW qs ks) (qP qs ks))]=some (.tup (Rs.map tT),[]))
  (q:∀E Rn,Cuts qs ks Rs E Rn->Q (.tup ((cL (qP qs ks)).map (A8 E Rn)),[])):Wp (jE [.tup (qs.map lP),.tup (mP ks)]) Q:=by
 have nl:(cL (bV (j6 qs ks))).length<=_:=uT g
 have nl2:=uT g
 unfold jE oF
 walk_at "wp"
 refine vN g hl (by omega) ?_
 walk_at "wp"
 refine tS (fun l h=>(g.1 l h).1) hl hk (sV qs ks) (by omega) (fun x hx R r=>sZ hkn r) ?_
 walk_at "wp"
 refine SX e ?_
 walk_at "wp"
 refine cM (fun i e=>∃(E:Str->Option Str) (Rn:Str->PV) (v4:Option Sl),Cuts qs ks (Rs.take i) E Rn/\e=[some (Sl.val (.tup (qs.map lP))),some (Sl.val (.tup (mP ks))),some (Sl.loc (.a8 (fU (fun x=>.tup [oP (E x),Rn x]) (qP qs ks)))),some (Sl.val (.tup (Rs.map tT))),v4]) ?_ ?_
  ⟨fun x=>uU qs ks x,fun x=>(uV qs ks x).r,_,⟨fun R h=>by simp at h,fun x _=>⟨rfl,rfl⟩⟩,rfl⟩
 ·rintro i p e hp ⟨E,Rn,v4,hc,rfl⟩
  rw[getElem?_map]at hp
  obtain⟨R,hRi,rfl⟩:=map_eq_some_iff.mp hp
  have hRm:=mem_of_getElem? hRi
  have ne:=(hR.ring R hRm).ne
  cases R with
  |nil=>exact absurd rfl ne
  | cons h R=>
   have hin:h∈qP qs ks:=hR.sub _ hRm h mem_cons_self
   walk_at "wp"
   rw[gF,RM hin,dD]
   refine⟨by omega,fun x=>if x=h then none else E x,fun x=>if x=h then FJ (h::R)else Rn x,some (Sl.val (tT (h::R))),⟨fun S hS k hk=>?_,fun x hx=>?_⟩,?_⟩
   ·rw[take_add_one,hRi]at hS
    rcases mem_append.mp hS with hS|hS
    ·have hne:k≠h:=fun z=>sY hR.nd hRi hS rfl (z▸hk)
     rw[if_neg hne,if_neg hne]
     exact hc.hd S hS k hk
    ·have:S=h::R:=by simpa using hS
     subst this
     cases hk
     rw[if_pos rfl,if_pos rfl]
     exact⟨rfl,rfl⟩
   ·have hne:x≠h:=fun z=>hx (h::R) (by rw[take_add_one,hRi];simp) (by rw[z];rfl)
    rw[if_neg hne,if_neg hne]
    exact hc.ot x fun S hS=>hx S (by rw[take_add_one];exact mem_append_left _ hS)
   ·have:(m8 (fun x=>PV.tup [oP (E x),Rn x]) h (PV.tup [PV.bA,PV.tup [PV.str (Str.ofString "ring"),tT (h::R)]]))=fun x=>PV.tup [oP (if x=h then none else E x),if x=h then FJ (h::R)else Rn x]:=by
     funext x
     unfold m8
     split<;>rfl
    rw[<-this]
 ·rintro e ⟨E,Rn,v4,hc,rfl⟩
  rw[length_map,take_length]at hc
  walk_at "wp"
  refine vP (by omega) ?_
  walk_at "wp"
  have sl:(cL (qP qs ks)).length=(qP qs ks).length:=(dJ _).length_eq
  refine⟨by omega,?_⟩
  refine dR (fun i acc e=>acc=((cL (qP qs ks)).take i).map (A8 E Rn)/\∃s,e=[s,some (Sl.bor (.a8 (fU (fun x=>.tup [oP (E x),Rn x]) (qP qs ks))))]) ?_ ?_ ⟨rfl,_,rfl⟩
  ·rintro i p e acc hx ⟨rfl,s,rfl⟩
   rw[getElem?_map]at hx
   obtain⟨y,hy,rfl⟩:=map_eq_some_iff.mp hx
   have hin:y∈qP qs ks:=(dJ _).mem_iff.mp (mem_of_getElem? hy)
   walk_at "wp"
   rw[fQ,if_pos hin]
   walk_at "wp"
   rw[fQ,if_pos hin]
   walk_at "wp"
   refine⟨by rw[take_add_one,hy,map_append];rfl,_,rfl⟩
  ·rintro acc e ⟨rfl,s,rfl⟩
   rw[length_map,take_length]
   walk_at "wp"
   exact q E Rn hc
end
section
open PySem L2 Mr
noncomputable abbrev eD (E:Str->Option Str) (ns:List Str):List (Key×PV):=fU (fun x=>oP (E x)) ns
theorem PF {E:Str->Option Str} (hN:N.length<=100) (hx:x∈N) (hcl:∀x y,E x=some y->y∈N) (no:∀y,¬Rg.zK E y) (q:Q (.bl true,[])):Wp (i9 [.a8 (eD E N),.str x]) Q:=by
 obtain⟨n,hn,y,hy,hy0⟩:=Rg.ends no hcl hx
 unfold i9 oE
 walk_at "wp"
 rw[dD]
 refine⟨iT (by omega) (by omega),?_⟩
 refine cM (fun i e=>i<=n/\∃(z:Str) (v3:Option Sl),Rg.cW E i x=some z/\z∈N/\e=[some (Sl.bor (.a8 (eD E N))),some (Sl.val (.str x)),some (Sl.val (.str z)),v3]) ?_ ?_ ⟨zero_le _,x,_,rfl,hx,rfl⟩
 ·rintro i p e hp ⟨hi,z,v3,hz,hzN,rfl⟩
  walk_at "wp"
  rw[fQ,if_pos hzN]
  walk_at "wp"
  cases c:E z with
  |none=>rw[show oP none=PV.bA from rfl];walk_at "wp";exact⟨q,fun h=>h.elim⟩
  |some w=>
   rw[show oP (some w)=PV.str w from rfl]
   walk_at "wp"
   have hne:i≠n:=fun h=>by rw[h,hy]at hz;cases hz;rw[hy0]at c;cases c
   exact⟨fun h=>h.elim,by omega,w,some (Sl.val p),by rw[Rg.tV,hz];exact c,hcl z w c,rfl⟩
 ·rintro e ⟨hi,_⟩
  rw[length_map,length_range]at hi
  omega
end
section
open PySem L2 Mr
noncomputable def i6 (Rs:List (List Str)) (x:Str):Option (List Str):=Rs.find? fun R=>decide (R.head? =some x)
theorem IK (nd:Rs.flatten.Nodup) (hR:R∈Rs) (hS:S∈Rs) (h1:R.head? =some h) (h2:S.head? =some h):R=S:=by
 obtain⟨i,hi⟩:=getElem?_of_mem hR
 obtain⟨j,hj⟩:=getElem?_of_mem hS
 have tk:∀{i j:Nat} {R:List Str},Rs[i]? =some R->i<j->R∈Rs.take j:=fun{i j R} h l=>mem_of_getElem? (i:=i) (by rw[getElem?_take,if_pos l];exact h)
 rcases Nat.lt_trichotomy i j with l|l|l
 ·exact(sY nd hj (tk hi l) h2 h1).elim
 ·subst l;rw[hi]at hj;exact Option.some.inj hj
 ·exact(sY nd hi (tk hj l) h1 h2).elim
theorem wN {Rs:List (List Str)} (nd:Rs.flatten.Nodup) {R:List Str} {h:Str} (hR:R∈Rs) (h1:R.head? =some h):i6 Rs h=some R:=by
 unfold i6
 cases c:Rs.find? fun R=>decide (R.head? =some h)with
 |none=>exact absurd (decide_eq_true h1) (find?_eq_none.mp c R hR)
 |some S=>rw[IK nd hR (mem_of_find?_eq_some c) h1 (of_decide_eq_true (by have:=find?_some c;exact this))]
theorem AI (h:i6 Rs x=none):∀R∈Rs,R.head?≠some x:=fun R hR e=>find?_eq_none.mp h R hR (decide_eq_true e)
theorem p5 (f:α->Option β):∀l:List α,l.filterMap f=(l.filter fun x=>(f x).isSome).filterMap f
 |[]=>rfl
 |a::l=>by
  rw[filter_cons]
  cases c:f a with
  |none=>rw[List.filterMap_cons_none c,if_neg (by simp)];exact p5 f l
  |some b=>rw[List.filterMap_cons_some c,if_pos (show(some b).isSome=true from rfl),List.filterMap_cons_some c,p5 f l]
theorem T5 {f:α->Option α}:∀{l:List α},(∀a∈l,f a=some a)->l.filterMap f=l
 |[],_=>rfl
 |a::l,h=>by rw[List.filterMap_cons_some (h a mem_cons_self),T5 fun b hb=>h b (mem_cons_of_mem _ hb)]
theorem L0 (h:ZU qs ks ns Rs) (hn:ns.Nodup):(cL ns).filterMap (i6 Rs)=Rs:=by
 have pw:=(List.pairwise_flatten.mp h.nd).2
 have dj:Rs.Pairwise fun a b=>∀x,a.head? =some x->∀y,b.head? =some y->x≠y:=pw.imp fun k x hx y hy=>k x (mem_of_head? hx) y (mem_of_head? hy)
 have nd:(Rs.filterMap List.head?).Nodup:=List.pairwise_filterMap.mpr dj
 have so:(Rs.filterMap List.head?).Pairwise yW:=by
  refine List.pairwise_filterMap.mpr (((List.pairwise_map.mp h.srt).and dj).imp fun{a b} k x hx y hy=>?_)
  cases a with
  |nil=>cases hx
  |cons a0 a=>cases b with
   |nil=>cases hy
   |cons b0 b=>cases hx;cases hy;exact aaY k.1 (k.2 _ rfl _ rfl)
 have he:(cL ns).filter (fun x=>(i6 Rs x).isSome)=Rs.filterMap List.head?:=by
  refine i8 ((hV ns).filter _) so (GG (((dJ ns).nodup_iff.mpr hn).filter _) nd fun x=>?_)
  rw[mem_filter,mem_filterMap]
  constructor
  ·rintro⟨_,k⟩
   obtain⟨R,hR⟩:=isSome_iff_exists.mp k
   exact⟨R,mem_of_find?_eq_some hR,of_decide_eq_true (by have:=find?_some hR;exact this)⟩
  ·rintro⟨R,hR,k⟩
   exact⟨(dJ ns).mem_iff.mpr (h.sub R hR x (mem_of_head? k)),by rw[wN h.nd hR k];rfl⟩
 rw[p5,he,List.filterMap_filterMap]
 have:∀R∈Rs,(List.head? R).bind (i6 Rs)=some R:=fun R hR=>by
  cases c:R.head? with
  |none=>exact absurd (List.head?_eq_none_iff.mp c) (h.ring R hR).ne
  |some x=>exact wN h.nd hR c
 exact T5 this
theorem F9 (h:x∉ks.map (·.1)):(uV qs ks x).r=Q2\/ (uV qs ks x).r=pX\/ ∃n a,(uV qs ks x).r= .tup [.str (Str.ofString "told"),.str n,.int a]:=by
 unfold uV
 rw[find_none fun z hz=>decide_eq_false fun e=>h (mem_map.mpr ⟨z,hz,e⟩)]
 dsimp only
 split
 ·split
  ·exact .inl rfl
  ·exact .inr (.inl rfl)
 ·split
  ·exact .inr (.inr ⟨_,_,rfl⟩)
  ·exact .inr (.inl rfl)
theorem acS (qs:List Let) (ks:Hl) (x:Str):∃rs:List PV,(uV qs ks x).r= .tup rs/\rs.length<=3/\∀p∈rs,(∃s,p= .str s)\/ ∃i,p= .int i:=by
 have one:∀s:Str,∃rs:List PV,PV.tup [.str s]= .tup rs/\rs.length<=3/\∀p∈rs,(∃s,p= .str s)\/ ∃i,p= .int i:=fun s=>⟨_,rfl,by simp,fun p hp=>.inl ⟨s,mem_singleton.mp hp⟩⟩
 by_cases h:x∈ks.map (·.1)
 ·have:(uV qs ks x).r=z3:=by
   unfold uV
   obtain⟨z,hz,rfl⟩:=mem_map.mp h
   cases e:ks.find? fun w=>decide (w.1=z.1)with
   |none=>exact absurd (decide_eq_true rfl) (find?_eq_none.mp e z hz)
   |some w=>rfl
  rw[this]
  exact one _
 ·rcases F9 (qs:=qs) h with e|e|⟨n,a,e⟩
  ·rw[e];exact one _
  ·rw[e];exact one _
  ·rw[e]
   refine⟨_,rfl,by simp,fun p hp=>?_⟩
   simp only[mem_cons,not_mem_nil,or_false]at hp
   rcases hp with rfl|rfl|rfl
   ·exact .inl ⟨_,rfl⟩
   ·exact .inl ⟨_,rfl⟩
   ·exact .inr ⟨_,rfl⟩
end
section
open PySem L2 Mr
theorem SH (ns:List Str):cO (ns.map PV.str) (ns.map PV.str)=true:=kF (n:=1) (fun h=>kB h) (yN ns 1)
theorem U5 (Rs:List (List Str)):cO (Rs.map tT) (Rs.map tT)=true:=kF (n:=3) (fun h=>kB h) (all_eq_true.mpr fun p hp=>by obtain⟨R,_,rfl⟩:=mem_map.mp hp;exact T1 R)
theorem U3 (Rs:List (List Str)) (n:Nat):(Rs.map tT).all (gD (n+1))=true:=all_eq_true.mpr fun p hp=>by obtain⟨R,_,rfl⟩:=mem_map.mp hp;exact gO R n
theorem EC {E:Str->Option Str} {Rn:Str->PV} {L:List Str} {Q:List PV×En->Prop} (q:∀e,Q (L.map PV.str,e)):Wp (iO (aO 0) dM (bF dB (aC 0) (fC (.int 0))) (L.map (A8 E Rn)) [none]) Q:=by
 refine dR (fun i acc e=>acc=(L.take i).map PV.str/\∃s,e=[s]) ?_ ?_ ⟨rfl,_,rfl⟩
 ·rintro i p e acc hx ⟨rfl,s,rfl⟩
  rw[getElem?_map]at hx
  obtain⟨y,hy,rfl⟩:=map_eq_some_iff.mp hx
  walk_at "wp"
  refine⟨by rw[take_add_one,hy,map_append];rfl,_,rfl⟩
 ·rintro acc e ⟨rfl,s,rfl⟩
  rw[length_map,take_length]
  exact q _
theorem K2 {rs:List PV} {Q:List PV×En->Prop} (hp:∀p∈rs,(∃s,p= .str s)\/ ∃i,p= .int i) (q:∀(bs:List Bool) e,bs.any id=false->Q (bs.map PV.bl,e)):Wp (iO (aO 0) dM (jX uA (aB (aC 0) (aB (fC (.ty "bool")) aK))) rs [none]) Q:=by
 refine dR (fun i acc e=>(∃bs:List Bool,acc=bs.map PV.bl/\bs.any id=false)/\∃s,e=[s]) ?_ ?_ ⟨⟨[],rfl,rfl⟩,_,rfl⟩
 ·rintro i p e acc hx ⟨⟨bs,rfl,hb⟩,s,rfl⟩
  rcases hp p (mem_of_getElem? hx)with⟨s,rfl⟩|⟨i,rfl⟩
  ·walk_at "wp"
   exact⟨⟨bs++[false],by rw[map_append];rfl,by rw[List.any_append,hb];rfl⟩,_,rfl⟩
  ·walk_at "wp"
   exact⟨⟨bs++[false],by rw[map_append];rfl,by rw[List.any_append,hb];rfl⟩,_,rfl⟩
 ·rintro acc e ⟨⟨bs,rfl,hb⟩,s,rfl⟩
  exact q bs _ hb
theorem oX {qs:List Let} {ks:Hl} (g:Good ss qs ks) (hss:ss.length<=60) (hl:qs.length<=100) (hk:ks.length<=100) (hkn:(ks.map (·.1)).Nodup) (nr:wG ks) (q:Q (.bl true,[])):Wp (dH [.tup (qs.map lP),.tup (mP ks)]) Q:=by
 obtain⟨Rs,hRs,hcr⟩:=Z8 g hss hl hk hkn nr
 have nl:=uT g
 unfold dH mE
 walk_at "wp"
 refine KH g (by omega) hl hkn fun N hN hNm=>?_
 have pN:N.Perm (qP qs ks):=GG hN (sV qs ks) fun x=>(hNm x).trans (uK qs ks x).symm
 have Nl:=pN.length_eq
 walk_at "wp"
 refine BY g hss hl hk hkn hRs hcr fun E Rn hc=>?_
 have Lm:∀x,x∈cL (qP qs ks)↔x∈qP qs ks:=fun x=>(dJ _).mem_iff
 have Ln:(cL (qP qs ks)).Nodup:=(dJ _).nodup_iff.mpr (sV qs ks)
 have Ll:=(dJ (qP qs ks)).length_eq
 have ca:=L0 hRs (sV qs ks)
 have sN:cL N=cL (qP qs ks):=D7 pN
 generalize cL (qP qs ks)=L at Lm Ln Ll ca sN
 walk_at "wp"
 refine⟨by omega,EC fun e=>?_⟩
 walk_at "wp"
 refine vP (by omega) ?_
 rw[sN]
 walk_at "wp"
 rw[SH]
 refine⟨gO _ 8,?_⟩
 walk_at "wp"
 refine⟨fun h=>h.elim,?_⟩
 have hLN:∀x∈L,x∈N:=fun x hx=>pN.mem_iff.mpr ((Lm x).mp hx)
 refine cM (fun i e=>∃(v6 v7 v8 v9:Option Sl),e=[some (Sl.val (PV.tup (List.map lP qs))),some (Sl.val (PV.tup (mP ks))),some (Sl.val (PV.a8 (fU (uW qs ks) N))),some (Sl.val (PV.tup (List.map (A8 E Rn) L))),some (Sl.loc (.a8 (eD E (L.take i)))),some (Sl.loc (.lst (((L.take i).filterMap (i6 Rs)).map tT))),v6,v7,v8,v9]) ?_ ?_ ⟨_,_,_,_,rfl⟩
 ·rintro i p e hp ⟨v6,v7,v8,v9,rfl⟩
  rw[getElem?_map]at hp
  obtain⟨x,hx,rfl⟩:=map_eq_some_iff.mp hp
  have hxL:=mem_of_getElem? hx
  have hxN:=hLN x hxL
  have nx:x∉L.take i:=r6 Ln hx
  have tl:(L.take i).length<=L.length:=by rw[length_take];omega
  have fl:=List.length_filterMap_le (i6 Rs) (L.take i)
  have tk:L.take (i+1)=L.take i++[x]:=by rw[take_add_one,hx];rfl
  obtain⟨rs,er,h3,hps⟩:=acS qs ks x
  have ec:uW qs ks x= .tup [oP (uU qs ks x),.tup rs]:=by unfold uW;rw[er]
  have ho:gD 8 (oP (uU qs ks x))=true/\bK (oP (uU qs ks x)) (oP (uU qs ks x))=true:=by
   cases uU qs ks x with
   |none=>exact⟨rfl,LQ⟩
   |some y=>exact⟨rfl,kB (n:=1) rfl⟩
  have bP:∀n,rs.all (gD n)=true:=fun n=>all_eq_true.mpr fun p h=>by
   rcases hps p h with⟨s,rfl⟩|⟨i,rfl⟩<;>(cases n<;>rfl)
  have hok8:=bP 8
  have hrs:rs.all (gD 7)=true/\cO rs rs=true:=⟨bP 7,kF (n:=1) (fun h=>kB h) (all_eq_true.mpr fun p h=>by rcases hps p h with⟨s,rfl⟩|⟨i,rfl⟩<;>rfl)⟩
  cases hf:i6 Rs x with
  | some R=>
   have hRm:R∈Rs:=mem_of_find?_eq_some hf
   have hhd:R.head? =some x:=of_decide_eq_true (by have:=find?_some hf;exact this)
   obtain⟨he,hr⟩:=hc.hd R hRm x hhd
   have hfree:=(hRs.cut R hRm x hhd).free
   obtain⟨y,hy⟩:∃y,uU qs ks x=some y:=by
    obtain⟨n,k⟩:=(hRs.ring R hRm).zK (mem_of_head? hhd)
    cases c:uU qs ks x with
    |none=>rw[Rg.cW,c]at k;cases k
    |some y=>exact⟨y,rfl⟩
   have nh:cO rs [.str (Str.ofString "hand")]=false/\rs.all (gD 7)=true:=by
    rcases F9 (qs:=qs) hfree with e|e|⟨n,a,e⟩<;>(rw[er]at e;cases e;exact⟨rfl,rfl⟩)
   cases R with
   |nil=>cases hhd
   |cons h R=>
    cases hhd
    rw[show A8 E Rn x= .tup [.str x,.bA,FJ (x::R)] by unfold A8;rw[he,hr];rfl]
    walk_at "wp"
    rw[fQ,if_pos hxN,ec,hy,show oP (some y)=PV.str y from rfl]
    walk_at "wp"
    refine⟨fun h=>absurd h (by decide),fun _=>⟨by rw[dD];omega,⟨gO R 6,nh.2⟩,?_⟩⟩
    rw[fQ,if_pos hxN,ec,hy,show oP (some y)=PV.str y from rfl]
    walk_at "wp"
    rw[nh.1]
    walk_at "wp"
    have e1:eD E (L.take (i+1))=eR (eD E (L.take i)) (Sum.inr x) .bA:=by rw[tk,<-show eR (eD E (L.take i)) (Sum.inr x) (oP (E x))=eD E (L.take i++[x])from sC nx,he];rfl
    have e2:((L.take (i+1)).filterMap (i6 Rs)).map tT=((L.take i).filterMap (i6 Rs)).map tT++[tT (x::R)]:=by rw[tk,filterMap_append,map_append,List.filterMap_cons_some hf];rfl
    exact⟨hok8,fun h=>h.elim,by omega,_,_,_,_,by rw[e1,e2]⟩
  |none=>
   obtain⟨he,hr⟩:=hc.ot x (AI hf)
   rw[show A8 E Rn x= .tup [.str x,oP (uU qs ks x),.tup rs] by unfold A8;rw[he,hr,er]]
   walk_at "wp"
   rw[fQ,if_pos hxN,ec]
   walk_at "wp"
   rw[ho.2,hrs.2]
   walk_at "wp"
   refine⟨fun h=>absurd h (by decide),fun _=>⟨by rw[dD];omega,⟨ho.1,hrs.1⟩,fun h=>h.elim,by omega,K2 hps fun bs e hb=>?_⟩⟩
   have e1:eD E (L.take (i+1))=eR (eD E (L.take i)) (Sum.inr x) (oP (uU qs ks x)):=by rw[tk,<-show eR (eD E (L.take i)) (Sum.inr x) (oP (E x))=eD E (L.take i++[x])from sC nx,he]
   have e2:((L.take (i+1)).filterMap (i6 Rs)).map tT=((L.take i).filterMap (i6 Rs)).map tT:=by rw[tk,filterMap_append,List.filterMap_cons_none hf];simp
   walk_at "wp"
   rw[z8]
   walk_at "wp"
   rw[hb]
   walk_at "wp"
   exact⟨fun h=>h.elim,_,_,_,_,by rw[e1,e2]⟩
 ·rintro e ⟨v6,v7,v8,v9,rfl⟩
  rw[length_map,take_length,ca]
  walk_at "wp"
  refine OE g hss hl hk hkn hcr ?_
  walk_at "wp"
  rw[U5]
  have rl:=hRs.len
  refine⟨U3 Rs 7,?_⟩
  walk_at "wp"
  have hin:∀x y,E x=some y->uU qs ks x=some y:=fun x y h=>by
   cases hf:i6 Rs x with
   |none=>rw[<-(hc.ot x (AI hf)).1];exact h
   |some R=>
    have hRm:R∈Rs:=mem_of_find?_eq_some hf
    have hhd:R.head? =some x:=of_decide_eq_true (by have:=find?_some hf;exact this)
    rw[(hc.hd R hRm x hhd).1]at h;cases h
  have hcl:∀x y,E x=some y->y∈L:=fun x y h=>(Lm y).mpr ((uK qs ks y).mpr (w9 hkn nr (hin x y h)).2)
  have no:∀y,¬Rg.zK E y:=Rg.WO (up:=uU qs ks) (Rs:=Rs) (fun x c=>by
   have hx:x∈qP qs ks:=by
    refine(uK qs ks x).mpr (Classical.byContradiction fun h=>?_)
    obtain⟨n,k⟩:=c
    have:uU qs ks x=none:=by unfold uU;rw[x5 h]
    rw[Rg.cW,this]at k;cases k
   exact mem_flatten.mp (hRs.all x hx c)) hRs.ring (fun R hR h e=>(hc.hd R hR h e).1) hin
  rw[zQ,dD]
  refine⟨⟨by omega,?_⟩,fun h=>h.elim⟩
  refine dR (fun i acc e=>acc=(L.take i).map (fun _=>.bl true)/\∃s,e=[s,some (Sl.bor (PV.a8 (eD E L)))]) ?_ ?_ ⟨rfl,_,rfl⟩
  ·rintro i p e acc hx ⟨rfl,s,rfl⟩
   rw[getElem?_map]at hx
   obtain⟨y,hy,rfl⟩:=map_eq_some_iff.mp hx
   walk_at "wp"
   refine PF (by omega) (mem_of_getElem? hy) hcl no ?_
   walk_at "wp"
   exact⟨by rw[take_add_one,hy,map_append];rfl,_,rfl⟩
  ·rintro acc e ⟨rfl,s,rfl⟩
   rw[length_map,take_length,show(L.map fun _=>PV.bl true)=(L.map fun _=>true).map PV.bl by rw[map_map];rfl]
   walk_at "wp"
   rw[z8]
   walk_at "wp"
   rw[show(L.map fun _=>true).all id=true from all_eq_true.mpr fun b hb=>by obtain⟨_,_,rfl⟩:=mem_map.mp hb;rfl]
   exact q
end
section
open PySem L2 Mr
theorem U9 {ns:List Int} (hn:ns.length<=63):Wp (yT [.lst (ns.map PV.int)]) fun w=>w=(.bl true,[]):=by
 unfold yT ND
 walk_at "wp"
 refine GQ (by decide) (by decide) hn fun a b h=>?_
 walk_at "wp"
 refine cZ h (by decide) (by decide) (by decide) fun d a1 b1 c1 d0 d1 hp=>?_
 walk_at "wp"
 refine fN d0 d1 fun p hp'=>?_
 obtain⟨z,rfl,z0,z1⟩:∃z:Int,p= .int z/\0<z/\z<=40:=by
  simp only[mem_cons,not_mem_nil,or_false]at hp'
  rcases hp' with rfl|rfl|rfl<;>exact⟨_,rfl,by decide,by decide⟩
 walk_at "wp"
 refine cZ hp (by decide) z0 (by omega) fun e' a2 b2 c2 e0 e1 hp=>?_
 walk_at "wp"
 refine cZ hp (by decide) (by decide) (by decide) fun many a3 b3 c3 m0 m1 hp=>?_
 walk_at "wp"
 refine DY hn hp (by omega) (by omega) (by decide) fun zs a7 b7 c7 zl hz hp=>?_
 walk_at "wp"
 refine K0 hp (by omega) (by omega) (by omega) fun ss a10 b10 c10 sl hss hp=>?_
 walk_at "wp"
 refine SO (m:=1+e') sl hz (by omega) fun qs ll _ hq=>?_
 walk_at "wp"
 refine M7 hp (by omega) (by omega) m0 (by omega) (by omega) fun hs a11 b11 c11 hl mok nr hp=>?_
 have g:Good ss qs hs:=⟨hq,mok.nm⟩
 have g0:Good ss qs []:=⟨hq,fun _ h=>(nomatch h)⟩
 have g1:Good ss (qs.drop 1) hs:=⟨fun l hl=>hq l (List.mem_of_mem_drop hl),mok.nm⟩
 walk_at "wp"
 refine oX g (by omega) (by omega) (by omega) mok.nd nr ?_
 walk_at "wp"
 refine oX (ks:=[]) g0 (by omega) (by omega) (by simp) nodup_nil wG.nil ?_
 walk_at "wp"
 rw[show(1:Int)=((1:Nat):Int)from rfl,lU,<-map_drop]
 refine oX g1 (by omega) (by rw[length_drop];omega) (by omega) mok.nd nr ?_
 walk_at "wp"
 refine oX g (by omega) (by omega) (by omega) mok.nd nr ?_
 walk_at "wp"
theorem LH:∀ns:List Int,ns.length<=63->yT [.lst (ns.map PV.int)]=some (.bl true,[]):=fun ns hn=>(U9 hn).eq
end
theorem all_mk {w:World} {K:Frag} {h:Heap} {mg:Str->Option Value} {fa f0 f1 f2 f3 f4 f5 f6 f7 f8 f9 f10 f11 f12 f13 f14 f15 f16 f17 f18 f19 f20 f21 f22 f23 f24 f25 f26 f27:Addr} (X:K.In h) (G:h.Ns mainGlobals mg) (hfa:mg "law"=some (.ref fa))
  (h0:nZ K "elders" l6 f0)
  (h1:nZ K "standing" kP f1)
  (h2:nZ K "days_of" jZ f2)
  (h3:nZ K "rows_of" j9 f3)
  (h4:nZ K "claims_of" jH f4)
  (h5:nZ K "choice" oV f5)
  (h6:nZ K "choices" iA f6)
  (h7:nZ K "rings_in" k8 f7)
  (h8:nZ K "places" pB f8)
  (h9:nZ K "cut_one" gC f9)
  (h10:nZ K "begun_with" gW f10)
  (h11:nZ K "cut_rings" eI f11)
  (h12:nZ K "rings" sJ f12)
  (h13:nZ K "by_names" iM f13)
  (h14:nZ K "_law_hand" lD f14)
  (h15:nZ K "_law_take" kW f15)
  (h16:nZ K "_law_names" fG f16)
  (h17:nZ K "_law_letter" fM f17)
  (h18:nZ K "_law_letters" eW f18)
  (h19:nZ K "_law_pack" iN f19)
  (h20:nZ K "_law_climbs" gT f20)
  (h21:nZ K "_law_marks" jB f21)
  (h22:nZ K "_law_row" kH f22)
  (h23:nZ K "_law_standing" fV f23)
  (h24:nZ K "_law_table" jF f24)
  (h25:nZ K "_law_ends" k9 f25)
  (h26:nZ K "_law_right" eA f26)
  (h27:nZ K "law" ET f27)
  (eG:nsIn K mainGlobals "enumerate"=some none)
  (dG:nsIn K mainGlobals "tuple"=some none)
  (pP:nsIn K mainGlobals "min"=some none)
  (jT:nsIn K mainGlobals "len"=some none)
  (eU:nsIn K mainGlobals "sorted"=some none)
  (dP:nsIn K mainGlobals "range"=some none)
  (qH:nsIn K mainGlobals "list"=some none)
  (w8:nsIn K mainGlobals "str"=some none)
  (B7:nsIn K mainGlobals "int"=some none)
  (dF:nsIn K mainGlobals "isinstance"=some none)
  (sO:nsIn K mainGlobals "bool"=some none)
  (z9:nsIn K mainGlobals "any"=some none)
  (AB:nsIn K mainGlobals "all"=some none)
  :∃fd:FuncData,(∀(s:Shared) (v:Value),BindsTo s fd ⟨[v],[]⟩ [("_law_script",v)])/\∀base:Heap,K.In base->base.Ns mainGlobals mg->pA l.prog w K mg base OR 6 fa fd ["_law_script"] (BZ K):=by
 have T:Txt K mg:=⟨mg_none_of X G eG,mg_none_of X G dG,mg_none_of X G pP,mg_none_of X G jT,mg_none_of X G eU,mg_none_of X G dP,mg_none_of X G qH,mg_none_of X G w8,mg_none_of X G B7,mg_none_of X G dF,mg_none_of X G sO,mg_none_of X G z9,mg_none_of X G AB⟩
 have d0:Dx K mg "elders" l6 ["letter"]:=h0.dx X G (u7 fun _ _ _ _ _ _ _=>rfl)
 have d1:Dx K mg "standing" kP ["pack"]:=h1.dx X G (u7 fun _ _ _ _ _ _ _=>rfl)
 have d2:Dx K mg "days_of" jZ ["pack"]:=h2.dx X G (u7 fun _ _ _ _ _ _ _=>rfl)
 have d3:Dx K mg "rows_of" j9 ["pack"]:=h3.dx X G (u7 fun _ _ _ _ _ _ _=>rfl)
 have d4:Dx K mg "claims_of" jH ["pack"]:=h4.dx X G (u7 fun _ _ _ _ _ _ _=>rfl)
 have d5:Dx K mg "choice" oV ["held","rows","claimed","name"]:=h5.dx X G (adA fun _ _ _ _ _ _ _ _ _ _=>rfl)
 have d6:Dx K mg "choices" iA ["pack","marks","names"]:=h6.dx X G (IP fun _ _ _ _ _ _ _ _ _=>rfl)
 have d7:Dx K mg "rings_in" k8 ["above"]:=h7.dx X G (u7 fun _ _ _ _ _ _ _=>rfl)
 have d8:Dx K mg "places" pB ["pack","marks"]:=h8.dx X G (rG fun _ _ _ _ _ _ _ _=>rfl)
 have d9:Dx K mg "cut_one" gC ["ring","held","days"]:=h9.dx X G (IP fun _ _ _ _ _ _ _ _ _=>rfl)
 have d10:Dx K mg "begun_with" gW ["ring","name"]:=h10.dx X G (rG fun _ _ _ _ _ _ _ _=>rfl)
 have d11:Dx K mg "cut_rings" eI ["pack","marks","ties"]:=h11.dx X G (IP fun _ _ _ _ _ _ _ _ _=>rfl)
 have d12:Dx K mg "rings" sJ ["pack","marks"]:=h12.dx X G (rG fun _ _ _ _ _ _ _ _=>rfl)
 have d13:Dx K mg "by_names" iM ["pack","marks"]:=h13.dx X G (rG fun _ _ _ _ _ _ _ _=>rfl)
 have d14:Dx K mg "_law_hand" lD ["_law_script","_law_k"]:=h14.dx X G (rG fun _ _ _ _ _ _ _ _=>rfl)
 have d15:Dx K mg "_law_take" kW ["_law_hand_here","_law_many"]:=h15.dx X G (rG fun _ _ _ _ _ _ _ _=>rfl)
 have d16:Dx K mg "_law_names" fG ["_law_hand_here","_law_many"]:=h16.dx X G (rG fun _ _ _ _ _ _ _ _=>rfl)
 have d17:Dx K mg "_law_letter" fM ["_law_hand_here","_law_m"]:=h17.dx X G (rG fun _ _ _ _ _ _ _ _=>rfl)
 have d18:Dx K mg "_law_letters" eW ["_law_script","_law_hand_here","_law_m"]:=h18.dx X G (IP fun _ _ _ _ _ _ _ _ _=>rfl)
 have d19:Dx K mg "_law_pack" iN ["_law_letters_here","_law_names_here"]:=h19.dx X G (rG fun _ _ _ _ _ _ _ _=>rfl)
 have d20:Dx K mg "_law_climbs" gT ["_law_held","_law_here","_law_name"]:=h20.dx X G (IP fun _ _ _ _ _ _ _ _ _=>rfl)
 have d21:Dx K mg "_law_marks" jB ["_law_hand_here","_law_names_here","_law_many"]:=h21.dx X G (IP fun _ _ _ _ _ _ _ _ _=>rfl)
 have d22:Dx K mg "_law_row" kH ["_law_letter_here"]:=h22.dx X G (u7 fun _ _ _ _ _ _ _=>rfl)
 have d23:Dx K mg "_law_standing" fV ["_law_pack_here"]:=h23.dx X G (u7 fun _ _ _ _ _ _ _=>rfl)
 have d24:Dx K mg "_law_table" jF ["_law_pack_here","_law_marks_here"]:=h24.dx X G (rG fun _ _ _ _ _ _ _ _=>rfl)
 have d25:Dx K mg "_law_ends" k9 ["_law_ties","_law_name"]:=h25.dx X G (rG fun _ _ _ _ _ _ _ _=>rfl)
 have d26:Dx K mg "_law_right" eA ["_law_pack_here","_law_marks_here"]:=h26.dx X G (rG fun _ _ _ _ _ _ _ _=>rfl)
 have d27:Dx K mg "law" ET ["_law_script"]:=h27.dx X G (u7 fun _ _ _ _ _ _ _=>rfl)
 refine XB hfa d27 (u7 fun _ _ _ _ _ _ _=>rfl) (fun base=>?_) LH
 have G_elders:=HX (P:=l.prog) (w:=w) (base:=base) T d0
 have G_standing:=zN (P:=l.prog) (w:=w) (base:=base) T d1
 have G_choice:=I0 (P:=l.prog) (w:=w) (base:=base) T d5
 have G_rings_in:=AH (P:=l.prog) (w:=w) (base:=base) T d7
 have G_cut_one:=C0 (P:=l.prog) (w:=w) (base:=base) T d9
 have G_begun_with:=u6 (P:=l.prog) (w:=w) (base:=base) T d10
 have G_law_hand:=z7 (P:=l.prog) (w:=w) (base:=base) T d14
 have G_law_take:=B3 (P:=l.prog) (w:=w) (base:=base) T d15
 have G_law_pack:=B9 (P:=l.prog) (w:=w) (base:=base) T d19
 have G_law_climbs:=uX (P:=l.prog) (w:=w) (base:=base) T d20
 have G_law_row:=DJ (P:=l.prog) (w:=w) (base:=base) T d22
 have G_law_standing:=rK (P:=l.prog) (w:=w) (base:=base) T d23
 have G_law_ends:=BU (P:=l.prog) (w:=w) (base:=base) T d25
 have G_days_of:=EE (P:=l.prog) (w:=w) (base:=base) T d2 G_standing
 have G_rows_of:=DQ (P:=l.prog) (w:=w) (base:=base) T d3 G_elders G_standing
 have G_claims_of:=xI (P:=l.prog) (w:=w) (base:=base) T d4 G_standing G_elders
 have G_places:=HZ (P:=l.prog) (w:=w) (base:=base) T d8 G_standing G_elders
 have G_law_names:=y8 (P:=l.prog) (w:=w) (base:=base) T d16 G_law_take
 have G_law_letter:=uY (P:=l.prog) (w:=w) (base:=base) T d17 G_law_take
 have G_law_marks:=xB (P:=l.prog) (w:=w) (base:=base) T d21 G_law_take G_law_climbs
 have G_law_table:=xJ (P:=l.prog) (w:=w) (base:=base) T d24 G_law_standing G_law_row
 have G_choices:=CS (P:=l.prog) (w:=w) (base:=base) T d6 G_rows_of G_claims_of G_choice
 have G_cut_rings:=xE (P:=l.prog) (w:=w) (base:=base) T d11 G_days_of G_rings_in G_begun_with G_cut_one
 have G_law_letters:=tR (P:=l.prog) (w:=w) (base:=base) T d18 G_law_letter G_law_take G_law_hand
 have G_rings:=LN (P:=l.prog) (w:=w) (base:=base) T d12 G_cut_rings G_choices G_places
 have G_by_names:=BL (P:=l.prog) (w:=w) (base:=base) T d13 G_choices G_cut_rings G_places
 have G_law_right:=yU (P:=l.prog) (w:=w) (base:=base) T d26 G_law_table G_by_names G_rings G_law_ends
 exact ZC T d27 G_law_hand G_law_take G_law_letters G_law_names G_law_pack G_law_marks G_law_right
theorem walk {q:Program} {loose:List Str} {XP:(Str->Option Value)->Heap->Prop} {YP:World->Heap->Prop} {d:DefRec} {K:Params->Frag} (hn:l.most=some 63) (hdf:d.params.defaults=[])
  (hY:∀(w:World) (h:Heap),YP w h->(K w.params).In h)
  (F:∀(w:World) (mg:Str->Option Value) (fa:Addr) (h:Heap),(K w.params).In h->h.Ns mainGlobals mg->mg d.name=some (.ref fa)->
   ∃fd:FuncData,(∀(s:Shared) (u:Value),BindsTo s fd ⟨[u],[]⟩ [("_law_script",u)])/\∀base:Heap,(K w.params).In base->base.Ns mainGlobals mg->pA l.prog w (K w.params) mg base OR 6 fa fd ["_law_script"] (BZ (K w.params))):
  PySem.W.WalkO q loose XP YP l.row.toRowW d [] (fun f vs=>PySem.call f vs):=
 L2.QB (n:=63) (k:=6) (x:="_law_script") (CX:=fun _=>OR) (sp:=fun w=>BZ (K w.params)) hn (by decide) hdf ⟨rfl,by decide,by decide⟩ hY F (fun _ _ a ns hl _ hS=>⟨a,ns,rfl,hS,hl,fun _=>rfl⟩) fun _ _ _ _ _ z=>z
end My
namespace PySem.W.Fast
def tw2643362139105204343:=()
def tw14905445134513558824:=()
def tw1939221347874042257:=()
def tw8676862604540468618:=()
def tw725092762247805112:=()
def tw11859502994819832013:=()
def tw10082251996364347073:=()
def tw13827322512983038950:=()
def tw1482421052817419240:=()
def tw11390928609721010333:=()
def tw9647373953495095825:=()
def tw4959805298763886882:=()
def tw4911083262817638016:=()
def tw4784989768913704704:=()
def tw12339408743276610969:=()
def tw16039418712389633194:=()
def tw8770071044907288348:=()
def tw8602785086774631976:=()
def tw668395943027839274:=()
def tw14077437015994705545:=()
def tw3753361920800303707:=()
def tw451297992287939797:=()
def tw198820186368779801:=()
def tw874498934177240769:=()
def tw4040945032550948502:=()
def tw16795926818228930118:=()
def tw6661217789726334468:=()
def tw3833159891188384644:=()
def tw13407312953216510261:=()
def tw12181669728407834257:=()
def tw15777687539748465232:=()
def tw7455213645132335668:=()
def tw16708214671248540827:=()
def tw7998473997118536924:=()
def tw4600476086606360030:=()
def tw14295559155348798717:=()
def tw6758108453948413068:=()
def tw10501965164244842189:=()
def tw1367935260113055954:=()
def tw6738165014246143174:=()
def tw5919824685504744814:=()
def tw8184396702177608841:=()
def tw10986310992617000160:=()
def tw2713146300963125055:=()
def tw10115371189380064561:=()
def tw12593222363638354518:=()
def tw5370711519335135577:=()
def tw18061742385169219887:=()
def tw6282439193527324691:=()
def tw11607355177096041227:=()
def tw9798231371862485926:=()
def tw7723965169431557045:=()
def tw1319267160924759910:=()
def tw8782821381627694146:=()
def tw18316178205962325634:=()
def tw17293797410385156016:=()
def tw9249864889741544864:=()
def tw7457933565327611510:=()
def tw13681286150096367473:=()
def tw16602380603811938094:=()
def tw13166023347848485714:=()
def tw12297385808653062123:=()
def tw405003166196035328:=()
def tw9065832117408122095:=()
def tw12444861654908780309:=()
def tw8998928712225536975:=()
def tw2474838681957700267:=()
def tw7225960535035500124:=()
def tw16330749121904257878:=()
end PySem.W.Fast
open PySem PySem.W PyProof.Rows
set_option maxRecDepth 100000 in
set_option maxHeartbeats 0 in
theorem PySem.Challenge.cw_answertrees_k21_by_names_holds : PySem.Challenge.rw_answertrees_k21_by_names.Holds := by
 w_on;o_law;k_head;(case hw=>w_witness2)
 k_fill
 refine My.walk (l:=PySem.Challenge.rw_answertrees_k21_by_names) rfl rfl (fun w h Y=>PySem.W.kIn_of Y) ?F
 case F=>
  intro w mg fa h KX G hmg
  refine' My.all_mk KX G hmg ?h0 ?h1 ?h2 ?h3 ?h4 ?h5 ?h6 ?h7 ?h8 ?h9 ?h10 ?h11 ?h12 ?h13 ?h14 ?h15 ?h16 ?h17 ?h18 ?h19 ?h20 ?h21 ?h22 ?h23 ?h24 ?h25 ?h26 ?h27 ?eG ?dG ?pP ?jT ?eU ?dP ?qH ?w8 ?B7 ?dF ?sO ?z9 ?AB
  (case h0=>refine' Mr.cE ?a ?l ?c ?k;(case a=>k_is);(case l=>k_is);(case c=>k_is);(case k=>k_is))
  (case h1=>refine' Mr.cE ?a ?l ?c ?k;(case a=>k_is);(case l=>k_is);(case c=>k_is);(case k=>k_is))
  (case h2=>refine' Mr.cE ?a ?l ?c ?k;(case a=>k_is);(case l=>k_is);(case c=>k_is);(case k=>k_is))
  (case h3=>refine' Mr.cE ?a ?l ?c ?k;(case a=>k_is);(case l=>k_is);(case c=>k_is);(case k=>k_is))
  (case h4=>refine' Mr.cE ?a ?l ?c ?k;(case a=>k_is);(case l=>k_is);(case c=>k_is);(case k=>k_is))
  (case h5=>refine' Mr.cE ?a ?l ?c ?k;(case a=>k_is);(case l=>k_is);(case c=>k_is);(case k=>k_is))
  (case h6=>refine' Mr.cE ?a ?l ?c ?k;(case a=>k_is);(case l=>k_is);(case c=>k_is);(case k=>k_is))
  (case h7=>refine' Mr.cE ?a ?l ?c ?k;(case a=>k_is);(case l=>k_is);(case c=>k_is);(case k=>k_is))
  (case h8=>refine' Mr.cE ?a ?l ?c ?k;(case a=>k_is);(case l=>k_is);(case c=>k_is);(case k=>k_is))
  (case h9=>refine' Mr.cE ?a ?l ?c ?k;(case a=>k_is);(case l=>k_is);(case c=>k_is);(case k=>k_is))
  (case h10=>refine' Mr.cE ?a ?l ?c ?k;(case a=>k_is);(case l=>k_is);(case c=>k_is);(case k=>k_is))
  (case h11=>refine' Mr.cE ?a ?l ?c ?k;(case a=>k_is);(case l=>k_is);(case c=>k_is);(case k=>k_is))
  (case h12=>refine' Mr.cE ?a ?l ?c ?k;(case a=>k_is);(case l=>k_is);(case c=>k_is);(case k=>k_is))
  (case h13=>refine' Mr.cE ?a ?l ?c ?k;(case a=>k_is);(case l=>k_is);(case c=>k_is);(case k=>k_is))
  (case h14=>refine' Mr.cE ?a ?l ?c ?k;(case a=>k_is);(case l=>k_is);(case c=>k_is);(case k=>k_is))
  (case h15=>refine' Mr.cE ?a ?l ?c ?k;(case a=>k_is);(case l=>k_is);(case c=>k_is);(case k=>k_is))
  (case h16=>refine' Mr.cE ?a ?l ?c ?k;(case a=>k_is);(case l=>k_is);(case c=>k_is);(case k=>k_is))
  (case h17=>refine' Mr.cE ?a ?l ?c ?k;(case a=>k_is);(case l=>k_is);(case c=>k_is);(case k=>k_is))
  (case h18=>refine' Mr.cE ?a ?l ?c ?k;(case a=>k_is);(case l=>k_is);(case c=>k_is);(case k=>k_is))
  (case h19=>refine' Mr.cE ?a ?l ?c ?k;(case a=>k_is);(case l=>k_is);(case c=>k_is);(case k=>k_is))
  (case h20=>refine' Mr.cE ?a ?l ?c ?k;(case a=>k_is);(case l=>k_is);(case c=>k_is);(case k=>k_is))
  (case h21=>refine' Mr.cE ?a ?l ?c ?k;(case a=>k_is);(case l=>k_is);(case c=>k_is);(case k=>k_is))
  (case h22=>refine' Mr.cE ?a ?l ?c ?k;(case a=>k_is);(case l=>k_is);(case c=>k_is);(case k=>k_is))
  (case h23=>refine' Mr.cE ?a ?l ?c ?k;(case a=>k_is);(case l=>k_is);(case c=>k_is);(case k=>k_is))
  (case h24=>refine' Mr.cE ?a ?l ?c ?k;(case a=>k_is);(case l=>k_is);(case c=>k_is);(case k=>k_is))
  (case h25=>refine' Mr.cE ?a ?l ?c ?k;(case a=>k_is);(case l=>k_is);(case c=>k_is);(case k=>k_is))
  (case h26=>refine' Mr.cE ?a ?l ?c ?k;(case a=>k_is);(case l=>k_is);(case c=>k_is);(case k=>k_is))
  (case h27=>refine' Mr.cE ?a ?l ?c ?k;(case a=>k_is);(case l=>k_is);(case c=>k_is);(case k=>k_is))
  (case eG=>k_is)
  (case dG=>k_is)
  (case pP=>k_is)
  (case jT=>k_is)
  (case eU=>k_is)
  (case dP=>k_is)
  (case qH=>k_is)
  (case w8=>k_is)
  (case B7=>k_is)
  (case dF=>k_is)
  (case sO=>k_is)
  (case z9=>k_is)
  (case AB=>k_is)
#print axioms PySem.Challenge.cw_answertrees_k21_by_names_holds
