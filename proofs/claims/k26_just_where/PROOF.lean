import PyProof.Rows.All
import Wide.All
import OpenK.AllK
import Wide.FinOn
import Lean
import PyProof.EqAt
import PyProof.EqKinds
import PyProof.TupleCall
import PySem.Challenge.RW_answertrees_k26_just_where
open List (mem_filter filterMap_cons of_mem_zip length_singleton map_nil lookup_cons getElem_mem find?_cons any_cons length_cons length_nil nodup_nil ext_getElem perm_append_comm drop_drop append_assoc map_take map_drop getElem?_drop drop_eq_nil_of_le take_take mem_reverse drop_length foldl_cons toList_toArray any_map contains_iff_mem all_cons not_lt foldl_append getElem_map map_map cons_append nodup_append getElem_range all_nil perm_cons_erase take_succ find?_some find?_append getElem?_inj take_zero)
open Nat (lt_of_lt_of_le lt_irrefl le_trans le_of_lt le_of_not_lt le_of_eq lt_trans zero_lt_one le_add_right min_eq_left le_add_left zero_add sub_zero le_succ_of_le)
open Bool (false_eq_true or_eq_true not_eq_true' not_eq_true)
open Option (getD_none isSome_map getD_some none_or or_none toList_some bind_some)
open Array (length_toList toList_inj size_map toArray_toList)
open Int (toNat_natCast)
open PySem.Heap (lt_size get?_update_self size_push)
open PySem.W (Frag methodObj keepIn fnOf codeIn nsIn mg_of)
open PySem.F (slot_tuple_add entry_tuple_add args_tuple_add_2 slot_dict_get entry_dict_get plainAttrs_dict type_dict_get plainAttrs_list)
set_option compiler.extract_closed false
set_option Elab.async false
set_option linter.all false
set_option maxRecDepth 100000
abbrev ae:=@PySem.wpAny_bind
abbrev af:=@List.getElem?_eq_some_iff
abbrev ag:=@List.getElem?_eq_getElem
abbrev ah:=@List.length_map
abbrev ai:=@if_neg
abbrev aj:=@if_pos
abbrev ao:=@PySem.Heap.get?_push_of_some
abbrev aq:=@List.getElem?_map
abbrev au:=@Bool.false_ne_true
abbrev av:=@of_decide_eq_true
abbrev ax:=@PySem.wpAny_pure
abbrev ay:=@List.mem_cons_of_mem
abbrev az:=@List.getD_eq_getElem?_getD
abbrev ba:=@List.mem_cons_self
abbrev bf:=@Nat.le_refl
abbrev bg:=@List.all_eq_true
abbrev bh:=@List.mem_of_getElem?
abbrev bj:=@List.mem_append
abbrev bp:=@List.mem_map
abbrev bq:=@List.length_append
abbrev br:=@Option.map_eq_some_iff
abbrev bu:=@List.mem_singleton
abbrev bw:=@List.mem_cons
abbrev bz:=@Bool.and_eq_true
abbrev cc:=@PySem.Heap.get?_push_size
abbrev cf:=@PySem.Heap.lt_size
abbrev cm:=@Nat.ne_of_lt
abbrev cn:=@List.size_toArray
abbrev cp:=@List.mem_append_right
abbrev cq:=@Nat.lt_of_lt_of_le
abbrev cu:=@List.length_range
abbrev cv:=@PySem.PassesOwn.never
abbrev cw:=@congrArg
abbrev cx:=@List.map_append
abbrev cz:=@List.map_cons
abbrev dc:=@List.mem_of_mem_take
abbrev de:=@List.append_assoc
abbrev df:=@List.mem_flatMap
abbrev dg:=@PySem.wpAny_newObj_type
abbrev dh:=@List.getElem?_set_ne
abbrev di:=@PySem.wpAny_mono
abbrev dj:=@Nat.zero_le
abbrev dk:=@List.take_length
abbrev dm:=@beq_iff_eq
abbrev dq:=@List.append_nil
abbrev du:=@List.drop_eq_getElem_cons
abbrev dv:=@Nat.lt_succ_of_lt
abbrev dy:=@List.pairwise_append
abbrev dz:=@List.take_append_drop
abbrev eh:=@List.take_of_length_le
abbrev et:=@List.getElem?_set_self
abbrev eu:=@Classical.byContradiction
abbrev ff:=@List.length_drop
abbrev fj:=@Nat.le_trans
abbrev fm:=@List.take_add_one
abbrev fq:=@List.nodup_cons
abbrev fu:=@of_decide_eq_false
abbrev fw:=@PySem.Around.under_plainId
abbrev fx:=@List.length_take
abbrev fy:=@beq_self_eq_true
abbrev fz:=@PySem.mem_of_lookup
abbrev gd:=@List.drop_zero
abbrev gf:=@PySem.wpAny_holding
abbrev gh:=@List.find?_eq_none
abbrev gi:=@List.getElem?_append_right
abbrev gj:=@List.getElem?_append_left
abbrev gm:=@List.length_replicate
abbrev gn:=@PySem.F.plain_min_loop
abbrev gp:=@List.pairwise_cons
abbrev gq:=@Nat.le_of_lt
abbrev gu:=@PyProof.Rows.KeyOrd.kle_refl
abbrev gv:=@PySem.wpAny_call_entry
abbrev gw:=@Nat.zero_add
abbrev gx:=@List.getElem?_zipIdx
abbrev gy:=@PySem.codeAny_builtin
abbrev gV:=@PySem.Calls.callWith_builtin
abbrev ic:=@List.any_eq_true
abbrev ie:=@Nat.le_succ
abbrev ig:=@List.map_congr_left
abbrev ij:=@PyProof.Rows.slot_tuple_getitem
abbrev ik:=@PySem.sizeLine_eq
abbrev il:=@List.mem_append_left
abbrev ip:=@List.pairwise_iff_getElem
abbrev iq:=@List.getElem?_of_mem
abbrev ir:=@List.mem_of_mem_drop
abbrev iu:=@PySem.F.slot_list_append
abbrev iw:=@PySem.F.type_list_append
abbrev iz:=@List.getElem?_take
abbrev ja:=@List.length_zipIdx
abbrev jb:=@PySem.plainId_quiet
abbrev jc:=@List.map_map
abbrev jd:=@Int.emod_lt_of_pos
abbrev je:=@List.getElem_mem
abbrev jf:=@Nat.lt_irrefl
abbrev jg:=@PyProof.Rows.callWith_type1
abbrev jh:=@PySem.Calls.spliced_cons
abbrev ji:=@Nat.lt_succ_self
abbrev jj:=@PySem.tupleKind_room_in1
abbrev jk:=@List.any_eq_false
abbrev jl:=@PySem.wpAny_passesOwn
abbrev jm:=@Array.getD_eq_getD_getElem?
abbrev jn:=@List.Perm.append_left
abbrev jo:=@List.mem_filterMap
abbrev jq:=@PySem.F.slot_tuple_iterator_next
abbrev jr:=@Option.isSome_iff_exists
abbrev jt:=@PySem.Heap.get?_update_other
abbrev ju:=@decide_eq_true_eq
abbrev jv:=@List.length_set
abbrev jw:=@Array.perm_iff_toList_perm
abbrev jx:=@List.mem_of_find?_eq_some
abbrev jy:=@List.mem_range
abbrev jz:=@List.not_mem_nil
abbrev ka:=@Int.emod_nonneg
abbrev ke:=@Nat.lt_of_le_of_ne
abbrev kg:=@Nat.ne_of_gt
abbrev kh:=@List.perm_append_comm
abbrev km:=@PyProof.Rows.KeyOrd.kle_trans
abbrev kn:=@List.getElem?_replicate
abbrev ko:=@PySem.wpAny_callSpecial?_slot
abbrev kr:=@PySem.wpAny_getItem_str_slice
abbrev ku:=@Nat.add_le_add_left
abbrev kz:=@PySem.wpAny_pyIter_tuple
abbrev lg:=@Array.getElem?_toList
abbrev lh:=@PySem.W.mg_none_of
namespace L2
open PySem PySem.Spec PyProof.Rows
variable {a b it:Addr} {A:Around} {g':Array GenState} {X:Cx} {d':Drawn} {c e tg:Expr} {fd:FuncData} {base h:Heap} {H:Hp} {g:Int->Int->Int} {CX:J1} {pins:List (Addr×Obj)} {ch fp:List Addr} {es:List Expr} {body:List Stmt} {N ps:List Str} {xs:List V} {us:List Value} {M:Model} {i j k n t':Nat} {o:Obj} {op:Operator} {p pos pos':Pos} {P:Program} {K:Frag} {r:R2} {scope:Scope} {s:Shared} {sp:Sp} {σ:St} {qual x:Str} {kindOf:Str->Option NameKind} {mg:Str->Option Value} {ta:TA} {t te:TE} {tb:TS} {tc:TT} {α κ:Type} {y:V} {u v:Value} {E Q:Value->Shared->Prop} {f:Value->Value->Sem Value} {w:World}
abbrev Key:=Sum Int Str
noncomputable def nF:Key->Value->Bool
 | .inl k,v=>Value.isInt k v
 | .inr x,v=>Value.isStrOf x v
noncomputable def abF (w:World):Key->Int
 | .inl k=>hashInt k
 | .inr x=>hashStr w x
theorem cA:∀{k:Key} {v:Value},nF k v=true->(∃i t,k=Sum.inl i/\v=Value.int i t)\/ (∃x t,k=Sum.inr x/\v=Value.str x t)
 | .inl i,v,h=>by
  obtain⟨t,e⟩:=Value.isInt_shape (k:=i) (v:=v) h;exact .inl ⟨i,t,rfl,e⟩
 | .inr x,v,h=>by
  obtain⟨t,e⟩:=Value.isStrOf_shape (x:=x) (v:=v) h;exact .inr ⟨x,t,rfl,e⟩
theorem JO (i:Int) (t:Tok):nF (.inl i) (.int i t)=true:=by simp[nF,Value.isInt]
theorem JN (x:Str) (t:Tok):nF (.inr x) (.str x t)=true:=by simp[nF,Value.isStrOf]
theorem U8 (a b:Int):decide ((Sum.inl a:Key)=Sum.inl b)=(a==b):=by
 by_cases e:a=b
 .subst e;simp
 .have h:¬(Sum.inl a:Key)=Sum.inl b:=fun q=>e (Sum.inl.inj q)
  rw[decide_eq_false h];exact(beq_eq_false_iff_ne.mpr e).symm
theorem XX (a b:Str):decide ((Sum.inr a:Key)=Sum.inr b)=decide (a=b):=by
 by_cases e:a=b
 .subst e;simp
 .have h:¬(Sum.inr a:Key)=Sum.inr b:=fun q=>e (Sum.inr.inj q)
  rw[decide_eq_false h,decide_eq_false e]
theorem UA (a:Int) (b:Str):decide ((Sum.inl a:Key)=Sum.inr b)=false:=decide_eq_false (fun q=>nomatch q)
theorem VV (a:Str) (b:Int):decide ((Sum.inr a:Key)=Sum.inl b)=false:=decide_eq_false (fun q=>nomatch q)
noncomputable def bS (prog:Program) (w:World):PySem.KeyKind prog w Key where
 is:=nF
 hash:=abF w
 inj:=fun v a b ha hb=>by
  rcases cA ha with⟨i,t,rfl,rfl⟩|⟨x,t,rfl,rfl⟩
  .rcases cA hb with⟨j,u,rfl,e⟩|⟨y,u,rfl,e⟩
   .injection e with e1 _;rw[e1]
   .exact nomatch e
  .rcases cA hb with⟨j,u,rfl,e⟩|⟨y,u,rfl,e⟩
   .exact nomatch e
   .injection e with e1 _;rw[e1]
 byValue:=fun k v h=>by
  rcases cA h with⟨i,t,rfl,rfl⟩|⟨x,t,rfl,rfl⟩<;>rfl
 pyHash:=fun hv h=>by
  rcases cA hv with⟨i,t,rfl,rfl⟩|⟨x,t,rfl,rfl⟩
  .exact wpAny_pyHash_int h
  .exact wpAny_pyHash_str h
 eqBool:=fun hu hv h=>by
  rcases cA hu with⟨i,t,rfl,rfl⟩|⟨x,t,rfl,rfl⟩
  .rcases cA hv with⟨j,u,rfl,rfl⟩|⟨y,u,rfl,rfl⟩
   .rw[U8]at h;exact wpAny_eqBool_int h
   .rw[UA]at h;exact SeqAt.EqAt.int_str i t y u _ _ _ _ h
  .rcases cA hv with⟨j,u,rfl,rfl⟩|⟨y,u,rfl,rfl⟩
   .rw[VV]at h;exact SeqAt.EqAt.str_int x t j u _ _ _ _ h
   .rw[XX]at h;exact wpAny_eqBool_str h
 «strs»:=fun k x t v h=>by
  rcases cA h with⟨i,u,rfl,e⟩|⟨y,u,rfl,e⟩
  .exact nomatch e
  .injection e with e1 _
   subst e1;cases v<;>rfl
theorem CL (prog:Program) (w:World) (i:Int) (t:Tok):(bS prog w).is (.inl i) (.int i t)=true:=JO i t
theorem AX (prog:Program) (w:World) (x:Str) (t:Tok):(bS prog w).is (.inr x) (.str x t)=true:=JN x t
inductive V where
 |bD|bl (b:Bool)|int (i:Int)|str (x:Str)|YK (b:Array UInt8)|flt (b:UInt64)|ref (a:Addr)|ty (n:String)
 deriving DecidableEq
def RelV:V->Value->Prop
 | .bD,u=>u=Value.none
 | .bl b,u=>u=Value.bool b
 | .int i,u=>∃t,u=Value.int i t
 | .str x,u=>∃t,u=Value.str x t
 | .YK b,u=>∃t,u=Value.bytes b t
 | .flt b,u=>∃t,u=Value.float b t
 | .ref a,u=>u=Value.ref a
 | .ty n,u=>u=Value.type n
abbrev Vals:List V->List Value->Prop:=Paired RelV
theorem Vals.length (r:Vals xs us):xs.length=us.length:=Paired.length r
theorem Vals.get:∀{xs:List V} {us:List Value} {i:Nat} {x:V},Vals xs us->xs[i]? =some x->∃u,us[i]? =some u/\RelV x u
 |_,_,_,_,.nil,e=>by simp at e
 |_,_,0,_,.cons r _,e=>by simp at e;subst e;exact⟨_,rfl,r⟩
 |_,_,i+1,x,.cons _ t,e=>by
  obtain⟨u,h1,h2⟩:=Vals.get (i:=i) (x:=x) t (by simpa using e);exact⟨u,by simpa using h1,h2⟩
theorem Vals.set {x:V} (r:RelV x u):∀{xs:List V} {us:List Value} (i:Nat),Vals xs us->Vals (xs.set i x) (us.set i u)
 |_,_,_,.nil=>.nil
 |_,_,0,.cons _ t=>.cons r t
 |_,_,i+1,.cons q t=>.cons q (Vals.set r i t)
theorem Vals.append:∀{xs ys:List V} {us ws:List Value},Vals xs us->Vals ys ws->Vals (xs++ys) (us++ws)
 |_,_,_,_,.nil,s=>s
 |_,_,_,_,.cons r t,s=>.cons r (Vals.append t s)
theorem Vals.take:∀{xs:List V} {us:List Value} (n:Nat),Vals xs us->Vals (xs.take n) (us.take n)
 |_,_,0,_=>.nil
 |_,_,_+1,.nil=>.nil
 |_,_,n+1,.cons r t=>.cons r (Vals.take n t)
theorem Vals.drop:∀{xs:List V} {us:List Value} (n:Nat),Vals xs us->Vals (xs.drop n) (us.drop n)
 |_,_,0,r=>r
 |_,_,_+1,.nil=>.nil
 |_,_,n+1,.cons _ t=>Vals.drop n t
def tO:Option V->Option Value->Prop
 |some v,some u=>RelV v u
 |none,none=>True
 |_,_=>False
def KV:List (κ×V)->List (κ×Value)->Prop:=Paired fun(p:κ×V) (q:κ×Value)=>p.1=q.1/\RelV p.2 q.2
noncomputable def kV:Key->V
 | .inl i=>.int i
 | .inr x=>.str x
inductive HO where
 |lst (xs:List V)
 |tup (xs:List V)
 |dK (kvs:List (Key×V)) (ep:Nat)|dT (kvs:List (List Key×V))
 |set (S:Int->Bool) (n:Nat)
 |ins (C dx:Addr) (fs:List (Str×V))
 |own (x:Addr)
 |xd (fs:List (Str×V))
 |met (f x:Addr)
 |rng (lo hi:Int)
 |OY (o:Obj) (u:HO)
 |WC (ps:Array Value)
 |ext (φ:Heap->Prop)
abbrev Hp:=Addr->Option HO
noncomputable def upd (H:Hp) (a:Addr) (o:HO):Hp:=fun b=>if b=a then some o else H b
theorem aV {o:HO}:upd H a o a=some o:=by unfold upd;rw[aj rfl]
theorem aU {o:HO} (h:b≠a):upd H a o b=H b:=by unfold upd;rw[ai h]
theorem KP {o u:HO} (h:H a=some o) (h':H b=some u) (d:o≠u):a≠b:=by
 intro e;subst e;rw[h]at h';exact d (Option.some.inj h')
theorem bT {o:HO} (h:H a=some o) (h':H b=none):a≠b:=by
 intro e;subst e;rw[h]at h';cases h'
def qO (h:Heap) (a:Addr) (items:Array Value):Prop:=IsTup h a items/\∀o,h.get? a=some o->o.dict=none
theorem qO.new (h:Heap) (items:Array Value):qO (h.push {cls:=.type "tuple",data:=.seq items}) h.objs.size items:=⟨IsTup.new _ _,fun o e=>by rw[cc _ rfl]at e;cases e;rfl⟩
theorem qO.of {items:Array Value} {sl:Array (Option Value)} (e:h.get? a=some {cls:=.type "tuple",dict:=none,data:=.seq items n,slots:=sl}):qO h a items:=⟨⟨_,e,rfl,_,rfl⟩,fun o q=>by rw[e]at q;cases q;rfl⟩
section
variable (P:Program) (w:World)
def dD (H:Hp) (h:Heap) (a:Addr):HO->Prop
 | .lst xs=>xs.length<=sizeLine/\∃(its:List Value) (n:Nat),Vals xs its/\h.get? a=some {cls:=.type "list",data:=.seq its.toArray n}
 | .tup xs=>xs.length<=sizeLine/\∃its:List Value,Vals xs its/\qO h a its.toArray
 | .dK kvs ep=>kvs.length<=sizeLine/\(a==sysModules)=false/\∃vs,KV kvs vs/\h.DictAt (bS P w) a vs ep
 | .dT kvs=>kvs.length<=sizeLine/\(a==sysModules)=false/\∃xs:List (List Key×Addr×Value),
   Paired (fun(p:List Key×V) (q:List Key×Addr×Value)=>p.1=q.1/\H q.2.1=some (.tup (p.1.map kV))/\RelV p.2 q.2.2) kvs xs/\
   ∃o es ep,h.get? a=some o/\o.ExactDict/\o.data= .dict es ep/\es.toList=xs.map (entryOfKey (tupleKind (bS P w)))/\(xs.map (·.1)).Nodup
 | .set S n=>h.SetOf (intKind P w) a S n
 | .ins C dx fs=>H dx=some (.own a)/\fs.length<=1000/\dx≠a/\h.get? a=some (PySem.W.instObj C dx)/\
   ∃mA,h.Ns1 dx mA/\(∀f,tO (fs.lookup f) (mA f))/\PySem.Within mA (fs.map (·.1))
 | .own _=>∃o,h.get? a=some o
 | .xd fs=>∃mA,h.Ns1 a mA/\∀f,tO (fs.lookup f) (mA f)
 | .rng lo hi=>∃t u v,h.get? a=some {cls:=.type "range",data:=.fields #[.int lo t,.int hi u,.int 1 v]}
 | .OY o u=>h.get? a=some o/\dD H h a u
 | .WC ps=>h.get? a=some {cls:=.none,data:=.fields ps}
 | .met f x=>h.get? a=some (methodObj (.ref f) (.ref x))
 | .ext φ=>φ h/\(∃o,h.get? a=some o)/\∀h1 h2:Heap,φ h1->(∀o,h1.get? a=some o->h2.get? a=some o)->φ h2
def oT (H:Hp) (h:Heap):Prop:=∀a o,H a=some o->dD P w H h a o
end
section
variable {P:Program} {w:World} {H H':Hp} {h h':Heap} {a:Addr} {o:HO}
theorem dD.lt (x:dD P w H h a o):a<h.objs.size:=by
 cases o with
 |lst xs=>obtain⟨_,_,_,_,e⟩:=x;exact cf e
 |tup xs=>obtain⟨_,_,_,p⟩:=x;exact p.1.lt
 |dK kvs ep=>obtain⟨_,_,_,_,o,_,e,_⟩:=x;exact cf e
 |dT kvs=>obtain⟨_,_,_,_,o,_,_,e,_⟩:=x;exact cf e
 |set S n=>obtain⟨o,_,_,_,e,_⟩:=x;exact cf e
 |ins C dx fs=>obtain⟨_,_,_,e,_⟩:=x;exact cf e
 |own y=>obtain⟨_,e⟩:=x;exact cf e
 |xd fs=>obtain⟨_,⟨_,_,_,e,_⟩,_⟩:=x;exact cf e
 |rng lo hi=>obtain⟨_,_,_,e⟩:=x;exact cf e
 |OY ob u=>obtain⟨e,_⟩:=x;exact cf e
 |WC ps=>exact cf (show h.get? a=some _ from x)
 |met f y=>exact cf (show h.get? a=some _ from x)
 |ext φ=>obtain⟨_,⟨_,e⟩,_⟩:=x;exact cf e
theorem Paired.UU {β:Type} {F G:α->β->Prop}:∀{l₁:List α} {l₂:List β},Paired F l₁ l₂->(∀a b,F a b->G a b)->Paired G l₁ l₂
 |_,_,.nil,_=>.nil
 |_,_,.cons r t,f=>.cons (f _ _ r) (Paired.UU t f)
theorem dD.aK (x:dD P w H h a o) (k:∀b u,(b=a\/ H b=some (.own a))->h.get? b=some u->h'.get? b=some u)
  (ho:∀b,H b=some (.own a)->H' b=some (.own a)) (ht:∀b xs,H b=some (.tup xs)->H' b=some (.tup xs)):dD P w H' h' a o:=by
 induction o with
 |lst xs=>obtain⟨z,its,n,r,e⟩:=x;exact⟨z,its,n,r,k _ _ (.inl rfl) e⟩
 |tup xs=>obtain⟨z,its,r,⟨ob,e,c⟩,nd⟩:=x;exact⟨z,its,r,⟨ob,k _ _ (.inl rfl) e,c⟩,fun o' e'=>by rw[k _ _ (.inl rfl) e]at e';cases e';exact nd _ e⟩
 |dK kvs ep=>obtain⟨z,y,vs,r,ob,es,e,c⟩:=x;exact⟨z,y,vs,r,ob,es,k _ _ (.inl rfl) e,c⟩
 |dT kvs=>
  obtain⟨z,y,xs,r,ob,es,ep,e,c⟩:=x;exact⟨z,y,xs,Paired.UU r fun p q z=>⟨z.1,ht _ _ z.2.1,z.2.2⟩,ob,es,ep,k _ _ (.inl rfl) e,c⟩
 |set S n=>obtain⟨ob,es,ep,t,e,c⟩:=x;exact⟨ob,es,ep,t,k _ _ (.inl rfl) e,c⟩
 |ins C dx fs=>
  obtain⟨d,z,ne,e,mA,⟨od,es,ep,e2,c⟩,r⟩:=x;exact⟨ho _ d,z,ne,k _ _ (.inl rfl) e,mA,⟨od,es,ep,k _ _ (.inr d) e2,c⟩,r⟩
 |own y=>obtain⟨ob,e⟩:=x;exact⟨ob,k _ _ (.inl rfl) e⟩
 |xd fs=>obtain⟨mA,⟨od,es,ep,e,c⟩,r⟩:=x;exact⟨mA,⟨od,es,ep,k _ _ (.inl rfl) e,c⟩,r⟩
 |rng lo hi=>obtain⟨t,u,v,e⟩:=x;exact⟨t,u,v,k _ _ (.inl rfl) e⟩
 |OY ob u ih=>obtain⟨e,q⟩:=x;exact⟨k _ _ (.inl rfl) e,ih q⟩
 |WC ps=>
  have e:h.get? a=some {cls:=.none,data:=.fields ps}:=x;show h'.get? a=some {cls:=.none,data:=.fields ps};exact k a _ (.inl rfl) e
 |met f y=>
  have e:h.get? a=some (methodObj (.ref f) (.ref y)):=x;show h'.get? a=some (methodObj (.ref f) (.ref y));exact k a _ (.inl rfl) e
 |ext φ=>obtain⟨p,⟨o,e⟩,st⟩:=x;exact⟨st _ _ p fun o q=>k _ _ (.inl rfl) q,⟨o,k _ _ (.inl rfl) e⟩,st⟩
theorem oT.lt (x:oT P w H h) (e:H a=some o):a<h.objs.size:=(x a o e).lt
theorem oT.fresh (x:oT P w H h) (e:h.objs.size<=a):H a=none:=by
 cases q:H a with
 |none=>rfl
 |some u=>exact absurd (cq (x.lt q) e) (jf _)
theorem oT.kept (x:oT P w H h) (k:∀b u,h.get? b=some u->h'.get? b=some u):oT P w H h':=fun a o e=>
 (x a o e).aK (fun b u _ q=>k b u q) (fun _ q=>q) fun _ _ q=>q
theorem oT.laid (x:oT P w H h) (k:∀b u,h.get? b=some u->h'.get? b=some u) (hp:h.objs.size<=a) (new:dD P w (upd H a o) h' a o):oT P w (upd H a o) h':=fun b u e=>by
 have hn:=x.fresh hp
 by_cases hb:b=a
 .subst hb;rw[aV]at e;cases e;exact new
 .rw[aU hb]at e;exact(x b u e).aK (fun c v _ q=>k c v q) (fun c q=>by rw[aU (bT q hn)];exact q) fun c xs q=>by rw[aU (bT q hn)];exact q
end
def Rd (H:Hp) (a:Addr) (u:HO):Prop:=H a=some u\/ ∃o,H a=some (.OY o u)
theorem Rd.ok {a:Addr} {u:HO} (r:Rd H a u) (x:oT P w H h):dD P w H h a u:=by
 rcases r with r|⟨o,r⟩
 .exact x a u r
 .obtain⟨_,q⟩:=x a _ r;exact q
def YC:Option HO->Prop
 |some (.lst _)=>True
 |some (.dK _ _)=>True
 |some (.dT _)=>True
 |some (.set _ _)=>True
 |some (.ins _ _ _)=>True
 |some (.ext _)=>True
 |_=>False
section
variable {P:Program} {w:World} {H:Hp} {h h':Heap} {x e:Addr} {o':HO}
theorem oT.write (ok:oT P w H h) (mu:YC (H x)) (he:e=x\/ H e=some (.own x)) (k:∀b u,b≠e->h.get? b=some u->h'.get? b=some u) (heo:∃u,h'.get? e=some u)
  (new:dD P w (upd H x o') h' x o'):oT P w (upd H x o') h':=fun b u q=>by
 have nown:∀c y,H c=some (.own y)->c≠x:=fun c y r z=>by subst z;rw[r]at mu;exact mu
 have ntup:∀c xs,H c=some (.tup xs)->c≠x:=fun c xs r z=>by subst z;rw[r]at mu;exact mu
 by_cases hb:b=x
 .subst hb;rw[aV]at q;cases q;exact new
 .rw[aU hb]at q
  by_cases hbe:b=e
  .have q':H b=some (.own x):=by
    rcases he with z|z
    .exact absurd (hbe.trans z) hb
    .rw[hbe];exact z
   rw[q]at q';cases q'
   obtain⟨v,hv⟩:=heo;exact⟨v,by rw[hbe];exact hv⟩
  .refine(ok b u q).aK (fun c v hc r=>k c v ?_ r) (fun c r=>by rw[aU (nown c b r)];exact r) fun c xs r=>by rw[aU (ntup c xs r)];exact r
   rcases hc with rfl|hc
   .exact hbe
   .rintro rfl;rcases he with z|z
    .exact nown c b hc z
    .rw[hc]at z;cases z;exact hb rfl
end
structure Un (fs ex:List Addr) (H H':Hp) (h h':Heap):Prop where
 keep:∀b o,h.get? b=some o->H b=none->b∉fs->b∉ex->h'.get? b=some o
 slot:∀b o,h.get? b=some o->H b=none->b∈fs->b∉ex->∃sl,h'.get? b=some {o with slots:=sl}
 free:∀b o,h.get? b=some o->H b=none->b∉ex->H' b=none
 there:∀b o,h.get? b=some o->b∉ex->∃o',h'.get? b=some o'
 wY:∀b xs,H b=some (.tup xs)->H' b=some (.tup xs)
 uZ:∀b o u,H b=some (.OY o u)->H' b=some (.OY o u)
 wL:∀b ps,H b=some (.WC ps)->∃more,H' b=some (.WC (ps++more))
section
variable {fs fs' ex ex':List Addr} {H H1 H2:Hp} {h h1 h2 h':Heap} {a x e:Addr} {o:HO}
theorem Un.any (u:Un fs ex H H1 h h1) {ob:Obj} (q:h.get? b=some ob) (n:H b=none) (hx:b∉ex):∃sl,h1.get? b=some {ob with slots:=sl}:=by
 by_cases hb:b∈fs
 .exact u.slot b ob q n hb hx
 .exact⟨ob.slots,u.keep b ob q n hb hx⟩
theorem Un.kept (k:∀b u,h.get? b=some u->h'.get? b=some u):Un fs ex H H h h':=
 ⟨fun b ob q _ _ _=>k b ob q,fun b ob q _ _ _=>⟨ob.slots,k b ob q⟩,fun _ _ _ n _=>n,fun b ob q _=>⟨ob,k b ob q⟩,fun _ _ q=>q,fun _ _ _ q=>q,fun _ ps q=>⟨#[],by rw[q];simp⟩⟩
theorem Un.refl:Un fs ex H H h h:=Un.kept fun _ _ q=>q
theorem Un.laid (k:∀b u,h.get? b=some u->h'.get? b=some u) (hp:h.objs.size<=a) (hn:H a=none):Un fs ex H (upd H a o) h h' where
 keep:=fun b u q _ _ _=>k b u q
 slot:=fun b u q _ _ _=>⟨u.slots,k b u q⟩
 free:=fun b u q n _=>by rw[aU (cm (cq (cf q) hp))];exact n
 there:=fun b u q _=>⟨u,k b u q⟩
 wY:=fun b xs q=>by rw[aU (bT q hn)];exact q
 uZ:=fun b u xs q=>by rw[aU (bT q hn)];exact q
 wL:=fun b ps q=>⟨#[],by rw[aU (bT q hn),q];simp⟩
theorem Un.write (mu:YC (H x)) (he:e=x\/ H e=some (.own x)) (k:∀b u,b≠e->h.get? b=some u->h'.get? b=some u) (heo:∃u,h'.get? e=some u):Un fs ex H (upd H x o) h h':=by
 have hx:∀b,H b=none->b≠x:=fun b n z=>by subst z;rw[n]at mu;exact mu
 have hb:∀b,H b=none->b≠e:=fun b n z=>by
  subst z;rcases he with r|r
  .exact hx b n r
  .rw[n]at r;cases r
 have hm:∀b u,H b=some u->¬YC (some u)->b≠x:=fun b u q nm z=>by subst z;rw[q]at mu;exact nm mu
 refine⟨fun b u q n _ _=>k b u (hb b n) q,fun b u q n _ _=>⟨u.slots,k b u (hb b n) q⟩,fun b u q n _=>by rw[aU (hx b n)];exact n,fun b u q _=>?_,
  fun b xs q=>by rw[aU (hm b _ q fun z=>z)];exact q,fun b u xs q=>by rw[aU (hm b _ q fun z=>z)];exact q,fun b ps q=>⟨#[],by rw[aU (hm b _ q fun z=>z),q];simp⟩⟩
 by_cases hbe:b=e
 .subst hbe;exact heo
 .exact⟨u,k b u hbe q⟩
end
noncomputable def trk (h:Heap) (H:Hp):List Addr:=(List.range h.objs.size).filter fun a=>(H a).isSome
noncomputable def y9 (h:Heap) (H:Hp):Heap:=PySem.W.hideAll h (trk h H)
theorem HE (h:Heap) (H:Hp):(y9 h H).objs.size=h.objs.size:=PySem.W.hideAll_size _ _
theorem OQ (e:h.get? b=some o) (n:H b=none):(y9 h H).get? b=some o:=
 PySem.W.hideAll_get _ e fun hm=>by
  have q:(H b).isSome=true:=(mem_filter.mp hm).2;rw[n]at q;simp at q
theorem RA {H:Hp} {b:Addr} (e:(y9 h H).get? b=some o):h.get? b=some o/\H b=none:=by
 have e':h.get? b=some o:=PySem.W.of_hideAll (trk h H) e;refine⟨e',?_⟩;cases q:H b with
 |none=>rfl
 |some x=>
  have hm:b∈trk h H:=mem_filter.mpr ⟨jy.mpr (cf e'),by simp[q]⟩;have z:(y9 h H).get? b=none:=PySem.W.hideAll_none (trk h H) hm;rw[z]at e;cases e
structure Mod (K:Frag) (mg:Str->Option Value) (base:Heap):Prop where
 kin:K.In base
 glob:base.Ns mainGlobals mg
 blt:∃mb,base.Ns builtinsNs mb/\∀x:Str,x≠"__name__"->mb x=bootBuiltins x
 nolimit:base.NoLimit
structure Cx where
 prog:Program
 w:World
 K:Frag
 mg:Str->Option Value
 base:Heap
 A:Around
 N:List Str
 i9:Shared
 KY:Hp
 env:Env
 outer:List Env
 stack:List Env
 ex:List Addr
 fn:Str->Bool
 calm:Bool
 pn:List (Addr×Obj)
 xe:Value->Shared->Prop
noncomputable def IL (l:List Env):List Addr:=l.filterMap (·.frame)
noncomputable abbrev Cx.fs (X:Cx):List Addr:=IL X.outer
def Vis (sc:Scope) (x:Str):Prop:=sc.names.lookup x=some .local\/ sc.names.lookup x=some .cell\/ sc.names.lookup x=some .free
def Loc (sc:Scope) (x:Str):Prop:=sc.names.lookup x=some .local\/ sc.names.lookup x=some .cell
def Look (env:Env) (h:Heap) (m:Str->Option Value) (x:Str) (u:Value):Prop:=
 (env.kindOf x=some .local/\m x=some u)\/ ((env.kindOf x=some .cell\/ env.kindOf x=some .free)/\∃c,env.cells.lookup x=some c/\h.IsCell c (some u))
structure Cx.Ok (X:Cx):Prop where
 mod:Mod X.K X.mg X.base
 kind:X.env.scope.kind= .function
 glob:X.env.globals=mainGlobals
 blt:X.env.builtins=builtinsNs
 above:X.i9.heap.objs.size<=X.env.locals
 inj:∀x y c,X.env.cells.lookup x=some c->X.env.cells.lookup y=some c->x=y
 has:∀x,(X.env.kindOf x=some .cell\/ X.env.kindOf x=some .free)->∃c,X.env.cells.lookup x=some c
 X9:∀x c,X.fn x=true->X.env.cells.lookup x=some c->X.i9.heap.objs.size<=c
 hd:X.calm=true->X.A.handled=none
 frames:X.A.frames=some X.stack
 stk:X.stack=X.outer\/ (X.stack=X.env::X.outer/\X.env.frame=some X.env.locals)
 exf:∀b∈X.ex,b≠X.env.locals/\∀x c,X.env.cells.lookup x=some c->c≠b
 bs:∀b o,X.base.get? b=some o->X.i9.heap.get? b=some o/\X.KY b=none
 R3:X.base.objs.size<=X.i9.heap.objs.size
 JC:∀b o,X.base.get? b=some o->b∉X.ex
 BY:∀b∈X.ex,b∉X.fs
 tQ:X.i9.heap.FunFrames X.base X.outer
 XT:∀b∈X.fs,X.KY b=none
structure Inv (X:Cx) (pins:List (Addr×Obj)) (σ:List (Option V)) (H:Hp) (s:Shared):Prop where
 ok:X.Ok
 os:s.os=X.i9.os
 bare:AllBare s.gens
 base:Un X.fs X.ex X.KY H X.i9.heap s.heap
 loc:∃m,s.heap.Ns X.env.locals m/\∀(i:Nat) (x:Str) (v:V),X.N[i]? =some x->σ[i]? =some (some v)->Vis X.env.scope x->∃u,RelV v u/\Look X.env s.heap m x u
 cell:∀x c,X.env.cells.lookup x=some c->∃v,s.heap.IsCell c v
 free:H X.env.locals=none
 nC:∀x c,X.env.cells.lookup x=some c->H c=none
 pin:∀p∈X.pn++pins,s.heap.get? p.1=some p.2/\H p.1=none/\p.1≠X.env.locals/\p.1∉X.fs/\∀v,p.2.data≠ .cell v
 bQ:oT X.prog X.w H s.heap
 len:σ.length=X.N.length
section
variable {X:Cx} {pins:List (Addr×Obj)} {σ:List (Option V)} {H H':Hp} {s:Shared} {h':Heap}
theorem Cx.Ok.abE (ok:X.Ok) (e:X.base.get? b=some o):b∉X.fs:=fun hb=>by
 have:=(ok.tQ.mem hb).1;rw[e]at this;cases this
theorem Inv.bs (I:Inv X pins σ H s):∀b o,X.base.get? b=some o->s.heap.get? b=some o/\H b=none:=fun b o e=>
 ⟨I.base.keep b o (I.ok.bs b o e).1 (I.ok.bs b o e).2 (I.ok.abE e) (I.ok.JC b o e),I.base.free b o (I.ok.bs b o e).1 (I.ok.bs b o e).2 (I.ok.JC b o e)⟩
theorem Inv.bk (I:Inv X pins σ H s):∀b o,X.base.get? b=some o->s.heap.get? b=some o:=fun b o e=>(I.bs b o e).1
theorem Inv.mod (I:Inv X pins σ H s):Mod X.K X.mg X.base:=I.ok.mod
theorem Inv.YA (I:Inv X pins σ H s):X.K.In s.heap:=I.ok.mod.kin.keeps I.bk
theorem Inv.lt (I:Inv X pins σ H s):X.env.locals<s.heap.objs.size:=let⟨_,hn,_⟩:=I.loc;hn.lt
theorem Inv.sz (I:Inv X pins σ H s):X.i9.heap.objs.size<=s.heap.objs.size:=fj I.ok.above (gq I.lt)
theorem Inv.Y9 (I:Inv X pins σ H s) (h:s.heap.objs.size<=a):a∉X.fs:=fun hb=>by
 obtain⟨_,o,ho,_⟩:=I.ok.tQ.mem hb;exact absurd (cq (cf ho) (fj I.sz h)) (jf _)
theorem Inv.UD (I:Inv X pins σ H s):∀x c,X.env.cells.lookup x=some c->c≠X.env.locals:=fun x c e z=>by
 obtain⟨v,o,ho,hd⟩:=I.cell x c e;obtain⟨m,⟨o',es,ep,ho',hd',_⟩,_⟩:=I.loc;rw[z,ho']at ho;cases ho;rw[hd']at hd;cases hd
theorem Inv.tQ (I:Inv X pins σ H s):s.heap.FunFrames X.base X.outer:=by
 have all:∀(l:List Env),(∀b∈IL l,b∈X.fs)->X.i9.heap.FunFrames X.base l->s.heap.FunFrames X.base l:=by
  intro l
  induction l with
  |nil=>intro _ _;trivial
  |cons env r ih=>
   intro hs hl;obtain⟨hk,⟨L,o,hf,hn,ho,hd⟩,hr⟩:=hl;have hL:L∈X.fs:=hs L (by unfold IL;rw[filterMap_cons,hf];exact ba);obtain⟨sl,e⟩:=I.base.slot L o ho (I.ok.XT L hL) hL fun z=>I.ok.BY L z hL
   exact⟨hk,⟨L,_,hf,hn,e,hd⟩,ih (fun b hb=>hs b (by unfold IL;rw[filterMap_cons,hf];exact ay _ hb)) hr⟩
 exact all X.outer (fun _ hb=>hb) I.ok.tQ
theorem Inv.stack (I:Inv X pins σ H s):s.heap.FunFrames X.base X.stack:=by
 rcases I.ok.stk with e|⟨e,hf⟩
 .rw[e];exact I.tQ
 .rw[e];obtain⟨m,hn,_⟩:=I.loc;refine .cons (by rw[I.ok.kind];decide) hf hn ?_ I.tQ;exact Heap.get?_none_of_le (fj I.ok.R3 I.ok.above)
theorem Inv.D9 (I:Inv X pins σ H s):∀b∈IL X.stack,b∈X.env.locals::X.fs:=fun b hb=>by
 rcases I.ok.stk with e|⟨e,hf⟩
 .rw[e]at hb;exact ay _ hb
 .rw[e]at hb;unfold IL at hb;rw[filterMap_cons,hf]at hb;exact hb
theorem Inv.GJ (I:Inv X pins σ H s):∀b∈IL X.stack,H b=none:=fun b hb=>by
 rcases bw.mp (I.D9 b hb)with e|hb
 .rw[e];exact I.free
 .obtain⟨_,o,ho,_⟩:=I.ok.tQ.mem hb;exact I.base.free b o ho (I.ok.XT b hb) fun z=>I.ok.BY b z hb
theorem Inv.step (I:Inv X pins σ H s)
  (hch:∀b∈ch,(b∈X.ex\/ X.i9.heap.objs.size<=b)/\b≠X.env.locals/\(∀x c,X.env.cells.lookup x=some c->c≠b)/\∀p∈X.pn++pins,p.1≠b)
  (keep:∀b o,b≠X.env.locals->b∉X.fs->b∉ch->s.heap.get? b=some o->H b=none->h'.get? b=some o)
  (slot:∀b o,b≠X.env.locals->b∈X.fs->b∉ch->s.heap.get? b=some o->H b=none->∃sl,h'.get? b=some {o with slots:=sl}) (free:∀b o,b∉ch->s.heap.get? b=some o->H b=none->H' b=none)
  (there:∀b o,b∉ch->s.heap.get? b=some o->∃o',h'.get? b=some o')
  (wY:∀b xs,H b=some (.tup xs)->H' b=some (.tup xs)) (uZ:∀b o u,H b=some (.OY o u)->H' b=some (.OY o u)) (wL:∀b ps,H b=some (.WC ps)->∃more,H' b=some (.WC (ps++more)))
  (ns:∀m,s.heap.Ns X.env.locals m->h'.Ns X.env.locals m) (bQ:oT X.prog X.w H' h') (hg:AllBare g'):
  Inv X pins σ H' {s with heap:=h',gens:=g',drawn:=d',toks:=t'}:=by
 have neL:∀b o,X.i9.heap.get? b=some o->b≠X.env.locals:=fun b o e=>cm (cq (cf e) I.ok.above)
 have neC:∀b o,X.i9.heap.get? b=some o->b∉X.ex->b∉ch:=fun b o e hx hb=>by
  rcases(hch b hb).1 with z|z
  .exact hx z
  .exact absurd (cq (cf e) z) (jf _)
 have cellK:∀x c,X.env.cells.lookup x=some c->∀v,s.heap.IsCell c v->h'.IsCell c v:=fun x c e v ⟨o,ho,hd⟩=>by
  have nch:c∉ch:=fun z=>(hch c z).2.2.1 x c e rfl
  by_cases hc:c∈X.fs
  .obtain⟨sl,q⟩:=slot c o (I.UD x c e) hc nch ho (I.nC x c e);exact⟨_,q,hd⟩
  .exact⟨o,keep c o (I.UD x c e) hc nch ho (I.nC x c e),hd⟩
 refine⟨I.ok,I.os,hg,⟨fun b o e n hb hx=>?_,fun b o e n hb hx=>?_,fun b o e n hx=>?_,fun b o e hx=>?_,fun b xs e=>wY b xs (I.base.wY b xs e),fun b o xs e=>uZ b o xs (I.base.uZ b o xs e),fun b ps e=>?_⟩,?_,fun x c e=>?_,?_,fun x c e=>?_,fun p hp=>?_,bQ,I.len⟩
 .exact keep b o (neL b o e) hb (neC b o e hx) (I.base.keep b o e n hb hx) (I.base.free b o e n hx)
 .obtain⟨sl,e1⟩:=I.base.slot b o e n hb hx;obtain⟨sl',e2⟩:=slot b _ (neL b o e) hb (neC b o e hx) e1 (I.base.free b o e n hx);exact⟨sl',e2⟩
 .obtain⟨o',e1⟩:=I.base.there b o e hx;exact free b o' (neC b o e hx) e1 (I.base.free b o e n hx)
 .obtain⟨o',e1⟩:=I.base.there b o e hx;exact there b o' (neC b o e hx) e1
 .obtain⟨m1,e1⟩:=I.base.wL b ps e;obtain⟨m2,e2⟩:=wL b _ e1;exact⟨m1++m2,by rw[e2,Array.append_assoc]⟩
 .obtain⟨m,hn,hl⟩:=I.loc;refine⟨m,ns m hn,fun i x v e1 e2 e3=>?_⟩;obtain⟨u,r,l⟩:=hl i x v e1 e2 e3;refine⟨u,r,?_⟩;rcases l with l|⟨k,c,e,z⟩
  .exact .inl l
  .exact .inr ⟨k,c,e,cellK x c e _ z⟩
 .obtain⟨v,z⟩:=I.cell x c e;exact⟨v,cellK x c e v z⟩
 .obtain⟨m,⟨o,_,_,ho,_⟩,_⟩:=I.loc;exact free _ o (fun z=>(hch _ z).2.1 rfl) ho I.free
 .obtain⟨v,o,ho,hd⟩:=I.cell x c e;exact free c o (fun z=>(hch c z).2.2.1 x c e rfl) ho (I.nC x c e)
 .obtain⟨e,n,ne,nf,d⟩:=I.pin p hp;have nch:p.1∉ch:=fun z=>(hch p.1 z).2.2.2 p hp rfl
  exact⟨keep p.1 p.2 ne nf nch e n,free p.1 p.2 nch e n,ne,nf,d⟩
theorem Inv.un (I:Inv X pins σ H s) (u:Un X.fs [] H H' s.heap h') (bQ:oT X.prog X.w H' h'):Inv X pins σ H' {s with heap:=h',toks:=t'}:=by
 obtain⟨m,⟨o,es,ep,ho,r⟩,_⟩:=id I.loc;obtain⟨sl,hL⟩:=u.any ho I.free (by simp);exact I.step (g':=s.gens) (d':=s.drawn) (ch:=[]) (fun _ z=>nomatch z) (fun b o _ hb _ e n=>u.keep b o e n hb (by simp)) (fun b o _ hb _ e n=>u.slot b o e n hb (by simp)) (fun b o _ e n=>u.free b o e n (by simp)) (fun b o _ e=>u.there b o e (by simp)) u.wY u.uZ u.wL (fun m' hm=>by
  obtain⟨o',es',ep',ho',r'⟩:=hm;rw[ho]at ho';cases ho'
  exact⟨_,es',ep',hL,r'⟩) bQ I.bare
theorem Inv.call (I:Inv X pins σ H s) (u:Un (IL X.stack) ch H H' s.heap h') (bQ:oT X.prog X.w H' h') (hg:AllBare g')
  (hch:∀b∈ch,(b∈X.ex\/ X.i9.heap.objs.size<=b)/\b≠X.env.locals/\(∀x c,X.env.cells.lookup x=some c->c≠b)/\∀p∈X.pn++pins,p.1≠b):
  Inv X pins σ H' {s with heap:=h',gens:=g',drawn:=d',toks:=t'}:=by
 obtain⟨m,⟨o,es,ep,ho,r⟩,_⟩:=id I.loc;obtain⟨sl,hL⟩:=u.any ho I.free fun z=>(hch _ z).2.1 rfl
 exact I.step (ch:=ch) hch (fun b o hL hb hc e n=>u.keep b o e n (fun z=>(bw.mp (I.D9 b z)).elim hL hb) hc) (fun b o _ _ hc e n=>u.any e n hc) (fun b o hc e n=>u.free b o e n hc) (fun b o hc e=>u.there b o e hc) u.wY u.uZ u.wL (fun m' hm=>by
  obtain⟨o',es',ep',ho',r'⟩:=hm;rw[ho]at ho';cases ho'
  exact⟨_,es',ep',hL,r'⟩) bQ hg
theorem Inv.turned (I:Inv X pins σ H s) (k:∀b o,b≠it->s.heap.get? b=some o->h'.get? b=some o) (hn:H it=none) (hL:it≠X.env.locals)
  (h1:it∈X.ex\/ X.i9.heap.objs.size<=it) (h2:∀x c,X.env.cells.lookup x=some c->c≠it) (h3:∀p∈X.pn++pins,p.1≠it):Inv X pins σ H {s with heap:=h',toks:=t'}:=by
 have nit:∀b u,H b=some u->b≠it:=fun b u e z=>by rw[z,hn]at e;cases e
 refine I.step (g':=s.gens) (d':=s.drawn) (ch:=[it]) (fun b hb=>?_) (fun b o _ _ hc e _=>k b o (fun z=>hc (by simp[z])) e) (fun b o _ _ hc e _=>⟨o.slots,k b o (fun z=>hc (by simp[z])) e⟩) (fun _ _ _ _ n=>n)
  (fun b o hc e=>⟨o,k b o (fun z=>hc (by simp[z])) e⟩) (fun _ _ e=>e) (fun _ _ _ e=>e) (fun b ps e=>⟨#[],by rw[e];simp⟩) (fun m hm=>?_) (fun b u e=>?_) I.bare
 .have e:b=it:=by simpa using hb
  subst e;exact⟨h1,hL,h2,h3⟩
 .obtain⟨o,es,ep,ho,r⟩:=hm;exact⟨o,es,ep,k _ o (Ne.symm hL) ho,r⟩
 .refine(I.bQ b u e).aK (fun c v hc q=>k c v ?_ q) (fun _ q=>q) fun _ _ q=>q
  rcases hc with z|z
  .rw[z];exact nit b u e
  .exact nit c _ z
theorem Inv.tok (I:Inv X pins σ H s) (t:Nat):Inv X pins σ H {s with toks:=t}:=I.un (h':=s.heap) (t':=t) Un.refl I.bQ
theorem Inv.kept (I:Inv X pins σ H s) (k:∀b u,s.heap.get? b=some u->h'.get? b=some u):Inv X pins σ H {s with heap:=h',toks:=t'}:=I.un (Un.kept k) (I.bQ.kept k)
theorem Inv.laid {o:HO} (I:Inv X pins σ H s) (k:∀b u,s.heap.get? b=some u->h'.get? b=some u) (hp:s.heap.objs.size<=a) (new:dD X.prog X.w (upd H a o) h' a o):
  Inv X pins σ (upd H a o) {s with heap:=h',toks:=t'}:=I.un (Un.laid k hp (I.bQ.fresh hp)) (I.bQ.laid k hp new)
theorem Inv.write {x e:Addr} {o:HO} (I:Inv X pins σ H s) (mu:YC (H x)) (he:e=x\/ H e=some (.own x)) (k:∀b u,b≠e->s.heap.get? b=some u->h'.get? b=some u) (heo:∃u,h'.get? e=some u)
  (new:dD X.prog X.w (upd H x o) h' x o):Inv X pins σ (upd H x o) {s with heap:=h',toks:=t'}:=I.un (Un.write mu he k heo) (I.bQ.write mu he k heo new)
theorem Inv.uE {pins':List (Addr×Obj)} (I:Inv X pins σ H s) (h:∀p∈pins',s.heap.get? p.1=some p.2/\H p.1=none/\p.1≠X.env.locals/\p.1∉X.fs/\∀v,p.2.data≠ .cell v):Inv X pins' σ H s:=
 ⟨I.ok,I.os,I.bare,I.base,I.loc,I.cell,I.free,I.nC,fun p hp=>(bj.mp hp).elim (fun z=>I.pin p (il _ z)) (h p),I.bQ,I.len⟩
theorem BO (hN:N.Nodup) (a:N[i]? =some x) (b:N[j]? =some x):i=j:=by
 obtain⟨h1,e1⟩:=af.mp a;obtain⟨h2,e2⟩:=af.mp b;exact(List.getElem_inj hN).mp (e1.trans e2.symm)
theorem IG {x:Str} {v:V} {Q:Unit->Shared->Prop} (I:Inv X pins σ H s) (hN:X.N.Nodup) (hi:X.N[i]? =some x) (hx:Loc X.env.scope x) (r:RelV v u)
  (h:∀s',Inv X pins (σ.set i (some v)) H s'->(∃a,Heap.SameBut a s.heap s'.heap/\(a=X.env.locals\/ X.env.cells.lookup x=some a))->Q () s') (hf:X.fn x=true\/ X.env.scope.names.lookup x=some .local:=by first|exact .inl rfl|exact .inr rfl|assumption):wpAny M A (storeName X.env x u) Q E s:=by
 obtain⟨m,hn,hl⟩:=id I.loc;have hcls:(X.env.scope.kind== .class||(X.env.scope.kind== .module && X.env.locals !=X.env.globals))=false:=by rw[I.ok.kind];rfl
 have hiσ:i<σ.length:=by rw[I.len];exact(af.mp hi).1
 have UD:=I.UD;have tracked:∀{a:Addr} {h':Heap},(∃o,s.heap.get? a=some o/\H a=none)->Heap.SameBut a s.heap h'->oT X.prog X.w H h':=fun{a h'} ha hs b ob e=>by
  obtain⟨_,_,hfree⟩:=ha;refine(I.bQ b ob e).aK (fun c w' hc q=>(hs.2 c ?_).trans q) (fun _ q=>q) fun _ _ q=>q
  rintro rfl;rcases hc with rfl|hc
  .rw[hfree]at e;cases e
  .rw[hfree]at hc;cases hc
 rcases hx with hk|hk
 .refine wpAny_storeName_local hk hn (fun h' hn' hs=>?_) hcls;obtain⟨oL,_,_,hoL,_⟩:=id hn;refine h _ ⟨I.ok,I.os,I.bare,⟨fun b o e n hb hx=>?_,fun b o e n hb hx=>?_,I.base.free,fun b o e hx=>?_,I.base.wY,I.base.uZ,I.base.wL⟩,⟨_,hn',fun j y v' e1 e2 e3=>?_⟩,fun y c e=>?_,I.free,I.nC,fun p hp=>?_,tracked ⟨oL,hoL,I.free⟩ hs,by simpa using I.len⟩ ⟨_,hs,.inl rfl⟩
  .exact(hs.2 b (cm (cq (cf e) I.ok.above))).trans (I.base.keep b o e n hb hx)
  .obtain⟨sl,e1⟩:=I.base.slot b o e n hb hx;exact⟨sl,(hs.2 b (cm (cq (cf e) I.ok.above))).trans e1⟩
  .obtain⟨o',e1⟩:=I.base.there b o e hx;exact⟨o',(hs.2 b (cm (cq (cf e) I.ok.above))).trans e1⟩
  .by_cases hj:j=i
   .subst hj;rw[hi]at e1;cases e1
    rw[et hiσ]at e2;cases e2;exact⟨u,r,.inl ⟨hk,by simp⟩⟩
   .rw[dh (Ne.symm hj)]at e2;obtain⟨u',r',q⟩:=hl j y v' e1 e2 e3;refine⟨u',r',?_⟩;rcases q with⟨k,e⟩|⟨k,c,e,z⟩
    .refine .inl ⟨k,?_⟩;have:y≠x:=fun e=>hj (BO hN e1 (e▸hi))
     simp[this,e]
    .exact .inr ⟨k,c,e,z.sameBut hs (UD y c e)⟩
  .obtain⟨w',z⟩:=I.cell y c e;exact⟨w',z.sameBut hs (UD y c e)⟩
  .obtain⟨e,n,ne,nf,d⟩:=I.pin p hp;exact⟨(hs.2 p.1 ne).trans e,n,ne,nf,d⟩
 .have hfn:X.fn x=true:=by
   rcases hf with z|z
   .exact z
   .rw[z]at hk;cases hk
  obtain⟨c,hc⟩:=I.ok.has x (.inl hk);obtain⟨w',z⟩:=I.cell x c hc;refine wpAny_storeName_cell I.ok.kind hk hc z (fun h' hc' hs=>?_);obtain⟨oc,hoc,hocd⟩:=id z;refine h {s with heap:=h'} ⟨I.ok,I.os,I.bare,⟨fun b o e n hb hx=>?_,fun b o e n hb hx=>?_,I.base.free,fun b o e hx=>?_,I.base.wY,I.base.uZ,I.base.wL⟩,⟨m,hn.sameBut hs (Ne.symm (UD x c hc)),fun j y v' e1 e2 e3=>?_⟩,fun y c' e=>?_,I.free,I.nC,fun p hp=>?_,tracked ⟨oc,hoc,I.nC x c hc⟩ hs,by simpa using I.len⟩ ⟨c,hs,.inr hc⟩
  .exact(hs.2 b (cm (cq (cf e) (I.ok.X9 x c hfn hc)))).trans (I.base.keep b o e n hb hx)
  .obtain⟨sl,e1⟩:=I.base.slot b o e n hb hx;exact⟨sl,(hs.2 b (cm (cq (cf e) (I.ok.X9 x c hfn hc)))).trans e1⟩
  .obtain⟨o',e1⟩:=I.base.there b o e hx;exact⟨o',(hs.2 b (cm (cq (cf e) (I.ok.X9 x c hfn hc)))).trans e1⟩
  .by_cases hj:j=i
   .subst hj;rw[hi]at e1;cases e1
    rw[et hiσ]at e2;cases e2;exact⟨u,r,.inr ⟨.inl hk,c,hc,hc'⟩⟩
   .rw[dh (Ne.symm hj)]at e2;obtain⟨u',r',q⟩:=hl j y v' e1 e2 e3;refine⟨u',r',?_⟩;rcases q with q|⟨k,c',e,z'⟩
    .exact .inl q
    .refine .inr ⟨k,c',e,z'.sameBut hs ?_⟩;rintro rfl;exact hj (BO hN e1 (I.ok.inj _ _ _ e hc▸hi))
  .by_cases hcc:c'=c
   .subst hcc;exact⟨_,hc'⟩
   .obtain⟨w2,z2⟩:=I.cell y c' e;exact⟨w2,z2.sameBut hs hcc⟩
  .obtain⟨e,n,ne,nf,d⟩:=I.pin p hp;refine⟨(hs.2 p.1 ?_).trans e,n,ne,nf,d⟩;intro q;rw[q,hoc]at e;have q':oc=p.2:=Option.some.inj e;exact d w' (by rw[<-q'];exact hocd)
theorem lM {v:V} {Q:Unit->Shared->Prop} (I:Inv X pins σ H s) (hN:X.N.Nodup) (hi:X.N[i]? =some x) (hx:Loc X.env.scope x) (r:RelV v u)
  (h:∀s',Inv X pins (σ.set i (some v)) H s'->Q () s') (hf:X.fn x=true\/ X.env.scope.names.lookup x=some .local:=by first|exact .inl rfl|exact .inr rfl|assumption):wpAny M A (storeName X.env x u) Q E s:=
 IG I hN hi hx r (fun s' I' _=>h s' I') hf
theorem Inv.NT {s':Shared} (I:Inv X pins σ H s) (ho:s'.os=s.os) (u:Un (IL X.stack) ch H H' s.heap s'.heap) (bQ:oT X.prog X.w H' s'.heap) (hg:AllBare s'.gens)
  (hch:∀b∈ch,(b∈X.ex\/ X.i9.heap.objs.size<=b)/\b≠X.env.locals/\(∀x c,X.env.cells.lookup x=some c->c≠b)/\∀p∈X.pn++pins,p.1≠b):Inv X pins σ H' s':=by
 obtain⟨h',g',d',t',o'⟩:=s';have e:o'=s.os:=ho;subst e;exact I.call (g':=g') (t':=t') (d':=d') u bQ hg hch
end
abbrev XK:=Value->Option Addr->Hp->Prop
abbrev St:=List (Option V)
abbrev VK:=V->Hp->Prop
abbrev TE:=St->Hp->VK->Prop
abbrev TT:=St->Hp->(Bool->Hp->Prop)->Prop
abbrev TA:=St->Hp->(List V->Hp->Prop)->Prop
structure Ends where
 nx:St->Hp->Prop
 rt:VK
 bk:St->Hp->Prop:=fun _ _=>False
 ct:St->Hp->Prop:=fun _ _=>False
abbrev TS:=Ends->St->Hp->Prop
def EP (X:Cx) (pins:List (Addr×Obj)) (σ:St) (Q:VK) (u:Value) (s':Shared):Prop:=∃v H',Inv X pins σ H' s'/\RelV v u/\Q v H'
def TP (X:Cx) (pins:List (Addr×Obj)) (σ:St) (Q:Bool->Hp->Prop) (b:Bool) (s':Shared):Prop:=∃H',Inv X pins σ H' s'/\Q b H'
def AP (X:Cx) (pins:List (Addr×Obj)) (σ:St) (Q:List V->Hp->Prop) (us:List Value) (s':Shared):Prop:=∃vs H',Inv X pins σ H' s'/\Vals vs us/\Q vs H'
def SP (X:Cx) (pins:List (Addr×Obj)) (D:Ends) (f:Flow) (s':Shared):Prop:=
 match f with
 | .next=>∃σ' H',Inv X pins σ' H' s'/\D.nx σ' H'
 | .brk=>∃σ' H',Inv X pins σ' H' s'/\D.bk σ' H'
 | .cont=>∃σ' H',Inv X pins σ' H' s'/\D.ct σ' H'
 | .ret u=>∃v σ' H',Inv X pins σ' H' s'/\RelV v u/\D.rt v H'
def PE (X:Cx) (e:Expr) (t:TE):Prop:=
 ∀(pins:List (Addr×Obj)) (s:Shared) (σ:St) (H:Hp) (Q:VK),Inv X pins σ H s->t σ H Q->wpAny (model X.prog X.w) X.A (eval e X.env) (EP X pins σ Q) X.xe s
def PT (X:Cx) (e:Expr) (t:TT):Prop:=
 ∀(pins:List (Addr×Obj)) (s:Shared) (σ:St) (H:Hp) (Q:Bool->Hp->Prop),Inv X pins σ H s->t σ H Q->wpAny (model X.prog X.w) X.A (isTrue e X.env (eval e X.env)) (TP X pins σ Q) X.xe s
def PW (X:Cx) (e:Expr) (t:TT):Prop:=
 ∀(whole:Sem Value) (pins:List (Addr×Obj)) (s:Shared) (σ:St) (H:Hp) (Q:Bool->Hp->Prop),Inv X pins σ H s->t σ H Q->wpAny (model X.prog X.w) X.A (isTrue e X.env whole) (TP X pins σ Q) X.xe s
theorem PW.pt {t:TT} (h:PW X e t):PT X e t:=h _
def PA (X:Cx) (es:List Expr) (t:TA):Prop:=
 ∀(pos:Pos) (pins:List (Addr×Obj)) (s:Shared) (σ:St) (H:Hp) (Q:List V->Hp->Prop),Inv X pins σ H s->t σ H Q->wpAny (model X.prog X.w) X.A (spliced (backTo pos (starEach es X.env))) (AP X pins σ Q) X.xe s
def PS (X:Cx) (st:Stmt) (t:TS):Prop:=
 ∀(pins:List (Addr×Obj)) (s:Shared) (σ:St) (H:Hp) (D:Ends),Inv X pins σ H s->t D σ H->wpAny (model X.prog X.w) X.A (exec st X.env) (SP X pins D) X.xe s
def FU (X:Cx) (st:List Stmt) (t:TS):Prop:=
 ∀(pins:List (Addr×Obj)) (s:Shared) (σ:St) (H:Hp) (D:Ends),Inv X pins σ H s->t D σ H->wpAny (model X.prog X.w) X.A (execs st X.env) (SP X pins D) X.xe s
theorem cL {t:Sem α} {Q Q':α->Shared->Prop} (h:wpAny M A t Q E s) (hQ:∀a s,Q a s->Q' a s):wpAny M A t Q' E s:=di h hQ fun _ _ x=>x
section
variable {X:Cx}
def y8 (i:Nat):TE:=fun σ H Q=>∃v,σ[i]? =some (some v)/\Q v H
def tC (v:V):TE:=fun _ H Q=>Q v H
theorem W9 {i:Nat} {x:Str} (hN:X.N[i]? =some x) (hv:Vis X.env.scope x) (hd:(x==("__debug__":Str))=false:=by decide) (hcd:(x==("__classdict__":Str))=false:=by decide):PE X (.Name x pos) (y8 i):=by
 intro pins s σ H Q I h;obtain⟨v,e,h⟩:=h;obtain⟨m,hn,hl⟩:=I.loc;obtain⟨u,r,l⟩:=hl i x v hN e hv;have fin:EP X pins σ Q u s:=⟨v,H,I,r,h⟩;rcases l with⟨hk,hm⟩|⟨hk,c,hc,hcell⟩
 .exact wpAny_Name (wpAny_loadName_local I.ok.kind hk hn hm fin) hd
 .rcases hk with hk|hk
  .exact wpAny_Name (wpAny_loadName_cell I.ok.kind hk hc hcell fin) hd
  .exact wpAny_Name (wpAny_loadName_free I.ok.kind hk hc hcell fin hcd) hd
theorem aG {i j pos}:PE X (.Constant (.int i) j pos) (tC (.int i)):=fun _ _ _ H _ I h=>wpAny_Constant_int ⟨.int i,H,I.tok _,⟨_,rfl⟩,h⟩
theorem nH {b j pos}:PE X (.Constant (.bool b) j pos) (tC (.bl b)):=fun _ _ _ H _ I h=>Constant_bool ⟨.bl b,H,I,rfl,h⟩
theorem eM {j pos}:PE X (.Constant .none j pos) (tC .bD):=fun _ _ _ H _ I h=>Constant_none ⟨.bD,H,I,rfl,h⟩
theorem dN {x j pos}:PE X (.Constant (.str x) j pos) (tC (.str x)):=fun _ _ _ H _ I h=>Calls.Constant_str ⟨.str x,H,I.tok _,⟨_,rfl⟩,h⟩
def Gl (X:Cx) (x:Str):Prop:=X.env.kindOf x=some .globalImplicit
theorem RE (I:Inv X pins σ H s) (hg:Gl X x) (hm:X.mg x=some u) (h:Q u s)
  (hd:(x==("__debug__":Str))=false:=by decide):wpAny (model X.prog X.w) X.A (eval (.Name x pos) X.env) Q E s:=
 Calls.Name_function_global I.ok.kind hg (Calls.loadGlobal_global (by rw[I.ok.glob];exact I.mod.glob.keeps I.bk) hm h) hd
theorem vL (I:Inv X pins σ H s) (hg:Gl X x) (hm:X.mg x=none) (hv:bootBuiltins x=some u) (h:Q u s)
  (hn:x≠"__name__":=by decide) (hd:(x==("__debug__":Str))=false:=by decide):wpAny (model X.prog X.w) X.A (eval (.Name x pos) X.env) Q E s:=by
 obtain⟨mb,h1,h2⟩:=I.mod.blt;exact Calls.Name_function_global I.ok.kind hg (Calls.loadGlobal_builtin (by rw[I.ok.glob];exact I.mod.glob.keeps I.bk) hm (by rw[I.ok.blt];exact h1.keeps I.bk) ((h2 x hn).trans hv) h) hd
variable {a b:Expr} {ta tb:TE} {pos:Pos}
def tB (t:TE):TT:=fun σ H Q=>t σ H fun x H1=>∃c,x= .bl c/\Q c H1
theorem WT (h:PE X e t) (he:∀whole,isTrue e X.env whole=(do let v<-whole;standAt e.pos;holding [v] (truthy v)):=by intro _;rfl):PT X e (tB t):=by
 intro pins s σ H Q I hw;refine isTrue_plain (cL (h pins s σ H _ I hw) fun v s1 ⟨x,H1,I1,r1,q1⟩=>?_) (he _);obtain⟨d,rfl,q⟩:=q1;cases r1;exact wpAny_truthy_bool ⟨H1,I1,q⟩
variable {tA tB':TT} {rest:List Expr}
def YI (t u:TT):TT:=fun σ H Q=>t σ H fun c H1=>if c=true then u σ H1 Q else Q false H1
def tOr (t u:TT):TT:=fun σ H Q=>t σ H fun c H1=>if c=true then Q true H1 else u σ H1 Q
def ZF (t:TT):TT:=fun σ H Q=>t σ H fun c H1=>Q (!c) H1
theorem q5 (ha:PT X a tA):PW X (.BoolOp .And [a] pos) tA:=by
 intro wh pins s σ H Q I h;refine isTrue_and (cL (ha pins s σ H Q I h) fun c s1 e=>?_);cases c with
 |true=>exact isTrue_and_nil e
 |false=>exact e
theorem VI (ha:PT X a tA):PW X (.BoolOp .Or [a] pos) tA:=by
 intro wh pins s σ H Q I h;refine isTrue_or (cL (ha pins s σ H Q I h) fun c s1 e=>?_);cases c with
 |false=>exact isTrue_or_nil e
 |true=>exact e
theorem vJ (ha:PT X a tA) (hb:PW X (.BoolOp .And (b::rest) pos) tB'):PW X (.BoolOp .And (a::b::rest) pos) (YI tA tB'):=by
 intro wh pins s σ H Q I h;refine isTrue_and (cL (ha pins s σ H _ I h) fun c s1 ⟨H1,I1,q1⟩=>?_);cases c with
 |true=>exact hb wh pins s1 σ H1 Q I1 q1
 |false=>exact⟨H1,I1,q1⟩
theorem Z6 (ha:PT X a tA) (hb:PW X (.BoolOp .Or (b::rest) pos) tB'):PW X (.BoolOp .Or (a::b::rest) pos) (tOr tA tB'):=by
 intro wh pins s σ H Q I h;refine isTrue_or (cL (ha pins s σ H _ I h) fun c s1 ⟨H1,I1,q1⟩=>?_);cases c with
 |true=>exact⟨H1,I1,q1⟩
 |false=>exact hb wh pins s1 σ H1 Q I1 q1
theorem WK (ha:PT X a tA):PT X (.UnaryOp .Not a pos) (ZF tA):=by
 intro pins s σ H Q I h;exact isTrue_not (ha pins s σ H (fun c H1=>Q (!c) H1) I h)
def T4 (ta tb:TE):TE:=fun σ H Q=>ta σ H fun x H1=>∃c,x= .bl c/\if c=true then tb σ H1 Q else Q (.bl false) H1
theorem WB {op} (h:PE X a t):PE X (.BoolOp op [a] pos) t:=fun pins s σ H Q I hw=>BoolOp_one (h pins s σ H Q I hw)
theorem LX (ha:PE X a ta) (hb:PE X (.BoolOp .And (b::rest) pos) tb):PE X (.BoolOp .And (a::b::rest) pos) (T4 ta tb):=by
 intro pins s σ H Q I h;refine BoolOp_and (cL (ha pins s σ H _ I h) fun v s1 ⟨x,H1,I1,r1,q1⟩=>?_);obtain⟨c,rfl,q1⟩:=q1;cases r1;refine wpAny_truthy_bool ?_;cases c with
 |true=>exact hb pins s1 σ H1 Q I1 q1
 |false=>exact⟨.bl false,H1,I1,rfl,q1⟩
def tIf (t:TT) (ta tb:TE):TE:=fun σ H Q=>t σ H fun c H1=>if c=true then ta σ H1 Q else tb σ H1 Q
theorem rN (hc:PT X c tA) (ha:PE X a ta) (hb:PE X b tb):PE X (.IfExp c a b pos) (tIf tA ta tb):=by
 intro pins s σ H Q I h;refine wpAny_IfExp (cL (hc pins s σ H _ I h) fun d s1 ⟨H1,I1,q1⟩=>?_);cases d with
 |true=>exact ha pins s1 σ H1 Q I1 q1
 |false=>exact hb pins s1 σ H1 Q I1 q1
end
def k7 (K:Frag) (H:Hp) (a:Addr) (xs:List V):Prop:=
 Rd H a (.lst xs)\/
  ∃(o:Obj) (its:Array Value) (n:Nat),K.lookup a=some o/\o.cls= .type "list"/\o.dict=none/\o.data= .seq its n/\its.size<=sizeLine/\Vals xs its.toList
def qB (K:Frag) (H:Hp) (a:Addr) (xs:List V):Prop:=
 Rd H a (.tup xs)\/
  ∃(o:Obj) (its:Array Value) (n:Nat),K.lookup a=some o/\o.cls= .type "tuple"/\o.data= .seq its n/\its.size<=sizeLine/\Vals xs its.toList
noncomputable def acJ:Value->Option V
 | .none=>some .bD
 | .bool b=>some (.bl b)
 | .int i _=>some (.int i)
 | .str x _=>some (.str x)
 | .bytes b _=>some (.YK b)
 | .float b _=>some (.flt b)
 | .ref a=>some (.ref a)
 | .type n=>some (.ty n)
 |_=>none
theorem RelV.abs {x:V} (r:RelV x u):acJ u=some x:=by
 cases x with
 |bD=>cases r;rfl
 |bl _=>cases r;rfl
 |int _=>obtain⟨t,rfl⟩:=r;rfl
 |str _=>obtain⟨t,rfl⟩:=r;rfl
 |YK _=>obtain⟨t,rfl⟩:=r;rfl
 |flt _=>obtain⟨t,rfl⟩:=r;rfl
 |ref _=>cases r;rfl
 |ty _=>cases r;rfl
theorem RelV.inj {x:V} (r:RelV x u) (q:RelV y u):x=y:=Option.some.inj (r.abs.symm.trans q.abs)
theorem Vals.inj:∀{xs ys:List V} {us:List Value},Vals xs us->Vals ys us->xs=ys
 |_,_,_,.nil,.nil=>rfl
 |_,_,_,.cons r t,.cons r' t'=>by rw[r.inj r',Vals.inj t t']
section
variable {X:Cx} {pins:List (Addr×Obj)} {σ:St} {H:Hp} {s:Shared} {a:Addr} {xs ys:List V}
theorem k7.of (h:H a=some (.lst xs)):k7 K H a xs:=.inl (.inl h)
theorem qB.of (h:H a=some (.tup xs)):qB K H a xs:=.inl (.inl h)
theorem Inv.list (I:Inv X pins σ H s) (h:k7 X.K H a xs):∃its:List Value,Vals xs its/\PlainL s.heap a its.toArray/\xs.length<=sizeLine:=by
 rcases h with h|⟨o,its,n,hk,hc,hd,hs,hz,r⟩
 .obtain⟨z,its,n,r,e⟩:=h.ok I.bQ;exact⟨its,r,⟨_,n,e,rfl,rfl,rfl⟩,z⟩
 .refine⟨its.toList,r,⟨o,n,I.YA a o hk,hc,hd,by simpa using hs⟩,?_⟩;have e:=r.length;simp only[length_toList]at e;omega
theorem Inv.tuple (I:Inv X pins σ H s) (h:qB X.K H a xs):∃its:List Value,Vals xs its/\IsTup s.heap a its.toArray/\xs.length<=sizeLine:=by
 rcases h with h|⟨o,its,n,hk,hc,hs,hz,r⟩
 .obtain⟨z,its,r,p⟩:=h.ok I.bQ;exact⟨its,r,p.1,z⟩
 .refine⟨its.toList,r,⟨o,I.YA a o hk,hc,n,by simpa using hs⟩,?_⟩;have e:=r.length;simp only[length_toList]at e;omega
theorem Inv.A2 (I:Inv X pins σ H s) (h:k7 X.K H a xs) (h':k7 X.K H a ys):xs=ys:=by
 obtain⟨its,r,⟨o,n,e,_,_,d⟩,_⟩:=I.list h;obtain⟨its',r',⟨o',n',e',_,_,d'⟩,_⟩:=I.list h';rw[e]at e';cases e'
 rw[d]at d';injection d' with d1 _
 have:its=its':=by simpa using cw Array.toList d1
 subst this;exact r.inj r'
theorem Inv.xC (I:Inv X pins σ H s) (h:qB X.K H a xs) (h':qB X.K H a ys):xs=ys:=by
 obtain⟨its,r,⟨o,e,_,n,d⟩,_⟩:=I.tuple h;obtain⟨its',r',⟨o',e',_,n',d'⟩,_⟩:=I.tuple h';rw[e]at e';cases e'
 rw[d]at d';injection d' with d1 _
 have:its=its':=by simpa using cw Array.toList d1
 subst this;exact r.inj r'
end
noncomputable abbrev Cx.wX (X:Cx) (E:Value->Shared->Prop):Cx:={X with xe:=E}
noncomputable abbrev Cx.nox (X:Cx):Cx:=X.wX fun _ _=>False
theorem Cx.Ok.wX (ok:X.Ok) (E:Value->Shared->Prop):(X.wX E).Ok:=
 ⟨ok.mod,ok.kind,ok.glob,ok.blt,ok.above,ok.inj,ok.has,ok.X9,ok.hd,ok.frames,ok.stk,ok.exf,ok.bs,ok.R3,ok.JC,ok.BY,ok.tQ,ok.XT⟩
theorem Cx.Ok.nA (ok:(X.wX E).Ok):X.Ok:=
 ⟨ok.mod,ok.kind,ok.glob,ok.blt,ok.above,ok.inj,ok.has,ok.X9,ok.hd,ok.frames,ok.stk,ok.exf,ok.bs,ok.R3,ok.JC,ok.BY,ok.tQ,ok.XT⟩
section
variable {X:Cx} {pins:List (Addr×Obj)} {σ:St} {H:Hp} {s:Shared} {E:Value->Shared->Prop}
theorem Inv.wX (I:Inv X pins σ H s) (E:Value->Shared->Prop):Inv (X.wX E) pins σ H s:=⟨I.ok.wX E,I.os,I.bare,I.base,I.loc,I.cell,I.free,I.nC,I.pin,I.bQ,I.len⟩
theorem Inv.nA (I:Inv (X.wX E) pins σ H s):Inv X pins σ H s:=⟨I.ok.nA,I.os,I.bare,I.base,I.loc,I.cell,I.free,I.nC,I.pin,I.bQ,I.len⟩
theorem SP.nA {D:Ends} {f:Flow} {s':Shared} (h:SP (X.wX E) pins D f s'):SP X pins D f s':=by
 cases f with
 |next=>obtain⟨σ',H',I,q⟩:=h;exact⟨σ',H',I.nA,q⟩
 |brk=>obtain⟨σ',H',I,q⟩:=h;exact⟨σ',H',I.nA,q⟩
 |cont=>obtain⟨σ',H',I,q⟩:=h;exact⟨σ',H',I.nA,q⟩
 |ret u=>obtain⟨v,σ',H',I,r,q⟩:=h;exact⟨v,σ',H',I.nA,r,q⟩
theorem FU.nox {st:List Stmt} {t:TS} (h:FU X.nox st t):FU X st t:=fun pins s σ H D I hw=>
 di (h pins s σ H D (I.wX _) hw) (fun _ _ q=>q.nA) fun _ _ z=>False.elim z
end
section
variable {X:Cx} {st:Stmt} {rest:List Stmt} {t u:TS} {e:Expr} {te:TE} {pos:Pos}
def LW:TS:=fun D σ H=>D.nx σ H
def PU (t u:TS):TS:=fun D σ H=>t {D with nx:=u D} σ H
theorem cD:FU X [] LW:=fun _ _ σ H _ I h=>wpAny_execs_nil ⟨σ,H,I,h⟩
theorem aE (h1:PS X st t) (h2:FU X rest u):FU X (st::rest) (PU t u):=by
 intro pins s σ H D I h;refine wpAny_execs_cons (cL (h1 pins s σ H {D with nx:=u D} I h) fun f s1 q=>?_);cases f with
 |next=>
  obtain⟨σ',H',I',q⟩:=q;exact h2 pins s1 σ' H' D I' q
 |ret v=>exact q
 |brk=>exact q
 |cont=>exact q
theorem aL (h1:PS X st t):FU X [st] t:=by
 intro pins s σ H D I h;refine wpAny_execs_cons (cL (h1 pins s σ H D I h) fun f s1 q=>?_);cases f with
 |next=>exact wpAny_execs_nil q
 |ret v=>exact q
 |brk=>exact q
 |cont=>exact q
theorem Inv.quiet (I:Inv X pins σ H s):interactive X.env=false:=by simp[interactive,I.ok.kind]
def OJ (te:TE):TS:=fun D σ H=>te σ H fun _ H1=>D.nx σ H1
theorem qT (he:PE X e te) (hs:swapsWith e none pos.line X.env=pure false:=by rfl):PS X (.Expr e pos) (OJ te):=by
 intro pins s σ H D I h;exact wpAny_Expr_any (cL (he pins s σ H _ I h) fun v s1 ⟨x,H1,I1,r1,q1⟩=>⟨σ,H1,I1,q1⟩) I.quiet hs
def XJ (te:TE):TS:=fun D σ H=>te σ H D.rt
theorem bU (he:PE X e te):PS X (.Return (some e) pos) (XJ te):=by
 intro pins s σ H D I h;exact wpAny_Return_some (cL (he pins s σ H _ I h) fun v s1 ⟨x,H1,I1,r1,q1⟩=>⟨x,σ,H1,I1,r1,q1⟩)
def XF (c:TT) (t u:TS):TS:=fun D σ H=>c σ H fun b H1=>if b=true then t D σ H1 else u D σ H1
theorem dU {a b:List Stmt} (hc:PT X c tc) (ha:FU X a t) (hb:FU X b u):PS X (.If c a b pos) (XF tc t u):=by
 intro pins s σ H D I h;refine wpAny_If (cL (hc pins s σ H _ I h) fun d s1 ⟨H1,I1,q1⟩=>?_);cases d with
 |true=>exact ha pins s1 σ H1 D I1 q1
 |false=>exact hb pins s1 σ H1 D I1 q1
end
abbrev TG:=V->St->Hp->(St->Hp->Prop)->Prop
abbrev E8:=List V->St->Hp->(St->Hp->Prop)->Prop
def PG (X:Cx) (target:Expr) (t:TG):Prop:=
 ∀(pins:List (Addr×Obj)) (s:Shared) (σ:St) (H:Hp) (v:V) (u:Value) (Q:St->Hp->Prop),Inv X pins σ H s->RelV v u->t v σ H Q->
  wpAny (model X.prog X.w) X.A (assign target X.env u) (fun _ s'=>∃σ' H',Inv X pins σ' H' s'/\Q σ' H') X.xe s
def YN (X:Cx) (ts:List Expr) (t:E8):Prop:=
 ∀(pins:List (Addr×Obj)) (s:Shared) (σ:St) (H:Hp) (vs:List V) (us:List Value) (Q:St->Hp->Prop),Inv X pins σ H s->Vals vs us->t vs σ H Q->
  wpAny (model X.prog X.w) X.A (assignInOrder ((assignEach ts X.env).map (·.2)) us) (fun _ s'=>∃σ' H',Inv X pins σ' H' s'/\Q σ' H') X.xe s
abbrev U5:=V->V->V->Hp->(Hp->Prop)->Prop
def ZG (X:Cx) (t:U5):Prop:=
 ∀(pins:List (Addr×Obj)) (s:Shared) (σ:St) (H:Hp) (o i v:V) (ov iv u:Value) (Q:Hp->Prop),Inv X pins σ H s->RelV o ov->RelV i iv->RelV v u->t o i v H Q->
  wpAny (model X.prog X.w) X.A (setItem ov iv u) (fun _ s'=>∃H',Inv X pins σ H' s'/\Q H') X.xe s
abbrev TIp:=V->V->Hp->VK->Prop
def PIp (X:Cx) (op:Operator) (t:TIp):Prop:=
 ∀(pins:List (Addr×Obj)) (s:Shared) (σ:St) (H:Hp) (x y:V) (v u:Value) (Q:VK),Inv X pins σ H s->RelV x v->RelV y u->t x y H Q->
  wpAny (model X.prog X.w) X.A (inplaceOp op v u) (EP X pins σ Q) X.xe s
section
variable {X:Cx} {pos:Pos}
def m8 (i:Nat):TG:=fun v σ H Q=>Q (σ.set i (some v)) H
theorem aR (hN:X.N.Nodup) (hi:X.N[i]? =some x) (hx:Loc X.env.scope x) (hf:X.fn x=true\/ X.env.scope.names.lookup x=some .local:=by first|exact .inl rfl|exact .inr rfl|assumption):PG X (.Name x pos) (m8 i):=by
 intro pins s σ H v u Q I r h;exact wpAny_assign_Name (lM I hN hi hx r (fun s' I'=>⟨_,H,I',h⟩) hf)
def XG:E8:=fun vs σ H Q=>vs=[]/\Q σ H
def J6 (t:TG) (u:E8):E8:=fun vs σ H Q=>∃v r,vs=v::r/\t v σ H fun σ' H'=>u r σ' H' Q
theorem eZ:YN X [] XG:=by
 intro pins s σ H vs us Q I r h;obtain⟨e,h⟩:=h;subst e;cases r;exact assignInOrder_nil ⟨σ,H,I,h⟩
theorem bP {t:TG} {u:E8} (h1:PG X e t) (h2:YN X es u)
  (hs:(assignEach (e::es) X.env).map (·.2)=assign e X.env::(assignEach es X.env).map (·.2):=by rfl):YN X (e::es) (J6 t u):=by
 intro pins s σ H vs us Q I r h;obtain⟨v,vr,e1,h⟩:=h;subst e1;cases r with
 |cons r rr=>
  rw[hs];refine assignInOrder_cons (cL (h1 pins s σ H _ _ _ I r h) fun _ s1 ⟨σ1,H1,I1,q1⟩=>?_);exact h2 pins s1 σ1 H1 _ _ Q I1 rr q1
def QI (K:Frag) (n:Nat) (t:E8):TG:=fun v σ H Q=>∃a xs,v= .ref a/\qB K H a xs/\xs.length=n/\t xs σ H Q
theorem XA {t:E8} (hc:X.calm=true) (h:YN X es t)
  (hn:(assignEach es X.env).length=n:=by rfl) (hst:(assignEach es X.env).findIdx? (·.1)=none:=by rfl):PG X (.Tuple es k pos) (QI X.K n t):=by
 intro pins s σ H v u Q I r hw;obtain⟨a,xs,e1,hq,hl,hw⟩:=hw;subst e1;cases r;obtain⟨its,rv,ht,hz⟩:=I.tuple hq;refine assign_Tuple_tuple (I.ok.hd hc) ht (by simp[hn,<-hl,rv.length]) hst fun h' hx=>?_
 have I1:Inv X pins σ H {s with heap:=h'}:=I.kept (t':=s.toks) fun b o e=>hx b o (cm (cf e)) e
 exact h pins _ σ H xs _ Q I1 (by simpa using rv) hw
def y7 (to ti:TE) (t:U5):TG:=fun v σ H Q=>to σ H fun o H1=>ti σ H1 fun i H2=>t o i v H2 fun H3=>Q σ H3
theorem NU {o i:Expr} {to ti:TE} {t:U5} (ho:PE X o to) (hi:PE X i ti) (hs:ZG X t)
  (ha:∀v,assign (.Subscript o i pos) X.env v=(do
   let ov<-holding [v] (eval o X.env)
   let iv<-holding [v,ov] (eval i X.env)
   standAt pos
   holding [v,ov,iv] (setItem ov iv v)
   release [v,ov,iv] []):=by intro _;rfl):PG X (.Subscript o i pos) (y7 to ti t):=by
 intro pins s σ H v u Q I r h;rw[ha];refine ae (gf (cL (ho pins s σ H _ I h) fun ov s1 ⟨x,H1,I1,r1,q1⟩=>?_));refine ae (gf (cL (hi pins s1 σ H1 _ I1 q1) fun iv s2 ⟨y,H2,I2,r2,q2⟩=>?_));refine ae (wpAny_standAt (ae (gf (cL (hs pins s2 σ H2 x y v ov iv u _ I2 r1 r2 r q2) fun _ s3 ⟨H3,I3,q3⟩=>?_))));exact wpAny_release ⟨σ,H3,I3,q3⟩
def u5 (te:TE) (g:TG):TS:=fun D σ H=>te σ H fun x H1=>g x σ H1 D.nx
theorem DT {g:TG} (he:PE X e te) (hg:PG X tg g) (hs:swapsWithSole [tg] e pos.line X.env=pure false:=by rfl) (hw:swappedStores [tg] e X.env=pure none:=by rfl)
  (h1:(assignEach [tg] X.env).map (·.2)=[assign tg X.env]:=by rfl):PS X (.Assign [tg] e pos) (u5 te g):=by
 intro pins s σ H D I h;refine wpAny_Assign_stores (cL (he pins s σ H _ I h) fun v s1 ⟨x,H1,I1,r1,q1⟩=>?_) hs hw;rw[h1];exact cL (hg pins s1 σ H1 x v _ I1 r1 q1) fun _ s2 q=>q
theorem aW (hN:X.N.Nodup) (hi:X.N[i]? =some x) (hx:Loc X.env.scope x) (he:PE X e te) (hs:swapsWith e (some (.Name x pos')) pos.line X.env=pure false:=by rfl) (hf:X.fn x=true\/ X.env.scope.names.lookup x=some .local:=by first|exact .inl rfl|exact .inr rfl|assumption):
  PS X (.Assign [.Name x pos'] e pos) (u5 te (m8 i)):=by
 intro pins s σ H D I h;refine wpAny_Assign_Name (cL (he pins s σ H _ I h) fun v s1 ⟨y,H1,I1,r1,q1⟩=>?_) hs;exact lM I1 hN hi hx r1 (fun s2 I2=>⟨_,H1,I2,q1⟩) hf
def Y4 (i j:Nat) (ta:TA):TS:=fun D σ H=>ta σ H fun vs H1=>∃v w,vs=[v,w]/\D.nx ((σ.set i (some v)).set j (some w)) H1
theorem XE {y:Str} {a b:Expr} {px py pt:Pos} {kt k2 pt2} (hc:X.calm=true) (hN:X.N.Nodup) (hi:X.N[i]? =some x) (hj:X.N[j]? =some y) (hij:i≠j)
  (hx:X.env.scope.names.lookup x=some .local) (hy:X.env.scope.names.lookup y=some .local) (ha:PA X [a,b] ta)
  (hw:swappedStores [.Tuple [.Name x px,.Name y py] kt pt] (.Tuple [a,b] k2 pt2) X.env=pure (some [x,y]))
  (hs:swapsWithSole [.Tuple [.Name x px,.Name y py] kt pt] (.Tuple [a,b] k2 pt2) pos.line X.env=pure false:=by rfl):
  PS X (.Assign [.Tuple [.Name x px,.Name y py] kt pt] (.Tuple [a,b] k2 pt2) pos) (Y4 i j ta):=by
 intro pins s σ H D I h;rw[exec_Assign_arm];refine ae (wpAny_standAt ?_);rw[hs];refine ae (ax ?_);rw[ai (by decide)];refine ae (Tuple_ (cL (ha _ pins s σ H _ I h) fun us s1 ⟨vs,H1,I1,r1,q1⟩=>?_));obtain⟨v,w,e1,q1⟩:=q1;subst e1;obtain⟨u1,u2,rfl,rv,rw'⟩:∃u1 u2,us=[u1,u2]/\RelV v u1/\RelV w u2:=by
  cases r1 with
  | cons p q=>
   cases q with
   |cons p' q'=>
    cases q';exact⟨_,_,rfl,p,p'⟩
 refine dg ?_ (by show 2<=sizeLine;decide);have I2:Inv X pins σ H1 {s1 with heap:=s1.heap.push {cls:=.type "tuple",data:=.seq [u1,u2].toArray}}:=I1.kept (t':=s1.toks) fun b o e=>ao _ e
 rw[hw];refine ae (ax ?_);show wpAny (model X.prog X.w) X.A (do rule "assign.swapped-stores";let items<-unpackItems (.ref s1.heap.objs.size) 2 none;assignInOrder [fun v=>bindName X.env y v,fun v=>bindName X.env x v] items.reverse;pure Flow.next) _ _ _;refine ae (wpAny_rule (ae (unpackItems_tuple (items:= #[u1,u2]) (I.ok.hd hc) (IsTup.new s1.heap _) fun h' hx'=>?_)));have I3:=I2.kept (h':=h') (t':=s1.toks) fun b o e=>hx' b o (cm (cf e)) e
 show wpAny _ _ (assignInOrder [fun v=>bindName X.env y v,fun v=>bindName X.env x v] [u2,u1]>>=fun _=>pure Flow.next) _ _ _;refine ae (assignInOrder_cons (wpAny_bindName (lM I3 hN hj (.inl hy) rw' (fun s2 I4=>?_) (.inr hy))));refine assignInOrder_cons (wpAny_bindName (lM I4 hN hi (.inl hx) rv (fun s3 I5=>assignInOrder_nil (ax ?_)) (.inr hx)));rw[List.set_comm _ _ (Ne.symm hij)]at I5;exact⟨_,H1,I5,q1⟩
def Z7 (i:Nat) (te:TE) (ti:TIp):TS:=fun D σ H=>∃x,σ[i]? =some (some x)/\te σ H fun y H1=>ti x y H1 fun z H2=>D.nx (σ.set i (some z)) H2
theorem WY {i:Nat} {x:Str} {ti:TIp} (hN:X.N.Nodup) (hi:X.N[i]? =some x) (hx:Loc X.env.scope x) (he:PE X e te) (ho:PIp X op ti) (hf:X.fn x=true\/ X.env.scope.names.lookup x=some .local:=by first|exact .inl rfl|exact .inr rfl|assumption):
  PS X (.AugAssign (.Name x pos') op e pos) (Z7 i te ti):=by
 intro pins s σ H D I h;obtain⟨v,e1,h⟩:=h;obtain⟨m,hn,hl⟩:=I.loc;have vis:Vis X.env.scope x:=by rcases hx with k|k;exact .inl k;exact .inr (.inl k)
 obtain⟨u,r,l⟩:=hl i x v hi e1 vis;refine wpAny_AugAssign_Name ?_;have go:wpAny (model X.prog X.w) X.A (eval e X.env) (fun w s₂=>wpAny (model X.prog X.w) X.A (inplaceOp op u w) (fun r s₃=>wpAny (model X.prog X.w) X.A (storeName X.env x r) (fun _=>SP X pins D .next) X.xe s₃) X.xe s₂) X.xe s:=by
  refine cL (he pins s σ H _ I h) fun w s1 ⟨y,H1,I1,r1,q1⟩=>?_
  refine cL (ho pins s1 σ H1 v y u w _ I1 r r1 q1) fun z s2 ⟨zv,H2,I2,r2,q2⟩=>?_
  exact lM I2 hN hi hx r2 (fun s3 I3=>⟨_,H2,I3,q2⟩) hf
 rcases l with⟨hk,hm⟩|⟨hk,c,hc,hcell⟩
 .exact wpAny_loadName_local I.ok.kind hk hn hm go
 .rcases hk with hk|hk
  .exact wpAny_loadName_cell I.ok.kind hk hc hcell go
  .rcases hx with k|k
   .have:X.env.scope.names.lookup x=some .free:=hk;rw[k]at this;cases this
   .have:X.env.scope.names.lookup x=some .free:=hk;rw[k]at this;cases this
def ipI (f:Int->Int->Int):TIp:=fun x y H Q=>∃i j,x= .int i/\y= .int j/\Q (.int (f i j)) H
theorem VG:PIp X .Add (ipI fun i j=>i+j):=by
 intro pins s σ H x y v u Q I r1 r2 h;obtain⟨i,j,e1,e2,q⟩:=h;subst e1;subst e2
 obtain⟨t,rfl⟩:=r1;obtain⟨t',rfl⟩:=r2;exact iadd_int ⟨.int _,H,I.tok _,⟨_,rfl⟩,q⟩
end
section
variable {X:Cx} {pos:Pos}
def KR (c:TT) (tb:TS):TS:=fun D σ H=>∃W:Nat->St->Hp->Prop,(∃m,W m σ H)/\∀m σ H,W m σ H->
 c σ H fun b H1=>if b=true then∃N:St->Hp->Prop,(∀σ' H',N σ' H'->∃m',m'<m/\W m' σ' H')/\tb {D with nx:=N,ct:=N,bk:=D.nx} σ H1 else D.nx σ H1
theorem CC (hp:PassesOwn (model X.prog X.w) X.A X.env X.xe) (hc:PT X c tc) (hb:FU X body tb):PS X (.While c body [] pos) (KR tc tb):=by
 intro pins s σ H D I h;obtain⟨W,⟨m0,w0⟩,turn⟩:=h;refine wpAny_While (codeAny_whileLoop (fun n s'=>∃σ' H',Inv X pins σ' H' s'/\W n σ' H') ?_ m0 ⟨σ,H,I,w0⟩);rintro n s1 ⟨σ1,H1,I1,w1⟩;refine jl hp (cL (hc pins s1 σ1 H1 _ I1 (turn n σ1 H1 w1)) fun b s2 ⟨H2,I2,q2⟩=>?_);cases b with
 | true=>
  obtain⟨N,hN,q2⟩:=q2;rw[aj rfl];refine jl hp (cL (hb pins s2 σ1 H2 _ I2 q2) fun f s3 q3=>?_);cases f with
  |next=>
   obtain⟨σ3,H3,I3,n3⟩:=q3;obtain⟨m',hm,w3⟩:=hN σ3 H3 n3;exact⟨m',hm,σ3,H3,I3,w3⟩
  |cont=>
   obtain⟨σ3,H3,I3,n3⟩:=q3;obtain⟨m',hm,w3⟩:=hN σ3 H3 n3;exact⟨m',hm,σ3,H3,I3,w3⟩
  |brk=>exact q3
  |ret v=>exact q3
 |false=>
  rw[ai au];exact wpAny_execs_nil ⟨σ1,H2,I2,q2⟩
end
structure It where
 go:Nat->Hp->Prop
 YB:Nat->Hp->V->Hp->Prop
 stop:Nat->Hp->Prop
def rM (X:Cx) (pins:List (Addr×Obj)) (H:Hp) (b:Addr):Prop:=
 H b=none/\b≠X.env.locals/\b∉X.fs/\(b∈X.ex\/ X.i9.heap.objs.size<=b)/\(∀x c,X.env.cells.lookup x=some c->c≠b)/\∀p∈X.pn++pins,p.1≠b
theorem Inv.vM {H':Hp} (I:Inv X pins σ H s) (hb:s.heap.objs.size<=b) (hn:H' b=none):rM X pins H' b:=by
 refine⟨hn,kg (cq I.lt hb),I.Y9 hb,.inr (fj I.sz hb),fun x c e z=>?_,fun p hp z=>?_⟩
 .obtain⟨v,q⟩:=I.cell x c e;exact absurd (cq q.lt (by rw[z];exact hb)) (jf _)
 .exact absurd (cq (cf (I.pin p hp).1) (by rw[z];exact hb)) (jf _)
structure Turn (P:Program) (w:World) (K:Frag) (tg:Expr) (J:It) (fp:List Addr) (it:Addr) (tn:Nat->Heap->Prop):Prop where
 mem:it∈fp
 obj:∀i h,tn i h->∀b∈fp,∃o,h.get? b=some o/\∀v,o.data≠ .cell v
 keep:∀i h h',tn i h->(∀b∈fp,∀o,h.get? b=some o->h'.get? b=some o)->tn i h'
 item:∀(X:Cx),X.prog=P->X.w=w->X.K=K->X.calm=true->∀(i:Nat) (pins:List (Addr×Obj)) (s:Shared) (σ:St) (H:Hp) (E:Value->Shared->Prop),Inv X pins σ H s->(∀b∈fp,rM X pins H b)->tn i s.heap->J.go i H->
  wpAny (model P w) X.A (pyNext (.ref it)) (fun r s1=>∃u,r=some u/\
   wpAny (model P w) X.A (letOwnedTupleGo tg (.ref it) u) (fun _ s2=>∃x H',Inv X pins σ H' s2/\RelV x u/\J.YB i H x H'/\tn (i+1) s2.heap/\∀b∈fp,H' b=none) E s1) E s
 done:∀(X:Cx),X.prog=P->X.w=w->X.K=K->X.calm=true->∀(i:Nat) (pins:List (Addr×Obj)) (s:Shared) (σ:St) (H:Hp) (E:Value->Shared->Prop),Inv X pins σ H s->(∀b∈fp,rM X pins H b)->tn i s.heap->J.stop i H->
  wpAny (model P w) X.A (pyNext (.ref it)) (fun r s1=>r=none/\Inv X pins σ H s1) E s
 self:∀(A:Around) (i:Nat) (s:Shared) (Q:Value->Shared->Prop) (E:Value->Shared->Prop),tn i s.heap->Q (.ref it) s->wpAny (model P w) A (pyIter (.ref it)) Q E s
abbrev TI:=St->Hp->(It->Hp->Prop)->Prop
def PIE (X:Cx) (pins:List (Addr×Obj)) (σ:St) (tg:Expr) (R:It->Hp->Prop) (itv:Value) (s2:Shared):Prop:=
 ∃(it:Addr) (fp:List Addr) (tn:Nat->Heap->Prop) (J:It) (H':Hp),itv= .ref it/\Inv X pins σ H' s2/\Turn X.prog X.w X.K tg J fp it tn/\tn 0 s2.heap/\(∀b∈fp,rM X pins H' b)/\R J H'
def PI (X:Cx) (tg iter:Expr) (wi:TI):Prop:=
 ∀(pins:List (Addr×Obj)) (s:Shared) (σ:St) (H:Hp) (R:It->Hp->Prop),Inv X pins σ H s->wi σ H R->
  wpAny (model X.prog X.w) X.A (eval iter X.env) (fun v s1=>wpAny (model X.prog X.w) X.A (pyIter v) (PIE X pins σ tg R) X.xe s1) X.xe s
theorem xS {tg:Expr} {u:Value} {n:String} {vs:Array Value} {Q:Unit->Shared->Prop} (ho:s.heap.get? it=some o) (hc:o.cls= .type n) (hd:o.data= .fields vs)
    (hn:["enumerate","zip","dict_itemiterator","dict_reverseitemiterator","odict_iterator","itertools.zip_longest","itertools.pairwise"].contains n=false) (hQ:Q () s):wpAny M A (letOwnedTupleGo tg (.ref it) u) Q E s:=by
  unfold letOwnedTupleGo;cases tg<;>first
    |exact ax hQ
    |(cases u<;>first
        |exact ax hQ
        | (refine ae (wpAny_load ho ?_)
           rw[hc,hd];show wpAny M A (if(["enumerate","zip","dict_itemiterator","dict_reverseitemiterator","odict_iterator","itertools.zip_longest","itertools.pairwise"].contains n && vs[0]? ==some (rawInt _))=true then _ else _) Q E s;rw[ai (by intro h;rw[hn,Bool.false_and]at h;cases h)];exact ax hQ))
noncomputable def Itl (K:Frag) (a:Addr):It:=
 ⟨fun i H=>∃xs x,k7 K H a xs/\xs[i]? =some x,fun i H x H'=>H'=H/\∀xs,k7 K H a xs->xs[i]? =some x,fun i H=>∃xs,k7 K H a xs/\xs.length<=i⟩
noncomputable def Itt (K:Frag) (a:Addr):It:=
 ⟨fun i H=>∃xs x,qB K H a xs/\xs[i]? =some x,fun i H x H'=>H'=H/\∀xs,qB K H a xs->xs[i]? =some x,fun i H=>∃xs,qB K H a xs/\xs.length<=i⟩
noncomputable def X8 (lo:Int) (n:Nat):It:=⟨fun i _=>i<n,fun i H x H'=>H'=H/\x= .int (lo+i),fun i _=>n<=i⟩
theorem JR (a it:Addr):Turn P w K tg (Itl K a) [it] it (fun i h=>h.IsListIter it a i)where
 mem:=by simp
 obj:=fun i h st b hb=>by
  have e:b=it:=by simpa using hb
  subst e;obtain⟨o,e,c,d⟩:=st;exact⟨o,e,fun v z=>by rw[d]at z;cases z⟩
 keep:=fun i h h' st k=>st.at fun o e=>k it (by simp) o e
 item:=by
  intro X hP hw hK hc i pins s σ H E I hf st hg;subst hP hw hK;obtain⟨xs,x,hq,hx⟩:=hg;obtain⟨its,rv,p,hz⟩:=I.list hq;obtain⟨u,hu,ru⟩:=rv.get hx;obtain⟨f0,f1,f2,f3,f4,f5⟩:=hf it (by simp);refine wpAny_pyNext_list_item st p.isList (x:=u) (by simpa using hu) fun h' st' sb=>?_
  have I1:Inv X pins σ H {s with heap:=h'}:=I.turned (t':=s.toks) (fun b o hb e=>(sb.2 b hb).trans e) f0 f1 f3 f4 f5;obtain⟨o,e,c,d⟩:=id st';exact⟨u,rfl,xS (s:={s with heap:=h'}) e c d (by decide) ⟨x,H,I1,ru,⟨rfl,fun ys hy=>by rw[I.A2 hy hq];exact hx⟩,st',fun b hb=>(hf b hb).1⟩⟩
 done:=by
  intro X hP hw hK hc i pins s σ H E I hf st hg;subst hP hw hK;obtain⟨xs,hq,hx⟩:=hg;obtain⟨its,rv,p,hz⟩:=I.list hq;obtain⟨f0,f1,f2,f3,f4,f5⟩:=hf it (by simp);have hl:=rv.length;exact wpAny_pyNext_list_end (I.ok.hd hc) st p.isList (by simp;omega) fun h' eb=>⟨rfl,I.turned (t':=s.toks) (fun b o hb e=>eb b o hb e) f0 f1 f3 f4 f5⟩
 self:=fun _ _ _ _ _ st h=>wpAny_pyIter_listiter st h
theorem D0 (a it:Addr):Turn P w K tg (Itt K a) [it] it (fun i h=>h.IsTupleIter it a i)where
 mem:=by simp
 obj:=fun i h st b hb=>by
  have e:b=it:=by simpa using hb
  subst e;obtain⟨o,e,c,d⟩:=st;exact⟨o,e,fun v z=>by rw[d]at z;cases z⟩
 keep:=fun i h h' st k=>st.at fun o e=>k it (by simp) o e
 item:=by
  intro X hP hw hK hc i pins s σ H E I hf st hg;subst hP hw hK;obtain⟨xs,x,hq,hx⟩:=hg;obtain⟨its,rv,p,hz⟩:=I.tuple hq;obtain⟨u,hu,ru⟩:=rv.get hx;obtain⟨f0,f1,f2,f3,f4,f5⟩:=hf it (by simp);refine wpAny_pyNext_tuple_item st (show s.heap.IsTuple a its.toArray from p) (x:=u) (by simpa using hu) fun h' st' sb=>?_
  have I1:Inv X pins σ H {s with heap:=h'}:=I.turned (t':=s.toks) (fun b o hb e=>(sb.2 b hb).trans e) f0 f1 f3 f4 f5;obtain⟨o,e,c,d⟩:=id st';exact⟨u,rfl,xS (s:={s with heap:=h'}) e c d (by decide) ⟨x,H,I1,ru,⟨rfl,fun ys hy=>by rw[I.xC hy hq];exact hx⟩,st',fun b hb=>(hf b hb).1⟩⟩
 done:=by
  intro X hP hw hK hc i pins s σ H E I hf st hg;subst hP hw hK;obtain⟨xs,hq,hx⟩:=hg;obtain⟨its,rv,p,hz⟩:=I.tuple hq;obtain⟨f0,f1,f2,f3,f4,f5⟩:=hf it (by simp);have hl:=rv.length;exact wpAny_pyNext_tuple_end (I.ok.hd hc) st (show s.heap.IsTuple a its.toArray from p) (by simp;omega) fun h' eb=>⟨rfl,I.turned (t':=s.toks) (fun b o hb e=>eb b o hb e) f0 f1 f3 f4 f5⟩
 self:=fun _ _ _ _ _ st h=>wpAny_pyIter_tupleiter st h
theorem CY (it:Addr) (lo:Int) (n:Nat):Turn P w K tg (X8 lo n) [it] it (fun i h=>IsRangeIter h it (lo+(i:Nat)*1) ((n:Int) - (i:Nat)) 1)where
 mem:=by simp
 obj:=fun i h st b hb=>by
  have e:b=it:=by simpa using hb
  subst e;exact⟨_,st,fun v z=>by
   have z':Data.fields _=Data.cell v:=z;cases z'⟩
 keep:=fun i h h' st k=>k it (by simp) _ st
 item:=by
  intro X hP hw hK hc i pins s σ H E I hf st hg;subst hP hw hK;obtain⟨f0,f1,f2,f3,f4,f5⟩:=hf it (by simp);have W:=Walks.range (prog:=X.prog) (w:=X.w) (I.ok.hd hc) it lo 1 n;refine W.item i s _ _ hg st fun v h' tk hv st' kk=>?_
  obtain⟨t,rfl⟩:=hv;have I1:Inv X pins σ H {s with heap:=h',toks:=tk}:=I.turned (fun b o hb e=>kk b o (by simpa using hb) e) f0 f1 f3 f4 f5;refine⟨_,rfl,xS (s:={s with heap:=h',toks:=tk}) (n:="range_iterator") st' rfl rfl (by decide) ⟨.int (lo+i),H,I1,⟨t,?_⟩,⟨rfl,rfl⟩,st',fun b hb=>(hf b hb).1⟩⟩;rw[Int.mul_one]
 done:=by
  intro X hP hw hK hc i pins s σ H E I hf st hg;subst hP hw hK;obtain⟨f0,f1,f2,f3,f4,f5⟩:=hf it (by simp);exact wpAny_pyNext_range_end (I.ok.hd hc) st (by have:n<=i:=hg;omega) fun h' eb=>⟨rfl,I.turned (t':=s.toks) (fun b o hb e=>eb b o hb e) f0 f1 f3 f4 f5⟩
 self:=fun _ _ _ _ _ st h=>wpAny_pyIter_rangeiter st h
section
variable {X:Cx} {tg:Expr}
theorem A9 {R:It->Hp->Prop} {lo hi:Int} {t u v:Tok} {tk:Nat} (I:Inv X pins σ H s) (h1: -(2^62)<=lo) (h2:lo<2^62) (h3: -(2^62)<=hi) (h4:hi<2^62)
  (q:R (X8 lo (hi - lo).toNat) H):wpAny (model X.prog X.w) X.A (pyIter (.ref s.heap.objs.size)) (PIE X pins σ tg R) E {s with heap:=s.heap.push {cls:=.type "range",data:=.fields #[.int lo t,.int hi u,.int 1 v]},toks:=tk}:=by
 refine wpAny_pyIter_range (IsRange.new ..) (small_one h1 h2 h3 h4) ?_;have I1:Inv X pins σ H {s with heap:=s.heap.push {cls:=.type "range",data:=.fields #[.int lo t,.int hi u,.int 1 v]},toks:=tk}:=I.kept fun b o e=>ao _ e
 refine⟨(s.heap.push {cls:=.type "range",data:=.fields #[.int lo t,.int hi u,.int 1 v]}).objs.size,[(s.heap.push {cls:=.type "range",data:=.fields #[.int lo t,.int hi u,.int 1 v]}).objs.size],_,_,H,rfl,
  I1.kept (t':=tk) fun b o e=>ao _ e,CY _ lo (hi - lo).toNat,?_,fun b hb=>?_,q⟩
 .have e1:lo+((0:Nat):Int)*1=lo:=by simp
  have e2:(((hi - lo).toNat:Nat):Int) - ((0:Nat):Int)=Builtin.Range.rangeSize lo hi 1:=by rw[rangeSize_one];split<;>omega
  show IsRangeIter _ _ (lo+((0:Nat):Int)*1) ((((hi - lo).toNat:Nat):Int) - ((0:Nat):Int)) 1;rw[e1,e2];exact cc _ rfl
 .have e:b=(s.heap.push {cls:=.type "range",data:=.fields #[.int lo t,.int hi u,.int 1 v]}).objs.size:=by simpa using hb
  subst e;exact I1.vM (bf _) (I1.bQ.fresh (bf _))
def S8 (ta:TA):TI:=fun σ H R=>ta σ H fun vs H1=>∃j:Int,vs=[.int j]/\ -(2^62)<=j/\j<2^62/\R (X8 0 j.toNat) H1
def S1 (ta:TA):TI:=fun σ H R=>ta σ H fun vs H1=>∃i j:Int,vs=[.int i,.int j]/\(-(2^62)<=i/\i<2^62/\ -(2^62)<=j/\j<2^62)/\R (X8 i (j - i).toNat) H1
theorem cV {a:Expr} (hg:Gl X "range") (hm:X.mg "range"=none) (ha:PA X [a] ta) (hs:starEach [a] X.env=[(false,eval a X.env)]:=by rfl):PI X tg (.Call (.Name "range" p) [a] [] pos) (S8 ta):=by
 intro pins s σ H R I h;refine Call_ (vL I hg hm boot_range (jg (cL (ha pos pins s σ H _ I h) fun us s1 ⟨vs,H1,I1,r1,q1⟩=>?_) hs rfl));obtain⟨j,e,q1,q2,q⟩:=q1;subst e;cases r1 with
 |cons r rr=>
  cases rr;obtain⟨t,rfl⟩:=r;exact call_range_1 (A9 I1 (by omega) (by omega) q1 q2 (by simpa using q))
theorem JQ {a b:Expr} (hg:Gl X "range") (hm:X.mg "range"=none) (ha:PA X [a,b] ta) (hs:starEach [a,b] X.env=[(false,eval a X.env),(false,eval b X.env)]:=by rfl) (hs2:starEach [b] X.env=[(false,eval b X.env)]:=by rfl):
  PI X tg (.Call (.Name "range" p) [a,b] [] pos) (S1 ta):=by
 intro pins s σ H R I h;refine Call_ (vL I hg hm boot_range (jg (cL (ha pos pins s σ H _ I h) fun us s1 ⟨vs,H1,I1,r1,q1⟩=>?_) (by rw[hs,hs2]) (by rw[hs2];rfl)));obtain⟨i,j,e,⟨q1,q2,q3,q4⟩,q⟩:=q1;subst e;cases r1 with
 | cons r rr=>
  cases rr with
  |cons r' rr=>
   cases rr;obtain⟨t,rfl⟩:=r;obtain⟨t',rfl⟩:=r';exact call_range_2 (A9 I1 q1 q2 q3 q4 q)
def WW (wi:TI) (g:TG) (tb:TS):TS:=fun D σ H=>wi σ H fun J H1=>∃W:Nat->Nat->St->Hp->Prop,(∃m,W 0 m σ H1)/\∀i m σ H,W i m σ H->
 (J.stop i H/\D.nx σ H)\/ (J.go i H/\∃N:St->Hp->Prop,(∀σ' H',N σ' H'->∃m',m'<m/\W (i+1) m' σ' H')/\∀x H',J.YB i H x H'->g x σ H' fun σ2 H2=>tb {D with nx:=N,ct:=N,bk:=D.nx} σ2 H2)
noncomputable def pF (fp:List Addr) (h:Heap):List (Addr×Obj):=fp.filterMap fun b=>(h.get? b).map fun o=>(b,o)
theorem dI (hb:b∈fp) (e:h.get? b=some o):(b,o)∈pF fp h:=jo.mpr ⟨b,hb,by rw[e];rfl⟩
theorem HW {h:Heap} {p:Addr×Obj} (hp:p∈pF fp h):p.1∈fp/\h.get? p.1=some p.2:=by
 obtain⟨b,hb,e⟩:=jo.mp hp;cases q:h.get? b with
 |none=>rw[q]at e;cases e
 |some o=>
  rw[q]at e;have e':(b,o)=p:=Option.some.inj e;subst e';exact⟨hb,q⟩
theorem Inv.pinned (I:Inv X pins σ H s) (hf:∀b∈fp,rM X pins H b) (ho:∀b∈fp,∃o,s.heap.get? b=some o/\∀v,o.data≠ .cell v):Inv X (pins++pF fp s.heap) σ H s:=
 I.uE fun p hp=>(bj.mp hp).elim (fun z=>I.pin p (cp _ z)) fun z=>by
  obtain⟨hb,e⟩:=HW z;obtain⟨f0,f1,f2,_⟩:=hf p.1 hb;obtain⟨o,e',d⟩:=ho p.1 hb;rw[e]at e';cases e'
  exact⟨e,f0,f1,f2,d⟩
theorem Inv.kX {pl:List (Addr×Obj)} (I:Inv X (pins++pl) σ H s):Inv X pins σ H s:=I.uE fun p hp=>I.pin p (cp _ (il _ hp))
theorem cP {iter:Expr} {wi:TI} {g:TG} (hp:PassesOwn (model X.prog X.w) X.A X.env X.xe) (hc:X.calm=true) (hi:PI X tg iter wi) (hg:PG X tg g) (hb:FU X body tb)
  (hs:∀x,foldedSetIterable iter X.env x=pure x:=by intro _;rfl):PS X (.For tg iter body [] pos) (WW wi g tb):=by
 intro pins s σ H D I h;refine wpAny_For (cL (hi pins s σ H _ I h) fun v s1 h1=>cL h1 fun itv s2 h2=>?_) hs;obtain⟨it,fp,tn,J,H2,e,I2,T,st2,f2,W,⟨m0,w0⟩,turn⟩:=h2;subst e;have stat:∀{H':Hp},(∀b∈fp,H' b=none)->∀b∈fp,rM X pins H' b:=fun hn b hb=>⟨hn b hb,(f2 b hb).2⟩
 refine codeAny_forLoop_any (fun n s'=>∃i σ' H',Inv X pins σ' H' s'/\tn i s'.heap/\(∀b∈fp,H' b=none)/\W i n σ' H') ?_ m0 ⟨0,σ,H2,I2,st2,fun b hb=>(f2 b hb).1,w0⟩;rintro n s3 ⟨i,σ3,H3,I3,st3,fr3,w3⟩;rcases turn i n σ3 H3 w3 with⟨stop,qn⟩|⟨go,N,hN,step⟩
 .refine jl hp (cL (T.done X rfl rfl rfl hc i pins s3 σ3 H3 X.xe I3 (stat fr3) st3 stop) fun r s4 ⟨hr,I4⟩=>?_);subst hr;exact wpAny_execs_nil ⟨σ3,H3,I4,qn⟩
 .refine jl hp (cL (T.item X rfl rfl rfl hc i pins s3 σ3 H3 X.xe I3 (stat fr3) st3 go) fun r s4 ⟨u,hr,h4⟩=>?_);subst hr;refine jl hp (cL h4 fun _ s5 ⟨x,H5,I5,r5,y5,st5,fr5⟩=>?_);have I5':=I5.pinned (stat fr5) (T.obj _ _ st5);refine jl hp (cL (hg _ s5 σ3 H5 x u _ I5' r5 (step x H5 y5)) fun _ s6 ⟨σ6,H6,I6,q6⟩=>?_);refine jl hp (cL (hb _ s6 σ6 H6 _ I6 q6) fun f s7 q7=>?_);have again:∀{σ7:St} {H7:Hp},Inv X (pins++pF fp s5.heap) σ7 H7 s7->N σ7 H7->∃m,m<n/\∃i σ' H',Inv X pins σ' H' s7/\tn i s7.heap/\(∀b∈fp,H' b=none)/\W i m σ' H':=fun{σ7 H7} I7 n7=>by
   obtain⟨m',hm,w7⟩:=hN σ7 H7 n7;refine⟨m',hm,i+1,σ7,H7,I7.kX,T.keep _ _ _ st5 fun b hb o e=>(I7.pin (b,o) (cp _ (cp _ (dI hb e)))).1,fun b hb=>?_,w7⟩;obtain⟨o,e,d⟩:=T.obj _ _ st5 b hb;exact(I7.pin (b,o) (cp _ (cp _ (dI hb e)))).2.1
  cases f with
  |next=>obtain⟨σ7,H7,I7,n7⟩:=q7;exact again I7 n7
  |cont=>obtain⟨σ7,H7,I7,n7⟩:=q7;exact again I7 n7
  |brk=>obtain⟨σ7,H7,I7,q7⟩:=q7;exact⟨σ7,H7,I7.kX,q7⟩
  |ret v=>obtain⟨x7,σ7,H7,I7,r7,q7⟩:=q7;exact⟨x7,σ7,H7,I7.kX,r7,q7⟩
end
abbrev R2:=V->V->Hp->VK->Prop
def jD (X:Cx) (f:Value->Value->Sem Value) (r:R2):Prop:=
 ∀(pins:List (Addr×Obj)) (s:Shared) (σ:St) (H:Hp) (x y:V) (v u:Value) (Q:VK),Inv X pins σ H s->RelV x v->RelV y u->r x y H Q->
  wpAny (model X.prog X.w) X.A (f v u) (EP X pins σ Q) X.xe s
def UnR (X:Cx) (f:Value->Sem Value) (r:V->Hp->VK->Prop):Prop:=
 ∀(pins:List (Addr×Obj)) (s:Shared) (σ:St) (H:Hp) (x:V) (v:Value) (Q:VK),Inv X pins σ H s->RelV x v->r x H Q->
  wpAny (model X.prog X.w) X.A (f v) (EP X pins σ Q) X.xe s
def cN (X:Cx) (f:Value) (r:List V->Hp->VK->Prop):Prop:=
 ∀(pins:List (Addr×Obj)) (s:Shared) (σ:St) (H:Hp) (xs:List V) (us:List Value) (Q:VK),Inv X pins σ H s->Vals xs us->r xs H Q->
  wpAny (model X.prog X.w) X.A (call f us) (EP X pins σ Q) X.xe s
def abI (X:Cx) (r:V->Hp->(Bool->Hp->Prop)->Prop):Prop:=
 ∀(pins:List (Addr×Obj)) (s:Shared) (σ:St) (H:Hp) (x:V) (v:Value) (Q:Bool->Hp->Prop),Inv X pins σ H s->RelV x v->r x H Q->
  wpAny (model X.prog X.w) X.A (truthy v) (TP X pins σ Q) X.xe s
def YL (r:R2) (ta tb:TE):TE:=fun σ H Q=>ta σ H fun x H1=>tb σ H1 fun y H2=>r x y H2 Q
def tUn (r:V->Hp->VK->Prop) (ta:TE):TE:=fun σ H Q=>ta σ H fun x H1=>r x H1 Q
def rI (C:Int->Int->Prop) (g:Int->Int->V):R2:=fun x y H Q=>∃i j,x= .int i/\y= .int j/\C i j/\Q (g i j) H
def GX (g:Int->Int->V):R2:=fun x y H Q=>∃i j,x= .int i/\y= .int j/\Q (g i j) H
def rU (g:Int->V):V->Hp->VK->Prop:=fun x H Q=>∃i,x= .int i/\Q (g i) H
section
variable {X:Cx} {a b c:Expr} {ta tb tc:TE} {pos:Pos}
theorem VZ (ha:PE X a ta) (hb:PE X b tb) {R:V->V->Hp->Prop} (I:Inv X pins σ H s)
  (h:ta σ H fun x H1=>tb σ H1 fun y H2=>R x y H2)
  (hf:∀v u s2 x y H2,Inv X pins σ H2 s2->RelV x v->RelV y u->R x y H2->wpAny (model X.prog X.w) X.A (f v u) Q X.xe s2):
  wpAny (model X.prog X.w) X.A (eval a X.env) (fun v s₁=>wpAny (model X.prog X.w) X.A (eval b X.env) (fun u s₂=>wpAny (model X.prog X.w) X.A (f v u) Q X.xe s₂) X.xe s₁) X.xe s:=by
 refine cL (ha pins s σ H _ I h) fun v s1 ⟨x,H1,I1,r1,q1⟩=>?_
 refine cL (hb pins s1 σ H1 _ I1 q1) fun u s2 ⟨y,H2,I2,r2,q2⟩=>?_
 exact hf v u s2 x y H2 I2 r1 r2 q2
theorem bN (ho:jD X (binaryOp op) r) (ha:PE X a ta) (hb:PE X b tb):PE X (.BinOp a op b pos) (YL r ta tb):=by
 intro pins s σ H Q I h;exact wpAny_BinOp (VZ ha hb I h fun v u s2 x y H2 I2 rx ry q=>ho pins s2 σ H2 x y v u Q I2 rx ry q)
theorem TR {op:UnaryOp} {r:V->Hp->VK->Prop} (ho:UnR X (unaryOp op) r) (ha:PE X a ta):PE X (.UnaryOp op a pos) (tUn r ta):=by
 intro pins s σ H Q I h;exact UnaryOp_ (cL (ha pins s σ H _ I h) fun v s1 ⟨x,H1,I1,r1,q1⟩=>ho pins s1 σ H1 x v Q I1 r1 q1)
theorem Z5 {C:Int->Int->Prop}
  (rule:∀(i j:Int) (t u:Tok) (s:Shared) (Q:Value->Shared->Prop) (E:Value->Shared->Prop),C i j->Q (.int (g i j) s.toks) {s with toks:=s.toks+1}->wpAny (model X.prog X.w) X.A (f (.int i t) (.int j u)) Q E s):
  jD X f (rI C fun i j=>.int (g i j)):=by
 intro pins s σ H x y v u Q I rx ry h;obtain⟨i,j,rfl,rfl,hc,q⟩:=h;obtain⟨t,rfl⟩:=rx;obtain⟨t',rfl⟩:=ry;exact rule i j t t' s _ _ hc ⟨.int (g i j),H,I.tok _,⟨_,rfl⟩,q⟩
theorem aaJ
  (rule:∀(i j:Int) (t u:Tok) (s:Shared) (Q:Value->Shared->Prop) (E:Value->Shared->Prop),Q (.int (g i j) s.toks) {s with toks:=s.toks+1}->wpAny (model X.prog X.w) X.A (f (.int i t) (.int j u)) Q E s):
  jD X f (GX fun i j=>.int (g i j)):=by
 intro pins s σ H x y v u Q I rx ry h;obtain⟨i,j,rfl,rfl,q⟩:=h;obtain⟨t,rfl⟩:=rx;obtain⟨t',rfl⟩:=ry;exact rule i j t t' s _ _ ⟨.int (g i j),H,I.tok _,⟨_,rfl⟩,q⟩
theorem X7 {g:Int->Int->Bool}
  (rule:∀(i j:Int) (t u:Tok) (s:Shared) (Q:Value->Shared->Prop) (E:Value->Shared->Prop),Q (.bool (g i j)) s->wpAny (model X.prog X.w) X.A (f (.int i t) (.int j u)) Q E s):
  jD X f (GX fun i j=>.bl (g i j)):=by
 intro pins s σ H x y v u Q I rx ry h;obtain⟨i,j,rfl,rfl,q⟩:=h;obtain⟨t,rfl⟩:=rx;obtain⟨t',rfl⟩:=ry;exact rule i j t t' s _ _ ⟨.bl (g i j),H,I,rfl,q⟩
def O6 (i j:Int):Prop:=(-(2^64)<i/\i<2^64)\/ (-(2^64)<j/\j<2^64)
theorem O6.ok {i j:Int} (h:O6 i j):IntMulOk i j:=by
 rcases h with⟨h1,h2⟩|⟨h1,h2⟩
 .exact .of_left (intBits_le_64 h1 h2)
 .exact .of_right (intBits_le_64 h1 h2)
theorem X3:jD X (binaryOp .Add) (GX fun i j=>.int (i+j)):=aaJ fun _ _ _ _ _ _ _ q=>add_int q
theorem EA:jD X (binaryOp .Sub) (GX fun i j=>.int (i - j)):=aaJ fun _ _ _ _ _ _ _ q=>sub_int q
theorem mN:jD X (binaryOp .Mult) (rI O6 fun i j=>.int (i*j)):=Z5 fun _ _ _ _ _ _ _ hc q=>mul_int q hc.ok
theorem iP:jD X (binaryOp .Mod) (rI (fun _ j=>0<j) fun i j=>.int (i % j)):=Z5 fun i j _ _ _ _ _ hc q=>by
 have h1:(0:Int)<j:=hc;exact mod_int' (by omega) (by rw[Int.fmod_eq_emod_of_nonneg i (by omega)];exact q)
theorem unI {f:Value->Sem Value} {g:Int->Int}
  (rule:∀(i:Int) (t:Tok) (s:Shared) (Q:Value->Shared->Prop) (E:Value->Shared->Prop),Q (.int (g i) s.toks) {s with toks:=s.toks+1}->wpAny (model X.prog X.w) X.A (f (.int i t)) Q E s):
  UnR X f (rU fun i=>.int (g i)):=by
 intro pins s σ H x v Q I rx h;obtain⟨i,rfl,q⟩:=h;obtain⟨t,rfl⟩:=rx;exact rule i t s _ _ ⟨.int (g i),H,I.tok _,⟨_,rfl⟩,q⟩
theorem K9:UnR X (unaryOp .USub) (rU fun i=>.int (-i)):=unI fun _ _ _ _ _ q=>neg_int q
end
section
variable {X:Cx} {a b c:Expr} {ta tb tc:TE} {pos:Pos}
theorem iD {Q:VK} {k k':Bool} (I:Inv X pins σ H s) (q:Q (.bl k) H) (e:k=k'):EP X pins σ Q (.bool k') s:=by
 subst e;exact⟨.bl k,H,I,rfl,q⟩
theorem ZN:jD X (compareOp .Lt) (GX fun i j=>.bl (decide (i<j))):=X7 fun _ _ _ _ _ _ _ q=>lt_int q
theorem MA:jD X (compareOp .Gt) (GX fun i j=>.bl (decide (j<i))):=X7 fun _ _ _ _ _ _ _ q=>gt_int q
theorem aaH:jD X (compareOp .GtE) (GX fun i j=>.bl (decide (j<=i))):=X7 fun _ _ _ _ _ _ _ q=>ge_int q
theorem IV:jD X (compareOp .Lt) (fun x y H Q=>∃i j,x= .str i/\y= .str j/\Q (.bl (decide (i.cps.toList<j.cps.toList))) H):=by
 intro pins s σ H x y v u Q I rx ry h;obtain⟨i,j,rfl,rfl,q⟩:=h;obtain⟨t,rfl⟩:=rx;obtain⟨t',rfl⟩:=ry;exact lt_str (iD I q rfl)
theorem IU:jD X (compareOp .In) (fun x y H Q=>∃i j,x= .str i/\y= .str j/\Q (.bl (!(Builtin.Str.occurrences j i 0 j.length 1).isEmpty)) H):=by
 intro pins s σ H x y v u Q I rx ry h;obtain⟨i,j,rfl,rfl,q⟩:=h;obtain⟨t,rfl⟩:=rx;obtain⟨t',rfl⟩:=ry;exact in_str (iD I q rfl)
theorem yZ:jD X (compareOp .Is) (fun x y H Q=>y= .bD/\Q (.bl (decide (x= .bD))) H):=by
 intro pins s σ H x y v u Q I rx ry h;obtain⟨rfl,q⟩:=h;cases ry;refine is_none_gen (iD I q ?_);cases x<;>first
  |(cases rx;rfl)
  |(obtain⟨t,rfl⟩:=rx;rfl)
theorem z8:jD X (compareOp .IsNot) (fun x y H Q=>y= .bD/\Q (.bl (!decide (x= .bD))) H):=by
 intro pins s σ H x y v u Q I rx ry h;obtain⟨rfl,q⟩:=h;cases ry;refine isnot_none_gen (iD I q ?_);cases x<;>first
  |(cases rx;rfl)
  |(obtain⟨t,rfl⟩:=rx;rfl)
theorem z9:jD X (compareOp .NotIn) (fun x y H Q=>∃i j,x= .str i/\y= .str j/\Q (.bl (!(!(Builtin.Str.occurrences j i 0 j.length 1).isEmpty))) H):=by
 intro pins s σ H x y v u Q I rx ry h;obtain⟨i,j,rfl,rfl,q⟩:=h;obtain⟨t,rfl⟩:=rx;obtain⟨t',rfl⟩:=ry;exact notIn_str (iD I q rfl)
theorem cO (b:Expr) {op:CmpOp} (h:op≠ .In:=by decide) (h2:op≠ .NotIn:=by decide):behindInMarks op b=false:=by
 have e1:(op==CmpOp.In)=false:=by cases op<;>first|rfl|exact absurd rfl h
 have e2:(op==CmpOp.NotIn)=false:=by cases op<;>first|rfl|exact absurd rfl h2
 cases b<;>simp[behindInMarks,e1,e2]
theorem z7 {op:CmpOp} (ho:jD X (compareOp op) r) (ha:PE X a ta) (hb:PE X b tb) (hm:behindInMarks op b=false):PE X (.Compare a [op] [b] pos) (YL r ta tb):=by
 intro pins s σ H Q I h;exact wpAny_Compare1 (VZ ha hb I h fun v u s2 x y H2 I2 rx ry q=>ho pins s2 σ H2 x y v u Q I2 rx ry q) hm
def TC (t:TE):TT:=fun σ H Q=>t σ H fun x H'=>∃k,x= .bl k/\Q k H'
theorem bK {op:CmpOp} (ho:jD X (compareOp op) r) (ha:PE X a ta) (hb:PE X b tb) (hm:behindInMarks op b=false):PT X (.Compare a [op] [b] pos) (TC (YL r ta tb)):=by
 intro pins s σ H Q I h;refine wpAny_isTrue_Compare1 (cL (ha pins s σ H _ I h) fun v s1 ⟨x,H1,I1,r1,q1⟩=>cL (hb pins s1 σ H1 _ I1 q1) fun u s2 ⟨y,H2,I2,r2,q2⟩=>
  cL (ho pins s2 σ H2 x y v u _ I2 r1 r2 q2) fun c s3 ⟨z,H3,I3,r3,k,e,q3⟩=>?_) hm
 subst e;cases r3;exact wpAny_truthy_bool ⟨H3,I3,q3⟩
def QA (K:Frag) (x:V) (H:Hp) (k:Bool):Prop:=
 match x with
 | .bD=>k=false
 | .bl b=>k=b
 | .int i=>k=(i !=0)
 | .str y=>y.length<=sizeLine/\k=((y.length:Int) !=0)
 | .YK y=>y.size<=sizeLine/\k=((y.size:Int) !=0)
 | .ref p=>(∃xs,k7 K H p xs/\k=!xs.isEmpty)\/ (∃xs,qB K H p xs/\k=!xs.isEmpty)\/ ∃kvs ep,H p=some (.dK kvs ep)/\k=!kvs.isEmpty
 |_=>False
theorem EJ {kvs:List (κ×V)} {vs:List (κ×Value)} (r:KV kvs vs):(!vs.isEmpty)=!kvs.isEmpty:=by
 cases r<;>rfl
theorem vD {its:List Value} (r:Vals xs its):(!its.toArray.isEmpty)=!xs.isEmpty:=by
 cases r<;>simp
theorem pO:(sizeLine:Nat)<2^63:=by rw[ik];decide
theorem U2:abI X (fun x H Q=>∃k,QA X.K x H k/\Q k H):=by
 intro pins s σ H x v Q I rx h;obtain⟨k,e,q⟩:=h;have hl:=pO;have hs:sizeLine=16777216:=ik;cases x with
 |bD=>
  cases rx;have e':k=false:=e;subst e';exact truthy_none ⟨H,I,q⟩
 |bl b=>
  cases rx;have e':k=b:=e;subst e';exact wpAny_truthy_bool ⟨H,I,q⟩
 |int i=>
  obtain⟨t,rfl⟩:=rx;have e':k=(i !=0):=e;subst e';exact PySem.P.truthy_int ⟨H,I,q⟩
 |str y=>
  obtain⟨t,rfl⟩:=rx;obtain⟨hy,e'⟩:y.length<=sizeLine/\k=((y.length:Int) !=0):=e;subst e';exact PySem.P.truthy_str (by omega) ⟨H,I.tok _,q⟩
 |YK y=>
  obtain⟨t,rfl⟩:=rx;obtain⟨hy,e'⟩:y.size<=sizeLine/\k=((y.size:Int) !=0):=e;subst e';exact PySem.W.truthy_bytes (by omega) ⟨H,I.tok _,q⟩
 | ref p=>
  cases rx;have e':(∃xs,k7 X.K H p xs/\k=!xs.isEmpty)\/ (∃xs,qB X.K H p xs/\k=!xs.isEmpty)\/ ∃kvs ep,H p=some (.dK kvs ep)/\k=!kvs.isEmpty:=e;rcases e' with⟨xs,hx,e'⟩|⟨xs,hx,e'⟩|⟨kvs,ep,hx,e'⟩
  .subst e';obtain⟨its,r,pl,hz⟩:=I.list hx;have hlen:=r.length;exact wpAny_truthy_list pl.isList (by simp only[cn];omega) ⟨H,I.tok _,by rw[vD r];exact q⟩
  .subst e';obtain⟨its,r,pl,hz⟩:=I.tuple hx;have hlen:=r.length;exact truthy_tuple pl (by simp only[cn];omega) ⟨H,I.tok _,by rw[vD r];exact q⟩
  .subst e';obtain⟨hz,hS,vs,r,m⟩:kvs.length<=sizeLine/\(p==sysModules)=false/\∃vs,KV kvs vs/\s.heap.DictAt (bS X.prog X.w) p vs ep:=I.bQ p _ hx;have hlen:kvs.length=vs.length:=Paired.length r;exact wpAny_truthy_dict hS m.dictOf (by omega) ⟨H,I.tok _,by rw[EJ r];exact q⟩
 |_=>exact(show False from e).elim
theorem L6 (ha:PE X a ta) (he:∀whole,isTrue a X.env whole=(do let v<-whole;standAt a.pos;holding [v] (truthy v))):
  PT X a (fun σ H Q=>ta σ H fun x H'=>∃k,QA X.K x H' k/\Q k H'):=by
 intro pins s σ H Q I h;exact isTrue_plain (cL (ha pins s σ H _ I h) fun v s1 ⟨x,H1,I1,r1,q1⟩=>U2 pins s1 σ H1 x v Q I1 r1 q1) (he _)
theorem EV:jD X (binaryOp .Add) (fun x y H Q=>∃i j,x= .str i/\y= .str j/\i.length+j.length<=sizeLine/\Q (.str (i++j)) H):=by
 intro pins s σ H x y v u Q I rx ry h;obtain⟨i,j,rfl,rfl,hz,q⟩:=h;obtain⟨t,rfl⟩:=rx;obtain⟨t',rfl⟩:=ry;exact add_str (fun t' tk=>⟨.str (i++j),H,I.tok _,⟨_,rfl⟩,q⟩) hz
theorem vals1 {x:V} (r:Vals [x] us):∃u,us=[u]/\RelV x u:=by
 cases r with
 |cons r1 r2=>cases r2;exact⟨_,rfl,r1⟩
theorem vals2 {x:V} (r:Vals [x,y] us):∃u w',us=[u,w']/\RelV x u/\RelV y w':=by
 cases r with
 |cons r1 r2=>
  cases r2 with
  |cons r3 r4=>cases r4;exact⟨_,_,rfl,r1,r3⟩
theorem HR (hc:X.calm=true):cN X (.builtin "min") (fun xs H Q=>∃i j,xs=[.int i,.int j]/\Q (.int (if j<i then j else i)) H):=by
 intro pins s σ H xs us Q I r h;obtain⟨i,j,rfl,q⟩:=h;obtain⟨u,w',rfl,⟨t,rfl⟩,⟨t',rfl⟩⟩:=vals2 r;refine min_two_ints (I.ok.hd hc) fun h' tk k=>⟨_,H,I.kept k,?_,q⟩
 by_cases hj:j<i
 .rw[aj hj,aj hj];exact⟨_,rfl⟩
 .rw[ai hj,ai hj];exact⟨_,rfl⟩
theorem HZ:cN X (.type "int") (fun xs H Q=>(∃i,xs=[.int i]/\Q (.int i) H)\/ ∃k,xs=[.bl k]/\Q (.int (if k then 1 else 0)) H):=by
 intro pins s σ H xs us Q I r h;rcases h with⟨i,rfl,q⟩|⟨k,rfl,q⟩
 .obtain⟨u,rfl,t,rfl⟩:=vals1 r;exact call_int_int ⟨.int i,H,I,⟨_,rfl⟩,q⟩
 .obtain⟨u,rfl,r1⟩:=vals1 r;cases r1;exact call_int_bool ⟨.int (if k then 1 else 0),H,I.tok _,⟨_,rfl⟩,q⟩
theorem hV:cN X (.type "str") (fun xs H Q=>∃i,xs=[.int i]/\i.natAbs.log2<1920/\Q (.str (toString i)) H):=by
 intro pins s σ H xs us Q I r h;obtain⟨i,rfl,hz,q⟩:=h;obtain⟨u,rfl,t,rfl⟩:=vals1 r;exact PySem.P.str_of_int hz ⟨.str _,H,I.tok _,⟨_,rfl⟩,q⟩
end
theorem tO.some_of {v:V} {o:Option Value} (r:tO (some v) o):∃u,o=some u/\RelV v u:=by
 cases o with
 |none=>exact(show False from r).elim
 |some u=>exact⟨u,rfl,r⟩
structure dG (k:Nat) (A:Around):Prop where
 hd:A.handled=none
 dp:A.depth+3*k+5<recursionLimit
 un:A.units+16*k+200<cLine
theorem dG.mono (r:dG k A) (h:j<=k):dG j A:=⟨r.hd,by have:=r.dp;omega,by have:=r.un;omega⟩
theorem dG.deeper (r:dG (k+1) A) (env:Env):dG k (A.deeper env):=
 ⟨r.hd,by have:=r.dp;show A.depth+1+3*k+5<_;omega,by have:=r.un;show A.units+3+16*k+200<_;omega⟩
theorem dG.depth (r:dG k A):A.depth<recursionLimit:=by have:=r.dp;omega
theorem dG.units (r:dG k A):A.units+64<cLine:=by have:=r.un;omega
def tZ:TA:=fun _ H Q=>Q [] H
def eR (ta:TE) (tr:TA):TA:=fun σ H Q=>ta σ H fun x H1=>tr σ H1 fun xs H2=>Q (x::xs) H2
section
variable {X:Cx} {e:Expr} {es:List Expr} {te:TE} {t:TA} {pos:Pos}
theorem aD:PA X [] tZ:=fun _ _ _ _ H Q I h=>Calls.spliced_nil ⟨[],H,I,.nil,h⟩
theorem aA (ha:PE X e te) (hr:PA X es t) (hs:starEach (e::es) X.env=(false,eval e X.env)::starEach es X.env:=by rfl):PA X (e::es) (eR te t):=by
 intro pos pins s σ H Q I h;rw[hs];show wpAny _ _ (spliced ((false,eval e X.env)::backTo pos (starEach es X.env))) _ _ s;refine jh (cL (ha pins s σ H _ I h) fun u s1 ⟨x,H1,I1,r1,q1⟩=>?_);exact cL (hr pos pins s1 σ H1 _ I1 q1) fun us s2 ⟨xs,H2,I2,r2,q2⟩=>⟨x::xs,H2,I2,.cons r1 r2,q2⟩
def W2 (t:TA):TE:=fun σ H Q=>t σ H fun xs H1=>xs.length<=sizeLine/\∀p,H1 p=none->Q (.ref p) (upd H1 p (.tup xs))
def R6 (t:TA):TE:=fun σ H Q=>t σ H fun xs H1=>xs.length<=sizeLine/\∀p,H1 p=none->Q (.ref p) (upd H1 p (.lst xs))
theorem bX {x1} (h:PA X es t):PE X (.Tuple es x1 pos) (W2 t):=by
 intro pins s σ H Q I hq;refine wpAny_Tuple_spliced (cL (h pos pins s σ H _ I hq) fun us s1 ⟨xs,H1,I1,r,z,q⟩=>⟨by rw[<-r.length];exact z,?_⟩);have hf:H1 s1.heap.objs.size=none:=I1.bQ.fresh (bf _);refine⟨.ref s1.heap.objs.size,upd H1 s1.heap.objs.size (.tup xs),I1.laid (t':=s1.toks) (fun b u e=>ao _ e) (bf _) ?_,rfl,q _ hf⟩;exact⟨z,us,r,qO.new _ _⟩
theorem fU (h:PA X es t):PE X (.List es pos) (R6 t):=by
 intro pins s σ H Q I hq;refine wpAny_List_spliced (cL (h pos pins s σ H _ I hq) fun us s1 ⟨xs,H1,I1,r,z,q⟩=>⟨by rw[<-r.length];exact z,?_⟩);have hf:H1 s1.heap.objs.size=none:=I1.bQ.fresh (bf _);refine⟨.ref s1.heap.objs.size,upd H1 s1.heap.objs.size (.lst xs),I1.laid (t':=s1.toks) (fun b u e=>ao _ e) (bf _) ?_,rfl,q _ hf⟩;exact⟨z,us,0,r,cc _ rfl⟩
end
abbrev Sp:=List V->Hp->VK->XK->Prop
abbrev J1:=List Env->Hp->Shared->XK->Value->Shared->Prop
structure QP (P:Program) (w:World) (K:Frag) (mg:Str->Option Value) (base:Heap) (A:Around) (outer:List Env) (s:Shared) (H:Hp):Prop where
 frames:A.frames=some outer
 mod:Mod K mg base
 bs:∀b o,base.get? b=some o->s.heap.get? b=some o/\H b=none
 R3:base.objs.size<=s.heap.objs.size
 tQ:s.heap.FunFrames base outer
 XT:∀b∈IL outer,H b=none
 bQ:oT P w H s.heap
 bare:AllBare s.gens
def CE (outer:List Env) (P:Program) (w:World) (H:Hp) (s:Shared) (Q:VK) (u:Value) (s':Shared):Prop:=
 ∃v H',s'.os=s.os/\AllBare s'.gens/\Un (IL outer) [] H H' s.heap s'.heap/\oT P w H' s'.heap/\RelV v u/\Q v H'
def CR (CX:J1) (outer:List Env) (P:Program) (w:World) (H:Hp) (s:Shared) (Q:VK) (E:XK) (r:Result) (s':Shared):Prop:=
 match r with
 | .ok (.ret u)=>CE outer P w H s Q u s'
 | .ok _=>False
 | .error e=>CX outer H s E e s'
structure rJ (P:Program) (w:World) (K:Frag) (mg:Str->Option Value) (base:Heap) (CX:J1) (k:Nat) (f:Addr) (fd:FuncData) (ps:List Str) (sp:Sp):Prop where
 len:∀vs H Q E,sp vs H Q E->vs.length=ps.length
 run:∀(A:Around) (outer:List Env) (s:Shared) (H:Hp) (args:Args) (us:List Value) (vs:List V) (Q:VK) (E:XK),dG k A->QP P w K mg base A outer s H->BindsTo s fd args (ps.zip us)->Vals vs us->sp vs H Q E->
  codeAny (model P w) A (.call (.ref f) args) (CR CX outer P w H s Q E) s
theorem rJ.imp {f:Addr} {sp':Sp} (F:rJ P w K mg base CX k f fd ps sp)
  (h:∀vs H Q E,sp' vs H Q E->sp vs H Q E):rJ P w K mg base CX k f fd ps sp':=
 ⟨fun vs H Q E q=>F.len vs H Q E (h _ _ _ _ q),fun A outer s H args us vs Q E hr he hb hv hs=>F.run A outer s H args us vs Q E hr he hb hv (h _ _ _ _ hs)⟩
section
variable {X:Cx} {pins:List (Addr×Obj)} {σ:St} {H:Hp} {s s':Shared}
theorem Inv.oR (I:Inv X pins σ H s):QP X.prog X.w X.K X.mg X.base X.A X.stack s H:=
 ⟨I.ok.frames,I.ok.mod,I.bs,fj I.ok.R3 I.sz,I.stack,I.GJ,I.bQ,I.bare⟩
theorem Inv.after {Q:VK} (I:Inv X pins σ H s) (h:CE X.stack X.prog X.w H s Q u s'):EP X pins σ Q u s':=by
 obtain⟨v,H',os,bare,un,bQ,r,q⟩:=h;obtain⟨hh,g,d,t,os'⟩:=s';obtain rfl:os'=s.os:=os;exact⟨v,H',I.call (h':=hh) (g':=g) (d':=d) (t':=t) (ch:=[]) un bQ bare (fun b z=>absurd z (by simp)),r,q⟩
end
def BV (sp:Sp) (dvs:List V) (E:XK) (t:TA):TE:=fun σ H Q=>t σ H fun vs H1=>sp (vs++dvs) H1 Q E
def Binds (K:Frag) (fd:FuncData) (ps:List Str) (ds:List Value):Prop:=
 ∀(s:Shared) (us:List Value),K.In s.heap->(us++ds).length=ps.length->BindsTo s fd ⟨us,[]⟩ (ps.zip (us++ds))
theorem Binds.all (h:∀us:List Value,us.length=ps.length->bindArgs fd ⟨us,[]⟩=pure (ps.zip us)):Binds K fd ps []:=fun s us _ hl=>by
 rw[dq]at hl⊢
 exact .of_eq (h us hl)
def Passes (CX:J1) (X:Cx) (E:XK):Prop:=∀(pins:List (Addr×Obj)) (σ:St) (H:Hp) (s:Shared) (e:Value) (s':Shared),Inv X pins σ H s->CX X.stack H s E e s'->X.xe e s'
section
variable {X:Cx} {CX:J1} {k:Nat} {f C:Addr} {fd:FuncData} {ps:List Str} {sp:Sp} {dvs:List V} {ds:List Value} {E:XK} {x m:Str} {p pos apos:Pos} {e o:Expr} {es:List Expr} {ta:TE} {t:TA}
theorem VO {Q:VK} {vs:List V} (F:rJ X.prog X.w X.K X.mg X.base CX k f fd ps sp) (hr:dG k X.A) (hb:Binds X.K fd ps ds) (hd:Vals dvs ds) (hx:Passes CX X E)
  (I:Inv X pins σ H s) (r:Vals vs us) (h:sp (vs++dvs) H Q E):wpAny (model X.prog X.w) X.A (call (.ref f) us) (EP X pins σ Q) X.xe s:=by
 have r2:Vals (vs++dvs) (us++ds):=r.append hd;have hl:(us++ds).length=ps.length:=by rw[<-r2.length];exact F.len _ _ _ _ h
 refine wpAny_call (codeAny_mono (F.run X.A X.stack s H ⟨us,[]⟩ (us++ds) (vs++dvs) Q E hr I.oR (hb s us I.YA hl) r2 h) fun r s' hq=>?_);cases r with
 |error e=>exact hx pins σ H s e s' I hq
 |ok fl=>
  cases fl with
  |ret u=>exact I.after hq
  |next=>exact False.elim hq
  |brk=>exact False.elim hq
  |cont=>exact False.elim hq
theorem QZ (F:rJ X.prog X.w X.K X.mg X.base CX k f fd ps sp) (hr:dG k X.A) (hg:Gl X x) (hm:X.mg x=some (.ref f)) (hk:keepIn X.K (.ref f)=true) (hb:Binds X.K fd ps ds) (hd:Vals dvs ds) (hx:Passes CX X E)
  (ha:PA X (e::es) t) (hdb:(x==("__debug__":Str))=false:=by decide) (he:starEach (e::es) X.env=(false,eval e X.env)::starEach es X.env:=by rfl) (hpl:(backTo pos (starEach es X.env)).any (·.1)=false:=by rfl):
  PE X (.Call (.Name x p) (e::es) [] pos) (BV sp dvs E t):=by
 intro pins s σ H Q I h;refine wpAny_Call_Name_kw (RE I hg hm ?_ hdb);refine PySem.W.callWith_K (h₀:=X.base) I.ok.mod.kin hk (cL (ha pos pins s σ H _ I h) fun us s1 ⟨vs,H1,I1,r,q⟩=>⟨I1.YA,?_⟩) he hpl;exact VO F hr hb hd hx I1 r q
end
structure qM (N P:List Str) (sc:Scope):Prop where
 kind:sc.kind= .function
 co:sc.isCoroutine=false
 gen:sc.isGenerator=false
 nd:N.Nodup
 pre:N.take P.length=P
 par:∀x∈P,sc.names.lookup x=some .local\/ sc.names.lookup x=some .cell
 WN:∀y∈sc.names,y.2≠ .free
theorem x6:∀{binds:List (Str×Value)} {m:Str->Option Value},(∀v,(x,v)∉binds)->bindL kindOf binds m x=m x
 |[],_,_=>rfl
 | (n,v)::r,m,h=>by
  unfold bindL;rw[x6 fun w hw=>h w (ay _ hw)];split
  .have:x≠n:=by rintro rfl;exact h v ba
   simp[this]
  .rfl
theorem x4:∀{binds:List (Str×Value)} {m:Str->Option Value},(∀v,(x,v)∉binds)->bindC kindOf binds m x=m x
 |[],_,_=>rfl
 | (n,v)::r,m,h=>by
  unfold bindC;rw[x4 fun w hw=>h w (ay _ hw)];split
  .rfl
  .have:x≠n:=by rintro rfl;exact h v ba
   simp[this]
theorem xW:∀{P:List Str} {vs:List Value} {i:Nat} {m:Str->Option Value},P.Nodup->P[i]? =some x->vs[i]? =some v->kindOf x=some .local->
  bindL kindOf (P.zip vs) m x=some v
 |[],_,_,_,_,h,_,_=>by simp at h
 |_::_,[],_,_,_,_,h,_=>by simp at h
 |p::P,w::vs,0,m,nd,h1,h2,hk=>by
  simp at h1 h2;subst h1;subst h2
  show bindL kindOf ((p,w)::P.zip vs) m p=_;unfold bindL;rw[x6 fun v hv=>(fq.mp nd).1 (of_mem_zip hv).1,aj hk];simp
 |p::P,w::vs,i+1,m,nd,h1,h2,hk=>by
  show bindL kindOf ((p,w)::P.zip vs) m x=_;unfold bindL;exact xW (i:=i) (fq.mp nd).2 (by simpa using h1) (by simpa using h2) hk
theorem xQ:∀{P:List Str} {vs:List Value} {i:Nat} {m:Str->Option Value},P.Nodup->P[i]? =some x->vs[i]? =some v->kindOf x≠some .local->
  bindC kindOf (P.zip vs) m x=some v
 |[],_,_,_,_,h,_,_=>by simp at h
 |_::_,[],_,_,_,_,h,_=>by simp at h
 |p::P,w::vs,0,m,nd,h1,h2,hk=>by
  simp at h1 h2;subst h1;subst h2
  show bindC kindOf ((p,w)::P.zip vs) m p=_;unfold bindC;rw[x4 fun v hv=>(fq.mp nd).1 (of_mem_zip hv).1,ai hk];simp
 |p::P,w::vs,i+1,m,nd,h1,h2,hk=>by
  show bindC kindOf ((p,w)::P.zip vs) m x=_;unfold bindC;exact xQ (i:=i) (fq.mp nd).2 (by simpa using h1) (by simpa using h2) hk
noncomputable def start (N:List Str) (vs:List V):St:=vs.map some++List.replicate (N.length - vs.length) none
noncomputable def DO (CX:J1) (P:Program) (w:World) (K:Frag) (mg:Str->Option Value) (base:Heap) (N:List Str) (qual:Str) (scope:Scope) (f:Addr) (cd:Value) (A:Around) (outer:List Env) (s:Shared) (H:Hp) (E:XK):Cx where
 prog:=P
 w:=w
 K:=K
 mg:=mg
 base:=base
 A:=A.deeper (envOfC qual scope s.heap.objs.size f cd)
 N:=N
 i9:=s
 KY:=H
 env:=envOfC qual scope s.heap.objs.size f cd
 outer:=outer
 stack:=envOfC qual scope s.heap.objs.size f cd::outer
 ex:=[]
 calm:=true
 fn:=fun _=>true
 pn:=[]
 xe:=fun e s'=>wpAny (model P w) (A.deeper (envOfC qual scope s.heap.objs.size f cd)) (leaving (envOfC qual scope s.heap.objs.size f cd) e) (fun _ s''=>CX outer H s E e s'') (fun e' s''=>CX outer H s E e' s'') s'
theorem BD {sc:Scope} (h:sc.names.lookup x=some .cell):∃c,(cellsFrom n sc.names []).lookup x=some c:=by
 have q:=PySem.W.cellsFrom_some sc.names n [] (.inl h);exact jr.mp q
theorem HQ {f:Addr} {cd:Value} {outer:List Env} {s s1:Shared} {E:XK} {vs:List V}
  (S:qM N ps scope) (hd:A.handled=none) (e0:QP P w K mg base A outer s H) (hl:vs.length=ps.length) (r:Vals vs us)
  (x:InCallC s s.heap.objs.size (bindL (envOfC qual scope s.heap.objs.size f cd).kindOf (ps.zip us) fun _=>none) (cellsFrom (s.heap.objs.size+1) scope.names []) (bindC (envOfC qual scope s.heap.objs.size f cd).kindOf (ps.zip us) fun _=>none) s1):
  Inv (DO CX P w K mg base N qual scope f cd A outer s H E) [] (start N vs) H s1:=by
 have hpl:ps.length<=N.length:=by have:=cw List.length S.pre;rw[fx]at this;omega
 obtain⟨h1,tk,rfl,hk⟩:=x.done;have cT:∀b:Addr,b∉(DO CX P w K mg base N qual scope f cd A outer s H E).ex:=fun b z=>absurd (show b∈([]:List Addr)from z) (by simp)
 refine⟨⟨e0.mod,S.kind,rfl,rfl,bf _,fun y z c h1 h2=>?_,fun y hy=>?_,fun y c _ h=>?_,fun _=>hd,Around.frames_deeper e0.frames,.inr ⟨rfl,rfl⟩,fun b z=>absurd z (cT b),e0.bs,e0.R3,fun b _ _=>cT b,fun b z=>absurd z (cT b),e0.tQ,e0.XT⟩,
  rfl,e0.bare,Un.kept hk,⟨_,x.toInCall.ns,fun i y v h1 h2 h3=>?_⟩,fun y c h=>⟨_,x.cell y c h⟩,e0.bQ.fresh (bf _),fun y c h=>?_,fun p hp=>absurd (show p∈([]:List (Addr×Obj))from hp) (by simp),e0.bQ.kept hk,?_⟩
 .exact name_of_addr x.apart (fz h1) (fz h2)
 .have hy:scope.names.lookup y=some .cell\/ scope.names.lookup y=some .free:=hy;rcases hy with hy|hy
  .exact BD hy
  .exact absurd rfl (S.WN _ (fz hy))
 .exact gq (x.above y c (fz h))
 .have hi:i<vs.length:=by
   unfold start at h2
   by_cases hi:i<vs.length
   .exact hi
   .rw[gi (by simpa using hi)]at h2;rw[kn]at h2;split at h2<;>cases h2
  have ha:vs[i]? =some v:=by
   unfold start at h2;rw[gj (by simpa using hi),aq]at h2;cases e:vs[i]? with
   |none=>rw[e]at h2;cases h2
   |some a=>rw[e]at h2;cases h2;rfl
  obtain⟨u,hu,rv⟩:=r.get ha;have hp:ps[i]? =some y:=by
   rw[<-S.pre,List.getElem?_take_of_lt (by omega)];exact h1
  have ndP:ps.Nodup:=by rw[<-S.pre];exact S.nd.sublist (List.take_sublist _ _)
  refine⟨u,rv,?_⟩;rcases S.par y (bh hp)with k|k
  .exact .inl ⟨k,xW ndP hp hu k⟩
  .obtain⟨c,e⟩:=BD (n:=s.heap.objs.size+1) k;refine .inr ⟨.inl k,c,e,?_⟩;have q:=x.cell y c e;rw[xQ ndP hp hu (by show scope.names.lookup y≠_;rw[k];decide)]at q;exact q
 .exact e0.bQ.fresh (gq (x.above y c (fz h)))
 .unfold start;show _=N.length;rw[bq,ah,gm];omega
theorem aaO {f:Addr} {name:Str} {params:Arguments} {dV kV doc pm cdv ct oc:Value} {an od:Option Addr}
  {osl:Array (Option Value)} (lk:K.lookup f=some ⟨oc,od,.func (fnOf name qual params body scope dV kV doc pm an cdv ct),osl⟩) (hcd:codeIn K cdv qual=true) (S:qM N ps scope)
  (len:∀vs H Q E,sp vs H Q E->vs.length=ps.length)
  (hbody:∀(A:Around) (outer:List Env) (s:Shared) (H:Hp) (vs:List V) (Q:VK) (E:XK),dG k (A.deeper (envOfC qual scope s.heap.objs.size f cdv))->sp vs H Q E->
   ∃t,FU (DO CX P w K mg base N qual scope f cdv A outer s H E) body t/\t {nx:=fun _ H'=>Q .bD H',rt:=Q} (start N vs) H):
  rJ P w K mg base CX (k+1) f (fnOf name qual params body scope dV kV doc pm an cdv ct) ps sp:=by
 refine⟨len,fun A outer s H args us vs Q E hr e0 hb r hsp=>?_⟩;have hl:=len _ _ _ _ hsp;have KX:K.In s.heap:=e0.mod.kin.keeps fun b o e=>(e0.bs b o e).1
 have lim:s.heap.NoLimit:=e0.mod.nolimit.keeps fun b o e=>(e0.bs b o e).1
 have hkind:∀y∈ps.zip us,scope.names.lookup y.1=some .local\/ (scope.names.lookup y.1=some .cell/\((cellsFrom (s.heap.objs.size+1) scope.names []).lookup y.1).isSome=true):=fun⟨n,v⟩ hy=>by
  rcases S.par n (of_mem_zip hy).1 with q|q
  .exact .inl q
  .exact .inr ⟨q,PySem.W.cellsFrom_some _ _ _ (.inl q)⟩
 refine codeAny_call_function hr.depth (KX _ _ lk) rfl S.co S.gen rfl (PySem.W.codeRec_of KX hcd) (hb _ _ _ _ ?_);refine wpAny_newFunctionEnv_cells S.kind hkind fun env he s1 x=>?_
 subst he;refine⟨lim.keeps x.toInCall.keep,codeAny_func ?_⟩;obtain⟨t,ht,hq⟩:=hbody A outer s H vs Q E (hr.deeper _) hsp;have I:Inv (DO CX P w K mg base N qual scope f cdv A outer s H E) [] (start N vs) H s1:=HQ S hr.hd e0 hl r x;refine di (ht [] s1 (start N vs) H _ I hq) (fun fl s' hs=>?_) fun e s' hs=>hs
 have fin:∀{σ':St} {H':Hp} {v:V} {u:Value},Inv (DO CX P w K mg base N qual scope f cdv A outer s H E) [] σ' H' s'->RelV v u->Q v H'->CE outer P w H s Q u s':=
  fun{σ' H' v u} J rv q=>⟨v,H',J.os,J.bare,J.base,J.bQ,rv,q⟩
 cases fl with
 |ret u=>
  obtain⟨v,σ',H',J,rv,q⟩:=hs;exact fin J rv q
 |next=>
  obtain⟨σ',H',J,q⟩:=hs;exact fin (v:=V.bD) (u:=Value.none) J rfl q
 |brk=>
  obtain⟨_,_,_,q⟩:=hs;exact False.elim q
 |cont=>
  obtain⟨_,_,_,q⟩:=hs;exact False.elim q
section
variable {X:Cx} {x:Str} {p pos:Pos} {e:Expr} {es:List Expr} {t:TA} {id T:String} {r:List V->Hp->VK->Prop}
def YD (r:List V->Hp->VK->Prop) (t:TA):TE:=fun σ H Q=>t σ H fun vs H1=>r vs H1 Q
theorem cJ (hc:cN X (.builtin id) r) (hg:Gl X x) (hm:X.mg x=none) (hv:bootBuiltins x=some (.builtin id)) (ha:PA X (e::es) t) (hn:x≠"__name__":=by decide) (hdb:(x==("__debug__":Str))=false:=by decide)
  (he:starEach (e::es) X.env=(false,eval e X.env)::starEach es X.env:=by rfl) (hpl:(backTo pos (starEach es X.env)).any (·.1)=false:=by rfl):PE X (.Call (.Name x p) (e::es) [] pos) (YD r t):=by
 intro pins s σ H Q I h;refine wpAny_Call_Name_kw (vL I hg hm hv ?_ hn hdb);exact PyProof.Rows.callWith_builtin1 (cL (ha pos pins s σ H _ I h) fun us s1 ⟨vs,H1,I1,r1,q1⟩=>hc pins s1 σ H1 vs us Q I1 r1 q1) he hpl
theorem cK (hc:cN X (.type T) r) (hg:Gl X x) (hm:X.mg x=none) (hv:bootBuiltins x=some (.type T)) (ha:PA X (e::es) t) (hn:x≠"__name__":=by decide) (hdb:(x==("__debug__":Str))=false:=by decide)
  (he:starEach (e::es) X.env=(false,eval e X.env)::starEach es X.env:=by rfl) (hpl:(backTo pos (starEach es X.env)).any (·.1)=false:=by rfl):PE X (.Call (.Name x p) (e::es) [] pos) (YD r t):=by
 intro pins s σ H Q I h;refine wpAny_Call_Name_kw (vL I hg hm hv ?_ hn hdb);exact jg (cL (ha pos pins s σ H _ I h) fun us s1 ⟨vs,H1,I1,r1,q1⟩=>hc pins s1 σ H1 vs us Q I1 r1 q1) he hpl
end
end L2
namespace HT
open PySem PyProof.Rows
variable {sl t:Addr} {vl vu:Value} {Q:Value->Shared->Prop}
section
variable {prog:Program} {w:World} {A:Around} {E:Value->Shared->Prop} {s:Shared}
theorem R0 {b:Addr} {vs ws:List Value} (ht:IsTup s.heap t vs.toArray) (hb:IsTup s.heap b ws.toArray) (hv:vs≠[])
  (h1:ws=[]->Q (.ref t) s) (h2:ws≠[]->Q (.ref s.heap.objs.size) {s with heap:=s.heap.push {cls:=.type "tuple",data:=.seq (vs++ws).toArray}})
  (hsz:vs.length+ws.length<=sizeLine):wpAny (model prog w) A (binaryOp .Add (.ref t) (.ref b)) Q E s:=by
 obtain⟨⟨cls,dd,data,sl⟩,ho,hc,n,hd⟩:=id ht;obtain⟨⟨cls2,dd2,data2,sl2⟩,ho2,hc2,n2,hd2⟩:=id hb;simp only at hc hd hc2 hd2;subst hc hd hc2 hd2;have e:vs.toArray++ws.toArray=(vs++ws).toArray:=by simp
 by_cases hw:ws=[]
 .exact concat_meets ⟨_,ho,rfl⟩ ⟨_,ho2,rfl⟩ noFill_tuple_add seq_tuple_add slot_tuple_add entry_tuple_add (args_tuple_add_2 _ _)
   (tuple_addW1 t b vs.toArray ws.toArray n n2 dd dd2 sl sl2 (by simpa using hv) (by simp[hw])) ⟨ho,ho2,h1 hw⟩
 .refine concat_meets ⟨_,ho,rfl⟩ ⟨_,ho2,rfl⟩ noFill_tuple_add seq_tuple_add slot_tuple_add entry_tuple_add (args_tuple_add_2 _ _)
   (tuple_addW2 t b vs.toArray ws.toArray n n2 dd dd2 sl sl2 (by simpa using hv) (by simpa using hw) (by rw[cn,cn];exact hsz)) ⟨ho,ho2,?_⟩
  rw[e];exact h2 hw
noncomputable def dX (n d:Nat):Option Int->Nat
 |none=>d
 |some v=>if v<0 then(v+(n:Int)).toNat else min v.toNat n
theorem CI (n d:Nat):dX n d none=d:=rfl
theorem FV (n d k:Nat):dX n d (some (k:Int))=min k n:=by
 show(if(k:Int)<0 then((k:Int)+(n:Int)).toNat else min (k:Int).toNat n)=min k n;rw[ai (by omega),toNat_natCast]
theorem U1 (n d:Nat) (hd:d<=n) (o:Option Int):dX n d o<=n:=by
 cases o with
 |none=>exact hd
 |some v=>
  show(if v<0 then(v+(n:Int)).toNat else min v.toNat n)<=n
  by_cases hv:v<0
  .rw[aj hv];omega
  .rw[ai hv];exact Nat.min_le_right _ _
theorem F9 (v:Int) (n d:Nat):(if v<0 then max (v+(n:Int)) 0 else min v (n:Int))=((dX n d (some v):Nat):Int):=by
 show(if v<0 then max (v+(n:Int)) 0 else min v (n:Int))=(((if v<0 then(v+(n:Int)).toNat else min v.toNat n):Nat):Int)
 by_cases hv:v<0
 .simp only[aj hv];omega
 .simp only[ai hv];omega
theorem DM (lo hi:Option Int) (n:Nat):Builtin.Slice.sliceAdjust lo hi 1 (n:Int)=(((dX n 0 lo:Nat):Int),((dX n n hi:Nat):Int)):=by
 have h1:¬((1:Int)<0):=by omega
 unfold Builtin.Slice.sliceAdjust;simp only[h1,if_false];refine Prod.ext ?_ ?_
 .cases lo with
  |none=>rfl
  |some v=>exact F9 v n 0
 .cases hi with
  |none=>rfl
  |some v=>exact F9 v n n
theorem EB (i j:Nat):Builtin.Slice.slicePlaces (i:Int) (j:Int) 1=j - i:=by
 unfold Builtin.Slice.slicePlaces;have h1:(1:Int)>0:=by omega
 simp only[h1,if_true,Int.ediv_one];split<;>omega
theorem u3 {v:Value} {o:Option Int} {Q:Option Int->Shared->Prop} (p:IsPart v o) (h:Q o s):wpAny (model prog w) A (Builtin.Slice.slicePartIndex v) Q E s:=by
 cases p with
 |none=>exact slicePart_none h
 |int i t=>exact slicePart_int h
theorem kS {lo hi:Option Int} {n:Nat} {Q:Int×Int×Nat->Shared->Prop} (hs:s.heap.IsSliceOf sl vl vu .none) (pl:IsPart vl lo) (pu:IsPart vu hi)
  (h:Q (((dX n 0 lo:Nat):Int),1,dX n n hi - dX n 0 lo) s):wpAny (model prog w) A (Builtin.Slice.sliceApplied (.ref sl) (pure (n:Int))) Q E s:=by
 obtain⟨os,hos,hcs,hds⟩:=id hs;unfold Builtin.Slice.sliceApplied Builtin.Slice.sliceFields;refine ae (ae (wpAny_field hos hds (x:=vl) rfl (ae (wpAny_field hos hds (x:=vu) rfl (ae (wpAny_field hos hds (x:=.none) rfl (ax ?_)))))));refine ae (slicePart_none ?_);show wpAny _ _ (if((1:Int)==0)=true then _ else _) _ _ s;rw[ai (by decide)];refine ae (u3 pl (ae (u3 pu (ae (ax ?_)))));show wpAny _ _ (match Builtin.Slice.sliceAdjust lo hi 1 (n:Int)with|(lo,hi)=>pure (lo,(1:Int),Builtin.Slice.slicePlaces lo hi 1)) _ _ s;rw[DM lo hi n];show wpAny _ _ (pure (((dX n 0 lo:Nat):Int),(1:Int),Builtin.Slice.slicePlaces ((dX n 0 lo:Nat):Int) ((dX n n hi:Nat):Int) 1)) _ _ s;rw[EB];exact ax h
theorem MM (xs:Array Value) (i k:Nat):((List.range k).filterMap fun(m:Nat)=>xs[((i:Int)+(m:Int)*1).toNat]?).toArray=((xs.toList.drop i).take k).toArray:=by
 have e:(fun(m:Nat)=>xs[((i:Int)+(m:Int)*1).toNat]?)=fun m=>xs[i+m]?:=by
  funext m;have:((i:Int)+(m:Int)*1).toNat=i+m:=by omega
  rw[this]
 rw[e];have:=pick_run xs i k;rw[List.filterMap_map]at this;have e2:((fun x=>xs[x]?)∘fun x=>i+x)=fun m=>xs[i+m]?:=rfl
 rw[e2]at this;rw[this]
theorem rL {items:Array Value} {lo hi:Option Int} (ht:IsTup s.heap t items) (hs:s.heap.IsSliceOf sl vl vu .none) (pl:IsPart vl lo) (pu:IsPart vu hi)
  (hw:¬(dX items.size 0 lo=0/\dX items.size items.size hi=items.size))
  (h:Q (.ref s.heap.objs.size) {s with heap:=s.heap.push {cls:=.type "tuple",data:=.seq ((items.toList.drop (dX items.size 0 lo)).take (dX items.size items.size hi - dX items.size 0 lo)).toArray}})
  (hsz:items.size<=sizeLine):wpAny (model prog w) A (getItem (.ref t) (.ref sl)) Q E s:=by
 have htake:sizeOk (.seq ((items.toList.drop (dX items.size 0 lo)).take (dX items.size items.size hi - dX items.size 0 lo)).toArray):=by
  show((items.toList.drop (dX items.size 0 lo)).take (dX items.size items.size hi - dX items.size 0 lo)).toArray.size<=sizeLine;rw[cn,fx,ff,length_toList];omega
 have hj:dX items.size items.size hi<=items.size:=U1 _ _ (bf _) hi;obtain⟨os,hos,hcs,hds⟩:=id hs;have hTs:s.TypeIs (.ref sl) "slice":=⟨os,hos,hcs⟩;unfold getItem
 try with_reducible refine gf ?_
 first|refine ae (ax ?_)|skip
 refine ae (wpAny_sequenceKey ht.typeIs (by decide) ?_);refine ae (ko (name:=Str.ofString "__getitem__") ht.typeIs ij
  (gv ij ht.typeIs entry_tuple_getitem ?_ (args_tuple_getitem _ _)))
 show wpAny _ _ (Builtin.Tuple.tupleItemsOf (.ref t)>>=_) _ _ s;refine ae (tupleItemsOf_ ht ?_);refine ae (wpAny_typeOf hTs ?_);rw[aj (by decide)];refine ae (kS hs pl pu ?_);have hno:¬((((dX items.size 0 lo:Nat):Int)==0 && (1:Int)==1 && (dX items.size items.size hi - dX items.size 0 lo)==items.size)=true):=by
  intro q;rw[bz,bz]at q;have q1:((dX items.size 0 lo:Nat):Int)=0:=eq_of_beq q.1.1;have q2:dX items.size items.size hi - dX items.size 0 lo=items.size:=eq_of_beq q.2;exact hw ⟨by omega,by omega⟩
 show wpAny _ _ (if(((dX items.size 0 lo:Nat):Int)==0 && (1:Int)==1 && (dX items.size items.size hi - dX items.size 0 lo)==items.size)=true then _ else _) _ _ s;rw[ai hno,MM]
 first
  |exact ae (m:=Builtin.Tuple.tupleExact _) (dg (ax ⟨_,rfl,ax h⟩) htake)
  |exact ae (m:=Builtin.Tuple.tupleExact _) (dg (ae (ax (ax ⟨_,rfl,ax h⟩))) htake)
  |exact ae (ae (m:=Builtin.Tuple.tupleExact _) (dg (ax (ax ⟨_,rfl,ax h⟩)) htake))
  |exact ae (ae (m:=Builtin.Tuple.tupleExact _) (dg (ax ⟨_,rfl,ax h⟩) htake))
end
end HT
namespace L2
open PySem PySem.Spec PyProof.Rows
variable {H:Hp} {pins:List (Addr×Obj)} {xs:List V} {its its':List Value} {j n:Nat} {s:Shared} {σ:St} {α:Type} {r:V->Option Int->Option Int->Hp->VK->Prop}
abbrev TO:=St->Hp->(Option Int->Hp->Prop)->Prop
def PO (X:Cx) (e:Option Expr) (t:TO):Prop:=
 ∀(pins:List (Addr×Obj)) (s:Shared) (σ:St) (H:Hp) (Q:Option Int->Hp->Prop),Inv X pins σ H s->t σ H Q->
  wpAny (model X.prog X.w) X.A (evalPart e X.env) (fun u s'=>∃o H',Inv X pins σ H' s'/\IsPart u o/\Q o H') X.xe s
def G5:TO:=fun _ H Q=>Q none H
def TM (t:TE):TO:=fun σ H Q=>t σ H fun x H1=>∃i,x= .int i/\Q (some i) H1
section
variable {X:Cx} {e:Expr} {te:TE} {lo hi:Option Expr} {tl th:TO} {pos p2:Pos}
theorem qY:PO X none G5:=by
 intro pins s σ H Q I h;rw[evalPart_none];exact ax ⟨none,H,I,.none,h⟩
theorem rK (h:PE X e te):PO X (some e) (TM te):=by
 intro pins s σ H Q I hw;rw[evalPart_some];refine cL (h pins s σ H _ I hw) fun u s1 ⟨x,H1,I1,r1,q1⟩=>?_
 obtain⟨i,rfl,q⟩:=q1;obtain⟨t,rfl⟩:=r1;exact⟨some i,H1,I1,.int i t,q⟩
def JY (X:Cx) (r:V->Option Int->Option Int->Hp->VK->Prop):Prop:=
 ∀(pins:List (Addr×Obj)) (s:Shared) (σ:St) (H:Hp) (x:V) (v vl vu:Value) (lo hi:Option Int) (sl:Addr) (Q:VK),Inv X pins σ H s->RelV x v->s.heap.IsSliceOf sl vl vu .none->IsPart vl lo->IsPart vu hi->r x lo hi H Q->
  ∃T id,typeLookup (.type T) "__getitem__"=pure (some (.builtin id))/\s.TypeIs v T/\wpAny (model X.prog X.w) X.A (getItem v (.ref sl)) (EP X pins σ Q) X.xe s
theorem JY.or {r':V->Option Int->Option Int->Hp->VK->Prop} (h:JY X r) (h':JY X r'):JY X (fun x lo hi H Q=>r x lo hi H Q\/ r' x lo hi H Q):=by
 intro pins s σ H x v vl vu lo hi sl Q I rx hs pl pu q;rcases q with q|q
 .exact h pins s σ H x v vl vu lo hi sl Q I rx hs pl pu q
 .exact h' pins s σ H x v vl vu lo hi sl Q I rx hs pl pu q
def tSl (r:V->Option Int->Option Int->Hp->VK->Prop) (te:TE) (tl th:TO):TE:=fun σ H Q=>te σ H fun x H1=>tl σ H1 fun l H2=>th σ H2 fun u H3=>r x l u H3 Q
theorem nN (hr:JY X r) (he:PE X e te) (hl:PO X lo tl) (hu:PO X hi th):PE X (.Subscript e (.Slice lo hi none p2) pos) (tSl r te tl th):=by
 intro pins s σ H Q I h;refine Subscript_ (cL (he pins s σ H _ I h) fun v s1 ⟨x,H1,I1,r1,q1⟩=>?_);refine wpAny_Slice (cL (hl pins s1 σ H1 _ I1 q1) fun vl s2 ⟨l,H2,I2,pl,q2⟩=>cL (hu pins s2 σ H2 _ I2 q2) fun vu s3 ⟨u,H3,I3,pu,q3⟩=>?_);rw[evalPart_none];refine ax ?_;have I4:Inv X pins σ H3 {s3 with heap:=s3.heap.push {cls:=.type "slice",data:=.fields #[vl,vu,.none]}}:=I3.kept (t':=s3.toks) fun b ob q=>ao _ q
 obtain⟨T,id,hT,ht,hg⟩:=hr pins {s3 with heap:=s3.heap.push {cls:=.type "slice",data:=.fields #[vl,vu,.none]}} σ H3 x v vl vu l u s3.heap.objs.size Q I4 r1 (Heap.IsSliceOf.new ..) pl pu q3;show wpAny (model X.prog X.w) X.A (subscriptTail e (.Slice lo hi none p2) v (.ref s3.heap.objs.size)) (EP X pins σ Q) X.xe {s3 with heap:=s3.heap.push {cls:=.type "slice",data:=.fields #[vl,vu,.none]}};exact tail_any (ops:=[.ref s3.heap.objs.size,v]) ht hT hg (by with_unfolding_all rfl)
noncomputable def wI (xs:List V) (lo hi:Option Int):List V:=(xs.drop (HT.dX xs.length 0 lo)).take (HT.dX xs.length xs.length hi - HT.dX xs.length 0 lo)
theorem tJ (xs:List V) (lo hi:Option Int):(wI xs lo hi).length<=xs.length:=by
 unfold wI;rw[fx,ff];omega
def abQ (K:Frag):V->Option Int->Option Int->Hp->VK->Prop:=fun x lo hi H Q=>∃a xs,x= .ref a/\qB K H a xs/\
 ¬(HT.dX xs.length 0 lo=0/\HT.dX xs.length xs.length hi=xs.length)/\∀p,H p=none->Q (.ref p) (upd H p (.tup (wI xs lo hi)))
theorem UI:JY X (abQ X.K):=by
 intro pins s σ H x v vl vu lo hi sl Q I rx hs pl pu h;obtain⟨a,xs,rfl,hx,hw,q⟩:=h;cases rx;obtain⟨its,r,ht,hz⟩:=I.tuple hx;have hlen:its.toArray.size=xs.length:=by rw[cn];exact r.length.symm
 refine⟨"tuple",_,PyProof.Rows.slot_tuple_getitem.lookup,ht.typeIs,?_⟩;refine HT.rL ht hs pl pu (by rw[hlen];exact hw) ?_ (by rw[hlen];exact hz);rw[hlen];refine⟨.ref s.heap.objs.size,_,I.laid (t':=s.toks) (o:=.tup (wI xs lo hi)) (fun b ob q=>ao _ q) (bf _) ?_,rfl,q _ (I.bQ.fresh (bf _))⟩;exact⟨fj (tJ xs lo hi) hz,_,(r.drop (HT.dX xs.length 0 lo)).take (HT.dX xs.length xs.length hi - HT.dX xs.length 0 lo),qO.new _ _⟩
theorem Vals.FD {us:List Value} (r:Vals xs us):us=[]↔xs=[]:=by
 cases r with
 |nil=>simp
 |cons _ _=>simp
end
noncomputable def wJ (n:Nat) (i:Int):Option Nat:=if 0<=i then(if i<n then some i.toNat else none)else if -(n:Int)<=i then some (i+n).toNat else none
noncomputable def p9 (xs:List α) (i:Int):Option α:=(wJ xs.length i).bind fun j=>xs[j]?
theorem GS {i:Int} (h:wJ n i=some j):seqIndex? i n=some j/\j<n/\ -(n:Int)<=i/\i<n:=by
 unfold wJ at h
 by_cases h0:0<=i
 .rw[aj h0]at h
  by_cases h1:i<n
  .rw[aj h1]at h;have e:i.toNat=j:=Option.some.inj h;exact⟨by rw[seqIndex_of h0 h1,e],by omega,by omega,h1⟩
  .rw[ai h1]at h;cases h
 .rw[ai h0]at h
  by_cases h1: -(n:Int)<=i
  .rw[aj h1]at h;have e:(i+n).toNat=j:=Option.some.inj h;exact⟨by rw[seqIndex_neg (by omega) h1,e],by omega,h1,by omega⟩
  .rw[ai h1]at h;cases h
theorem yI {xs:List α} {i:Int} {v:α} (h:p9 xs i=some v):∃j,seqIndex? i xs.length=some j/\xs[j]? =some v/\j<xs.length/\ -(xs.length:Int)<=i/\i<xs.length:=by
 unfold p9 at h;cases e:wJ xs.length i with
 |none=>rw[e]at h;cases h
 |some j=>
  rw[e]at h;obtain⟨h1,h2,h3,h4⟩:=GS e;exact⟨j,h1,h,h2,h3,h4⟩
theorem hB {xs:List α} {v:α} (h:xs[j]? =some v):p9 xs (j:Int)=some v:=by
 have hj:j<xs.length:=(af.mp h).1;have e:wJ xs.length (j:Int)=some j:=by
  unfold wJ;rw[aj (by omega),aj (by omega)];simp
 unfold p9;rw[e];exact h
def QV (b:Expr):Prop:=∀o i,subscripted b false o i=operate [o,i] (getItem o i)
def ES (X:Cx) (r:R2):Prop:=
 ∀(value slice:Expr) (pins:List (Addr×Obj)) (s:Shared) (σ:St) (H:Hp) (x y:V) (v u:Value) (Q:VK),Inv X pins σ H s->RelV x v->RelV y u->r x y H Q->
  subscripted slice false v u=operate [v,u] (getItem v u)->wpAny (model X.prog X.w) X.A (subscriptTail value slice v u) (EP X pins σ Q) X.xe s
def MtR (X:Cx) (id:String) (r:V->List V->Hp->VK->Prop):Prop:=
 ∀(pins:List (Addr×Obj)) (s:Shared) (σ:St) (H:Hp) (x:V) (xs:List V) (v:Value) (us:List Value) (Q:VK),Inv X pins σ H s->RelV x v->Vals xs us->r x xs H Q->
  wpAny (model X.prog X.w) X.A (call (.builtin id) (v::us)) (EP X pins σ Q) X.xe s
section
variable {X:Cx} {a b:Expr} {ta tb:TE} {pos:Pos}
theorem ES.or {r r':R2} (h:ES X r) (h':ES X r'):ES X (fun x y H Q=>r x y H Q\/ r' x y H Q):=by
 intro value slice pins s σ H x y v u Q I rx ry q hs;rcases q with q|q
 .exact h value slice pins s σ H x y v u Q I rx ry q hs
 .exact h' value slice pins s σ H x y v u Q I rx ry q hs
theorem bL {r:R2} (hr:ES X r) (ha:PE X a ta) (hb:PE X b tb) (hs:QV b):PE X (.Subscript a b pos) (YL r ta tb):=by
 intro pins s σ H Q I h;exact Subscript_ (VZ ha hb I h fun v u s2 x y H2 I2 rx ry q=>hr a b pins s2 σ H2 x y v u Q I2 rx ry q (hs _ _))
def T8 (K:Frag):R2:=fun x y H Q=>∃p xs i v,x= .ref p/\y= .int i/\k7 K H p xs/\p9 xs i=some v/\Q v H
def XO (K:Frag):R2:=fun x y H Q=>∃p xs i v,x= .ref p/\y= .int i/\qB K H p xs/\p9 xs i=some v/\Q v H
def YT:R2:=fun x y H Q=>∃z i c,x= .str z/\y= .int i/\z.length<=sizeLine/\p9 z.cps.toList i=some c/\Q (.str ⟨#[c]⟩) H
theorem SE:ES X (T8 X.K):=by
 intro value slice pins s σ H x y v u Q I rx ry h hs;obtain⟨p,xs,i,z,rfl,rfl,hq,he,q⟩:=h;cases rx;obtain⟨t,rfl⟩:=ry;obtain⟨its,r,pl,hz⟩:=I.list hq;obtain⟨j,h1,h2,h3,h4,h5⟩:=yI he;obtain⟨w,ew,rw'⟩:=r.get h2;have hl:=r.length;have hn:=pO;have fin:EP X pins σ Q w s:=⟨z,H,I,rw',q⟩
 by_cases h0:0<=i
 .have hj:i.toNat=j:=by
   rw[seqIndex_of h0 h5]at h1;exact Option.some.inj h1
  exact item_listR pl.isList h0 (by omega) (by rw[hj];simpa using ew) fin hs
 .have hj:(i+(its.toArray.size:Int)).toNat=j:=by
   rw[seqIndex_neg (by omega) h4]at h1;rw[cn,<-hl];exact Option.some.inj h1
  exact subscriptTail_builtinR (x:=w) pl.isList.typeIs slot_list_getitem.lookup
   (wpAny_getItem_list_neg (Q:=fun r s'=>r=w/\EP X pins σ Q r s') pl.isList (by omega) (by rw[cn]<;>omega) (by omega) (by rw[hj];simpa using ew) ⟨rfl,fin⟩) hs
theorem T9:ES X (XO X.K):=by
 intro value slice pins s σ H x y v u Q I rx ry h hs;obtain⟨p,xs,i,z,rfl,rfl,hq,he,q⟩:=h;cases rx;obtain⟨t,rfl⟩:=ry;obtain⟨its,r,pl,hz⟩:=I.tuple hq;obtain⟨j,h1,h2,h3,h4,h5⟩:=yI he;obtain⟨w,ew,rw'⟩:=r.get h2;have hl:=r.length;have hn:=pO;have fin:EP X pins σ Q w s:=⟨z,H,I,rw',q⟩;exact subscriptTail_builtinR (x:=w) pl.typeIs slot_tuple_getitem.lookup
  (getItem_tuple (j:=j) (Q:=fun r s'=>r=w/\EP X pins σ Q r s') pl (by omega) (by omega) (by rw[cn,<-hl];exact h1) (by simpa using ew) ⟨rfl,fin⟩) hs
theorem XR:ES X YT:=by
 intro value slice pins s σ H x y v u Q I rx ry h hs;obtain⟨z,i,c,rfl,rfl,hz,he,q⟩:=h;obtain⟨t,rfl⟩:=rx;obtain⟨t',rfl⟩:=ry;obtain⟨j,h1,h2,h3,h4,h5⟩:=yI he;have hl:z.cps.toList.length=z.length:=by simp[Str.length]
 rw[hl]at h1 h4 h5;have hn:=pO;exact tail_any (typeIs_str s z t) slot_str_getitem.lookup (getItem_str (c:=c) (by
  have e1:decide (i< -(2^63:Int))=false:=decide_eq_false (by omega);have e2:decide (i≥2^63)=false:=decide_eq_false (by omega);rw[e1,e2,Bool.or_false]) (by rw[h1];simpa using h2) ⟨.str ⟨#[c]⟩,H,I.tok _,⟨_,rfl⟩,q⟩) hs
theorem D7 (its:List Value) (n j:Nat) (u:Value):Obj.mapSeq (·.setIfInBounds j u) {cls:=.type "list",data:=.seq its.toArray n}={cls:=.type "list",data:=.seq (its.set j u).toArray n}:=by
 simp[Obj.mapSeq]
theorem Inv.lst {p:Addr} (I:Inv X pins σ H s) (h:H p=some (.lst xs)):
  ∃(its:List Value) (n:Nat),Vals xs its/\s.heap.get? p=some {cls:=.type "list",data:=.seq its.toArray n}/\xs.length<=sizeLine:=by
 obtain⟨z,its,n,r,e⟩:=I.bQ p _ h;exact⟨its,n,r,e,z⟩
theorem Inv.WL {p:Addr} {ys:List V} {n':Nat} {f:Obj->Obj} (I:Inv X pins σ H s) (h:H p=some (.lst xs))
  (ho:s.heap.get? p=some {cls:=.type "list",data:=.seq its.toArray n}) (hf:f {cls:=.type "list",data:=.seq its.toArray n}={cls:=.type "list",data:=.seq its'.toArray n'}) (r:Vals ys its') (hz:ys.length<=sizeLine) (t:Nat):
  Inv X pins σ (upd H p (.lst ys)) {s with heap:=s.heap.update p f,toks:=t}:=by
 have e:(s.heap.update p f).get? p=some {cls:=.type "list",data:=.seq its'.toArray n'}:=by
  rw[get?_update_self f ho (by rw[hf]<;>rfl),hf]
 refine I.write (x:=p) (e:=p) (by rw[h];trivial) (.inl rfl) (fun b u hb q=>(jt _ _ (Ne.symm hb)).trans q) ⟨_,e⟩ ?_;exact⟨hz,its',n',r,e⟩
def SW:V->V->V->Hp->(Hp->Prop)->Prop:=fun o i v H Q=>∃p xs k j,o= .ref p/\i= .int k/\H p=some (.lst xs)/\wJ xs.length k=some j/\Q (upd H p (.lst (xs.set j v)))
theorem set_list:ZG X SW:=by
 intro pins s σ H o i v ov iv u Q I ro ri rv h;obtain⟨p,xs,k,j,rfl,rfl,hp,hj,q⟩:=h;cases ro;obtain⟨t,rfl⟩:=ri;obtain⟨its,n,r,ho,hz⟩:=I.lst hp;obtain⟨h1,h2,h3,h4⟩:=GS hj;have hl:=r.length;have hn:=pO;have I':Inv X pins σ (upd H p (.lst (xs.set j v))) {s with heap:=s.heap.update p (Obj.mapSeq (·.setIfInBounds j u))}:=
  I.WL hp ho (D7 its n j u) (r.set rv j) (by rw[jv];exact hz) s.toks
 by_cases h0:0<=k
 .have hk:k.toNat=j:=by
   rw[seqIndex_of h0 h4]at h1;exact Option.some.inj h1
  exact PySem.W.ki_setAt ho h0 (by omega) (by rw[cn,<-hl];exact h4) (by rw[hk];exact⟨_,I',q⟩)
 .have hk:(k+(its.toArray.size:Int)).toNat=j:=by
   rw[seqIndex_neg (by omega) h3]at h1;rw[cn,<-hl];exact Option.some.inj h1
  exact PySem.W.ki_setBack ho (by omega) (by rw[cn,<-hl];exact h3) (by omega) (by rw[hk];exact⟨_,I',q⟩)
theorem AB (lo hi:Option Int) (n:Nat):(sliceBounds lo hi none n).1=((HT.dX n 0 lo:Nat):Int)/\(sliceBounds lo hi none n).2.1=((HT.dX n n hi:Nat):Int)/\(sliceBounds lo hi none n).2.2=1:=by
 refine⟨?_,?_,rfl⟩
 .cases lo with
  |none=>simp[sliceBounds,HT.dX]
  |some i=>
   simp only[sliceBounds,HT.dX,getD_none,show(1:Int)>0 by decide,if_true]
   by_cases h:i<0
   .simp only[h,if_true]<;>omega
   .simp only[h,if_false]<;>omega
 .cases hi with
  |none=>simp[sliceBounds,HT.dX]
  |some i=>
   simp only[sliceBounds,HT.dX,getD_none,show(1:Int)>0 by decide,if_true]
   by_cases h:i<0
   .simp only[h,if_true]<;>omega
   .simp only[h,if_false]<;>omega
theorem wW (its:List Value) (lo hi:Option Int):slicePick its.toArray lo hi none=((its.drop (HT.dX its.length 0 lo)).take (HT.dX its.length its.length hi - HT.dX its.length 0 lo)).toArray:=by
 obtain⟨h1,h2,h3⟩:=AB lo hi its.toArray.size;unfold slicePick;rw[h1,h2,h3];simp only[sliceRange_one,pick_run,cn]<;>rfl
def V1 (K:Frag):V->Option Int->Option Int->Hp->VK->Prop:=fun x lo hi H Q=>∃a xs,x= .ref a/\k7 K H a xs/\∀p,H p=none->Q (.ref p) (upd H p (.lst (wI xs lo hi)))
theorem RH:JY X (V1 X.K):=by
 intro pins s σ H x v vl vu lo hi sl Q I rx hs pl pu h;obtain⟨a,xs,rfl,hx,q⟩:=h;cases rx;obtain⟨its,r,ht,hz⟩:=I.list hx;have hlen:=r.length;refine⟨"list",_,slot_list_getitem.lookup,ht.isList.typeIs,?_⟩;refine wpAny_getItem_list_slice ht.isList hs pl pu .none (by simp) ?_ (by rw[cn]<;>omega);rw[wW,<-hlen];refine⟨.ref s.heap.objs.size,_,I.laid (t':=s.toks) (o:=.lst (wI xs lo hi)) (fun b ob q=>ao _ q) (bf _) ?_,rfl,q _ (I.bQ.fresh (bf _))⟩;exact⟨fj (tJ xs lo hi) hz,_,0,(r.drop (HT.dX xs.length 0 lo)).take (HT.dX xs.length xs.length hi - HT.dX xs.length 0 lo),cc _ rfl⟩
theorem AH:cN X (.builtin "len") (fun xs H Q=>∃p ys,xs=[.ref p]/\(k7 X.K H p ys\/ qB X.K H p ys)/\Q (.int ys.length) H):=by
 intro pins s σ H xs us Q I r h;obtain⟨p,ys,rfl,hq,q⟩:=h;obtain⟨u,rfl,rx⟩:=vals1 r;cases rx;have hn:=pO;rcases hq with hq|hq
 .obtain⟨its,r',pl,hz⟩:=I.list hq;have hlen:=r'.length;exact Calls.call_len_list pl.isList (by simp only[cn]<;>omega) ⟨.int ys.length,H,I.tok _,⟨s.toks+1,by rw[cn,hlen]⟩,q⟩
 .obtain⟨its,r',pl,hz⟩:=I.tuple hq;have hlen:=r'.length;exact len_tuple pl (by simp only[cn]<;>omega) ⟨.int ys.length,H,I.tok _,⟨s.toks+1,by rw[cn,hlen]⟩,q⟩
theorem yG:cN X (.builtin "len") (fun xs H Q=>∃z,xs=[.str z]/\z.length<=sizeLine/\Q (.int z.length) H):=by
 intro pins s σ H xs us Q I r h;obtain⟨z,rfl,hz,q⟩:=h;obtain⟨u,rfl,t,rfl⟩:=vals1 r;have hn:=pO;exact len_str (by omega) ⟨.int z.length,H,I.tok _,⟨_,rfl⟩,q⟩
theorem cN.or {f:Value} {r r':List V->Hp->VK->Prop} (h:cN X f r) (h':cN X f r'):cN X f (fun xs H Q=>r xs H Q\/ r' xs H Q):=by
 intro pins s σ H xs us Q I rs q;rcases q with q|q
 .exact h pins s σ H xs us Q I rs q
 .exact h' pins s σ H xs us Q I rs q
theorem wK:cN X (.type "tuple") (fun xs H Q=>∃p ys,xs=[.ref p]/\((k7 X.K H p ys/\∀l,H l=none->Q (.ref l) (upd H l (.tup ys)))\/ (qB X.K H p ys/\Q (.ref p) H))):=by
 intro pins s σ H xs us Q I r h;obtain⟨p,ys,rfl,h⟩:=h;obtain⟨u,rfl,rx⟩:=vals1 r;cases rx;rcases h with⟨hq,q⟩|⟨hq,q⟩
 .obtain⟨its,r',pl,hz⟩:=I.list hq;have hlen:=r'.length;refine call_tuple_list pl.isList (fun h' kp=>?_) (by simp only[cn]<;>omega);have I1:Inv X pins σ H {s with heap:=h'}:=I.kept (t':=s.toks) kp;have I2:Inv X pins σ (upd H h'.objs.size (.tup ys)) {s with heap:=h'.push {cls:=.type "tuple",data:=.seq its.toArray}}:=
   I1.laid (t':=s.toks) (fun b o e=>ao _ e) (bf _) (show dD X.prog X.w _ _ _ (.tup ys)from⟨hz,its,r',qO.new _ _⟩)
  exact⟨.ref h'.objs.size,_,I2,rfl,q _ (I1.bQ.fresh (bf _))⟩
 .obtain⟨its,r',pl,hz⟩:=I.tuple hq;exact call_tuple_same pl ⟨.ref p,H,I,rfl,q⟩
def tyV (K:Frag) (T:String) (x:V) (H:Hp):Prop:=match x with
 | .str _=>T="str"
 | .int _=>T="int"
 | .ref p=>(T="list"/\∃xs,k7 K H p xs)\/ (T="tuple"/\∃o,K.lookup p=some o/\o.cls= .type "tuple"/\o.dict=none)\/
   (T="dict"/\((∃kvs ep,H p=some (.dK kvs ep))\/ ∃kvs,H p=some (.dT kvs)))\/ (T="set"/\∃S n,H p=some (.set S n))
 |_=>False
theorem WJ {T:String} {x:V} {v:Value} (I:Inv X pins σ H s) (r:RelV x v) (ty:tyV X.K T x H):
  s.TypeIs v T/\∀a,v= .ref a->∃ob,s.heap.get? a=some ob/\ob.dict=none:=by
 cases x with
 |str z=>
  obtain⟨t,rfl⟩:=r;cases(show T="str"from ty);exact⟨typeIs_str s z t,fun _ e=>nomatch e⟩
 |int i=>
  obtain⟨t,rfl⟩:=r;cases(show T="int"from ty);exact⟨typeIs_int s i t,fun _ e=>nomatch e⟩
 | ref p=>
  cases r;rcases ty with⟨rfl,xs,hq⟩|⟨rfl,o,hk,hc,hd⟩|⟨rfl,hk⟩|⟨rfl,S,n,hk⟩
  .obtain⟨its,_,pl,_⟩:=I.list hq;refine⟨pl.isList.typeIs,fun a e=>?_⟩;cases e;obtain⟨o,n,e,c,hd,_⟩:=pl;exact⟨o,e,hd⟩
  .refine⟨⟨o,I.YA p o hk,hc⟩,fun a e=>?_⟩;cases e;exact⟨o,I.YA _ o hk,hd⟩
  .have z:∃o,s.heap.get? p=some o/\o.ExactDict:=by
    rcases hk with⟨kvs,ep,hk⟩|⟨kvs,hk⟩
    .obtain⟨_,_,_,_,o,_,e,ex,_⟩:=I.bQ p _ hk;exact⟨o,e,ex⟩
    .obtain⟨_,_,_,_,o,_,_,e,ex,_⟩:=I.bQ p _ hk;exact⟨o,e,ex⟩
   obtain⟨o,e,ex⟩:=z;refine⟨⟨o,e,ex.1⟩,fun a e2=>?_⟩;cases e2;exact⟨o,e,ex.2.1⟩
  .obtain⟨o,_,_,_,e,ex,_⟩:=I.bQ p _ hk;refine⟨⟨o,e,ex.1⟩,fun a e2=>?_⟩;cases e2;exact⟨o,e,ex.2.1⟩
 |_=>exact False.elim ty
def ZM (K:Frag) (T:String) (r:V->List V->Hp->VK->Prop) (to:TE) (t:TA):TE:=fun σ H Q=>to σ H fun x H1=>tyV K T x H1/\t σ H1 fun xs H2=>r x xs H2 Q
variable {o e:Expr} {es:List Expr} {to:TE} {t:TA} {name:Str} {apos cpos:Pos} {T id:String} {r:V->List V->Hp->VK->Prop}
theorem Y0 (pa:PlainAttrs T) (slot:Slot T name id) (hty:typeOf (.builtin id)=pure (.type "method_descriptor")) (hm:MtR X id r) (ho:PE X o to) (ha:PA X (e::es) t)
  (hbase:attributeBase o name X.env (eval o X.env)=eval o X.env:=by rfl)
  (hfew:((backTo cpos (starEach (e::es) X.env)).all (fun x=>!x.1) && (backToKw cpos (keywordEach [] X.env)).all (fun x=>x.1.isSome)
   && decide ((e::es).length+([]:List Keyword).length+(if([]:List Keyword).isEmpty then 0 else 1)<30))=true:=by rfl)
  (hline:(apos.endLine==cpos.line)=true:=by rfl) (hs:starEach (e::es) X.env=(false,eval e X.env)::starEach es X.env:=by rfl) (hplain:(backTo cpos (starEach es X.env)).any (·.1)=false:=by rfl):
  PE X (.Call (.Attribute o name apos) (e::es) [] cpos) (ZM X.K T r to t):=by
 intro pins s σ H Q I h;refine wpAny_Call_method_late hbase hfew hline rfl (cL (ho pins s σ H _ I h) fun v s1 ⟨x,H1,I1,r1,ty,q1⟩=>?_);obtain⟨h1,h2⟩:=WJ I1 r1 ty;refine⟨T,id,pa,slot,hty,h1,h2,?_⟩;have hA:=ha cpos pins s1 σ H1 _ I1 q1;rw[hs]at hA⊢
 refine gV (by show(false||(backTo cpos (starEach es X.env)).any (·.1))=false;rw[hplain]<;>rfl) (Calls.evalArgs_plain ?_);exact cL hA fun us s2 ⟨vs,H2,I2,r2,q2⟩=>hm pins s2 σ H2 x vs v us Q I2 r1 r2 q2
end
def MtM (X:Cx) (id:String) (r:V->List V->Hp->VK->Prop):Prop:=
 ∀(pins:List (Addr×Obj)) (s:Shared) (σ:St) (H:Hp) (x:V) (xs:List V) (v:Value) (us:List Value) (Q:VK),Inv X pins σ H s->RelV x v->Vals xs us->r x xs H Q->
  wpAny (model X.prog X.w) X.A (call (.builtin id) (v::us)) (EP X pins σ Q) X.xe s
theorem Vals.one:∀{x:V} {us:List Value},Vals [x] us->∃u,us=[u]/\RelV x u
 |_,_,.cons r .nil=>⟨_,rfl,r⟩
section
variable {X:Cx} {pins:List (Addr×Obj)} {σ:St} {H:Hp} {s:Shared} {l b:Addr} {xs ys zs:List V}
theorem Inv.acS {f:Array Value->Array Value} {t':Nat} (I:Inv X pins σ H s) (hH:H l=some (.lst xs))
  (e:s.heap.get? l=some {cls:=.type "list",data:=.seq its.toArray n}) (hf:f its.toArray=its'.toArray) (hv:Vals ys its') (hz:ys.length<=sizeLine):
  Inv X pins σ (upd H l (.lst ys)) {s with heap:=s.heap.update l (Obj.mapSeq f),toks:=t'}:=by
 have q:=PySem.IsL.update e f;rw[hf]at q;refine I.write (x:=l) (e:=l) (by rw[hH];exact trivial) (.inl rfl) (fun b' u hb hu=>(jt s.heap (Obj.mapSeq f) (Ne.symm hb)).trans hu) ⟨_,q⟩ ?_;exact⟨hz,its',_,hv,q⟩
theorem Inv.acK (I:Inv X pins σ H s) (hH:H l=some (.lst xs)):xs.length<=sizeLine/\∃(its:List Value) (n:Nat),Vals xs its/\xs.length=its.length/\s.heap.get? l=some {cls:=.type "list",data:=.seq its.toArray n}:=by
 obtain⟨z,its,n,r,e⟩:=I.bQ l _ hH;exact⟨z,its,n,r,r.length,e⟩
end
section
variable {X:Cx}
def uJ:V->List V->Hp->VK->Prop:=fun x vs H Q=>∃l xs y,x= .ref l/\vs=[y]/\H l=some (.lst xs)/\xs.length<sizeLine/\Q .bD (upd H l (.lst (xs++[y])))
theorem fX:MtM X "list.append" uJ:=by
 intro pins s σ H x vs v us Q I rx rv h;obtain⟨l,xs,y,rfl,rfl,hH,hz,q⟩:=h;cases rx;obtain⟨u,rfl,ru⟩:=rv.one;obtain⟨z,its,n,r,hl,e⟩:=I.acK hH;refine call_meets F.slot_list_append ⟨_,e,rfl⟩ F.entry_list_append (F.args_list_append_2 _ _) (PySem.list_append l its.toArray n u (by rw[cn];omega)) ⟨e,?_⟩;refine⟨.bD,_,I.acS (its':=its++[u]) hH e (by simp) (r.append (.cons ru .nil)) ?_,rfl,q⟩;rw[bq,length_singleton];omega
end
end L2
namespace Att
open PySem PySem.W PySem.Calls PyProof.Rows
variable {h:Heap} {n:Nat} {l:OpenLaw} {P:Params}
theorem t8:∀(ns:List Int) (vs:List Value),WellAll P h vs (ns.map WData.int)->IntsAre vs ns:=by
 intro ns
 induction ns with
 |nil=>
  intro vs w;rw[map_nil]at w;cases w;exact .nil
 | cons n ns ih=>
  intro vs w;rw[cz]at w;cases w with
  |cons a b=>
   cases a;exact .cons _ _ (ih _ b)
theorem JM (hn:l.most=some n) {args:List WData} {vals:List Value}
  (hpre:l.row.toRowW.claim.pre args=true) (hwl:WellAll P h vals args):
  ∃a vs ns,vals=[Value.ref a]/\args=[WData.list (ns.map WData.int)]/\h.get? a=some {cls:=.type "list",data:=.seq vs.toArray}/\IntsAre vs ns/\ns.length<=n:=by
 have hsh:WShape.hasAll [] args [.list .int]=true:=(pre_splitW hpre).1;have hc:l.pre.holds [] {args:=args}=true:=(pre_splitW hpre).2;obtain⟨d,r,rfl,h1,h2⟩:=hasAllW_cons hsh;obtain rfl:=hasAllW_nil h2;obtain⟨xs,rfl,h3⟩:=hasW_list h1;obtain⟨ns,rfl⟩:=items_int h3;have hlen:ns.length<=n:=by
  unfold OpenLaw.pre at hc;have h4:(WTm.not (.lt (.lit (.int (n:Int))) (.len (.arg 0)))).holds [] {args:=[.list (ns.map .int)]}=true:=by
   have h4:=(holds_andW hc).1;rw[hn]at h4;exact h4
  have h5:=condW_of h4 (w_not (w_lt w_lit (w_len_list (w_arg rfl))));rw[ah]at h5;refine le_of_not_lt fun q=>?_
  have q':(n:Int)<((ns.length:Nat):Int):=by omega
  first
   |(rw[decide_eq_true q']at h5;exact absurd h5 (by decide))
   |(simp at h5;omega)
 cases hwl with
 |cons w1 w2=>
  cases w2;cases w1 with
  |list ho hall=>exact⟨_,_,ns,rfl,rfl,ho,t8 ns _ hall,hlen⟩
theorem JV (l:OpenLaw) (args:List WData):l.row.toRowW.claim.post args (.bool true) args=true:=
 postW_of (r:=l.row.toRowW) (X:=(true==true))
  (show WShape.has [] (.bool true) .bool=true by first|rfl|decide|simp[WShape.has,WShape.arms,WShape.armsAll])
  (show(WTm.eq .res (.lit (.bool true))).value [] {args:=args,res:=some (.bool true),after:=args}=some (.bool (true==true))from w_eq_bool (w_res rfl) w_lit) rfl
theorem BZ {q:Program} {loose:List Str} {XP:(Str->Option Value)->Heap->Prop} {YP:World->Heap->Prop} {d:DefRec}
  (hn:l.most=some n) (hdf:d.params.defaults=[])
  (call:∀(w:World) (i9 s₁:Shared) (mg mb:Str->Option Value) (fa:Addr) (o:Obj) (pm cd doc:Value) (a:Addr) (vs:List Value) (ns:List Int),
   Ground q loose [] XP w i9 mg mb s₁.heap->YP w s₁.heap->
   s₁.heap.get? fa=some o->o.data= .func (docDef d.name d.params d.body d.scope pm cd doc)->s₁.heap.CodeRec cd d.name->mg d.name=some (.ref fa)->
   s₁.heap.get? a=some {cls:=.type "list",data:=.seq vs.toArray}->IntsAre vs ns->ns.length<=n->s₁.gens= #[]->
   codeAny (model l.prog w) callerA (.call (.ref fa) ⟨[.ref a],[]⟩) (fun r s'=>r= .ok (.ret (.bool true))/\OldK s₁.heap s'.heap/\s'.os=s₁.os/\AllBare s'.gens) s₁):
  WalkO q loose XP YP l.row.toRowW d [] (fun f vs=>PySem.call f vs):=by
 intro w i9 s₁ mg mb G Y fa o pm cd doc dV kV ho hd hcd hD hmg hg args vals as hpre hlay hrd hwl hlo;obtain rfl:dV= .none:=Dflts.none hD hdf;obtain rfl:kV= .none:=Dflts.noKw hD;obtain⟨a,vs,ns,rfl,rfl,hobj,hints,hlen⟩:=JM hn hpre hwl;refine enter_call (codeAny_mono (call w i9 s₁ mg mb fa o pm cd doc a vs ns G Y ho (fd_plain hd) hcd hmg hobj hints hlen hg) fun r s' hq=>?_);obtain⟨rfl,h2,h3,h4⟩:=hq;exact⟨.inl ⟨.bool true,.bool true,[],rfl,fun _=>rfl,.bool true,JV l _,fun _=>⟨List.Pairwise.nil,fun _ hm=>(nomatch hm)⟩⟩,h2,h3,h4⟩
end Att
namespace L2
open PySem PySem.Spec PyProof.Rows
variable {f:Addr} {fd:FuncData} {ps:List Str} {k:Nat} {sp:Sp} {qual x:Str}
theorem w6:∀{vs:List Value} {ns:List Int},IntsAre vs ns->Vals (ns.map V.int) vs
 |_,_,.nil=>.nil
 |_,_,.cons n t h=>.cons ⟨t,rfl⟩ (w6 h)
def W0 (H:Hp):Prop:=∀b,H b=none\/ ∃o xs,H b=some (.OY o (.lst xs))
theorem LS {P:Program} {w:World} {K:Frag} {mg mb:Str->Option Value} {CX:J1} {fa a:Addr} {s₁:Shared} {vs:List Value} {ns:List Int}
  (KX:K.In s₁.heap) (hns:s₁.heap.Ns mainGlobals mg) (hb:s₁.heap.Ns builtinsNs mb) (hbb:∀x:Str,x≠"__name__"->mb x=bootBuiltins x) (hlim:s₁.heap.NoLimit) (hg:s₁.gens= #[])
  (ha:s₁.heap.get? a=some {cls:=.type "list",data:=.seq vs.toArray}) (hi:IntsAre vs ns) (hl:ns.length<=sizeLine) (hr:dG k callerA)
  (F:∀base:Heap,K.In base->base.Ns mainGlobals mg->rJ P w K mg base CX k fa fd [x] sp) (hbind:∀(s:Shared) (u:Value),BindsTo s fd ⟨[u],[]⟩ [(x,u)])
  (hsp:∀H:Hp,W0 H->k7 K H a (ns.map V.int)->sp [.ref a] H (fun v _=>v= .bl true) fun _ _ _=>False)
  (hCX:∀H e s',CX [] H s₁ (fun _ _ _=>False) e s'->False):
  codeAny (model P w) callerA (.call (.ref fa) ⟨[.ref a],[]⟩) (fun r s'=>r= .ok (.ret (.bool true))/\OldK s₁.heap s'.heap/\s'.os=s₁.os/\AllBare s'.gens) s₁:=by
 have rv:=w6 hi;have lenV:=hi.length;have core:∀H:Hp,W0 H->k7 K H a (ns.map V.int)->oT P w H s₁.heap->(∀b,H b≠none->b=a)->(H a≠none->K.lookup a=none)->
   codeAny (model P w) callerA (.call (.ref fa) ⟨[.ref a],[]⟩) (fun r s'=>r= .ok (.ret (.bool true))/\OldK s₁.heap s'.heap/\s'.os=s₁.os/\AllBare s'.gens) s₁:=by
  intro H hO hS bQ hA hK;have base_of:∀{b:Addr} {o:Obj},s₁.heap.get? b=some o->H b=none->(y9 s₁.heap H).get? b=some o:=fun e n=>OQ e n
  have cT:∀{b:Addr} {o:Obj} {es:Array DictEntry} {ep:Nat},s₁.heap.get? b=some o->o.data= .dict es ep->H b=none:=fun{b o es ep} e d=>by
   cases q:H b with
   |none=>rfl
   |some u=>
    have e':b=a:=hA b (by rw[q];simp);subst e';rw[ha]at e;cases e
    have d':Data.seq vs.toArray _=Data.dict es ep:=d;cases d'
  have nsK:∀{b:Addr} {m:Str->Option Value},s₁.heap.Ns b m->(y9 s₁.heap H).Ns b m:=fun{b m} ⟨o,es,ep,e,d,r⟩=>⟨o,es,ep,base_of e (cT e d),d,r⟩
  have hKb:K.In (y9 s₁.heap H):=fun b o e=>base_of (KX b o e) (by
   cases q:H b with
   |none=>rfl
   |some u=>
    have e':b=a:=hA b (by rw[q];simp);subst e';rw[hK (by rw[q];simp)]at e;cases e)
  have hM:Mod K mg (y9 s₁.heap H):=⟨hKb,nsK hns,⟨mb,nsK hb,hbb⟩,let⟨mc,h1,h2⟩:=hlim;⟨mc,nsK h1,h2⟩⟩;have e0:QP P w K mg (y9 s₁.heap H) callerA [] s₁ H:=⟨rfl,hM,fun b o e=>RA e,le_of_eq (HE _ _),trivial,fun b hb=>absurd (show b∈([]:List Addr)from hb) (by simp),bQ,.of_eq hg⟩;refine codeAny_mono ((F _ hKb (nsK hns)).run callerA [] s₁ H ⟨[.ref a],[]⟩ [.ref a] [.ref a] _ _ hr e0 (hbind s₁ (.ref a)) (.cons rfl .nil) (hsp H hO hS)) fun r s' h=>?_
  cases r with
  |error e=>exact(hCX H e s' h).elim
  | ok fl=>
   cases fl with
   |next=>exact False.elim h
   |brk=>exact False.elim h
   |cont=>exact False.elim h
   | ret u=>
    obtain⟨v,H',os,bare,un,hok',r',q⟩:=h;have q':v= .bl true:=q;subst q';obtain rfl:u=Value.bool true:=r';refine⟨rfl,OldK.of_keep fun b o e=>?_,os,bare⟩;cases q:H b with
    |none=>exact un.keep b o e q (by intro z;exact absurd (show b∈([]:List Addr)from z) (by simp)) (by simp)
    | some u=>
     rcases hO b with z|⟨ob,xs,z⟩
     .rw[q]at z;cases z
     .have z2:=un.uZ b ob _ z;obtain⟨e1,_⟩:=bQ b _ z;obtain⟨e2,_⟩:=hok' b _ z2;rw[e]at e1;cases e1
      exact e2
 cases hk:K.lookup a with
 |some o=>
  have e:=KX a o hk;rw[ha]at e;cases e;refine core (fun _=>none) (fun _=>.inl rfl) (.inr ⟨_,vs.toArray,_,hk,rfl,rfl,rfl,by rw[cn,lenV];exact hl,by simpa using rv⟩) (fun b u z=>by have z':(none:Option HO)=some u:=z;cases z') (fun b z=>absurd rfl z) fun z=>absurd rfl z
 | none=>
  refine core (fun b=>if b=a then some (.OY {cls:=.type "list",data:=.seq vs.toArray} (.lst (ns.map V.int)))else none) (fun b=>?_) (.inl (.inr ⟨{cls:=.type "list",data:=.seq vs.toArray},aj rfl⟩)) (fun b u z=>?_) (fun b z=>?_) fun _=>hk
  .by_cases hb:b=a
   .exact .inr ⟨_,_,aj hb⟩
   .exact .inl (ai hb)
  .by_cases hb:b=a
   .have z':=(aj hb).symm.trans z;cases z';subst hb;exact⟨ha,by rw[ah];exact hl,vs,_,rv,ha⟩
   .have z':=(ai hb).symm.trans z;cases z'
  .by_cases hb:b=a
   .exact hb
   .exact absurd (ai hb) z
theorem P2 {l:PySem.W.OpenLaw} {n:Nat} {q:Program} {loose:List Str} {XP:(Str->Option Value)->Heap->Prop} {YP:World->Heap->Prop} {d:DefRec} {K:Params->Frag} {CX:World->J1} {sp:World->Sp}
  (hn:l.most=some n) (hn2:n<=sizeLine) (hdf:d.params.defaults=[]) (hr:dG k callerA)
  (hY:∀(w:World) (h:Heap),YP w h->(K w.params).In h)
  (F:∀(w:World) (mg:Str->Option Value) (fa:Addr) (h:Heap),(K w.params).In h->h.Ns mainGlobals mg->mg d.name=some (.ref fa)->
   ∃fd:FuncData,(∀(s:Shared) (u:Value),BindsTo s fd ⟨[u],[]⟩ [(x,u)])/\
    ∀base:Heap,(K w.params).In base->base.Ns mainGlobals mg->rJ l.prog w (K w.params) mg base (CX w) k fa fd [x] (sp w))
  (hsp:∀(w:World) (H:Hp) (a:Addr) (ns:List Int),ns.length<=n->W0 H->k7 (K w.params) H a (ns.map V.int)->sp w [.ref a] H (fun v _=>v= .bl true) fun _ _ _=>False)
  (hCX:∀(w:World) (H:Hp) (s:Shared) (e:Value) (s':Shared),CX w [] H s (fun _ _ _=>False) e s'->False):
  PySem.W.WalkO q loose XP YP l.row.toRowW d [] (fun f vs=>PySem.call f vs):=by
 refine Att.BZ hn hdf fun w i9 s₁ mg mb fa o pm cd doc a vs ns G Y ho hd hcd hmg hobj hints hlen hg=>?_
 have KX:=hY w _ Y;obtain⟨fd,hb,hF⟩:=F w mg fa _ KX G.T.g hmg;exact LS KX G.T.g G.T.b G.T.builtins G.T.nolimit hg hobj hints (fj hlen hn2) hr hF hb (fun H hO hS=>hsp w H a ns hlen hO hS) fun H e s'=>hCX w H s₁ e s'
noncomputable def gB (s:Stmt):Arguments:=match s with
 | .FunctionDef _ a _ _ _ _ _ _ _ _=>a
 |_=>{posonlyargs:=[],args:=[],vararg:=none,kwonlyargs:=[],kw_defaults:=[],kwarg:=none,defaults:=[]}
noncomputable def eJ (s:Stmt):List Stmt:=match s with
 | .FunctionDef _ _ b _ _ _ _ _ _ _=>b
 |_=>[]
noncomputable def bF (s:Stmt):Scope:=match s with
 | .FunctionDef _ _ _ _ _ _ sc _ _ _=>sc
 |_=>{kind:=.function,names:=[],isGenerator:=false,isCoroutine:=false}
abbrev O0:J1:=fun _ _ _ _ _ _=>False
abbrev E0:XK:=fun _ _ _=>False
theorem ZV {X:Cx}:Passes O0 X E0:=fun _ _ _ _ _ _ _ h=>h.elim
structure UJ (K:Frag) (x qual:Str) (st:Stmt) (f:Addr) (fd:FuncData):Prop where
 ex:∃(oc:Value) (od:Option Addr) (kV doc pm:Value) (an:Option Addr) (cdv ct:Value) (osl:Array (Option Value)),
  fd=fnOf x qual (gB st) (eJ st) (bF st) .none kV doc pm an cdv ct/\K.lookup f=some ⟨oc,od,.func fd,osl⟩/\codeIn K cdv qual=true
 kp:keepIn K (.ref f)=true
section
variable {P:Program} {w:World} {K:Frag} {mg:Str->Option Value} {base:Heap}
theorem UJ.ok {st:Stmt} {N:List Str} (F:UJ K x qual st f fd) (S:qM N ps (bF st)) (len:∀vs H Q E,sp vs H Q E->vs.length=ps.length)
  (hbody:∀(cdv:Value) (A:Around) (outer:List Env) (s:Shared) (H:Hp) (vs:List V) (Q:VK) (E:XK),dG k (A.deeper (envOfC qual (bF st) s.heap.objs.size f cdv))->sp vs H Q E->
   ∃t,FU (DO O0 P w K mg base N qual (bF st) f cdv A outer s H E).nox (eJ st) t/\t {nx:=fun _ H'=>Q .bD H',rt:=Q} (start N vs) H):rJ P w K mg base O0 (k+1) f fd ps sp:=by
 obtain⟨oc,od,kV,doc,pm,an,cdv,ct,osl,rfl,lk,hcd⟩:=F.ex;refine aaO lk hcd S len fun A outer s H vs Q E hr hsp=>?_
 obtain⟨t,h,q⟩:=hbody cdv A outer s H vs Q E hr hsp;exact⟨t,h.nox,q⟩
theorem UJ.binds {st:Stmt} (F:UJ K x qual st f fd)
  (h:∀(kV doc pm:Value) (an:Option Addr) (cdv ct:Value) (us:List Value),us.length=ps.length->bindArgs (fnOf x qual (gB st) (eJ st) (bF st) .none kV doc pm an cdv ct) ⟨us,[]⟩=pure (ps.zip us)):Binds K fd ps []:=by
 obtain⟨oc,od,kV,doc,pm,an,cdv,ct,osl,rfl,lk,hcd⟩:=F.ex;exact .all (h kV doc pm an cdv ct)
theorem WG {st:Stmt} {oc:Value} {od an:Option Addr} {osl:Array (Option Value)} {kV doc pm cdv ct:Value} (l:K.lookup f=some ⟨oc,od,.func (fnOf x qual (gB st) (eJ st) (bF st) .none kV doc pm an cdv ct),osl⟩)
  (c:codeIn K cdv qual=true) (k:keepIn K (.ref f)=true):UJ K x qual st f (fnOf x qual (gB st) (eJ st) (bF st) .none kV doc pm an cdv ct):=⟨⟨oc,od,kV,doc,pm,an,cdv,ct,osl,rfl,l,c⟩,k⟩
end
theorem fN {A:Around} (hr:dG k A):A.units+1<cLine:=Nat.lt_of_le_of_lt (ku (by decide:1<=64) _) hr.units
section
variable {X:Cx}
theorem pv (i:Nat) {pos:Pos} (hN:X.N[i]? =some x:=by rfl) (hv:Vis X.env.scope x:=by first|exact Or.inl rfl|exact Or.inr (Or.inl rfl)|exact Or.inr (Or.inr rfl)) (hd:(x==("__debug__":Str))=false:=by decide)
  (hcd:(x==("__classdict__":Str))=false:=by decide):PE X (.Name x pos) (y8 i):=W9 hN hv hd hcd
end
def aX (H H':Hp):Prop:=∀b o,H b=some o->H' b=some o
theorem aX.refl (H:Hp):aX H H:=fun _ _ h=>h
end L2
set_option maxHeartbeats 4000000
namespace L2
open PySem PySem.Spec PyProof.Rows
variable {C:Addr} {X:Cx} {env:Env} {tg:Expr} {H H2:Hp} {pins:List (Addr×Obj)} {cl:List (Str×Addr)} {fp:List Addr} {P:Program} {K:Frag} {scope:Scope} {s2:Shared} {σ:St} {w:World}
theorem pG:∀(names:List (Str×NameKind)) (acc:List (Str×Addr)),(∀p∈names,p.2= .free->∃c,env.cells.lookup p.1=some c)->
  (∀y c,acc.lookup y=some c->env.cells.lookup y=some c)->
  ∃cl,(forIn names acc (fun(p:Str×NameKind) (cs:List (Str×Addr))=>if(p.2==NameKind.free)=true then(do let a<-cellOf env p.1;pure (ForInStep.yield ((p.1,a)::cs)))else(pure (ForInStep.yield cs):Sem _)):Sem _)=pure cl/\
   (∀y c,cl.lookup y=some c->env.cells.lookup y=some c)/\(∀y,(acc.lookup y).isSome=true->(cl.lookup y).isSome=true)/\∀y,(y,NameKind.free)∈names->(cl.lookup y).isSome=true
 |[],acc,_,h=>⟨acc,rfl,h,fun _ z=>z,fun _ z=>nomatch z⟩
 | (n,k)::r,acc,hf,h=>by
  by_cases hk:k= .free
  .subst hk;obtain⟨c,hc⟩:=hf (n,.free) ba rfl;obtain⟨cl,e,h1,h2,h3⟩:=pG r ((n,c)::acc) (fun p hp=>hf p (ay _ hp)) (fun y d hd=>by
    rw[lookup_cons]at hd;cases q:y==n with
    |true=>rw[q]at hd;cases hd;rw[eq_of_beq q];exact hc
    |false=>rw[q]at hd;exact h y d hd)
   refine⟨cl,?_,h1,fun y hy=>h2 y ?_,fun y hy=>?_⟩
   .rw[List.forIn_cons];have e0:cellOf env n=pure c:=by unfold cellOf;rw[hc]
    simp only[fy,if_true,e0,pure_bind];exact e
   .rw[lookup_cons];cases q:y==n with
    |true=>rfl
    |false=>exact hy
   .rcases bw.mp hy with q|q
    .cases q;refine h2 n ?_;rw[lookup_cons,fy];rfl
    .exact h3 y q
  .obtain⟨cl,e,h1,h2,h3⟩:=pG r acc (fun p hp=>hf p (ay _ hp)) h;refine⟨cl,?_,h1,h2,fun y hy=>?_⟩
   .rw[List.forIn_cons];have e0:(k==NameKind.free)=false:=by simpa using hk
    simp only[e0,false_eq_true,if_false,pure_bind];exact e
   .rcases bw.mp hy with q|q
    .cases q;exact absurd rfl hk
    .exact h3 y q
theorem kQ {env:Env} {scope:Scope} (hf:∀p∈scope.names,p.2= .free->∃c,env.cells.lookup p.1=some c):
  ∃cl,closureFor scope env=pure cl/\(∀y c,cl.lookup y=some c->env.cells.lookup y=some c)/\∀y,(y,NameKind.free)∈scope.names->(cl.lookup y).isSome=true:=by
 obtain⟨cl,e,h1,_,h3⟩:=pG (env:=env) scope.names [] hf (fun y c h=>by simp at h);refine⟨cl,?_,h1,h3⟩;unfold closureFor;have e':=cw (fun m:Sem (List (Str×Addr))=>m>>=fun cs=>pure cs) e;simp only[pure_bind]at e';rw[<-e']
structure VL where
 cl:List (Str×Addr)
 C:Addr
 s:Shared
 H:Hp
 ex:List Addr
noncomputable def bJ (X:Cx) (scope:Scope) (N:List Str) (c:VL):Cx:=
 {X with N:=N,i9:=c.s,KY:=c.H,env:=compEnvC scope c.cl c.C X.env,outer:=X.stack,stack:=X.stack,ex:=c.ex,fn:=fun _=>false,pn:=[],xe:=fun _ _=>False}
noncomputable def fL (k:Nat) (cap:List Nat) (σ:St):St:=List.replicate k none++cap.map fun i=>(σ[i]?).getD none
def TQ:TT:=fun _ H Q=>Q true H
section
variable {prog:Program} {w:World} {A:Around} {R:Result->Shared->Prop} {s:Shared}
theorem xB {elt target iter:Expr} {ifs:List Expr} {pos:Pos} {it acc:Value} (I:Nat->Shared->Prop)
  (turn:∀n s,I n s->wpAny (model prog w) A (pyNext it) (fun r s₁=>match r with
   |none=>R (.ok .next) s₁
   | some v=>wpAny (model prog w) A (letOwnedTupleGo target it v) (fun _ s₁'=>wpAny (model prog w) A (assign target env v) (fun _ s₂=>
     wpAny (model prog w) A (forIn ifs true fun c r=>if r=true then do let ok<-isTrue c env (eval c env);pure (ForInStep.yield ok)else pure (ForInStep.yield r)) (fun ok s₃=>
      if ok=true then wpAny (model prog w) A (eval elt env) (fun x s₄=>
       wpAny (model prog w) A (call (.builtin "list.append") [acc,x]) (fun _ s₅=>∃m,m<n/\I m s₅) (fun _ _=>False) s₄) (fun _ _=>False) s₃
      else∃m,m<n/\I m s₃) (fun _ _=>False) s₂) (fun _ _=>False) s₁') (fun _ _=>False) s₁) (fun _ _=>False) s)
  (n:Nat) (h:I n s):
  codeAny (model prog w) A (.compLoop (.ListComp elt [⟨target,iter,ifs,0⟩] scope pos) 0 it acc env) R s:=by
 refine codeAny_loop rfl I (fun n s hI=>?_) n h;show wpAny _ A ((compTurn (.ListComp elt [⟨target,iter,ifs,0⟩] scope pos) 0 it acc env).onRaise (fun x=>do noteFrame x env;theTreesLotGoes x)) _ _ s;refine wpAny_noted ?_;refine di (E:=fun _ _=>False) ?_ (fun _ _ q=>q) (fun _ _ z=>z.elim);rw[compTurn_list];refine ae (wpAny_standAt (ae (di (turn n s hI) (fun r s₁ h₁=>?_) fun _ _ h'=>h')));cases r with
 |none=>exact ax h₁
 | some v=>
  refine ae (di h₁ (fun _ s₁' h₁'=>?_) fun _ _ h'=>h');refine ae (di h₁' (fun _ s₂ h₂=>ae (di h₂ (fun ok s₃ h₃=>?_) fun _ _ h'=>h')) fun _ _ h'=>h');cases ok with
  |false=>exact ax ⟨rfl,h₃⟩
  |true=>
   exact ae (ae (di h₃ (fun x s₄ h₄=>ae (di h₄ (fun _ s₅ h₅=>ax (ax ⟨rfl,h₅⟩)) fun _ _ h'=>h')) fun _ _ h'=>h'))
end
def S6 (X:Cx) (ifs:List Expr) (t:TT):Prop:=
 ∀(pins:List (Addr×Obj)) (s:Shared) (σ:St) (H:Hp) (Q:Bool->Hp->Prop),Inv X pins σ H s->t σ H Q->
  wpAny (model X.prog X.w) X.A (forIn ifs true fun c r=>if r=true then do let ok<-isTrue c X.env (eval c X.env);pure (ForInStep.yield ok)else pure (ForInStep.yield r)) (TP X pins σ Q) X.xe s
theorem fJ:S6 X [] TQ:=fun pins s σ H Q I h=>wpAny_tests_nil ⟨H,I,h⟩
theorem AG {c:Expr} {t:TT} (h:PT X c t):S6 X [c] t:=fun pins s σ H Q I hq=>wpAny_tests_one (h pins s σ H Q I hq)
theorem dW {env:Env}:∀{names:List (Str×NameKind)} {x:Str},names.lookup x=some .free->
  (names.map fun(n,k)=>if(k==NameKind.free && env.scope.kind== .function && env.kindOf n==some .cell)then(n,NameKind.cell)else(n,k)).lookup x=some .cell\/
  (names.map fun(n,k)=>if(k==NameKind.free && env.scope.kind== .function && env.kindOf n==some .cell)then(n,NameKind.cell)else(n,k)).lookup x=some .free
 |[],_,h=>by simp at h
 | (n,k)::r,x,h=>by
  have ih:= @dW env r x;show List.lookup x ((if(k==NameKind.free && env.scope.kind== .function && env.kindOf n==some .cell)=true then(n,NameKind.cell)else(n,k))::_)=_\/ List.lookup x ((if(k==NameKind.free && env.scope.kind== .function && env.kindOf n==some .cell)=true then(n,NameKind.cell)else(n,k))::_)=_;cases hx:x==n with
  |true=>
   simp only[lookup_cons,hx]at h;cases h
   by_cases hc:(NameKind.free==NameKind.free && env.scope.kind== .function && env.kindOf n==some .cell)=true
   .rw[aj hc];left;simp only[lookup_cons,hx]
   .rw[ai hc];right;simp only[lookup_cons,hx]
  |false=>
   simp only[lookup_cons,hx]at h
   by_cases hc:(k==NameKind.free && env.scope.kind== .function && env.kindOf n==some .cell)=true
   .rw[aj hc];simp only[lookup_cons,hx];exact ih h
   .rw[ai hc];simp only[lookup_cons,hx];exact ih h
theorem jR {env:Env}:∀{names:List (Str×NameKind)} {x:Str},(∀y∈names,y.2≠ .cell)->
  ((names.map fun(n,k)=>if(k==NameKind.free && env.scope.kind== .function && env.kindOf n==some .cell)then(n,NameKind.cell)else(n,k)).lookup x=some .cell\/
  (names.map fun(n,k)=>if(k==NameKind.free && env.scope.kind== .function && env.kindOf n==some .cell)then(n,NameKind.cell)else(n,k)).lookup x=some .free)->(x,NameKind.free)∈names
 |[],_,_,h=>by simp at h
 | (n,k)::r,x,hn,h=>by
  have ih:= @jR env r x (fun y hy=>hn y (ay _ hy));have h':List.lookup x ((if(k==NameKind.free && env.scope.kind== .function && env.kindOf n==some .cell)=true then(n,NameKind.cell)else(n,k))::(r.map fun(n,k)=>if(k==NameKind.free && env.scope.kind== .function && env.kindOf n==some .cell)then(n,NameKind.cell)else(n,k)))=some .cell\/ List.lookup x ((if(k==NameKind.free && env.scope.kind== .function && env.kindOf n==some .cell)=true then(n,NameKind.cell)else(n,k))::(r.map fun(n,k)=>if(k==NameKind.free && env.scope.kind== .function && env.kindOf n==some .cell)then(n,NameKind.cell)else(n,k)))=some .free:=h;cases hx:x==n with
  | true=>
   have e:=eq_of_beq hx;subst e
   by_cases hc:(k==NameKind.free && env.scope.kind== .function && env.kindOf x==some .cell)=true
   .have hk:k= .free:=by
     have:=(bz _ _|>.mp ((bz _ _|>.mp hc).1)).1;exact eq_of_beq this
    subst hk;exact ba
   .rw[ai hc]at h';simp only[lookup_cons,hx]at h';have hk:=hn (x,k) ba;rcases h' with z|z
    .exact absurd (Option.some.inj z) hk
    .rw[Option.some.inj z];exact ba
  |false=>
   refine ay _ (ih ?_)
   by_cases hc:(k==NameKind.free && env.scope.kind== .function && env.kindOf n==some .cell)=true
   .rw[aj hc]at h';simp only[lookup_cons,hx]at h';exact h'
   .rw[ai hc]at h';simp only[lookup_cons,hx]at h';exact h'
def ZS (J:It) (g:TG) (tt:TT) (te:TE) (l:Addr) (σ0:St) (H0:Hp) (Q:VK):Prop:=
 ∃W:Nat->Nat->St->Hp->Prop,(∃m,W 0 m σ0 H0)/\
   ∀i m σ' H2,W i m σ' H2->(J.stop i H2/\Q (.ref l) H2)\/ (J.go i H2/\∃N:St->Hp->Prop,(∀σ3 H3,N σ3 H3->∃m',m'<m/\W (i+1) m' σ3 H3)/\
    ∀x H3,J.YB i H2 x H3->g x σ' H3 fun σ4 H4=>tt σ4 H4 fun b H5=>if b=true then te σ4 H5 fun y H6=>∃xs,H6 l=some (.lst xs)/\xs.length<sizeLine/\N σ4 (upd H6 l (.lst (xs++[y])))else N σ4 H5)
def xI (wi:TI) (k:Nat) (cap:List Nat) (g:TG) (tt:TT) (te:TE):TE:=fun σ H Q=>wi σ H fun J H1=>∀l,H1 l=none->ZS J g tt te l (fL k cap σ) (upd H1 l (.lst [])) Q
structure fV (X:Cx) (scope:Scope) (N:List Str) (k:Nat) (cap:List Nat):Prop where
 kind:scope.kind= .function
 names:∀y∈scope.names,y.2= .local->scope.names.lookup y.1=some .local
 cell:∀y∈scope.names,y.2≠ .cell
 free:∀y∈scope.names,y.2= .free->X.env.kindOf y.1=some .cell\/ X.env.kindOf y.1=some .free
 len:N.length=k+cap.length
 cap:∀j i,cap[j]? =some i->∃y,N[k+j]? =some y/\X.N[i]? =some y/\scope.names.lookup y=some .free
theorem xU {k:Nat} {cap:List Nat} {σ:St} {j:Nat} {v:V} (h:(fL k cap σ)[j]? =some (some v)):∃q i,j=k+q/\cap[q]? =some i/\σ[i]? =some (some v):=by
 unfold fL at h
 by_cases hj:j<k
 .rw[gj (by simpa using hj),kn]at h;split at h<;>cases h
 .rw[gi (by simpa using hj),gm,aq]at h;cases q:cap[j - k]? with
  |none=>rw[q]at h;cases h
  |some i=>
   rw[q]at h;have h':(σ[i]?).getD none=some v:=Option.some.inj h;refine⟨j - k,i,by omega,q,?_⟩;cases r:σ[i]? with
   |none=>rw[r]at h';cases h'
   |some o=>rw[r]at h';have:o=some v:=h';rw[this]
theorem oT.but {h h':Heap} (x:oT P w H h) (hC:H C=none) (k:∀b o,b≠C->h.get? b=some o->h'.get? b=some o):oT P w H h':=fun b u e=>by
 have nit:∀b u,H b=some u->b≠C:=fun b u e z=>by rw[z,hC]at e;cases e
 refine(x b u e).aK (fun c v hc q=>k c v ?_ q) (fun _ q=>q) fun _ _ q=>q
 rcases hc with z|z
 .rw[z];exact nit b u e
 .exact nit c _ z
section
variable {X:Cx} {elt tg iter:Expr} {ifs:List Expr} {scope:Scope} {pos:Pos} {wi:TI} {g:TG} {tt:TT} {te:TE} {N:List Str} {k:Nat} {cap:List Nat}
theorem uO (S:fV X scope N k cap) (I2:Inv X pins σ H2 s2)
  (hcl1:∀y c,cl.lookup y=some c->X.env.cells.lookup y=some c) (hcl2:∀y,(y,NameKind.free)∈scope.names->(cl.lookup y).isSome=true) (hC:s2.heap.objs.size<=C)
  (hf:∀b∈fp,rM X pins H2 b) (ho:∀b∈fp,b<s2.heap.objs.size):(bJ X scope N ⟨cl,C,s2,H2,fp⟩).Ok where
 mod:=I2.ok.mod
 kind:=S.kind
 glob:=I2.ok.glob
 blt:=I2.ok.blt
 above:=hC
 inj:=fun x y c h1 h2=>I2.ok.inj x y c (hcl1 x c h1) (hcl1 y c h2)
 has:=fun x h=>by
  have h':(x,NameKind.free)∈scope.names:=jR (env:=X.env) S.cell h;exact jr.mp (hcl2 x h')
 X9:=fun _ _ z=>by cases z
 hd:=I2.ok.hd
 frames:=I2.ok.frames
 stk:=.inl rfl
 exf:=fun b hb=>⟨cm (cq (ho b hb) hC),fun x c e=>(hf b hb).2.2.2.2.1 x c (hcl1 x c e)⟩
 bs:=I2.bs
 R3:=fj I2.ok.R3 I2.sz
 JC:=fun b o e hb=>by
  rcases(hf b hb).2.2.2.1 with z|z
  .exact I2.ok.JC b o e z
  .exact absurd (cq (cf e) (fj I2.ok.R3 z)) (jf _)
 BY:=fun b hb hb'=>by
  rcases bw.mp (I2.D9 b hb')with z|z
  .exact(hf b hb).2.1 z
  .exact(hf b hb).2.2.1 z
 tQ:=I2.stack
 XT:=I2.GJ
theorem F6 {h1:Heap} {tk:Nat} {m0:Str->Option Value} (S:fV X scope N k cap) (I2:Inv X pins σ H2 s2)
  (hcl1:∀y c,cl.lookup y=some c->X.env.cells.lookup y=some c) (hcl2:∀y,(y,NameKind.free)∈scope.names->(cl.lookup y).isSome=true) (hC:C=s2.heap.objs.size+1)
  (hf:∀b∈fp,rM X pins H2 b) (ho:∀b∈fp,b<s2.heap.objs.size) (hk:∀b o,s2.heap.get? b=some o->h1.get? b=some o) (hD:h1.get? s2.heap.objs.size=some {cls:=.type "list",data:=.seq #[] 0}) (hns:h1.Ns C m0):
  Inv (bJ X scope N ⟨cl,C,s2,H2,fp⟩) [] (fL k cap σ) (upd H2 s2.heap.objs.size (.lst [])) {s2 with heap:=h1,toks:=tk}:=by
 have fr:H2 s2.heap.objs.size=none:=I2.bQ.fresh (bf _);have hCf:H2 C=none:=I2.bQ.fresh (hC▸ie _);refine⟨uO S I2 hcl1 hcl2 (hC▸ie _) hf ho,rfl,I2.bare,Un.laid hk (bf _) fr,⟨m0,hns,fun i y v e1 e2 e3=>?_⟩,fun x c e=>?_,?_,fun x c e=>?_,fun p hp=>absurd (show p∈([]:List (Addr×Obj))from hp) (by simp),I2.bQ.laid hk (bf _) ?_,?_⟩
 .obtain⟨q,j,rfl,hj,hv⟩:=xU e2;obtain⟨z,hz1,hz2,hz3⟩:=S.cap q j hj;have e1':N[k+q]? =some y:=e1;rw[hz1]at e1';cases e1';obtain⟨m,hn,hl⟩:=I2.loc;have hfr:=S.free (y,.free) (fz hz3) rfl;obtain⟨u,r,l⟩:=hl j y v hz2 hv (by rcases hfr with z|z;exact .inr (.inl z);exact .inr (.inr z));refine⟨u,r,.inr ⟨dW (env:=X.env) hz3,?_⟩⟩;obtain⟨c,hc⟩:=jr.mp (hcl2 y (fz hz3));rcases l with⟨hk',_⟩|⟨_,c',hc',hcell⟩
  .rcases hfr with z|z<;>(rw[hk']at z;cases z)
  .have e:=hcl1 y c hc;rw[hc']at e;cases e;obtain⟨o,ho',hd⟩:=hcell;exact⟨_,hc,o,hk _ _ ho',hd⟩
 .obtain⟨v,o,ho',hd⟩:=I2.cell x c (hcl1 x c e);exact⟨v,o,hk _ _ ho',hd⟩
 .show upd H2 s2.heap.objs.size (.lst []) C=none;rw[aU (kg (hC▸ji _))];exact hCf
 .have e':=hcl1 x c e;obtain⟨v,q⟩:=I2.cell x c e';rw[aU (cm q.lt)];exact I2.nC x c e'
 .exact⟨dj _,[],0,.nil,hD⟩
 .show(fL k cap σ).length=N.length;unfold fL;rw[bq,gm,ah,S.len]
theorem PK (hc:X.calm=true) (S:fV X scope N k cap) (hi:PI X tg iter wi) (hg:∀c,PG (bJ X scope N c) tg g) (ht:∀c,S6 (bJ X scope N c) ifs tt) (he:∀c,PE (bJ X scope N c) elt te)
  (hs:∀x,foldedSetIterable iter X.env x=pure x:=by intro _;rfl):PE X (.ListComp elt [⟨tg,iter,ifs,0⟩] scope pos) (xI wi k cap g tt te):=by
 intro pins s σ H Q I h;rw[eval_ListComp];obtain⟨cl,hclos,hcl1,hcl2⟩:=kQ (scope:=scope) (env:=X.env) (fun p hp hf=>I.ok.has p.1 (S.free p hp hf));refine wpAny_comprehension_free (use:=none) rfl hs hclos S.kind S.names (cL (hi pins s σ H _ I h) fun v s1 h1=>cL h1 fun itv s2 h2=>?_);obtain⟨it,fp,tn,J,H2,e,I2,T,st2,f2,q2⟩:=h2;subst e;obtain⟨W,⟨m0,w0⟩,turn⟩:=q2 s2.heap.objs.size (I2.bQ.fresh (bf _));have hob:∀b∈fp,b<s2.heap.objs.size:=fun b hb=>let⟨o,e,_⟩:=T.obj _ _ st2 b hb;cf e
 refine dg (wpAny_newFunctionEnv S.cell (by intro y hy;simp at hy) (fun h₁ hns₁ hsb₁=>?_) S.kind);dsimp only at hns₁ hsb₁⊢
 generalize hHH:s2.heap.push {cls:=.type "list",dict:=none,data:=.seq ([]:List Value).toArray}=HH at hns₁ hsb₁⊢
 have hCC:HH.objs.size=s2.heap.objs.size+1:=by rw[<-hHH,size_push]
 have old:∀b o,s2.heap.get? b=some o->h₁.get? b=some o:=fun b o e=>hsb₁.extBut b o (cm (hCC▸dv (cf e))) (ao _ (hHH▸ao _ e))
 have hD:h₁.get? s2.heap.objs.size=some {cls:=.type "list",data:=.seq #[] 0}:=hsb₁.extBut _ _ (cm (hCC▸ji _)) (ao _ (hHH▸cc _ rfl));have I4:=fun tk=>F6 (tk:=tk) S I2 hcl1 hcl2 hCC f2 hob old hD hns₁
 have X':=bJ X scope N ⟨cl,HH.objs.size,s2,H2,fp⟩;have stat:∀{H':Hp},(∀b∈fp,H' b=none)->∀b∈fp,rM (bJ X scope N ⟨cl,HH.objs.size,s2,H2,fp⟩) [] H' b:=fun hn b hb=>
  ⟨hn b hb,cm (hCC▸dv (hob b hb)),(uO S I2 hcl1 hcl2 (hCC▸ie _) f2 hob).BY b hb,.inl hb,fun x c e=>(f2 b hb).2.2.2.2.1 x c (hcl1 x c e),fun p hp=>absurd (show p∈([]:List (Addr×Obj))from hp) (by simp)⟩
 have loop:∀s₃:Shared,s₃={s2 with heap:=h₁,toks:=s2.toks+([]:List (Str×Value)).length}->
   codeAny (model X.prog X.w) X.A (.compLoop (.ListComp elt [⟨tg,iter,ifs,0⟩] scope pos) 0 (.ref it) (.ref s2.heap.objs.size) (compEnvC scope cl HH.objs.size X.env))
    (compPost (model X.prog X.w) X.A X.xe none (EP X pins σ Q) (.ref s2.heap.objs.size) HH.objs.size) s₃:=by
  rintro s₃ rfl;refine xB (fun n s'=>∃i σ' H',Inv (bJ X scope N ⟨cl,HH.objs.size,s2,H2,fp⟩) [] σ' H' s'/\tn i s'.heap/\(∀b∈fp,H' b=none)/\W i n σ' H') ?_ m0
   ⟨0,fL k cap σ,_,I4 _,T.keep _ _ _ st2 fun b _ o e=>old b o e,fun b hb=>by rw[aU (cm (hob b hb))];exact(f2 b hb).1,w0⟩
  rintro n s3 ⟨i,σ3,H3,I3,st3,fr3,w3⟩;rcases turn i n σ3 H3 w3 with⟨stop,qn⟩|⟨go,NN,hN,step⟩
  .refine cL (T.done (bJ X scope N ⟨cl,HH.objs.size,s2,H2,fp⟩) rfl rfl rfl hc i [] s3 σ3 H3 _ I3 (stat fr3) st3 stop) fun r s4 ⟨hr,J4⟩=>?_
   subst hr;obtain⟨m,hn,_⟩:=J4.loc;refine⟨m,hn,fun h' hs'=>?_⟩;have keepC:∀b o,b≠HH.objs.size->s4.heap.get? b=some o->h'.get? b=some o:=fun b o hb e=>hs'.extBut b o hb e
   have fY:∀b o,s2.heap.get? b=some o->b≠HH.objs.size:=fun b o e=>cm (hCC▸dv (cf e))
   have u:=J4.base;have u':Un (IL X.stack) fp H2 H3 s2.heap h':=⟨fun b o q n hb hx=>keepC b o (fY b o q) (u.keep b o q n hb hx),fun b o q n hb hx=>by
     obtain⟨sl,e⟩:=u.slot b o q n hb hx;exact⟨sl,keepC b _ (fY b o q) e⟩,u.free,fun b o q hx=>by
     obtain⟨o',e⟩:=u.there b o q hx;exact⟨o',keepC b _ (fY b o q) e⟩,u.wY,u.uZ,u.wL⟩
   refine⟨.ref s2.heap.objs.size,H3,I2.NT (ch:=fp) J4.os u' (J4.bQ.but J4.free keepC) J4.bare fun b hb=>?_,rfl,qn⟩;obtain⟨_,f1,_,f3,f4,f5⟩:=f2 b hb;exact⟨f3,f1,f4,f5⟩
  .refine cL (T.item (bJ X scope N ⟨cl,HH.objs.size,s2,H2,fp⟩) rfl rfl rfl hc i [] s3 σ3 H3 _ I3 (stat fr3) st3 go) fun r s4 ⟨u,hr,h4⟩=>?_
   subst hr;refine cL h4 fun _ s5 ⟨x,H5,I5,r5,y5,st5,fr5⟩=>?_
   have I5':=I5.pinned (stat fr5) (T.obj _ _ st5);have again:∀{s7:Shared} {σ7:St} {H7:Hp},Inv (bJ X scope N ⟨cl,HH.objs.size,s2,H2,fp⟩) ([]++pF fp s5.heap) σ7 H7 s7->NN σ7 H7->
     ∃m,m<n/\∃i σ' H',Inv (bJ X scope N ⟨cl,HH.objs.size,s2,H2,fp⟩) [] σ' H' s7/\tn i s7.heap/\(∀b∈fp,H' b=none)/\W i m σ' H':=fun{s7 σ7 H7} I7 n7=>by
    obtain⟨m',hm,w7⟩:=hN σ7 H7 n7;refine⟨m',hm,i+1,σ7,H7,I7.kX,T.keep _ _ _ st5 fun b hb o e=>(I7.pin (b,o) (cp _ (cp _ (dI hb e)))).1,fun b hb=>?_,w7⟩;obtain⟨o,e,d⟩:=T.obj _ _ st5 b hb;exact(I7.pin (b,o) (cp _ (cp _ (dI hb e)))).2.1
   refine cL (hg _ _ s5 σ3 H5 x u _ I5' r5 (step x H5 y5)) fun _ s6 ⟨σ6,H6,I6,q6⟩=>?_
   refine cL (ht _ _ s6 σ6 H6 _ I6 q6) fun b s7 ⟨H7,I7,q7⟩=>?_
   cases b with
   |false=>exact again I7 q7
   |true=>
    refine cL (he _ _ s7 σ6 H7 _ I7 q7) fun y s8 ⟨yv,H8,I8,r8,xs,hl,hz,n8⟩=>?_
    refine cL (fX _ s8 σ6 H8 (.ref s2.heap.objs.size) [yv] (.ref s2.heap.objs.size) [y] (fun _ H9=>NN σ6 H9) I8 rfl (.cons r8 .nil) ⟨_,xs,yv,rfl,rfl,hl,hz,n8⟩) fun _ s9 ⟨_,H9,I9,_,q9⟩=>?_
    exact again I9 q9
 exact codeAny_compStart_list (loop _ rfl) (T.self X.A 0 _ _ _ (T.keep _ _ _ st2 fun b _ o e=>old b o e) (loop _ rfl))
end
noncomputable def YG (z:Str):It:=⟨fun i _=>i<z.cps.size,fun i H x H'=>H'=H/\∃c,z.cps[i]? =some c/\x= .str ⟨#[c]⟩,fun i _=>z.cps.size<=i⟩
theorem HK (z:Str) (t:Tok) (it:Addr):Turn P w K tg (YG z) [it] it (fun i h=>h.IsStrIter it "str_ascii_iterator" z t i)where
 mem:=by simp
 obj:=fun i h st b hb=>by
  have e:b=it:=by simpa using hb
  subst e;obtain⟨o,e,c,d⟩:=st;exact⟨o,e,fun v z=>by rw[d]at z;cases z⟩
 keep:=fun i h h' st k=>let⟨o,e,r⟩:=st;⟨o,k it (by simp) o e,r⟩
 item:=by
  intro X hP hw hK hc i pins s σ H E I hf st hg;subst hP hw hK;obtain⟨f0,f1,f2,f3,f4,f5⟩:=hf it (by simp);have hg':i<z.cps.size:=hg;refine wpAny_pyNext_ascii_item st (c:=z.cps[i]) (by simp[hg']) fun h' st' sb=>?_
  have I1:Inv X pins σ H {s with heap:=h',toks:=s.toks+1}:=I.turned (fun b o hb e=>(sb.2 b hb).trans e) f0 f1 f3 f4 f5;obtain⟨o,e,c,d⟩:=id st';exact⟨_,rfl,xS (s:={s with heap:=h',toks:=s.toks+1}) e c d (by decide) ⟨.str ⟨#[z.cps[i]]⟩,H,I1,⟨_,rfl⟩,⟨rfl,_,by simp[hg'],rfl⟩,st',fun b hb=>(hf b hb).1⟩⟩
 done:=by
  intro X hP hw hK hc i pins s σ H E I hf st hg;subst hP hw hK;obtain⟨f0,f1,f2,f3,f4,f5⟩:=hf it (by simp);exact wpAny_pyNext_ascii_end (I.ok.hd hc) st (Array.getElem?_eq_none hg) fun h' eb=>⟨rfl,I.turned (t':=s.toks) (fun b o hb e=>eb b o hb e) f0 f1 f3 f4 f5⟩
 self:=fun A i s Q E st h=>by
  refine wpAny_pyIter_slot st.typeIs F.slot_str_ascii_iterator_iter (gv F.slot_str_ascii_iterator_iter st.typeIs F.entry_str_ascii_iterator_iter ?_ (F.args_str_ascii_iterator_iter_1 _));show wpAny _ _ (ret (.ref it)) _ _ s;exact ax ⟨_,rfl,"str_ascii_iterator",_,st.typeIs,F.slot_str_ascii_iterator_next.lookup,h⟩
theorem JF (z:Str) (t:Tok) (it:Addr):Turn P w K tg (YG z) [it] it (fun i h=>h.IsStrIter it "str_iterator" z t i)where
 mem:=by simp
 obj:=fun i h st b hb=>by
  have e:b=it:=by simpa using hb
  subst e;obtain⟨o,e,c,d⟩:=st;exact⟨o,e,fun v z=>by rw[d]at z;cases z⟩
 keep:=fun i h h' st k=>let⟨o,e,r⟩:=st;⟨o,k it (by simp) o e,r⟩
 item:=by
  intro X hP hw hK hc i pins s σ H E I hf st hg;subst hP hw hK;obtain⟨f0,f1,f2,f3,f4,f5⟩:=hf it (by simp);have hg':i<z.cps.size:=hg;refine wpAny_pyNext_wide_item st (c:=z.cps[i]) (by simp[hg']) fun h' st' sb=>?_
  have I1:Inv X pins σ H {s with heap:=h',toks:=s.toks+1}:=I.turned (fun b o hb e=>(sb.2 b hb).trans e) f0 f1 f3 f4 f5;obtain⟨o,e,c,d⟩:=id st';exact⟨_,rfl,xS (s:={s with heap:=h',toks:=s.toks+1}) e c d (by decide) ⟨.str ⟨#[z.cps[i]]⟩,H,I1,⟨_,rfl⟩,⟨rfl,_,by simp[hg'],rfl⟩,st',fun b hb=>(hf b hb).1⟩⟩
 done:=by
  intro X hP hw hK hc i pins s σ H E I hf st hg;subst hP hw hK;obtain⟨f0,f1,f2,f3,f4,f5⟩:=hf it (by simp);exact wpAny_pyNext_wide_end (I.ok.hd hc) st (Array.getElem?_eq_none hg) fun h' eb=>⟨rfl,I.turned (t':=s.toks) (fun b o hb e=>eb b o hb e) f0 f1 f3 f4 f5⟩
 self:=fun A i s Q E st h=>by
  refine wpAny_pyIter_slot st.typeIs F.slot_str_iterator_iter (gv F.slot_str_iterator_iter st.typeIs F.entry_str_iterator_iter ?_ (F.args_str_iterator_iter_1 _));show wpAny _ _ (ret (.ref it)) _ _ s;exact ax ⟨_,rfl,"str_iterator",_,st.typeIs,F.slot_str_iterator_next.lookup,h⟩
section
variable {X:Cx}
theorem VD:JY X (fun x lo hi H Q=>∃z,x= .str z/\z.length<=sizeLine/\Q (.str (Txt.slice z lo hi)) H):=by
 intro pins s σ H x v vl vu lo hi sl Q I rx hs pl pu h;obtain⟨z,rfl,hz,q⟩:=h;obtain⟨t,rfl⟩:=rx;refine⟨"str",_,F.slot_str_getitem.lookup,typeIs_str _ _ _,?_⟩;obtain⟨o,ho,hc,hd⟩:=hs;have fin:∀(t':Tok) (k:Nat),EP X pins σ Q (.str (Txt.slice z lo hi) t') {s with toks:=k}:=fun t' k=>⟨.str (Txt.slice z lo hi),H,I.tok k,⟨t',rfl⟩,q⟩
 have hle:=fj (Txt.slice_le z lo hi) hz;cases pl with
 |none=>cases pu with
  |none=>exact kr (l:=none) (u:=none) (st:=none) ⟨o,ho,hc,hd⟩ rfl (post_val_or_str ⟨hle,fun t' k=>fin t' k⟩)
  |int j uj=>exact kr (l:=none) (u:=some (j,uj)) (st:=none) ⟨o,ho,hc,hd⟩ rfl (post_val_or_str ⟨hle,fun t' k=>fin t' k⟩)
 |int i ui=>cases pu with
  |none=>exact kr (l:=some (i,ui)) (u:=none) (st:=none) ⟨o,ho,hc,hd⟩ rfl (post_val_or_str ⟨hle,fun t' k=>fin t' k⟩)
  |int j uj=>exact kr (l:=some (i,ui)) (u:=some (j,uj)) (st:=none) ⟨o,ho,hc,hd⟩ rfl (post_val_or_str ⟨hle,fun t' k=>fin t' k⟩)
theorem AD:∀{ys:List Str} {its:List Value},Vals (ys.map V.str) its->StrsAre its ys
 |[],_,r=>by cases r;exact .nil
 | y::ys,_,r=>by
  cases r with
  |cons r rr=>
   obtain⟨t,rfl⟩:=r;exact .cons y t (AD rr)
def rJoin (K:Frag):V->List V->Hp->VK->Prop:=fun x vs H Q=>∃z p ys,x= .str z/\vs=[.ref p]/\k7 K H p (ys.map V.str)/\(ys.map (·.length)).sum+ys.length*z.length<=16777216/\Q (.str (Txt.join z ys)) H
theorem Q6:MtR X "str.join" (rJoin X.K):=by
 intro pins s σ H x vs v us Q I rx rv h;obtain⟨z,p,ys,rfl,rfl,hq,hz,q⟩:=h;obtain⟨t,rfl⟩:=rx;obtain⟨u,rfl,rp⟩:=vals1 rv;cases rp;obtain⟨its,r,pl,_⟩:=I.list hq;exact join_list pl.isList (by simpa using AD r) hz fun t' k=>⟨.str (Txt.join z ys),H,I.tok k,⟨t',rfl⟩,q⟩
theorem qD:jD X (binaryOp .Pow) (rI (fun i j=>0<=j/\(Builtin.Int.intBits i:Int)*j<=2^27) fun i j=>.int (i^j.toNat)):=Z5 fun _ _ _ _ _ _ _ hc q=>pow_int hc.1 hc.2 q
end
noncomputable def qX (XN:List Str) (xs scope:Scope) (N:List Str) (k:Nat) (cap:List Nat):Bool:=
 scope.kind== .function && (scope.names.all fun y=>y.2 != .local||scope.names.lookup y.1==some .local) && (scope.names.all fun y=>y.2 != .cell) &&
 (scope.names.all fun y=>y.2 != .free||xs.names.lookup y.1==some .cell||xs.names.lookup y.1==some .free) && N.length==k+cap.length &&
 (List.range cap.length).all fun j=>match cap[j]?,N[k+j]? with
  |some i,some y=>XN[i]? ==some y && scope.names.lookup y==some .free
  |_,_=>false
theorem l4 {XN:List Str} {xs:Scope} {N:List Str} {k:Nat} {cap:List Nat} (hN:X.N=XN) (hs:X.env.scope=xs) (h:qX XN xs scope N k cap=true):fV X scope N k cap:=by
 subst hN hs;unfold qX at h;simp only[bz,bg,or_eq_true,bne_iff_ne,ne_eq,dm]at h;obtain⟨⟨⟨⟨⟨h1,h2⟩,h3⟩,h4⟩,h5⟩,h6⟩:=h;refine⟨h1,fun y hy e=>(h2 y hy).resolve_left (fun z=>z e),h3,fun y hy e=>?_,h5,fun j i e=>?_⟩
 .rcases h4 y hy with(z|z)|z
  .exact absurd e z
  .exact .inl z
  .exact .inr z
 .have hj:j<cap.length:=(af.mp e).1;have q:=h6 j (jy.mpr hj);rw[e]at q;cases r:N[k+j]? with
  |none=>rw[r]at q;cases q
  |some y=>
   rw[r]at q;simp only[bz,dm]at q;exact⟨y,rfl,q.1,q.2⟩
section
variable {X:Cx} {elt tg iter:Expr} {ifs:List Expr} {scope:Scope} {pos:Pos} {wi:TI} {g:TG} {tt:TT} {te:TE} {N:List Str} {k:Nat} {cap:List Nat} {XN:List Str} {xs:Scope}
theorem uN (N:List Str) (k:Nat) (cap:List Nat) (XN:List Str) (xs:Scope) (hc:X.calm=true) (hN:X.N=XN) (hx:X.env.scope=xs) (hi:PI X tg iter wi) (chk:qX XN xs scope N k cap=true)
  (hg:∀c,PG (bJ X scope N c) tg g) (ht:∀c,S6 (bJ X scope N c) ifs tt) (he:∀c,PE (bJ X scope N c) elt te)
  (hs:∀x,foldedSetIterable iter X.env x=pure x:=by intro _;rfl):PE X (.ListComp elt [⟨tg,iter,ifs,0⟩] scope pos) (xI wi k cap g tt te):=PK hc (l4 hN hx chk) hi hg ht he hs
end
structure Def (K:Frag) (mg:Str->Option Value) (x:Str) (st:Stmt) (ps:List Str) (f:Addr) (fd:FuncData):Prop where
 F:UJ K x x st f fd
 m:mg x=some (.ref f)
 b:Binds K fd ps []
section
variable {X:Cx} {x:Str} {st:Stmt} {ps:List Str} {f:Addr} {fd:FuncData} {j k:Nat} {sp:Sp} {e:Expr} {es:List Expr} {t:TA} {p pos:Pos}
theorem Z3 (D:Def X.K X.mg x st ps f fd) (G:rJ X.prog X.w X.K X.mg X.base O0 j f fd ps sp) (hr:dG k X.A) (hjk:j<=k) (hg:Gl X x) (ha:PA X (e::es) t) (hdb:(x==("__debug__":Str))=false:=by decide)
  (he:starEach (e::es) X.env=(false,eval e X.env)::starEach es X.env:=by rfl) (hpl:(backTo pos (starEach es X.env)).any (·.1)=false:=by rfl):
  PE X (.Call (.Name x p) (e::es) [] pos) (BV sp [] E0 t):=QZ G (hr.mono hjk) hg D.m D.F.kp D.b .nil ZV ha hdb he hpl
end
theorem Vals.get':∀{xs:List V} {us:List Value} {i:Nat} {u:Value},Vals xs us->us[i]? =some u->∃x,xs[i]? =some x/\RelV x u
 |_,_,_,_,.nil,h=>by simp at h
 |_,_,0,_,.cons r _,h=>by simp at h;subst h;exact⟨_,rfl,r⟩
 |_,_,i+1,_,.cons _ t,h=>Vals.get' (i:=i) t (by simpa using h)
theorem lV:bootBuiltins "len"=some (.builtin "len"):=by decide+kernel
theorem DR:bootBuiltins "min"=some (.builtin "min"):=by decide+kernel
theorem oM:bootBuiltins "sorted"=some (.builtin "sorted"):=by decide+kernel
theorem UQ:bootBuiltins "int"=some (.type "int"):=by decide+kernel
theorem zW:bootBuiltins "str"=some (.type "str"):=by decide+kernel
theorem GP:bootBuiltins "list"=some (.type "list"):=by decide+kernel
theorem kW:bootBuiltins "tuple"=some (.type "tuple"):=by decide+kernel
theorem yR:bootBuiltins "enumerate"=some (.type "enumerate"):=by decide+kernel
theorem aX.upd {l:Addr} {o:HO} (h:H l=none):aX H (upd H l o):=fun b u e=>by rw[aU (bT e h)];exact e
theorem szt {n:Nat} (h:n<16777216):n<sizeLine:=by rw[PySem.sizeLine_eq];exact h
theorem PL (z:Str):z.cps.toList.length=z.length:=by simp[Str.length]
theorem NS {z:Str} {d:Int} (h0:0<=d) (h:d<(z.length:Int)):∃c,c∈z.cps.toList/\p9 z.cps.toList d=some c:=by
 obtain⟨j,rfl⟩:∃j:Nat,d=(j:Int):=⟨d.toNat,by omega⟩;have hj:j<z.cps.toList.length:=by have e:=PL z;omega
 exact⟨z.cps.toList[j],je hj,hB (by simp[hj])⟩
theorem PZ {α:Type} {xs:List α} {d:Int} (h0:0<=d) (h:d<(xs.length:Int)):∃c,c∈xs/\p9 xs d=some c:=by
 obtain⟨j,rfl⟩:∃j:Nat,d=(j:Int):=⟨d.toNat,by omega⟩;have hj:j<xs.length:=by omega
 exact⟨xs[j],je hj,hB (by simp[hj])⟩
def CG (K:Frag):Sp:=fun vs H Q _=>∃(a:Addr) (ns:List Int),vs=[.ref a]/\k7 K H a (ns.map V.int)/\ns.length<=63/\∀H',Q (.bl true) H'
end L2
namespace PySem
open Sem (wp)
open AutoSeq1 (wpAny_loadPart')
variable {it l:Addr} {i:Nat} {Q:Value->Shared->Prop}
section
variable {prog:Program} {w:World} {A:Around} {E:Value->Shared->Prop} {s:Shared}
theorem lQ {t:Addr} {items} {x:Value} (hit:s.heap.IsTupleIter it t i)
  (ht:s.heap.IsTuple t items) (hx:items[i]? =some x)
  (hQ:∀h',h'.IsTupleIter it t (i+1)->Heap.SameBut it s.heap h'->Q x {s with heap:=h'}):
  wpAny (model prog w) A (Builtin.SmallTypes.nextOf (.ref it)) Q E s:=by
 obtain⟨o,ho,hc,hd⟩:=id hit;obtain⟨ol,hol,_,nl,hdl⟩:=ht;unfold Builtin.SmallTypes.nextOf;refine ae (ko (name:=Str.ofString "__next__") hit.typeIs jq
  (gv jq hit.typeIs F.entry_tuple_iterator_next ?_ (F.args_tuple_iterator_next_1 _)))
 show wpAny _ _ (field (.ref it) 0>>=_) _ _ s;refine ae (wpAny_field ho hd (x:=.ref t) rfl ?_);show wpAny _ _ (if(Value.ref t==Value.none)=true then _ else _) _ _ s;rw[ai (show¬((Value.ref t==Value.none)=true)from au)];show wpAny _ _ (field (.ref it) 1>>=_) _ _ s;refine ae (wpAny_field ho hd (x:=.int i 0) rfl ?_);show wpAny _ _ (seqItems? (.ref t)>>=_) _ _ s;refine ae (wpAny_seqItems hol hdl ?_);simp only[toNat_natCast,hx];refine ae (wpAny_setField ho hd (by simp) (ax ⟨x,rfl,ax (hQ _ ?_ (Heap.SameBut.update ..))⟩));exact⟨_,get?_update_self _ ho (Obj.isFreed_of_fields (Obj.data_mapFields hd _)),(Obj.cls_mapFields ..).trans hc,by
  rw[Obj.data_mapFields hd];simp[rawInt]⟩
theorem mS {items} (hh:A.handled=none)
  (hit:s.heap.IsTupleIter it l i) (hl:s.heap.IsTuple l items) (hx:items[i]? =none)
  (hE:∀h' e,Heap.ExtBut it s.heap h'->(∃o,h'.get? e=some o/\o.cls= .type "StopIteration")->E (.ref e) {s with heap:=h'}):
  wpAny (model prog w) A (Builtin.SmallTypes.nextOf (.ref it)) Q E s:=by
 obtain⟨o,ho,hc,hd⟩:=id hit;obtain⟨ol,hol,_,nl,hdl⟩:=hl;unfold Builtin.SmallTypes.nextOf;refine ae (ko (name:=Str.ofString "__next__") hit.typeIs jq
  (gv jq hit.typeIs F.entry_tuple_iterator_next ?_ (F.args_tuple_iterator_next_1 _)))
 show wpAny _ _ (field (.ref it) 0>>=_) _ _ s;refine ae (wpAny_field ho hd (x:=.ref l) rfl ?_);show wpAny _ _ (if(Value.ref l==Value.none)=true then _ else _) _ _ s;rw[ai (show¬((Value.ref l==Value.none)=true)from au)];show wpAny _ _ (field (.ref it) 1>>=_) _ _ s;refine ae (wpAny_field ho hd (x:=.int i 0) rfl ?_);show wpAny _ _ (seqItems? (.ref l)>>=_) _ _ s;refine ae (wpAny_seqItems hol hdl ?_);simp only[toNat_natCast,hx];refine ae (wpAny_rule (ae (wpAny_setField ho hd (by simp) ?_)));show wpAny _ _ (newExc (.type "StopIteration") []>>=_) _ _ _;refine ae ?_;simp only[newExc,newTuple];refine ae (dg ?_ (by size_fits));refine ae (m:=firstArgMember _ _) (wpAny_of_eq (a:=Value.none) (by first|rfl|(simp only[firstArgMember];rfl)) ?_);refine dg ?_ (by size_fits);simp only[raiseNew];refine ae (wpAny_handled ?_)
 first|rw[show A.in1.handled=none from hh]|rw[hh]
 refine ae (ax (wpAny_throw ?_));exact hE _ _ (((Heap.SameBut.update ..).extBut.push _).push _) ⟨_,cc _ rfl,rfl⟩
end
theorem k8 {prog:Program} {w:World} {A:Around} (hh:A.handled=none) (it l:Addr) (hne:l≠it) (items:Array Value):
  Draws prog w A it [it,l] items.size (fun i v=>items[i]? =some v) (fun i h=>h.IsTupleIter it l i/\h.IsTuple l items)where
 live:=fun _ _ st=>let⟨o,ho,_⟩:=st.1;⟨o,ho⟩
 frame:=fun _ _ _ st hk=>⟨st.1.at fun o e=>hk it (by simp) o e,let⟨o,e,r⟩:=st.2;⟨o,hk l (by simp) o e,r⟩⟩
 item:=fun i s Q E hi st hQ=>by
  refine lQ st.1 st.2 (x:=items[i]) (by simp[hi]) fun h' hit' hs'=>?_
  exact hQ _ h' s.toks (by simp[hi]) ⟨hit',st.2.extBut hs'.extBut hne⟩ hs'
 done:=fun s Q E st hE=>mS hh st.1 st.2 (by simp) hE
theorem jI (l:Addr) (items:Array Value) (n:Nat) (bA:Option Addr) (sl:Array (Option Value)):
  Meets (Builtin.«enumerate.__new__» ⟨[.type "enumerate",.ref l],[]⟩) (fun _ R s=>s.heap.get? l=some {cls:=.type "tuple",dict:=bA,data:=.seq items n,slots:=sl}/\
   R (.ok (.ret (.ref (s.heap.push {cls:=.type "tuple_iterator",data:=.fields #[.ref l,.int 0 0]}).objs.size)))
    {s with heap:=(s.heap.push {cls:=.type "tuple_iterator",data:=.fields #[.ref l,.int 0 0]}).push {cls:=.type "enumerate",data:=.fields #[.none,.bool false,.ref s.heap.objs.size,rawInt 0,.none,.none]}}):=
 .of_wp fun prog w A R s h=>by
  obtain⟨hp,g,d,tk,os⟩:=s;obtain⟨hl,h⟩:=h
  have hsub:=sub_enumerate;have hL:Heap.IsTuple (Shared.heap ⟨hp,g,d,tk,os⟩) l items:=⟨_,hl,rfl,n,rfl⟩
  wp_walk using wpAny_loadPart' hl
  refine wpAny_stack_any fun st=>ax ?_
  split
  .rename_i c _ _ _ _ _;cases(c==Value.type "enumerate")
   .wp_walk using wpAny_loadPart' hl,kz hL
    exact⟨_,rfl,h⟩
   .wp_walk using wpAny_loadPart' hl,kz hL
    exact⟨_,rfl,h⟩
  .wp_walk using wpAny_loadPart' hl,kz hL
   exact⟨_,rfl,h⟩
section
variable {prog:Program} {w:World} {A:Around} {E:Value->Shared->Prop} {s:Shared}
theorem jE {items:Array Value} (hL:s.heap.IsTuple l items)
  (h:∀h',IsEnum h' (s.heap.objs.size+1) s.heap.objs.size 0 .none->h'.IsTupleIter s.heap.objs.size l 0->h'.objs.size=s.heap.objs.size+2->
   (∀b o,s.heap.get? b=some o->h'.get? b=some o)->Q (.ref (s.heap.objs.size+1)) {s with heap:=h'}):
  wpAny (model prog w) A (call (.type "enumerate") [.ref l]) Q E s:=by
 obtain⟨⟨c,bA,dt,sl⟩,hl,hc,n,hd⟩:=hL;replace hc:c= .type "tuple":=hc;replace hd:dt= .seq items n:=hd;subst hc hd;refine callType_new F.called_enumerate (by decide) (F.typeCall_enumerate_1 _) (F.newCall_enumerate_1 _) (fun obj=>F.args_object_init_2 obj _) F.entry_enumerate_new
  (jI l items n bA sl) ⟨hl,?_⟩
 have hz:(s.heap.push {cls:=.type "tuple_iterator",data:=.fields #[.ref l,.int 0 0]}).objs.size=s.heap.objs.size+1:=size_push ..;show _/\_;rw[hz];have he:IsEnum ((s.heap.push {cls:=.type "tuple_iterator",data:=.fields #[.ref l,.int 0 0]}).push
   {cls:=.type "enumerate",data:=.fields #[.none,.bool false,.ref s.heap.objs.size,rawInt 0,.none,.none]}) (s.heap.objs.size+1) s.heap.objs.size 0 .none:=by
  have:=cc (s.heap.push {cls:=.type "tuple_iterator",data:=.fields #[.ref l,.int 0 0]})
   (o:={cls:=.type "enumerate",data:=.fields #[.none,.bool false,.ref s.heap.objs.size,rawInt 0,.none,.none]}) rfl
  rw[hz]at this;exact this
 refine⟨⟨_,he,rfl⟩,h _ he ⟨_,ao _ (cc _ rfl),rfl,rfl⟩ (by rw[size_push,hz]) fun b o x=>ao _ (ao _ x)⟩
end
end PySem
namespace L2
open PySem PySem.Spec PyProof.Rows
variable {X:Cx} {h':Heap} {H:Hp} {pins:List (Addr×Obj)} {fp:List Addr} {es:List Expr} {t':Nat} {pos:Pos} {s:Shared} {σ:St}
theorem Inv.HA (I:Inv X pins σ H s) (k:∀b o,b∉fp->s.heap.get? b=some o->h'.get? b=some o) (hf:∀b∈fp,rM X pins H b):
  Inv X pins σ H {s with heap:=h',toks:=t'}:=by
 have nit:∀b u,H b=some u->b∉fp:=fun b u e z=>by rw[(hf b z).1]at e;cases e
 refine I.step (g':=s.gens) (d':=s.drawn) (ch:=fp) (fun b hb=>?_) (fun b o _ _ hc e _=>k b o hc e) (fun b o _ _ hc e _=>⟨o.slots,k b o hc e⟩) (fun _ _ _ _ n=>n)
  (fun b o hc e=>⟨o,k b o hc e⟩) (fun _ _ e=>e) (fun _ _ _ e=>e) (fun b ps e=>⟨#[],by rw[e];simp⟩) (fun m hm=>?_) (fun b u e=>?_) I.bare
 .obtain⟨_,f1,_,f3,f4,f5⟩:=hf b hb;exact⟨f3,f1,f4,f5⟩
 .obtain⟨o,es,ep,ho,r⟩:=hm;exact⟨o,es,ep,k _ o (fun z=>(hf _ z).2.1 rfl) ho,r⟩
 .refine(I.bQ b u e).aK (fun c v hc q=>k c v ?_ q) (fun _ q=>q) fun _ _ q=>q
  rcases hc with z|z
  .rw[z];exact nit b u e
  .exact nit c _ z
theorem Inv.un2 {xs:List V} (I:Inv X pins σ H s) (k:∀b o,b∉fp->s.heap.get? b=some o->h'.get? b=some o) (hf:∀b∈fp,rM X pins H b)
  (hfr:H s.heap.objs.size=none) (hno:s.heap.objs.size∉fp) (new:dD X.prog X.w (upd H s.heap.objs.size (.tup xs)) h' s.heap.objs.size (.tup xs)) (ht:∀b∈fp,∀o,s.heap.get? b=some o->∃o',h'.get? b=some o'):
  Inv X pins σ (upd H s.heap.objs.size (.tup xs)) {s with heap:=h',toks:=t'}:=by
 have nit:∀b u,H b=some u->b∉fp:=fun b u e z=>by rw[(hf b z).1]at e;cases e
 have nT:∀b o,s.heap.get? b=some o->b≠s.heap.objs.size:=fun b o e=>cm (cf e)
 refine I.step (g':=s.gens) (d':=s.drawn) (ch:=fp) (fun b hb=>?_) (fun b o _ _ hc e _=>k b o hc e) (fun b o _ _ hc e _=>⟨o.slots,k b o hc e⟩) (fun b o _ e n=>by rw[aU (nT b o e)];exact n)
  (fun b o hc e=>⟨o,k b o hc e⟩) (fun b ys e=>by rw[aU (bT e hfr)];exact e) (fun b o u e=>by rw[aU (bT e hfr)];exact e) (fun b ps e=>⟨#[],by rw[aU (bT e hfr),e];simp⟩) (fun m hm=>?_) (fun b u e=>?_) I.bare
 .obtain⟨_,f1,_,f3,f4,f5⟩:=hf b hb;exact⟨f3,f1,f4,f5⟩
 .obtain⟨o,es,ep,ho,r⟩:=hm;exact⟨o,es,ep,k _ o (fun z=>(hf _ z).2.1 rfl) ho,r⟩
 .by_cases hb:b=s.heap.objs.size
  .subst hb;rw[aV]at e;cases e;exact new
  .rw[aU hb]at e;refine(I.bQ b u e).aK (fun c v hc q=>k c v ?_ q) (fun c q=>by rw[aU (bT q hfr)];exact q) fun c ys q=>by rw[aU (bT q hfr)];exact q
   rcases hc with z|z
   .rw[z];exact nit b u e
   .exact nit c _ z
noncomputable def Ite (K:Frag) (a:Addr):It:=
 ⟨fun i H=>∃xs x,qB K H a xs/\xs[i]? =some x,fun i H v H'=>∃t,H t=none/\v= .ref t/\∀xs,qB K H a xs->∃x,xs[i]? =some x/\H'=upd H t (.tup [.int i,x]),fun i H=>∃xs,qB K H a xs/\xs.length=i⟩
theorem C7 {P:Program} {w:World} {K:Frag} {elts:List Expr} {x1} (a it e:Addr) (hei:e≠it):Turn P w K (.Tuple elts x1 pos) (Ite K a) [e,it] e (fun i h=>(∃old,IsEnum h e it i old)/\h.IsTupleIter it a i)where
 mem:=by simp
 obj:=fun i h st b hb=>by
  obtain⟨⟨old,he⟩,o,ho,c,d⟩:=st;rcases bw.mp hb with z|z
  .subst z;exact⟨_,he,fun v z=>by cases z⟩
  .have z:b=it:=by simpa using z
   subst z;exact⟨o,ho,fun v z=>by rw[d]at z;cases z⟩
 keep:=fun i h h' st k=>⟨let⟨old,he⟩:=st.1;⟨old,k e (by simp) _ he⟩,st.2.at fun o q=>k it (by simp) o q⟩
 item:=by
  intro X hP hw hK hc i pins s σ H E I hf st hg;subst hP hw hK;obtain⟨xs,x,hq,hx⟩:=hg;obtain⟨its,rv,p,hz⟩:=I.tuple hq;obtain⟨u,hu,ru⟩:=rv.get hx;obtain⟨⟨old,he⟩,ht⟩:=st;have hne:a≠it:=fun z=>by
   obtain⟨o,ho,c,_⟩:=ht;obtain⟨o',ho',c',_⟩:=p;subst z;rw[ho]at ho';cases ho'
   rw[c]at c';exact absurd (Value.type.inj c') (by decide)
  have hae:a≠e:=fun z=>by
   obtain⟨o',ho',c',_⟩:=p;subst z;rw[he]at ho';cases ho'
   exact absurd (Value.type.inj c') (by decide)
  have hlt:i<its.toArray.size:=by have:=(af.mp hu).1;simpa using this
  refine wpAny_pyNext_enum_itemD (k8 (A:=X.A.in1) (by exact I.ok.hd hc) it a hne its.toArray) he ⟨ht,p⟩ hlt hei (by simp[hei,Ne.symm hae]) fun v h' tk hPv ho' st' htup hsz hk=>?_
  have ev:v=u:=by
   have h1:its[i]? =some v:=by simpa using hPv
   rw[hu]at h1;exact(Option.some.inj h1).symm
  subst ev;refine⟨_,rfl,wpAny_letOwnedTupleGo_enum (s:={s with heap:=h',toks:=tk+1}) ho' fun h2 he2 sb=>?_⟩;have hTe:s.heap.objs.size≠e:=fun z=>by
   have:=cf he;rw[<-z]at this;exact jf _ this
  have hTi:s.heap.objs.size≠it:=fun z=>by
   obtain⟨o,ho,_⟩:=ht;have:=cf ho;rw[<-z]at this;exact jf _ this
  have hk2:∀b o,b∉[e,it]->s.heap.get? b=some o->h2.get? b=some o:=fun b o hb q=>
   sb.extBut b o (fun z=>hb (by simp[z])) (hk b o (fun z=>hb (by simp[z])) (fun z=>hb (by simp[z])) q)
  have I1:Inv X pins σ H {s with heap:=h2,toks:=tk+1}:=I.HA hk2 hf;have hfr:H s.heap.objs.size=none:=I.bQ.fresh (bf _);have htup2:h2.get? s.heap.objs.size=some {cls:=.type "tuple",data:=.seq #[.int i tk,v]}:=sb.extBut _ _ hTe htup;have I2:Inv X pins σ (upd H s.heap.objs.size (.tup [.int i,x])) {s with heap:=h2,toks:=tk+1}:=by
   refine I.un2 hk2 hf hfr (by simp[hTe,hTi]) ⟨by show 2<=sizeLine;decide,[.int i tk,v],.cons ⟨_,rfl⟩ (.cons ru .nil),qO.of htup2⟩ (fun b hb o q=>?_);rcases bw.mp hb with r|r
   .subst r;exact⟨_,he2⟩
   .have r:b=it:=by simpa using r
    subst r;obtain⟨o',ho',_⟩:=st'.1.extBut sb.extBut (Ne.symm hei);exact⟨o',ho'⟩
  refine⟨.ref s.heap.objs.size,_,I2,rfl,⟨s.heap.objs.size,hfr,rfl,fun ys hy=>⟨x,by rw[I.xC hy hq];exact hx,rfl⟩⟩,⟨⟨_,he2⟩,st'.1.extBut sb.extBut (Ne.symm hei)⟩,fun b hb=>?_⟩;have hbT:b≠s.heap.objs.size:=fun z=>by
   rcases bw.mp hb with r|r
   .exact hTe (z▸r)
   .have r:b=it:=by simpa using r
    exact hTi (z▸r)
  rw[aU hbT];exact(hf b hb).1
 done:=by
  intro X hP hw hK hc i pins s σ H E I hf st hg;subst hP hw hK;obtain⟨xs,hq,hx⟩:=hg;obtain⟨its,rv,p,hz⟩:=I.tuple hq;obtain⟨⟨old,he⟩,ht⟩:=st;have hl:=rv.length;have hne:a≠it:=fun z=>by
   obtain⟨o,ho,c,_⟩:=ht;obtain⟨o',ho',c',_⟩:=p;subst z;rw[ho]at ho';cases ho'
   rw[c]at c';exact absurd (Value.type.inj c') (by decide)
  have ei:(i:Nat)=its.toArray.size:=by simp;omega
  subst ei;obtain⟨f0,f1,f2,f3,f4,f5⟩:=hf it (by simp);exact wpAny_pyNext_enum_endD (k8 (A:=X.A.in1) (by exact I.ok.hd hc) it a hne its.toArray) he ⟨ht,p⟩ fun h' eb=>⟨rfl,I.turned (t':=s.toks) (fun b o hb e=>eb b o hb e) f0 f1 f3 f4 f5⟩
 self:=fun _ _ _ _ _ st h=>let⟨_,he⟩:=st.1;wpAny_pyIter_enum he h
section
variable {X:Cx} {k:Nat}
theorem ixL (K:Frag) (h:X.K=K:=by rfl):ES X (T8 K):=h▸SE
theorem ixT (K:Frag) (h:X.K=K:=by rfl):ES X (XO K):=h▸T9
theorem slL (K:Frag) (h:X.K=K:=by rfl):JY X (V1 K):=h▸RH
theorem Y1 (K:Frag) (h:X.K=K:=by rfl):MtR X "str.join" (rJoin K):=h▸Q6
theorem eY (K:Frag) {j:Nat} {t:E8} {n:Nat} (hc:X.calm=true) (h:YN X es t) (hK:X.K=K:=by rfl)
  (hn:(assignEach es X.env).length=n:=by rfl) (hst:(assignEach es X.env).findIdx? (·.1)=none:=by rfl):PG X (.Tuple es j pos) (QI K n t):=hK▸XA hc h hn hst
theorem sD (K:Frag) {o e:Expr} {to:TE} {t:TA} {name:Str} {apos cpos:Pos} {T id:String} {r:V->List V->Hp->VK->Prop} (pa:PlainAttrs T) (slot:Slot T name id) (hty:typeOf (.builtin id)=pure (.type "method_descriptor")) (hm:MtR X id r) (ho:PE X o to) (ha:PA X (e::es) t) (hK:X.K=K:=by rfl)
  (hbase:attributeBase o name X.env (eval o X.env)=eval o X.env:=by rfl)
  (hfew:((backTo cpos (starEach (e::es) X.env)).all (fun x=>!x.1) && (backToKw cpos (keywordEach [] X.env)).all (fun x=>x.1.isSome)
   && decide ((e::es).length+([]:List Keyword).length+(if([]:List Keyword).isEmpty then 0 else 1)<30))=true:=by rfl)
  (hline:(apos.endLine==cpos.line)=true:=by rfl) (hs:starEach (e::es) X.env=(false,eval e X.env)::starEach es X.env:=by rfl) (hplain:(backTo cpos (starEach es X.env)).any (·.1)=false:=by rfl):
  PE X (.Call (.Attribute o name apos) (e::es) [] cpos) (ZM K T r to t):=hK▸Y0 pa slot hty hm ho ha hbase hfew hline hs hplain
end
inductive Kd where
 |bD|bl|int|str|lst|tup|bA
 deriving DecidableEq
noncomputable def Kd.nm:Kd->String
 | .bD=>"NoneType"| .bl=>"bool"| .int=>"int"| .str=>"str"| .lst=>"list"| .tup=>"tuple"| .bA=>"dict"
end L2
namespace HT
open PySem PySem.Spec PyProof.Rows
variable {t:Addr} {Q:Value->Shared->Prop}
section
variable {prog:Program} {w:World} {A:Around} {E:Value->Shared->Prop} {s:Shared}
theorem rH {sl:Addr} {items:Array Value} {vl vu:Value} {lo hi:Option Int} (ht:IsTup s.heap t items) (hs:s.heap.IsSliceOf sl vl vu .none) (pl:IsPart vl lo) (pu:IsPart vu hi)
  (hw:dX items.size 0 lo=0/\dX items.size items.size hi=items.size) (h:Q (.ref t) s):wpAny (model prog w) A (getItem (.ref t) (.ref sl)) Q E s:=by
 obtain⟨os,hos,hcs,hds⟩:=id hs;have hTs:s.TypeIs (.ref sl) "slice":=⟨os,hos,hcs⟩;unfold getItem
 try with_reducible refine gf ?_
 first|refine ae (ax ?_)|skip
 refine ae (wpAny_sequenceKey ht.typeIs (by decide) ?_);refine ae (ko (name:=Str.ofString "__getitem__") ht.typeIs ij
  (gv ij ht.typeIs entry_tuple_getitem ?_ (args_tuple_getitem _ _)))
 show wpAny _ _ (Builtin.Tuple.tupleItemsOf (.ref t)>>=_) _ _ s;refine ae (tupleItemsOf_ ht ?_);refine ae (wpAny_typeOf hTs ?_);rw[aj (by decide)];refine ae (kS hs pl pu ?_);have hyes:(((dX items.size 0 lo:Nat):Int)==0 && (1:Int)==1 && (dX items.size items.size hi - dX items.size 0 lo)==items.size)=true:=by
  rw[hw.1,hw.2];simp
 show wpAny _ _ (if(((dX items.size 0 lo:Nat):Int)==0 && (1:Int)==1 && (dX items.size items.size hi - dX items.size 0 lo)==items.size)=true then _ else _) _ _ s;rw[aj hyes];refine ae (ae (wpAny_typeOf ht.typeIs (ax ?_)));rw[aj (by decide)];refine ae (wpAny_rule ?_)
 first
  |exact ax ⟨_,rfl,ax h⟩
  |exact ae (ax ⟨_,rfl,ax h⟩)
theorem QT {b:Addr} {vs ws:List Value} (ht:IsTup s.heap t vs.toArray) (hb:IsTup s.heap b ws.toArray)
  (h0:vs=[]->Q (.ref b) s) (h1:ws=[]->Q (.ref t) s) (h2:vs≠[]->ws≠[]->Q (.ref s.heap.objs.size) {s with heap:=s.heap.push {cls:=.type "tuple",data:=.seq (vs++ws).toArray}})
  (hsz:vs.length+ws.length<=sizeLine):wpAny (model prog w) A (binaryOp .Add (.ref t) (.ref b)) Q E s:=by
 by_cases hv:vs=[]
 .obtain⟨⟨cls,dd,data,sl⟩,ho,hc,n,hd⟩:=id ht;obtain⟨⟨cls2,dd2,data2,sl2⟩,ho2,hc2,n2,hd2⟩:=id hb;simp only at hc hd hc2 hd2;subst hc hd hc2 hd2;exact concat_meets ⟨_,ho,rfl⟩ ⟨_,ho2,rfl⟩ noFill_tuple_add seq_tuple_add slot_tuple_add entry_tuple_add (args_tuple_add_2 _ _)
   (tuple_addW0 t b vs.toArray ws.toArray n n2 dd dd2 sl sl2 (by simp[hv])) ⟨ho,ho2,h0 hv⟩
 .exact R0 ht hb hv h1 (h2 hv) hsz
end
end HT
namespace L2
open PySem PySem.Spec PyProof.Rows
variable {a b:Addr} {p:Array Nat} {X:Cx} {h':Heap} {H H':Hp} {pins:List (Addr×Obj)} {xs:List (List Key×Addr×Value)} {kvs:List (List Key×V)} {ep i j n:Nat} {pos py spos:Pos} {P:Program} {s:Shared} {σ:St} {y:Str} {u:Value} {Q:Value->Shared->Prop} {w:World}
section
variable {X:Cx}
def T1 (i j:Int):Prop:=0<j/\j<2^200
theorem uS:jD X (binaryOp .FloorDiv) (rI T1 fun i j=>.int (i / j)):=Z5 fun i j _ _ _ _ _ hc q=>by
 have h1:(0:Int)<j:=hc.1;have h2:j<2^200:=hc.2;refine floordiv_int (by omega) (by rw[Int.fdiv_eq_ediv_of_nonneg i (by omega)];exact q) (.inl (PyProof.noPylong_of_log2 ?_));have h3:j.natAbs<2^200:=by omega
 have h4:j.natAbs.log2<200:=(Nat.log2_lt (by omega)).mpr h3;omega
end
section
variable {κ:Type} [DecidableEq κ]
noncomputable def dS (kvs:List (κ×V)) (k:κ):Option V:=(kvs.find? fun kv=>decide (kv.1=k)).map (·.2)
noncomputable def putK (kvs:List (κ×V)) (k:κ) (v:V):List (κ×V):=
 if(kvs.any fun kv=>decide (kv.1=k))=true then kvs.map (fun kv=>if kv.1=k then(kv.1,v)else kv)else kvs++[(k,v)]
theorem vK {p:κ×V} {r:List (κ×V)} {k:κ} (e:p.1=k):dS (p::r) k=some p.2:=by simp[dS,find?_cons,e]
theorem vN {p:κ×V} {r:List (κ×V)} {k:κ} (e:¬p.1=k):dS (p::r) k=dS r k:=by simp[dS,find?_cons,e]
theorem B8 (k:κ):∀kvs:List (κ×V),(kvs.any fun kv=>decide (kv.1=k))=(dS kvs k).isSome
 |[]=>rfl
 |p::r=>by
  rw[any_cons]
  by_cases e:p.1=k
  .simp only[vK e,decide_eq_true e,Bool.true_or,Option.isSome_some]
  .rw[vN e,decide_eq_false e,Bool.false_or];exact B8 k r
theorem jN (kvs:List (κ×V)) (k:κ) (v:V):(putK kvs k v).length<=kvs.length+1:=by
 unfold putK;split
 .rw[ah];omega
 .rw[bq,length_cons,length_nil];omega
theorem tO.lJ {o:Option V} {u:Option Value} (r:tO o u):o.isSome=u.isSome:=by
 cases o with
 |none=>cases u with
  |none=>rfl
  |some _=>exact(show False from r).elim
 |some _=>cases u with
  |none=>exact(show False from r).elim
  |some _=>rfl
theorem tO.getD {o:Option V} {u:Option Value} {d:V} {d':Value} (r:tO o u) (rd:RelV d d'):RelV (o.getD d) (u.getD d'):=by
 cases o with
 |none=>cases u with
  |none=>exact rd
  |some _=>exact(show False from r).elim
 |some _=>cases u with
  |none=>exact(show False from r).elim
  |some _=>exact r
theorem KV.val {kvs:List (κ×V)} {vs:List (κ×Value)} (r:KV kvs vs) (k:κ):tO (dS kvs k) (valueAt vs k):=by
 unfold KV at r
 induction r with
 |nil=>exact True.intro
 | @cons p q ps qs h t ih=>
  obtain⟨h1,h2⟩:=h
  by_cases e:p.1=k
  .have e':q.1=k:=h1.symm.trans e;have b:valueAt (q::qs) k=some q.2:=by simp[valueAt,find?_cons,e']
   rw[vK e,b];exact h2
  .have e':¬q.1=k:=fun z=>e (h1.trans z)
   have b:valueAt (q::qs) k=valueAt qs k:=by simp[valueAt,find?_cons,e']
   rw[vN e,b];exact ih
theorem KV.any {kvs:List (κ×V)} {vs:List (κ×Value)} (r:KV kvs vs) (k:κ):(kvs.any fun kv=>decide (kv.1=k))=vs.any fun kv=>decide (kv.1=k):=by
 unfold KV at r
 induction r with
 |nil=>rfl
 |cons h t ih=>rw[any_cons,any_cons,ih,h.1]
theorem KV.EO {kvs:List (κ×V)} {vs:List (κ×Value)} (r:KV kvs vs) (k:κ) {y:V} (ry:RelV y u):
  KV (kvs.map fun kv=>if kv.1=k then(kv.1,y)else kv) (vs.map fun kv=>if kv.1=k then(kv.1,u)else kv):=by
 unfold KV at r⊢
 induction r with
 |nil=>exact .nil
 | @cons p q ps qs h t ih=>
  rw[cz,cz];refine .cons ?_ ih;obtain⟨h1,h2⟩:=h
  by_cases e:p.1=k
  .rw[aj e,aj (h1.symm.trans e)];exact⟨h1,ry⟩
  .rw[ai e,ai (fun z=>e (h1.trans z))];exact⟨h1,h2⟩
theorem KV.put {kvs:List (κ×V)} {vs:List (κ×Value)} (r:KV kvs vs) (k:κ) {y:V} (ry:RelV y u):KV (putK kvs k y) (stored vs k u):=by
 unfold putK stored;rw[r.any k]
 by_cases e:(vs.any fun kv=>decide (kv.1=k))=true
 .rw[aj e,aj e];exact r.EO k ry
 .rw[ai e,ai e];exact Paired.snoc r ⟨rfl,ry⟩
theorem KV.keys {kvs:List (κ×V)} {vs:List (κ×Value)} (r:KV kvs vs):kvs.map (·.1)=vs.map (·.1):=by
 unfold KV at r
 induction r with
 |nil=>rfl
 |cons h t ih=>rw[cz,cz,ih,h.1]
theorem KV.length {kvs:List (κ×V)} {vs:List (κ×Value)} (r:KV kvs vs):kvs.length=vs.length:=Paired.length r
end
theorem qI {k:Key} {u:Value} (r:RelV (kV k) u):(bS P w).is k u=true:=by
 cases k with
 |inl i=>obtain⟨t,e⟩:=(show∃t,u=Value.int i t from r);subst e;exact CL P w i t
 |inr x=>obtain⟨t,e⟩:=(show∃t,u=Value.str x t from r);subst e;exact AX P w x t
theorem xE:∀{ks:List Key} {us:List Value},Vals (ks.map kV) us->ItemsAre (bS P w) ks us
 |[],_,r=>by rw[map_nil]at r;cases r;exact .nil
 |k::ks,_,r=>by
  rw[cz]at r;cases r with
  |cons h t=>exact .cons (qI h) (xE t)
abbrev KT (H:Hp):List (List Key×V)->List (List Key×Addr×Value)->Prop:=Paired fun p q=>p.1=q.1/\H q.2.1=some (.tup (p.1.map kV))/\RelV p.2 q.2.2
theorem KT.val (r:KT H kvs xs) (k:List Key):tO (dS kvs k) ((atKey xs k).map (·.2)):=by
 induction r with
 |nil=>exact True.intro
 | @cons p q ps qs h t ih=>
  obtain⟨h1,_,h2⟩:=h
  by_cases e:p.1=k
  .have e':q.1=k:=h1.symm.trans e;have b:atKey (q::qs) k=some q.2:=by simp[atKey,find?_cons,e']
   rw[vK e,b];exact h2
  .have e':¬q.1=k:=fun z=>e (h1.trans z)
   have b:atKey (q::qs) k=atKey qs k:=by simp[atKey,find?_cons,e']
   rw[vN e,b];exact ih
theorem KT.EO (r:KT H kvs xs) (k:List Key) {y:V} (ry:RelV y u):
  KT H (kvs.map fun kv=>if kv.1=k then(kv.1,y)else kv) (xs.map (putAt k u)):=by
 induction r with
 |nil=>exact .nil
 | @cons p q ps qs h t ih=>
  rw[cz,cz];refine .cons ?_ ih;obtain⟨h1,h2,h3⟩:=h;unfold putAt
  by_cases e:p.1=k
  .rw[aj e,aj (h1.symm.trans e)];exact⟨h1,h2,ry⟩
  .rw[ai e,ai (fun z=>e (h1.trans z))];exact⟨h1,h2,h3⟩
theorem KT.put (r:KT H kvs xs) (k:List Key) {y:V} (hb:H b=some (.tup (k.map kV))) (ry:RelV y u):
  KT H (putK kvs k y) (storedH xs k b u):=by
 have e:(kvs.any fun kv=>decide (kv.1=k))=(atKey xs k).isSome:=by
  rw[B8,(r.val k).lJ,isSome_map]
 unfold putK storedH;rw[e]
 by_cases q:(atKey xs k).isSome=true
 .rw[aj q,aj q];exact r.EO k ry
 .rw[ai q,ai q];exact Paired.snoc r ⟨rfl,hb,ry⟩
theorem KT.keeps (r:KT H kvs xs) (ht:∀b ys,H b=some (.tup ys)->H' b=some (.tup ys)):KT H' kvs xs:=
 Paired.UU r fun _ _ z=>⟨z.1,ht _ _ z.2.1,z.2.2⟩
def x3 (H:Hp) (a:Addr) (kvs:List (Key×V)):Prop:=∃ep,Rd H a (.dK kvs ep)
def uX (H:Hp) (a:Addr) (kvs:List (Key×V)):Prop:=∃ep,H a=some (.dK kvs ep)
theorem uX.rd {kvs:List (Key×V)} (h:uX H a kvs):x3 H a kvs:=let⟨ep,e⟩:=h;⟨ep,.inl e⟩
theorem uX.mut {kvs:List (Key×V)} (h:uX H a kvs):YC (H a):=by obtain⟨_,e⟩:=h;rw[e];exact True.intro
section
variable {P:Program} {w:World} {H:Hp} {h:Heap} {a:Addr}
theorem TU {u:HO} (ok:oT P w H h) (e:Rd H a u):dD P w H h a u:=e.ok ok
theorem uU {kvs:List (Key×V)} (ok:oT P w H h) (e:Rd H a (.dK kvs ep)):kvs.length<=sizeLine/\(a==sysModules)=false/\∃vs,KV kvs vs/\h.DictAt (bS P w) a vs ep:=
 show dD P w H h a (.dK kvs ep)from TU ok e
theorem gU {kvs:List (Key×V)} (ok:oT P w H h) (e:x3 H a kvs):kvs.length<=sizeLine/\(a==sysModules)=false/\∃vs,KV kvs vs/\h.DictOf (bS P w) a vs:=
 let⟨_,e⟩:=e;let⟨z,y,vs,r,d⟩:=uU ok e;⟨z,y,vs,r,d.dictOf⟩
theorem MF {kvs:List (Key×V)} (ok:oT P w H h) (e:uX H a kvs):kvs.length<=sizeLine/\(a==sysModules)=false/\∃vs,KV kvs vs/\h.DictOf (bS P w) a vs:=gU ok e.rd
theorem pM {ks:List Key} (ok:oT P w H h) (e:H a=some (.tup (ks.map kV))):(tupleKind (bS P w)).is h ks a:=by
 obtain⟨_,its,r,⟨o,h1,h2,n,h3⟩,_⟩:=(show dD P w H h a (.tup (ks.map kV))from ok a _ e);exact⟨o,its.toArray,n,h1,h2,h3,by simpa using xE r⟩
theorem tM {kvs:List (List Key×V)} (ok:oT P w H h) (e:Rd H a (.dT kvs)):kvs.length<=sizeLine/\(a==sysModules)=false/\
  ∃xs,KT H kvs xs/\h.DictOfH (tupleKind (bS P w)) a xs:=by
 obtain⟨z,y,xs,r,o,es,ep,h1,h2,h3,h4,h5⟩:=(show dD P w H h a (.dT kvs)from TU ok e);refine⟨z,y,xs,r,o,es,ep,h1,h2,h3,h4,fun x hx=>?_,h5⟩;have all:∀{l:List (List Key×V)} {m:List (List Key×Addr×Value)},KT H l m->∀x∈m,(tupleKind (bS P w)).is h x.1 x.2.1:=by
  intro l m q
  induction q with
  |nil=>intro x hx;exact nomatch hx
  | @cons p q ps qs hq t ih=>
   intro x hx;rcases bw.mp hx with e|hx
   .subst e;exact pM ok (by rw[<-hq.1];exact hq.2.1)
   .exact ih x hx
 exact all r x hx
theorem YV (ok:oT P w H h) (e:H a=some (.dT kvs)):kvs.length<=sizeLine/\(a==sysModules)=false/\
  ∃xs,KT H kvs xs/\h.DictOfH (tupleKind (bS P w)) a xs:=tM ok (.inl e)
end
def yY (H:Hp) (a:Addr) (y:V) (r:Option V):Prop:=
 (∃kvs k,x3 H a kvs/\y=kV k/\r=dS kvs k)\/ ∃kvs k b,Rd H a (.dT kvs)/\y= .ref b/\H b=some (.tup (k.map kV))/\r=dS kvs k
def YW (H:Hp) (a:Addr) (y v:V) (Q:Hp->Prop):Prop:=
 (∃kvs k,uX H a kvs/\y=kV k/\kvs.length<sizeLine/\∀ep,Q (upd H a (.dK (putK kvs k v) ep)))\/
 ∃kvs k b,H a=some (.dT kvs)/\y= .ref b/\H b=some (.tup (k.map kV))/\kvs.length<sizeLine/\Q (upd H a (.dT (putK kvs k v)))
section
variable {X:Cx} {pins:List (Addr×Obj)} {σ:St} {H:Hp} {s:Shared} {a:Addr} {y v:V} {u r:Value} {o:Option V} {A:Around} {E:Value->Shared->Prop}
theorem Inv.big (I:Inv X pins σ H s):sysModules<s.heap.objs.size:=by
 have h:mainGlobals<s.heap.objs.size:=(I.mod.glob.keeps I.bk).lt;exact lt_trans (by decide) h
theorem JP (hu:A.units+1<cLine) (I:Inv X pins σ H s) (g:yY H a y (some v)) (ry:RelV y u) (h:∀w' s',Inv X pins σ H s'->RelV v w'->Q w' s'):
  wpAny (model X.prog X.w) A (getItem (.ref a) u) Q E s:=by
 rcases g with⟨kvs,k,e,ey,l⟩|⟨kvs,k,b,e,ey,eb,l⟩
 .subst ey;obtain⟨z,hd,vs,rel,dd⟩:=gU I.bQ e;obtain⟨w',hw,rw'⟩:=tO.some_of (v:=v) (o:=valueAt vs k) (by rw[l];exact rel.val k);exact wpAny_getItem_of (qI ry) dd.mapOf hw (h w' _ (I.tok _) rw')
 .subst ey;cases(show u=Value.ref b from ry);obtain⟨z,hd,xs,rel,dd⟩:=tM I.bQ e;obtain⟨w',hw,rw'⟩:=tO.some_of (v:=v) (o:=(atKey xs k).map (·.2)) (by rw[l];exact rel.val k);obtain⟨p,hp,hp2⟩:=br.mp hw;refine wpAny_getItem_heap (jj hu) (pM I.bQ eb) dd hp ?_;rw[hp2];exact h w' _ (I.tok _) rw'
theorem acI (hu:A.units+1<cLine) (I:Inv X pins σ H s) (g:yY H a y o) (ry:RelV y u) (h:∀s',Inv X pins σ H s'->Q (.bool o.isSome) s'):
  wpAny (model X.prog X.w) A (compareOp .In u (.ref a)) Q E s:=by
 rcases g with⟨kvs,k,e,ey,l⟩|⟨kvs,k,b,e,ey,eb,l⟩
 .subst ey;obtain⟨z,hd,vs,rel,dd⟩:=gU I.bQ e;refine wpAny_in_of (qI ry) hd dd.mapOf ?_;rw[<-(rel.val k).lJ,<-l];exact h _ (I.tok _)
 .subst ey;cases(show u=Value.ref b from ry);obtain⟨z,hd,xs,rel,dd⟩:=tM I.bQ e;refine wpAny_in_heap (jj hu) (pM I.bQ eb) hd dd ?_;have q:=(rel.val k).lJ;rw[isSome_map]at q;rw[<-q,<-l];exact h _ (I.tok _)
theorem PY (hu:A.units+1<cLine) (I:Inv X pins σ H s) (g:yY H a y o) (ry:RelV y u) (h:∀s',Inv X pins σ H s'->Q (.bool (!o.isSome)) s'):
  wpAny (model X.prog X.w) A (compareOp .NotIn u (.ref a)) Q E s:=by
 rcases g with⟨kvs,k,e,ey,l⟩|⟨kvs,k,b,e,ey,eb,l⟩
 .subst ey;obtain⟨z,hd,vs,rel,dd⟩:=gU I.bQ e;refine wpAny_notIn_of (qI ry) hd dd.mapOf ?_;rw[<-(rel.val k).lJ,<-l];exact h _ (I.tok _)
 .subst ey;cases(show u=Value.ref b from ry);obtain⟨z,hd,xs,rel,dd⟩:=tM I.bQ e;refine wpAny_notIn_heap (jj hu) (pM I.bQ eb) hd dd ?_;have q:=(rel.val k).lJ;rw[isSome_map]at q;rw[<-q,<-l];exact h _ (I.tok _)
theorem uB {t':Nat} {ob:HO} (I:Inv X pins σ H s) (mu:YC (H a)) (hs:Heap.SameBut a s.heap h') (he:∃q,h'.get? a=some q) (new:dD X.prog X.w (upd H a ob) h' a ob):
  Inv X pins σ (upd H a ob) {s with heap:=h',toks:=t'}:=
 I.write (x:=a) (e:=a) mu (.inl rfl) (fun b q hb z=>(hs.2 b hb).trans z) he new
theorem C8 {kvs:List (Key×V)} {vs:List (Key×Value)} (z:kvs.length<=sizeLine) (hd:(a==sysModules)=false) (rel:KV kvs vs) (dd:h'.DictAt (bS P w) a vs ep):
  dD P w H' h' a (.dK kvs ep):=⟨z,hd,vs,rel,dd⟩
theorem IT {Z:Hp->Prop} {Q:Unit->Shared->Prop} (hu:A.units+1<cLine) (I:Inv X pins σ H s) (g:YW H a y v Z) (ry:RelV y u) (rv:RelV v r) (h:∀H' s',Inv X pins σ H' s'->Z H'->Q () s'):
  wpAny (model X.prog X.w) A (setItem (.ref a) u r) Q E s:=by
 rcases g with⟨kvs,k,e,ey,l,eH⟩|⟨kvs,k,b,e,ey,eb,l,eH⟩
 .subst ey;obtain⟨z,hd,vs,rel,dd⟩:=MF I.bQ e;have hz:vs.length<=sizeLine:=by rw[<-rel.length];exact z
  have hl:(putK kvs k v).length<=sizeLine:=by have:=jN kvs k v;omega
  refine wpAny_setItem_pairs (hsz:=hz) (qI ry) dd fun h' dd' hs=>?_
  obtain⟨ep,da⟩:=dd'.dictAt;refine h _ _ ?_ (eH ep);have he:∃q,h'.get? a=some q:=let⟨q,_,_,hq,_⟩:=dd';⟨q,hq⟩
  exact uB I e.mut hs he (C8 hl hd (rel.put k rv) da)
 .subst ey;cases(show u=Value.ref b from ry);obtain⟨z,hd,xs,rel,dd⟩:=YV I.bQ e;have hz:xs.length<=sizeLine:=by rw[<-Paired.length rel];exact z
  have hl:(putK kvs k v).length<=sizeLine:=by have:=jN kvs k v;omega
  refine wpAny_setItem_heap (hsz:=hz) (jj hu) (pM I.bQ eb) dd fun h' dd' hs=>h _ _ ?_ eH
  obtain⟨q,es,ep,hq,h2,h3,h4,_,h5⟩:=dd';refine uB I (by rw[e];exact True.intro) hs ⟨q,hq⟩ ⟨hl,hd,_,(rel.put k eb rv).keeps fun c ys ec=>?_,q,es,ep,hq,h2,h3,h4,h5⟩;rw[aU (KP ec e (fun z=>nomatch z))];exact ec
end
theorem CO {y:V} {o:Option V} (I:Inv X pins σ H s) (g:yY H a y o):s.TypeIs (.ref a) "dict":=by
 rcases g with⟨kvs,k,e,_,_⟩|⟨kvs,k,b,e,_,_,_⟩
 .obtain⟨_,_,vs,_,dd⟩:=gU I.bQ e;exact dd.typeIs
 .obtain⟨_,_,xs,_,dd⟩:=tM I.bQ e;exact dd.typeIs
def eW (td ty tv:TE):TS:=fun D σ H=>tv σ H fun v H1=>td σ H1 fun x H2=>ty σ H2 fun y H3=>∃a,x= .ref a/\YW H3 a y v (D.nx σ)
section
variable {X:Cx} {o i e value:Expr} {pos pos' tpos:Pos} {td ty tv:TE}
theorem cX (hu:X.A.units+1<cLine) (ho:PE X o td) (hi:PE X i ty) (hv:PE X value tv) (hs:swapsWith value (some (.Subscript o i pos')) pos.line X.env=pure false):
  PS X (.Assign [.Subscript o i pos'] value pos) (eW td ty tv):=by
 intro pins s σ H D I h;refine wpAny_Assign_Subscript (cL (hv pins s σ H _ I h) fun r s1 ⟨v,H1,I1,rv,q1⟩=>cL (ho pins s1 σ H1 _ I1 q1) fun u s2 ⟨x,H2,I2,rx,q2⟩=>cL (hi pins s2 σ H2 _ I2 q2) fun iv s3 ⟨y,H3,I3,ry,a,ex,g⟩=>?_) hs;subst ex;obtain rfl:u=Value.ref a:=rx;exact IT hu I3 g ry rv fun H4 s4 I4 q3=>⟨σ,H4,I4,q3⟩
end
theorem LN (h:Heap) (hb:sysModules<h.objs.size):dD P w H (h.push {cls:=.type "dict",data:=.dict #[]}) h.objs.size (.dK [] 0):=
 ⟨dj _,beq_eq_false_iff_ne.mpr (Ne.symm (cm hb)),[],.nil,_, #[],cc _ rfl,⟨rfl,rfl,rfl⟩,rfl,(fun _ he=>by simp at he),PySem.Pairs.nil,nodup_nil⟩
def zB:TE:=fun _ H Q=>∀p,H p=none->Q (.ref p) (upd H p (.dK [] 0))
section
variable {X:Cx} {pos:Pos}
theorem gJ:PE X (.Dict [] [] pos) zB:=fun pins s σ H Q I h=>
 wpAny_Dict_empty ⟨.ref s.heap.objs.size,_,I.laid (a:=s.heap.objs.size) (o:=.dK [] 0) (t':=s.toks) (fun _ _ q=>ao _ q) (bf _) (LN s.heap I.big),rfl,h _ (I.bQ.fresh (bf _))⟩
end
structure M1 (X:Cx) (o:Expr) (m:Str) (apos:Pos) (e:Expr) (cpos:Pos):Prop where
 base:attributeBase o m X.env (eval o X.env)=eval o X.env
 few:((backTo cpos (starEach [e] X.env)).all (fun x=>!x.1) && (backToKw cpos (keywordEach [] X.env)).all (fun x=>x.1.isSome)
  && decide (([e]:List Expr).length+([]:List Keyword).length+(if([]:List Keyword).isEmpty then 0 else 1)<30))=true
 line:(apos.endLine==cpos.line)=true
 trees:backTo cpos (starEach [e] X.env)=[(false,eval e X.env)]
structure M2 (X:Cx) (o:Expr) (m:Str) (apos:Pos) (e f:Expr) (cpos:Pos):Prop where
 base:attributeBase o m X.env (eval o X.env)=eval o X.env
 few:((backTo cpos (starEach [e,f] X.env)).all (fun x=>!x.1) && (backToKw cpos (keywordEach [] X.env)).all (fun x=>x.1.isSome)
  && decide (([e,f]:List Expr).length+([]:List Keyword).length+(if([]:List Keyword).isEmpty then 0 else 1)<30))=true
 line:(apos.endLine==cpos.line)=true
 trees:backTo cpos (starEach [e,f] X.env)=[(false,eval e X.env),(false,eval f X.env)]
def IsD (H:Hp) (a:Addr):Prop:=(∃kvs,x3 H a kvs)\/ ∃kvs,Rd H a (.dT kvs)
theorem ED (I:Inv X pins σ H s) (d:IsD H a):
  s.TypeIs (.ref a) "dict"/\(∀b,Value.ref a= .ref b->∃ob,s.heap.get? b=some ob/\ob.dict=none)/\(a==sysModules)=false:=by
 rcases d with⟨kvs,e⟩|⟨kvs,e⟩
 .obtain⟨_,hd,vs,_,dd⟩:=gU I.bQ e;refine⟨dd.typeIs,fun b q=>?_,hd⟩;cases q;obtain⟨ob,_,_,h1,h2,_⟩:=dd;exact⟨ob,h1,h2.2.1⟩
 .obtain⟨_,hd,xs,_,dd⟩:=tM I.bQ e;refine⟨dd.typeIs,fun b q=>?_,hd⟩;cases q;obtain⟨ob,_,_,h1,h2,_⟩:=dd;exact⟨ob,h1,h2.2.1⟩
section
variable {X:Cx} {pins:List (Addr×Obj)} {σ:St} {H:Hp} {s:Shared} {a:Addr} {y d:V} {u r:Value} {o:Option V} {A:Around} {E:Value->Shared->Prop}
theorem VH (hu:A.units+1<cLine) (I:Inv X pins σ H s) (g:yY H a y o) (ry:RelV y u) (h:∀w' s',Inv X pins σ H s'->RelV (o.getD .bD) w'->Q w' s'):
  wpAny (model X.prog X.w) A (call (.builtin "dict.get") [.ref a,u]) Q E s:=by
 rcases g with⟨kvs,k,e,ey,l⟩|⟨kvs,k,b,e,ey,eb,l⟩
 .subst ey;obtain⟨z,hd,vs,rel,dd⟩:=gU I.bQ e;refine call_meetsIn slot_dict_get dd.typeIs entry_dict_get (PySem.F.args_dict_get_2 _ _) (meets_dict_get (bS X.prog X.w) a (qI ry) hd) ⟨_,dd.mapOf,h _ _ (I.tok _) ?_⟩;rw[l];exact(rel.val k).getD rfl
 .subst ey;cases(show u=Value.ref b from ry);obtain⟨z,hd,xs,rel,dd⟩:=tM I.bQ e;refine call_meetsIn slot_dict_get dd.typeIs entry_dict_get (PySem.F.args_dict_get_2 _ _) (meetsH_dict_get (tupleKind (bS X.prog X.w)) a b hd) ⟨jj hu,k,xs,pM I.bQ eb,dd,h _ _ (I.tok _) ?_⟩;rw[l];exact(rel.val k).getD rfl
theorem VY (hu:A.units+1<cLine) (I:Inv X pins σ H s) (g:yY H a y o) (ry:RelV y u) (rd:RelV d r) (h:∀w' s',Inv X pins σ H s'->RelV (o.getD d) w'->Q w' s'):
  wpAny (model X.prog X.w) A (call (.builtin "dict.get") [.ref a,u,r]) Q E s:=by
 rcases g with⟨kvs,k,e,ey,l⟩|⟨kvs,k,b,e,ey,eb,l⟩
 .subst ey;obtain⟨z,hd,vs,rel,dd⟩:=gU I.bQ e;refine call_meetsIn slot_dict_get dd.typeIs entry_dict_get (PySem.F.args_dict_get_3 _ _ _) (meets_dict_get_default (bS X.prog X.w) a (qI ry) hd r) ⟨_,dd.mapOf,h _ _ (I.tok _) ?_⟩;rw[l];exact(rel.val k).getD rd
 .subst ey;cases(show u=Value.ref b from ry);obtain⟨z,hd,xs,rel,dd⟩:=tM I.bQ e;refine call_meetsIn slot_dict_get dd.typeIs entry_dict_get (PySem.F.args_dict_get_3 _ _ _) (meetsH_dict_get_default (tupleKind (bS X.prog X.w)) a b hd r) ⟨jj hu,k,xs,pM I.bQ eb,dd,h _ _ (I.tok _) ?_⟩;rw[l];exact(rel.val k).getD rd
end
def LQ (td ty:TE):TE:=fun σ H Q=>td σ H fun x H1=>∃a,x= .ref a/\IsD H1 a/\ty σ H1 fun y H2=>∃o,yY H2 a y o/\Q (o.getD .bD) H2
def MP (td ty tx:TE):TE:=fun σ H Q=>td σ H fun x H1=>∃a,x= .ref a/\IsD H1 a/\ty σ H1 fun y H2=>tx σ H2 fun z H3=>∃o,yY H3 a y o/\Q (o.getD z) H3
section
variable {X:Cx} {o e f:Expr} {apos cpos:Pos} {td ty tx:TE}
theorem CU (hu:X.A.units+1<cLine) (ho:PE X o td) (he:PE X e ty) (m:M1 X o "get" apos e cpos):PE X (.Call (.Attribute o "get" apos) [e] [] cpos) (LQ td ty):=by
 intro pins s σ H Q I h;refine wpAny_Call_method m.base m.few m.line plainAttrs_dict slot_dict_get type_dict_get (cL (ho pins s σ H _ I h) fun u s1 ⟨x,H1,I1,rx,a,ex,d,q1⟩=>?_);subst ex;obtain rfl:u=Value.ref a:=rx;obtain⟨t1,t2,_⟩:=ED I1 d;refine⟨t1,t2,?_⟩;rw[m.trees];refine gV rfl (Calls.evalArgs_plain (jh (cL (he pins s1 σ H1 _ I1 q1) fun iv s2 ⟨y,H2,I2,ry,ov,g,q2⟩=>Calls.spliced_nil ?_)));exact VH hu I2 g ry fun w' s3 I3 rw'=>⟨_,H2,I3,rw',q2⟩
theorem N3 (hu:X.A.units+1<cLine) (ho:PE X o td) (he:PE X e ty) (hf:PE X f tx) (m:M2 X o "get" apos e f cpos):PE X (.Call (.Attribute o "get" apos) [e,f] [] cpos) (MP td ty tx):=by
 intro pins s σ H Q I h;refine wpAny_Call_method m.base m.few m.line plainAttrs_dict slot_dict_get type_dict_get (cL (ho pins s σ H _ I h) fun u s1 ⟨x,H1,I1,rx,a,ex,d,q1⟩=>?_);subst ex;obtain rfl:u=Value.ref a:=rx;obtain⟨t1,t2,_⟩:=ED I1 d;refine⟨t1,t2,?_⟩;rw[m.trees];refine gV rfl (Calls.evalArgs_plain (jh (cL (he pins s1 σ H1 _ I1 q1) fun iv s2 ⟨y,H2,I2,ry,q2⟩=>
  jh (cL (hf pins s2 σ H2 _ I2 q2) fun fv s3 ⟨z,H3,I3,rz,ov,g,q3⟩=>Calls.spliced_nil ?_))))
 exact VY hu I3 g ry rz fun w' s4 I4 rw'=>⟨_,H3,I4,rw',q3⟩
end
section
variable {X:Cx} {es:List Expr} {te:TE} {t:TA}
theorem ab5 {a b c} (ha:PE X (.Constant a b c) te) (hr:PA X es t):PA X (.Constant a b c::es) (eR te t):=aA ha hr rfl
theorem acN {a b} (ha:PE X (.Name a b) te) (hr:PA X es t):PA X (.Name a b::es) (eR te t):=aA ha hr rfl
theorem abN {a b c d} (ha:PE X (.BinOp a b c d) te) (hr:PA X es t):PA X (.BinOp a b c d::es) (eR te t):=aA ha hr rfl
theorem acQ {a b c} (ha:PE X (.Subscript a b c) te) (hr:PA X es t):PA X (.Subscript a b c::es) (eR te t):=aA ha hr rfl
end
section
variable {X:Cx} {elt tg iter:Expr} {ifs:List Expr} {scope:Scope} {pos:Pos} {wi:TI} {g:TG} {tt:TT} {te:TE} {N:List Str} {k:Nat} {cap:List Nat}
theorem QH {iy:Nat} (hc:X.calm=true) (hNd:X.N.Nodup) (hiy:X.N[iy]? =some y) (hy:X.env.scope.names.lookup y=some .local)
  (S:fV X scope N k cap) (hi:PI X tg iter wi) (hg:∀c,PG (bJ X scope N c) tg g) (ht:∀c,S6 (bJ X scope N c) ifs tt) (he:∀c,PE (bJ X scope N c) elt te)
  (hsw:swapsWith (.ListComp elt [⟨tg,iter,ifs,0⟩] scope pos) (some (.Name y py)) spos.line X.env=pure true)
  (hs:∀x,foldedSetIterable iter X.env x=pure x:=by intro _;rfl):PS X (.Assign [.Name y py] (.ListComp elt [⟨tg,iter,ifs,0⟩] scope pos) spos) (u5 (xI wi k cap g tt te) (m8 iy)):=by
 intro pins s σ H D I h;rw[exec_Assign_Name_used _ _ _ _ hsw];refine ae (wpAny_standAt (ae ?_));obtain⟨cl,hclos,hcl1,hcl2⟩:=kQ (scope:=scope) (env:=X.env) (fun p hp hf=>I.ok.has p.1 (S.free p hp hf));show wpAny _ X.A (do let _<-comprehension (.ListComp elt [⟨tg,iter,ifs,0⟩] scope pos) scope X.env _ (newList []) false (eval iter X.env) (some (assign (.Name y py) X.env))) _ _ s;refine ae (di (wpAny_comprehension_free (use:=some (assign (.Name y py) X.env)) (Q:=fun _ s'=>SP X pins D .next s') rfl hs hclos S.kind S.names (cL (hi pins s σ H _ I h) fun v s1 h1=>cL h1 fun itv s2 h2=>?_)) (fun _ s' hq=>ax (ax hq)) fun _ _ e=>e);obtain⟨it,fp,tn,J,H2,e,I2,T,st2,f2,q2⟩:=h2;subst e;obtain⟨W,⟨m0,w0⟩,turn⟩:=q2 s2.heap.objs.size (I2.bQ.fresh (bf _));have hob:∀b∈fp,b<s2.heap.objs.size:=fun b hb=>let⟨o,e,_⟩:=T.obj _ _ st2 b hb;cf e
 refine dg (wpAny_newFunctionEnv S.cell (by intro y hy;simp at hy) (fun h₁ hns₁ hsb₁=>?_) S.kind);dsimp only at hns₁ hsb₁⊢
 generalize hHH:s2.heap.push {cls:=.type "list",dict:=none,data:=.seq ([]:List Value).toArray}=HH at hns₁ hsb₁⊢
 have hCC:HH.objs.size=s2.heap.objs.size+1:=by rw[<-hHH,size_push]
 have old:∀b o,s2.heap.get? b=some o->h₁.get? b=some o:=fun b o e=>hsb₁.extBut b o (cm (hCC▸dv (cf e))) (ao _ (hHH▸ao _ e))
 have hD:h₁.get? s2.heap.objs.size=some {cls:=.type "list",data:=.seq #[] 0}:=hsb₁.extBut _ _ (cm (hCC▸ji _)) (ao _ (hHH▸cc _ rfl));have I4:=fun tk=>F6 (tk:=tk) S I2 hcl1 hcl2 hCC f2 hob old hD hns₁
 have X':=bJ X scope N ⟨cl,HH.objs.size,s2,H2,fp⟩;have stat:∀{H':Hp},(∀b∈fp,H' b=none)->∀b∈fp,rM (bJ X scope N ⟨cl,HH.objs.size,s2,H2,fp⟩) [] H' b:=fun hn b hb=>
  ⟨hn b hb,cm (hCC▸dv (hob b hb)),(uO S I2 hcl1 hcl2 (hCC▸ie _) f2 hob).BY b hb,.inl hb,fun x c e=>(f2 b hb).2.2.2.2.1 x c (hcl1 x c e),fun p hp=>absurd (show p∈([]:List (Addr×Obj))from hp) (by simp)⟩
 have loop:∀s₃:Shared,s₃={s2 with heap:=h₁,toks:=s2.toks+([]:List (Str×Value)).length}->
   codeAny (model X.prog X.w) X.A (.compLoop (.ListComp elt [⟨tg,iter,ifs,0⟩] scope pos) 0 (.ref it) (.ref s2.heap.objs.size) (compEnvC scope cl HH.objs.size X.env))
    (compPost (model X.prog X.w) X.A X.xe (some (assign (.Name y py) X.env)) (fun _ s'=>SP X pins D .next s') (.ref s2.heap.objs.size) HH.objs.size) s₃:=by
  rintro s₃ rfl;refine xB (fun n s'=>∃i σ' H',Inv (bJ X scope N ⟨cl,HH.objs.size,s2,H2,fp⟩) [] σ' H' s'/\tn i s'.heap/\(∀b∈fp,H' b=none)/\W i n σ' H') ?_ m0
   ⟨0,fL k cap σ,_,I4 _,T.keep _ _ _ st2 fun b _ o e=>old b o e,fun b hb=>by rw[aU (cm (hob b hb))];exact(f2 b hb).1,w0⟩
  rintro n s3 ⟨i,σ3,H3,I3,st3,fr3,w3⟩;rcases turn i n σ3 H3 w3 with⟨stop,qn⟩|⟨go,NN,hN,step⟩
  .refine cL (T.done (bJ X scope N ⟨cl,HH.objs.size,s2,H2,fp⟩) rfl rfl rfl hc i [] s3 σ3 H3 _ I3 (stat fr3) st3 stop) fun r s4 ⟨hr,J4⟩=>?_
   subst hr;obtain⟨m,hn,_⟩:=J4.loc;obtain⟨oC,es,ep,hoC,hdC,rC⟩:=hn;have fY:∀b o,s2.heap.get? b=some o->b≠HH.objs.size:=fun b o e=>cm (hCC▸dv (cf e))
   have szC:s2.heap.objs.size<=HH.objs.size:=hCC▸ie _;have u:=J4.base;have I4x:Inv X pins σ H3 s4:=I2.NT (ch:=fp) J4.os u J4.bQ J4.bare fun b hb=>by
    obtain⟨_,f1,_,f3,f4,f5⟩:=f2 b hb;exact⟨f3,f1,f4,f5⟩
   have lC:HH.objs.size≠X.env.locals:=kg (cq I2.lt szC);have I4p:Inv X ((HH.objs.size,oC)::pins) σ H3 s4:=I4x.uE fun p hp=>by
    rcases bw.mp hp with r|r
    .rw[r];exact⟨hoC,J4.free,lC,I2.Y9 szC,fun v z=>by rw[hdC]at z;cases z⟩
    .exact I4x.pin p (cp _ r)
   show wpAny _ X.A (assign (.Name y py) X.env (.ref s2.heap.objs.size)) _ _ _;refine wpAny_assign_Name (lM I4p hNd hiy (.inl hy) (v:=.ref s2.heap.objs.size) rfl (fun s5 I5=>?_) (.inr hy));have hC5:=I5.pin (HH.objs.size,oC) (cp _ ba);refine⟨m,⟨oC,es,ep,hC5.1,hdC,rC⟩,fun h' hs'=>⟨_,H3,?_,qn⟩⟩;have I6:Inv X pins (σ.set iy (some (.ref s2.heap.objs.size))) H3 s5:=I5.uE fun p hp=>I5.pin p (cp _ (ay _ hp))
   refine I6.turned (it:=HH.objs.size) (t':=s5.toks) (fun b o hb e=>hs'.extBut b o hb e) J4.free lC (.inr (fj I2.sz szC)) (fun x c e=>?_) (fun p hp=>?_)
   .obtain⟨v,q⟩:=I2.cell x c e;exact cm (cq q.lt szC)
   .exact fY p.1 p.2 (I2.pin p hp).1
  .refine cL (T.item (bJ X scope N ⟨cl,HH.objs.size,s2,H2,fp⟩) rfl rfl rfl hc i [] s3 σ3 H3 _ I3 (stat fr3) st3 go) fun r s4 ⟨u,hr,h4⟩=>?_
   subst hr;refine cL h4 fun _ s5 ⟨x,H5,I5,r5,y5,st5,fr5⟩=>?_
   have I5':=I5.pinned (stat fr5) (T.obj _ _ st5);have again:∀{s7:Shared} {σ7:St} {H7:Hp},Inv (bJ X scope N ⟨cl,HH.objs.size,s2,H2,fp⟩) ([]++pF fp s5.heap) σ7 H7 s7->NN σ7 H7->
     ∃m,m<n/\∃i σ' H',Inv (bJ X scope N ⟨cl,HH.objs.size,s2,H2,fp⟩) [] σ' H' s7/\tn i s7.heap/\(∀b∈fp,H' b=none)/\W i m σ' H':=fun{s7 σ7 H7} I7 n7=>by
    obtain⟨m',hm,w7⟩:=hN σ7 H7 n7;refine⟨m',hm,i+1,σ7,H7,I7.kX,T.keep _ _ _ st5 fun b hb o e=>(I7.pin (b,o) (cp _ (cp _ (dI hb e)))).1,fun b hb=>?_,w7⟩;obtain⟨o,e,d⟩:=T.obj _ _ st5 b hb;exact(I7.pin (b,o) (cp _ (cp _ (dI hb e)))).2.1
   refine cL (hg _ _ s5 σ3 H5 x u _ I5' r5 (step x H5 y5)) fun _ s6 ⟨σ6,H6,I6,q6⟩=>?_
   refine cL (ht _ _ s6 σ6 H6 _ I6 q6) fun b s7 ⟨H7,I7,q7⟩=>?_
   cases b with
   |false=>exact again I7 q7
   |true=>
    refine cL (he _ _ s7 σ6 H7 _ I7 q7) fun y s8 ⟨yv,H8,I8,r8,xs,hl,hz,n8⟩=>?_
    refine cL (fX _ s8 σ6 H8 (.ref s2.heap.objs.size) [yv] (.ref s2.heap.objs.size) [y] (fun _ H9=>NN σ6 H9) I8 rfl (.cons r8 .nil) ⟨_,xs,yv,rfl,rfl,hl,hz,n8⟩) fun _ s9 ⟨_,H9,I9,_,q9⟩=>?_
    exact again I9 q9
 exact codeAny_compStart_list (loop _ rfl) (T.self X.A 0 _ _ _ (T.keep _ _ _ st2 fun b _ o e=>old b o e) (loop _ rfl))
theorem vB (N:List Str) (k:Nat) (cap:List Nat) (XN:List Str) (xs:Scope) (hc:X.calm=true) (hN:X.N=XN) (hx:X.env.scope=xs) (hNd:X.N.Nodup) (hiy:X.N[i]? =some y) (hy:X.env.scope.names.lookup y=some .local)
  (hi:PI X tg iter wi) (chk:qX XN xs scope N k cap=true) (hg:∀c,PG (bJ X scope N c) tg g) (ht:∀c,S6 (bJ X scope N c) ifs tt) (he:∀c,PE (bJ X scope N c) elt te)
  (hsw:swapsWith (.ListComp elt [⟨tg,iter,ifs,0⟩] scope pos) (some (.Name y py)) spos.line X.env=pure true:=by rfl)
  (hs:∀x,foldedSetIterable iter X.env x=pure x:=by intro _;rfl):PS X (.Assign [.Name y py] (.ListComp elt [⟨tg,iter,ifs,0⟩] scope pos) spos) (u5 (xI wi k cap g tt te) (m8 i)):=
 QH hc hNd hiy hy (l4 hN hx chk) hi hg ht he hsw hs
end
section
variable {X:Cx} {es:List Expr} {e:Expr} {te tk tv:TE} {t:TA}
structure QR (X:Cx) (e:Expr) (t:TE):Prop where
 h:PE X e t
structure OV (X:Cx) (es:List Expr) (t:TA):Prop where
 h:PA X es t
theorem ew (h:PE X e te):QR X e te:=⟨h⟩
theorem K8:OV X [] tZ:=⟨aD⟩
theorem VT {a b} (ha:QR X (.Name a b) te) (hr:OV X es t):OV X (.Name a b::es) (eR te t):=⟨acN ha.h hr.h⟩
theorem abZ {a b c} (ha:QR X (.Constant a b c) te) (hr:OV X es t):OV X (.Constant a b c::es) (eR te t):=⟨ab5 ha.h hr.h⟩
theorem acO {a b c d} (ha:QR X (.BinOp a b c d) te) (hr:OV X es t):OV X (.BinOp a b c d::es) (eR te t):=⟨abN ha.h hr.h⟩
theorem ZX {a b c} (ha:QR X (.Subscript a b c) te) (hr:OV X es t):OV X (.Subscript a b c::es) (eR te t):=⟨acQ ha.h hr.h⟩
theorem abK {k} (h:OV X es t):QR X (.Tuple es k pos) (W2 t):=⟨bX h.h⟩
theorem abP (h:OV X es t):QR X (.List es pos) (R6 t):=⟨fU h.h⟩
end
def IB (A:Around) (s:Shared) (x y:Value) (c:Bool):Prop:=
 ∀(prog:Program) (w:World) (E:Value->Shared->Prop) (Q:Value->Shared->Prop),Q (.bool c) s->wpAny (model prog w) A (richCompare .Lt x y) Q E s
inductive B7 (A:Around) (s:Shared) (fin:Bool):List (Value×Value)->Bool->Prop
 |done:B7 A s fin [] fin
 |same {p q:Value} {r:List (Value×Value)} {c:Bool}:SeqAt.EqAt A s p q true->B7 A s fin r c->B7 A s fin ((p,q)::r) c
 |less {p q:Value} {r:List (Value×Value)} {c:Bool}:SeqAt.EqAt A s p q false->IB A s p q c->B7 A s fin ((p,q)::r) c
section
open PySem.SeqAt
open PySem.AutoSeq1 (wpAny_loadPart')
open PySem.MeetsSeq PySem.MeetsSeq2 PySem.MeetsSeq3
theorem U9 (l b:Addr) (us vs:Array Value) (n m:Nat) (d1 d2:Option Addr) (k1 k2:Array (Option Value)) (c:Bool):
  Meets (Builtin.«tuple.__lt__» ⟨[.ref l,.ref b],[]⟩) (fun A R s=>s.heap.get? l=some ⟨.type "tuple",d1,.seq us n,k1⟩/\s.heap.get? b=some ⟨.type "tuple",d2,.seq vs m,k2⟩/\
   B7 A.in1 s (decide (us.size<vs.size)) (us.toList.zip vs.toList) c/\R (.ok (.ret (.bool c))) s):=
 .of_wp fun prog w A R s h=>by
  obtain⟨hp,gg,dd,tk,os⟩:=s;obtain⟨hl,hb,hx,hr⟩:=h;have f2:=AutoSeq1.sub_tuple_tuple
  wp_walk using wpAny_loadPart' hl,wpAny_loadPart' hb,wpAny_forIn_list _ (fun rest acc s'=>acc.1=none/\s'=⟨hp,gg,dd,tk,os⟩/\B7 A.in1 ⟨hp,gg,dd,tk,os⟩ (decide (us.size<vs.size)) rest c) _
  case turn=>
   rintro⟨y,x⟩ rest acc s' ⟨ha,rfl,hx'⟩;cases hx' with
   |same he hrest=>
    refine ae (he prog w _ _ ?_)
    wp_walk
    exact⟨rfl,rfl,hrest⟩
   |less he hlt=>
    refine ae (he prog w _ _ ?_);have hq:=hlt prog w
    wp_walk using hq
    exact⟨_,rfl,by simpa using hr⟩
  case fin=>
   rintro⟨b1,b2⟩ s' ⟨ha,rfl,hx'⟩;simp only at ha;subst ha;cases hx'
   wp_walk
   exact⟨_,rfl,by simpa [Builtin.Tuple.tupleCompareSizes]using hr⟩
  case h=>exact⟨rfl,rfl,hx⟩
end
theorem XC {A:Around} {l:Addr} {us vs:Array Value} {c:Bool} (hl:IsTup s.heap l us) (hb:IsTup s.heap b vs) (hu:A.units<cLine) (hx:B7 A.in1 s (decide (us.size<vs.size)) (us.toList.zip vs.toList) c):
  IB A s (.ref l) (.ref b) c:=by
 intro prog w E Q q;obtain⟨⟨c1,d1,t1,k1⟩,g1,e1,n,r1⟩:=id hl;obtain⟨⟨c2,d2,t2,k2⟩,g2,e2,m,r2⟩:=id hb;simp only at e1 r1 e2 r2;subst e1 r1 e2 r2;exact richCompare_meets_room (op:=.Lt) ⟨_,g1,rfl⟩ ⟨_,g2,rfl⟩ PySem.F.slot_tuple_lt PySem.F.entry_tuple_lt (PySem.F.args_tuple_lt_2 _ _) (U9 l b us vs n m d1 d2 k1 k2 c) ⟨g1,g2,hx,(fun x=>nomatch x),q⟩ hu
section
open PySem.W
def mU (n:Nat) (p:Array Nat):Prop:=p.Perm (List.toArray (List.range n))
theorem mU.lt (h0:0<n) (h:mU n p) (i:Nat):p.getD i 0<n:=by
 by_cases hi:i<p.size
 .have e:p.getD i 0=p[i]:=by simp[Array.getD,hi]
  rw[e];have hm:p[i]∈p:=Array.getElem_mem hi;have:=(h.mem_iff).mp hm;simpa using this
 .have e:p.getD i 0=0:=by simp[Array.getD,hi]
  omega
theorem mU.rev (h:mU n p) (i j:Nat):mU n (kas_rev p i j):=(mirror_perm p i j ((j - i) / 2)).trans h
theorem mU.bub (h:mU n p) (i j:Nat):mU n (bubble p i j):=(bubble_perm p i j).trans h
theorem mU.perm {vs:List Value} (h:mU vs.length p):(p.toList.map fun i=>vs.getD i Value.none).Perm vs:=by
 have h1:p.toList.Perm (List.range vs.length):=by simpa using jw.mp h
 have h2:=h1.map fun i=>vs.getD i Value.none
 have e:(List.range vs.length).map (fun i=>vs.getD i Value.none)=vs:=by
  apply ext_getElem
  .simp
  .intro i a1 a2;simp[ag a2]
 rw[e]at h2;exact h2
end
section
variable {X:Cx}
theorem g8:∀{us:List Value} {ss:List Str},StrsAre us ss->Vals (ss.map V.str) us
 |[],_,.nil=>.nil
 |_::_,_,.cons x t r=>.cons ⟨t,rfl⟩ (g8 r)
def DX (K:Frag):List V->Hp->VK->Prop:=fun xs H Q=>∃p ss,xs=[.ref p]/\k7 K H p (ss.map V.str)/\ss.length<64/\∀l out,out.Perm ss->sortedS out=true->H l=none->Q (.ref l) (upd H l (.lst (out.map V.str)))
theorem JA (K:Frag) (hK:X.K=K:=by rfl):cN X (.builtin "sorted") (DX K):=by
 subst hK;intro pins s σ H xs us Q I r ⟨p,ss,e,hq,h64,q⟩;subst e;obtain⟨u,rfl,rx⟩:=vals1 r;cases rx;obtain⟨vs,rv,pl,hz⟩:=I.list hq;have hlen:=rv.length;rw[ah]at hlen hz;refine sorted_strs pl.isList (AD rv) (by omega) fun out ss' h1 h2 h3=>?_
 obtain⟨c,hat⟩:=sortedAll_at s.heap vs out;exact⟨.ref (s.heap.objs.size+1),_,I.laid (t':=s.toks) (o:=.lst (ss'.map V.str)) (fun b o e=>sortedAll_old e) (ie _) ⟨by rw[ah,h2.length_eq];exact hz,out.toList,c,g8 h1,hat⟩,rfl,q _ ss' h2 h3 (I.bQ.fresh (ie _))⟩
end
section
open PySem.W
variable (O:KeyOrd) (key:Nat->O.α)
noncomputable def Ky (p:Array Nat) (i:Nat):O.α:=key (p.getD i 0)
def DH (p:Array Nat) (k:Nat):Prop:=∀i j,i<=j->j<k->O.kle (Ky O key p i) (Ky O key p j)
variable {O} {key}
theorem uQ {q:Array Nat} (h:p[i]? =q[j]?):Ky O key p i=Ky O key q j:=by
 unfold Ky;rw[jm,jm,h]
theorem DP (hj:j<=p.size) (k:Nat):Ky O key (kas_rev p i j) k=if i<=k/\k<j then Ky O key p (i+j - 1 - k)else Ky O key p k:=by
 have e:=getElem?_mirror_all (xs:=p) (i:=i) hj k;split
 .rename_i h;rw[aj h]at e;exact uQ e
 .rename_i h;rw[ai h]at e;exact uQ e
theorem rF (hj:j<=p.size) (he:∀k,i<=k->k<j->Ky O key p k=Ky O key p (j - 1)) (k:Nat):Ky O key (kas_rev p i j) k=Ky O key p k:=by
 rw[DP hj];split
 .rename_i h;rw[he _ (by omega) (by omega),he k h.1 h.2]
 .rfl
theorem XM {k d:Nat} (hk:k<p.size) (hd:d<=k) (i:Nat):Ky O key (bubble p k d) i=if i=k - d then Ky O key p k else if k - d<i/\i<=k then Ky O key p (i - 1)else Ky O key p i:=by
 have e:=getElem?_bubble hk d hd i
 by_cases h1:i=k - d
 .rw[aj h1]at e⊢;exact uQ e
 .rw[ai h1]at e⊢
  by_cases h2:k - d<i/\i<=k
  .rw[aj h2]at e⊢;exact uQ e
  .rw[ai h2]at e⊢;exact uQ e
end
section
open PySem.W
variable {prog:Program} {w:World} {A:Around} {E:Value->Shared->Prop} {s:Shared}
theorem HP (vs:List Value):(List.range vs.length).map (fun i=>vs.getD i Value.none)=vs:=by
 apply ext_getElem
 .simp
 .intro i a1 a2;simp[ag a2]
end
end L2
namespace L2
open PySem PySem.Spec PyProof.Rows PySem.W
variable {a b:Array Keyed} {R:Array Nat->Prop} {left:Bool} {O:KeyOrd} {L l la lb:List Nat} {vs:List Value} {base i j k m n nrem x y:Nat} {Q:Option Nat->SortSt->Prop} {A C G p:Prop} {α β γ δ ε ζ:Type}
theorem pr5 {G:α×β×γ×δ×ε->Prop} (h:∀a b c d e,G (a,b,c,d,e)) (z):G z:=h z.1 z.2.1 z.2.2.1 z.2.2.2.1 z.2.2.2.2
theorem pr6 {G:α×β×γ×δ×ε×ζ->Prop} (h:∀a b c d e f,G (a,b,c,d,e,f)) (z):G z:=h z.1 z.2.1 z.2.2.1 z.2.2.2.1 z.2.2.2.2.1 z.2.2.2.2.2
theorem pr7 {η:Type} {G:α×β×γ×δ×ε×ζ×η->Prop} (h:∀a b c d e f g,G (a,b,c,d,e,f,g)) (z):G z:=h z.1 z.2.1 z.2.2.1 z.2.2.2.1 z.2.2.2.2.1 z.2.2.2.2.2.1 z.2.2.2.2.2.2
theorem elA {P:α->Prop} {R S:β->Prop} (h:A/\(∃x,P x)/\(∃l,R l/\S l)/\C) (k:A->∀x,P x->∀l,R l->S l->C->G):G:=let⟨a,⟨x,p⟩,⟨l,r,s⟩,c⟩:=h;k a x p l r s c
theorem elB {B:Prop} {R S:β->Prop} (h:A/\B/\(∃l,R l/\S l)/\C) (k:A->B->∀l,R l->S l->C->G):G:=let⟨a,b,⟨l,r,s⟩,c⟩:=h;k a b l r s c
theorem elC {P:α->Prop} {T:γ->Prop} {R S:β->Prop} (h:(∃x,P x)/\((∃y,T y)\/ (A/\(∃l,R l/\S l)/\C))) (k1:∀x,P x->∀y,T y->G) (k2:∀x,P x->A->∀l,R l->S l->C->G):G:=match h with
 |⟨⟨x,p⟩,.inl ⟨y,t⟩⟩=>k1 x p y t
 |⟨⟨x,p⟩,.inr ⟨a,⟨l,r,s⟩,c⟩⟩=>k2 x p a l r s c
theorem pr2 {G:α×β->Prop} (h:∀a b,G (a,b)) (z):G z:=h z.1 z.2
theorem elD {P B C D:α->Prop} (h:A/\∃x,P x/\(B x\/ C x\/ D x)) (k1:A->∀x,P x->B x->G) (k2:A->∀x,P x->C x->G) (k3:A->∀x,P x->D x->G):G:=match h with
 |⟨a,x,p,.inl b⟩=>k1 a x p b
 |⟨a,x,p,.inr (.inl b)⟩=>k2 a x p b
 |⟨a,x,p,.inr (.inr b)⟩=>k3 a x p b
structure Tc where
 prog:Program
 w:World
 A:Around
 E:Value->Shared->Prop
 s:Shared
section
variable {c:Tc} {α β:Type} {st:SortSt}
def TW (c:Tc) {α:Type} (m:StateT SortSt Sem α) (Q:α->SortSt->Prop) (st:SortSt):Prop:=kasC (model c.prog c.w) c.A c.E m (fun a st' s'=>s'=c.s/\Q a st') st c.s
theorem aH {a:α} {Q:α->SortSt->Prop} (h:Q a st):TW c (pure a) Q st:=kasC_pure ⟨rfl,h⟩
theorem aI {m:StateT SortSt Sem α} {f:α->StateT SortSt Sem β} {Q:β->SortSt->Prop} (h:TW c m (fun a st'=>TW c (f a) Q st') st):TW c (m>>=f) Q st:=
 kasC_bind (di h (fun r s' h=>by obtain⟨e,h⟩:=h;rw[e];exact h) fun _ _ e=>e)
theorem fD {Q:SortSt->SortSt->Prop} (h:Q st st):TW c get Q st:=kasC_get ⟨rfl,h⟩
theorem iM {f:SortSt->SortSt} {Q:PUnit->SortSt->Prop} (h:Q ⟨⟩ (f st)):TW c (modify f) Q st:=kasC_modify ⟨rfl,h⟩
theorem mK {x:String} {Q:Unit->SortSt->Prop} (h:Q () st):TW c (liftM (rule x)) Q st:=kasC_lift (wpAny_rule ⟨rfl,h⟩)
theorem aY [Decidable p] {a b:StateT SortSt Sem α} {Q:α->SortSt->Prop} (h1:p->TW c a Q st) (h2:¬p->TW c b Q st):TW c (if p then a else b) Q st:=by
 split
 .exact h1 ‹_›
 .exact h2 ‹_›
theorem uG {β:Type} {φ:β->γ->Prop} {jp:β->γ->StateT SortSt Sem α} {m:StateT SortSt Sem α} {Q:α->SortSt->Prop} (k:(∀x y,φ x y->TW c (jp x y) Q st)->TW c m Q st) (H:∀x y,φ x y->TW c (jp x y) Q st):TW c m Q st:=k H
theorem LA {_:Decidable p} {jp:Unit->Nat->StateT SortSt Sem α} {a b:Nat} {Q:α->SortSt->Prop} (H:∀g,TW c (jp () g) Q st):TW c (if p then jp () a else jp () b) Q st:=by
 split
 .exact H a
 .exact H b
theorem S2 {f:Nat->β->StateT SortSt Sem (ForInStep β)} {Q:β->SortSt->Prop} (I:Nat->β->SortSt->Prop) {n:Nat} (fin:∀b st,I n b st->Q b st)
  (step:∀i b st,i<n->I i b st->TW c (f i b) (fun r st'=>match r with| .yield b'=>I (i+1) b' st'| .done b'=>Q b' st') st):∀(k i:Nat) (b:β) (st:SortSt),i+k=n->I i b st->TW c (forIn (List.range' i k) b f) Q st
 |0,i,b,st,e,h=>kasC_nil ⟨rfl,fin b st (by rw[<-e];exact h)⟩
 | k+1,i,b,st,e,h=>by
  show kasC _ _ _ (forIn (i::List.range' (i+1) k) b f) _ _ _;refine kasC_cons (di (step i b st (by omega) h) (fun r s' h=>?_) fun _ _ e=>e);obtain⟨r,st'⟩:=r;obtain⟨e',h⟩:=h;dsimp only at e' h⊢
  cases r with
  |done b'=>exact⟨e',h⟩
  |yield b'=>
   have:=S2 I fin step k (i+1) b' st' (by omega) h;rw[e'];exact this
theorem fP {f:Nat->β->StateT SortSt Sem (ForInStep β)} {Q:β->SortSt->Prop} {a n:Nat} {b:β} (I:Nat->β->SortSt->Prop) (h0:I a b st) (ha:a<=n)
  (step:∀i b st,i<n->I i b st->TW c (f i b) (fun r st'=>match r with| .yield b'=>I (i+1) b' st'| .done b'=>Q b' st') st) (fin:∀b st,I n b st->Q b st):TW c (forIn [a:n] b f) Q st:=
 kasC_range (S2 I fin step (n - a) a b st (by omega) h0)
theorem rD {f:Nat->β->StateT SortSt Sem (ForInStep β)} {Q:β->SortSt->Prop} {a:Nat} {b:β} (I:Nat->β->SortSt->Prop) (h0:I a b st) (ha:a<=n)
  (step:∀i b st,i<n->I i b st->∀R:ForInStep β->SortSt->Prop,(∀z st,I (i+1) z st->R (.yield z) st)->(∀z st,Q z st->R (.done z) st)->TW c (f i b) R st) (fin:∀b st,I n b st->Q b st):TW c (forIn [a:n] b f) Q st:=
 fP I h0 ha (fun i b st hi h=>step i b st hi h _ (fun _ _ h=>h) fun _ _ h=>h) fin
noncomputable def WE:Bool->Keyed->Array Keyed->Nat->Nat->Nat->StateT SortSt Sem (Option Nat):=sortPriv% PySem.Builtin.gallop
noncomputable def mLo:Array Keyed->Array Keyed->StateT SortSt Sem (Array Keyed):=sortPriv% PySem.Builtin.mergeLo
noncomputable def mHi:Array Keyed->Array Keyed->StateT SortSt Sem (Array Keyed):=sortPriv% PySem.Builtin.mergeHi
noncomputable abbrev bey (left:Bool) (key:Keyed) (arr:Array Keyed) (i:Nat):StateT SortSt Sem (Option Bool):=elem' arr i>>=fun x=>if left=true then lt' x key else lt' key x>>=fun r=>pure (r.map fun z=>!z)
theorem eF {m:StateT SortSt Sem α} {R Q:α->SortSt->Prop} (h:TW c m R st) (k:∀a st',R a st'->Q a st'):TW c m Q st:=di h (fun r s' h=>⟨h.1,k _ _ h.2⟩) fun _ _ e=>e
theorem NI {lo hi:Nat} {B:Nat->Bool} {f:Nat->Option (Option Nat)×Nat×Nat->StateT SortSt Sem (ForInStep (Option (Option Nat)×Nat×Nat))} {g:Option (Option Nat)×Nat×Nat->StateT SortSt Sem (Option Nat)}
  (mono:∀i j,i<=j->j<n->B j=true->B i=true) (h1:lo<=hi) (h2:hi<=n) (h3:∀i,i<lo->B i=true) (h4:∀i,hi<=i->i<n->B i=false)
  (hd:∀x lo hi,lo≥hi->∀R:ForInStep (Option (Option Nat)×Nat×Nat)->SortSt->Prop,R (.done (none,lo,hi)) st->TW c (f x (none,lo,hi)) R st)
  (hs:∀x lo hi,¬lo≥hi->hi<=n->∀R:ForInStep (Option (Option Nat)×Nat×Nat)->SortSt->Prop,R (if B (lo+(hi - lo) / 2)=true then .yield (none,lo+(hi - lo) / 2+1,hi)else .yield (none,lo,lo+(hi - lo) / 2)) st->TW c (f x (none,lo,hi)) R st)
  (hk:∀lo hi,g (none,lo,hi)=pure (some hi)) (q:∀k,k<=n->(∀i,i<k->B i=true)->(∀i,k<=i->i<n->B i=false)->Q (some k) st):TW c (forIn [:n] (none,lo,hi) f>>=g) Q st:=by
 refine aI (fP (fun i (z:Option (Option Nat)×Nat×Nat) st'=>st'=st/\z.1=none/\z.2.1<=z.2.2/\z.2.2<=n/\(∀i,i<z.2.1->B i=true)/\(∀i,z.2.2<=i->i<n->B i=false)/\z.2.2 - z.2.1<=n - i) ⟨rfl,rfl,h1,h2,h3,h4,by dsimp only;omega⟩ (dj _) ?_ ?_)
 .rintro i ⟨r,lo,hi⟩ st' hlt ⟨rfl,rfl,h1,h2,h3,h4,h5⟩;dsimp only at h1 h2 h3 h4 h5⊢
  by_cases hc:lo≥hi
  .refine hd _ _ _ hc _ ?_;have e:lo=hi:=Nat.le_antisymm h1 hc;dsimp only;rw[hk];exact aH (q hi h2 (e▸h3) h4)
  .refine hs _ _ _ hc h2 _ ?_;have hm:lo+(hi - lo) / 2<hi:=by omega
   cases e:B (lo+(hi - lo) / 2)with
   |true=>exact⟨rfl,rfl,hm,h2,fun i (hi':i<lo+(hi - lo) / 2+1)=>mono i _ (by omega) (by omega) e,h4,by dsimp only;omega⟩
   |false=>
    refine⟨rfl,rfl,by dsimp only;omega,by dsimp only;omega,h3,fun i (h1':lo+(hi - lo) / 2<=i) h2'=>?_,by dsimp only;omega⟩;cases e':B i with
    |false=>rfl
    |true=>rw[mono _ i h1' h2' e']at e;cases e
 .rintro⟨r,lo,hi⟩ st' ⟨rfl,rfl,h1,h2,h3,h4,h5⟩;dsimp only at h1 h2 h3 h4 h5⊢
  have e:lo=hi:=by omega
  rw[hk];exact aH (q hi h2 (e▸h3) h4)
theorem UE {key:Keyed} {arr:Array Keyed} {hint:Nat} {B:Nat->Bool} (hn:hint<n) (mono:∀i j,i<=j->j<n->B j=true->B i=true)
  (hb:∀i,i<n->∀Q:Option Bool->SortSt->Prop,Q (some (B i)) st->TW c (bey left key arr (base+i)) Q st)
  (q:∀k,k<=n->(∀i,i<k->B i=true)->(∀i,k<=i->i<n->B i=false)->Q (some k) st):TW c (WE left key arr base n hint) Q st:=by
 have up:∀i j,i<=j->j<n->B i=false->B j=false:=fun i j a b h=>by
  cases e:B j with
  |false=>rfl
  |true=>rw[mono i j a b e]at h;cases h
 refine aI (hb hint hn _ ?_);show TW c _ Q st;dsimp only;cases e:B hint with
 | true=>
  rw[aj rfl];refine aI (eF (R:=fun(z:Option (Option Nat)×Nat×Nat) st'=>st'=st/\z.1=none/\hint+z.2.1<n/\B (hint+z.2.1)=true/\z.2.1<z.2.2/\(z.2.2≥n - hint\/ B (hint+z.2.2)=false)) (fP (fun i (z:Option (Option Nat)×Nat×Nat) st'=>st'=st/\z.1=none/\hint+z.2.1<n/\B (hint+z.2.1)=true/\z.2.1<z.2.2/\i<z.2.2) ⟨rfl,rfl,hn,e,zero_lt_one,zero_lt_one⟩ (dj _) ?_ ?_) ?_)
  .rintro i ⟨r,la,ofs⟩ st' hi ⟨rfl,rfl,h1,h2,h3,h4⟩;dsimp only at h1 h2 h3 h4⊢
   by_cases hc:ofs≥n - hint
   .rw[aj hc];exact aH ⟨rfl,rfl,h1,h2,h3,.inl hc⟩
   .rw[ai hc];refine aI (hb (hint+ofs) (by omega) _ ?_);dsimp only;cases e2:B (hint+ofs)with
    |false=>exact aH ⟨rfl,rfl,h1,h2,h3,.inr e2⟩
    |true=>exact aH ⟨rfl,rfl,by dsimp only;omega,e2,by dsimp only;omega,by dsimp only;omega⟩
  .rintro⟨r,la,ofs⟩ st' ⟨rfl,rfl,h1,h2,h3,h4⟩;exact⟨rfl,rfl,h1,h2,h3,.inl (by dsimp only at h4⊢;omega)⟩
  .rintro⟨r,la,ofs⟩ st' ⟨e1,e2,h1,h2,h3,h4⟩;dsimp only at e2 h1 h2 h3 h4⊢
   rw[e1,e2];refine NI mono (by omega) (by omega) (fun i hi=>mono i _ (by omega) h1 h2) (fun i hi hlt=>?_) (fun x lo hi h R r=>?_) (fun x lo hi h1 h2 R r=>?_) (fun _ _=>rfl) q
   .rcases h4 with h4|h4
    .omega
    .by_cases ho:ofs<n - hint
     .exact up _ i (by omega) hlt h4
     .omega
   .dsimp only;rw[aj h];exact aH r
   .dsimp only;rw[ai h1]
    refine aI (hb _ (by omega) _ ?_);dsimp only
    revert r
    cases B (lo+(hi - lo) / 2)<;>exact fun r=>aH r
 | false=>
  rw[ai au];refine aI (eF (R:=fun(z:Option (Option Nat)×Nat×Nat) st'=>st'=st/\z.1=none/\z.2.1<=hint/\B (hint - z.2.1)=false/\z.2.1<z.2.2/\(z.2.2≥hint+1\/ B (hint - z.2.2)=true)) (fP (fun i (z:Option (Option Nat)×Nat×Nat) st'=>st'=st/\z.1=none/\z.2.1<=hint/\B (hint - z.2.1)=false/\z.2.1<z.2.2/\i<z.2.2) ⟨rfl,rfl,dj _,e,zero_lt_one,zero_lt_one⟩ (dj _) ?_ ?_) ?_)
  .rintro i ⟨r,la,ofs⟩ st' hi ⟨rfl,rfl,h1,h2,h3,h4⟩;dsimp only at h1 h2 h3 h4⊢
   by_cases hc:ofs≥hint+1
   .rw[aj hc];exact aH ⟨rfl,rfl,h1,h2,h3,.inl hc⟩
   .rw[ai hc];refine aI (hb (hint - ofs) (by omega) _ ?_);dsimp only;cases e2:B (hint - ofs)with
    |true=>exact aH ⟨rfl,rfl,h1,h2,h3,.inr e2⟩
    |false=>exact aH ⟨rfl,rfl,by dsimp only;omega,e2,by dsimp only;omega,by dsimp only;omega⟩
  .rintro⟨r,la,ofs⟩ st' ⟨rfl,rfl,h1,h2,h3,h4⟩;exact⟨rfl,rfl,h1,h2,h3,.inl (by dsimp only at h4⊢;omega)⟩
  .rintro⟨r,la,ofs⟩ st' ⟨e1,e2,h1,h2,h3,h4⟩;dsimp only at e2 h1 h2 h3 h4⊢
   rw[e1,e2];refine NI mono (by omega) (by omega) (fun i hi=>?_) (fun i hi hlt=>up _ i hi hlt h2) (fun x lo hi h R r=>?_) (fun x lo hi h1 h2 R r=>?_) (fun _ _=>rfl) q
   .rcases h4 with h4|h4
    .omega
    .exact mono i _ (by omega) (by omega) h4
   .dsimp only;rw[aj h];exact aH r
   .dsimp only;rw[ai h1]
    refine aI (hb _ (by omega) _ ?_);dsimp only
    revert r
    cases B (lo+(hi - lo) / 2)<;>exact fun r=>aH r
end
section
variable {R:Nat->Nat->Prop} {la lb l:List Nat} {i j k:Nat}
structure MI (R:Nat->Nat->Prop) (la lb l:List Nat) (i j:Nat):Prop where
 perm:l.Perm (la.take i++lb.take j)
 S7:l.Pairwise R
 a:∀x∈l,∀y∈la.drop i,R x y
 b:∀x∈l,∀y∈lb.drop j,R x y
theorem MI.swap (h:MI R la lb l i j):MI R lb la l j i:=⟨h.perm.trans kh,h.S7,h.b,h.a⟩
theorem MI.more (h:MI R la lb l i j) (ha:la.Pairwise R) (hk:∀x∈(la.drop i).take k,∀y∈lb.drop j,R x y):MI R la lb (l++(la.drop i).take k) (i+k) j:=by
 have e:la.drop i=(la.drop i).take k++la.drop (i+k):=by rw[<-drop_drop,dz]
 have hd:(la.drop i).Pairwise R:=ha.drop;rw[e,dy]at hd;have sub:∀x∈(la.drop i).take k,x∈la.drop i:=fun x hx=>dc hx
 refine⟨?_,dy.mpr ⟨h.S7,hd.1,fun x hx y hy=>h.a x hx y (sub y hy)⟩,fun x hx y hy=>?_,fun x hx y hy=>?_⟩
 .have e2:la.take (i+k)=la.take i++(la.drop i).take k:=by rw[List.take_add]
  rw[e2,de];refine(h.perm.append_right _).trans ?_;rw[de];exact jn _ kh
 .rcases bj.mp hx with hx|hx
  .exact h.a x hx y (by rw[e];exact cp _ hy)
  .exact hd.2.2 x hx y hy
 .rcases bj.mp hx with hx|hx
  .exact h.b x hx y hy
  .exact hk x hx y hy
theorem MI.one (h:MI R la lb l i j) (ha:la.Pairwise R) (hx:la[i]? =some x) (hk:∀y∈lb.drop j,R x y):MI R la lb (l++[x]) (i+1) j:=by
 have e:(la.drop i).take 1=[x]:=by
  obtain⟨hl,e⟩:=af.mp hx;rw[du hl,e];rfl
 have:=h.more (k:=1) ha (by rw[e];intro z hz;rw[bu.mp hz];exact hk);rw[e]at this;exact this
theorem MI.fin (h:MI R la lb l i j) (ha:la.Pairwise R) (hb:lb.Pairwise R) (hk:∀x∈la.drop i,∀y∈lb.drop j,R x y):(l++la.drop i++lb.drop j).Perm (la++lb)/\(l++la.drop i++lb.drop j).Pairwise R:=by
 refine⟨?_,?_⟩
 .have e1:(la++lb).Perm ((la.take i++lb.take j)++(la.drop i++lb.drop j)):=by
   conv=>lhs;rw[<-dz i la,<-dz j lb]
   rw[de,de];refine jn _ ?_;rw[<-de,<-de];exact perm_append_comm.append_right _
  rw[de];exact(h.perm.append_right _).trans e1.symm
 .refine dy.mpr ⟨dy.mpr ⟨h.S7,ha.drop,h.a⟩,hb.drop,fun x hx y hy=>?_⟩;rcases bj.mp hx with hx|hx
  .exact h.b x hx y hy
  .exact hk x hx y hy
end
section
variable {f:Nat->Keyed} {l m:List Nat}
noncomputable def im (f:Nat->Keyed) (l:List Nat):Array Keyed:=(l.map f).toArray
theorem bG:(im f l).size=l.length:=by unfold im;simp
theorem nV (i:Nat):(im f l)[i]? =(l[i]?).map f:=by unfold im;simp
theorem gM:im f l++im f m=im f (l++m):=by unfold im;simp
theorem eI (x:Nat):(im f l).push (f x)=im f (l++[x]):=by unfold im;simp
theorem i7 (i j:Nat):(im f l).extract i j=im f ((l.take j).drop i):=by
 unfold im;simp[List.extract_eq_take_drop,map_take,map_drop,List.drop_take]
theorem EM (i k:Nat):(im f l).extract i (i+k)=im f ((l.drop i).take k):=by rw[i7,List.drop_take,Nat.add_sub_cancel_left]
theorem CZ:(im f l).reverse=im f l.reverse:=by unfold im;simp
theorem S9 (x:Nat): #[f x]=im f [x]:=rfl
end
section
variable {c:Tc} {κ:SortKind} {O:KeyOrd} {key:Nat->O.α} {f:Nat->Keyed} {n mg:Nat} {arr:Array Keyed} {pend:Array (Nat×Nat×Nat)}
def Cm (c:Tc) (κ:SortKind) (O:KeyOrd) (key:Nat->O.α) (f:Nat->Keyed) (n:Nat):Prop:=∀i j,i<n->j<n->∀C:Bool->Shared->Prop,C (O.blt (key i) (key j)) c.s->wpAny (model c.prog c.w) c.A (keyLt' κ (f i).1 (f j).1) C (fun _ _=>False) c.s
noncomputable abbrev sS (κ:SortKind) (arr:Array Keyed) (pend:Array (Nat×Nat×Nat)) (mg:Nat):SortSt:=SortSt.mk' κ arr pend mg none
theorem FZ (C:Cm c κ O key f n) (hi:i<n) (hj:j<n) {Q:Option Bool->SortSt->Prop} (q:Q (some (O.blt (key i) (key j))) (sS κ arr pend mg)):TW c (lt' (f i) (f j)) Q (sS κ arr pend mg):=by
 rw[lt'_eq];refine aI (fD ?_);refine aI (kasC_lift (wpAny_attempt (di (C i j hi hj (fun b s'=>b=O.blt (key i) (key j)/\s'=c.s) ⟨rfl,rfl⟩) (fun b s' h=>⟨h.2,?_⟩) fun _ _ hF=>hF.elim)));rw[h.1];exact aH q
theorem vA {x:Keyed} {st:SortSt} {Q:Keyed->SortSt->Prop} (h:a[i]? =some x) (q:Q x st):TW c (elem' a i) Q st:=by
 rw[elem'_eq,h];exact aH q
abbrev kO (O:KeyOrd) (key:Nat->O.α) (i j:Nat):Prop:=O.blt (key j) (key i)=false
theorem lH {i k:Nat} (h1:kO O key i j) (h2:kO O key j k):kO O key i k:=by
 cases e:O.blt (key k) (key i)with
 |false=>exact e
 |true=>exact(O.negTrans _ (key j) _ e).elim (fun h=>by rw[h2]at h;cases h) fun h=>by rw[h1]at h;cases h
theorem GZ {i j:Nat} (h:O.blt (key i) (key j)=true):kO O key i j:=by
 cases e:O.blt (key j) (key i)with
 |false=>exact e
 |true=>have:=O.trans _ _ _ h e;rw[O.irrefl]at this;cases this
theorem xK (hs:l.Pairwise (kO O key)) (h:l[i]? =some y) (hx:kO O key x y):∀z∈l.drop i,kO O key x z:=by
 obtain⟨hl,e⟩:=af.mp h;have hd:(l.drop i).Pairwise (kO O key):=hs.drop;rw[du hl,e]at hd⊢
 intro z hz;rcases bw.mp hz with hz|hz
 .rw[hz];exact hx
 .exact lH hx ((gp.mp hd).1 z hz)
theorem V0 {left:Bool} {j:Nat} (C:Cm c κ O key f n) (hl:∀i∈l,i<n) (hx:x<n) (hs:((l.drop base).take m).Pairwise (kO O key)) (hm:base+m<=l.length) (hj:j<m)
  (q:∀k,k<=m->(∀y∈(l.drop base).take k,kO O key y x)->(∀y∈((l.drop base).take m).drop k,kO O key x y)->Q (some k) (sS κ arr pend mg)):TW c (WE left (f x) (im f l) base m j) Q (sS κ arr pend mg):=by
 have at':∀t,t<m->∃y,l[base+t]? =some y/\l.getD (base+t) 0=y:=fun t ht=>⟨l[base+t]'(by omega),ag _,by rw[az,ag (by omega)];rfl⟩
 have mn:∀i j,i<=j->j<m->kO O key (l.getD (base+i) 0) (l.getD (base+j) 0):=fun i j h1 h2=>by
  obtain⟨y,e1,e2⟩:=at' i (by omega);obtain⟨z,e3,e4⟩:=at' j h2;rw[e2,e4]
  by_cases e:i=j
  .subst e;rw[e1]at e3;cases e3;exact O.irrefl _
  .have w:∀{t z:Nat},t<m->l[base+t]? =some z->((l.drop base).take m)[t]? =some z:=fun ht hz=>by rw[iz,aj ht,getElem?_drop];exact hz
   obtain⟨g1,rfl⟩:=af.mp (w (by omega) e1);obtain⟨g2,rfl⟩:=af.mp (w h2 e3);exact ip.mp hs _ _ g1 g2 (by omega)
 refine UE (B:=fun t=>if left=true then O.blt (key (l.getD (base+t) 0)) (key x)else !O.blt (key x) (key (l.getD (base+t) 0))) hj (fun i j h1 h2 h=>?_) (fun i hi Q q=>?_) fun k hk h1 h2=>q k hk (fun y hy=>?_) fun y hy=>?_
 .have h3:=mn i j h1 h2;cases left with
  |true=>
   rw[aj rfl]at h⊢
   exact(O.negTrans _ (key (l.getD (base+i) 0)) _ h).elim (fun z=>by rw[h3]at z;cases z) fun z=>z
  |false=>
   rw[ai au,not_eq_true']at h⊢
   exact lH h3 h
 .obtain⟨y,e1,e2⟩:=at' i hi;have hy:=hl y (bh e1);refine aI (vA (x:=f y) (by rw[nV,e1];rfl) ?_);rw[e2]at q;cases left with
  |true=>
   rw[aj rfl]at q⊢
   exact FZ C hy hx q
  |false=>
   rw[ai au]at q⊢
   exact aI (FZ C hx hy (aH q))
 .obtain⟨t,ht⟩:=iq hy;rw[iz]at ht;split at ht
  .rename_i htk;rw[getElem?_drop]at ht;have:=h1 t htk;rw[az,ht,getD_some]at this;cases left with
   |true=>rw[aj rfl]at this;exact GZ this
   |false=>rw[ai au,not_eq_true']at this;exact this
  .cases ht
 .obtain⟨t,ht⟩:=iq hy;rw[getElem?_drop,iz]at ht;split at ht
  .rename_i htk;rw[getElem?_drop]at ht;have:=h2 (k+t) (le_add_right _ _) htk;rw[az,ht,getD_some]at this;cases left with
   |true=>rw[aj rfl]at this;exact this
   |false=>rw[ai au,Bool.not_eq_false']at this;exact GZ this
  .cases ht
theorem t7 {x:Keyed} {st:SortSt} {g:Keyed->StateT SortSt Sem α} {Q:α->SortSt->Prop} (h:a[i]? =some x) (q:TW c (g x) Q st):TW c (elem' a i>>=g) Q st:=aI (vA h q)
theorem Y6 {h:SortSt->SortSt} {st:SortSt} {g:PUnit->StateT SortSt Sem α} {Q:α->SortSt->Prop} (q:TW c (g ⟨⟩) Q (h st)):TW c (modify h>>=g) Q st:=aI (iM q)
theorem MR {g:Option Bool->StateT SortSt Sem α} {Q:α->SortSt->Prop} (C:Cm c κ O key f n) (hb:b[i]? =some (f x)) (ha:a[j]? =some (f y)) (hx:x<n) (hy:y<n)
  (q:TW c (g (some (O.blt (key x) (key y)))) Q (sS κ arr pend mg)):TW c (elem' b i>>=fun u=>elem' a j>>=fun v=>lt' u v>>=g) Q (sS κ arr pend mg):=t7 hb (t7 ha (aI (FZ C hx hy q)))
theorem G9 {g:Option Nat->StateT SortSt Sem α} {Q:α->SortSt->Prop} (he:b[i]? =some (f x)) (C:Cm c κ O key f n) (hl:∀i∈l,i<n) (hx:x<n) (hs:((l.drop base).take m).Pairwise (kO O key)) (hm:base+m<=l.length) (hj:j<m)
  (q:∀k,k<=m->(∀y∈(l.drop base).take k,kO O key y x)->(∀y∈((l.drop base).take m).drop k,kO O key x y)->TW c (g (some k)) Q (sS κ arr pend mg)):TW c (elem' b i>>=fun u=>WE left u (im f l) base m j>>=g) Q (sS κ arr pend mg):=t7 he (aI (V0 C hl hx hs hm hj q))
end
section
variable {c:Tc} {κ:SortKind} {O:KeyOrd} {key:Nat->O.α} {f:Nat->Keyed} {n mg:Nat} {arr:Array Keyed} {pend:Array (Nat×Nat×Nat)}
theorem VP {la lb:List Nat} {Q:Array Keyed->SortSt->Prop} (C:Cm c κ O key f n) (ha:la.Pairwise (kO O key)) (hb:lb.Pairwise (kO O key)) (na:∀i∈la,i<n) (nb:∀i∈lb,i<n) (a0:0<la.length) (b0:0<lb.length)
  (h0:∀y,lb[0]? =some y->∀x∈la,kO O key y x) (hl:∀x∈la.drop (la.length - 1),∀y∈lb,kO O key y x) (q:∀l mg',l.Perm (la++lb)->l.Pairwise (kO O key)->Q (im f l) (sS κ arr pend mg')):TW c (mLo (im f la) (im f lb)) Q (sS κ arr pend mg):=by
 have gb:∀i,i<lb.length->∀{G:Prop},(∀y,lb[i]? =some y->(im f lb)[i]? =some (f y)->y<n->G)->G:=fun i hi G k=>k lb[i] (ag hi) (by rw[nV,ag hi];rfl) (nb _ (je hi))
 have ga:∀i,i<la.length->∀{G:Prop},(∀y,la[i]? =some y->(im f la)[i]? =some (f y)->y<n->G)->G:=fun i hi G k=>k la[i] (ag hi) (by rw[nV,ag hi];rfl) (na _ (je hi))
 refine gb 0 b0 fun y0 e0 e1 y0n=>?_
 have m0:MI (kO O key) la lb [y0] 0 1:=by
  have:lb.take 1=[y0]/\∀y∈lb.drop 1,kO O key y0 y:=by
   cases lb with
   |nil=>cases b0
   |cons z lb=>cases e0;exact⟨rfl,fun y hy=>(gp.mp hb).1 y hy⟩
  refine⟨by rw[this.1];exact .refl _,List.pairwise_singleton _ _,fun x hx y hy=>?_,fun x hx y hy=>?_⟩
  .rw[bu.mp hx];exact h0 _ e0 y (ir hy)
  .rw[bu.mp hx];exact this.2 y hy
 have dn:∀l i j,MI (kO O key) la lb l i j->(la.length<=i\/ lb.length<=j)->∀mg',Q (im f l++(im f la).extract i (im f la).size++(im f lb).extract j (im f lb).size) (sS κ arr pend mg'):=fun l i j m h mg'=>by
  rw[i7,i7,bG,bG,dk,dk,gM,gM];obtain⟨p1,p2⟩:=m.fin ha hb fun x hx y hy=>by
   rcases h with h|h
   .rw[drop_eq_nil_of_le h]at hx;cases hx
   .rw[drop_eq_nil_of_le h]at hy;cases hy
  exact q _ _ p1 p2
 have lt:∀l i j,MI (kO O key) la lb l i j->i+1=la.length->∀mg',Q (im f l++(im f lb).extract j (im f lb).size++(im f la).extract i (im f la).size) (sS κ arr pend mg'):=fun l i j m h mg'=>by
  rw[i7,i7,bG,bG,dk,dk,gM,gM];obtain⟨p1,p2⟩:=m.swap.fin hb ha fun x hx y hy=>hl y (by rw[show la.length - 1=i by omega];exact hy) x (ir hx)
  exact q _ _ (p1.trans kh) p2
 refine aI (mK (t7 e1 (aY (fun r1=>?_) fun r1=>aY (fun r2=>?_) fun r2=>?_)))
 .have r1:=eq_of_beq r1;rw[bG]at r1;exact aH (dn _ _ _ m0 (.inr (le_of_eq r1.symm)) _)
 .have r2:=eq_of_beq r2;rw[bG]at r2;exact aH (lt _ _ _ m0 r2 _)
 rw[bG,dm]at r1 r2;have r1:¬1=lb.length:=r1;have r2:¬0+1=la.length:=r2;refine aI (fD ?_);refine aI (fP (fun i (z:Option (Array Keyed)×Array Keyed×Nat×Nat×Nat) st'=>z.1=none/\(∃mg',st'=sS κ arr pend mg')/\(∃l,z.2.1=im f l/\MI (kO O key) la lb l z.2.2.1 z.2.2.2.1)/\z.2.2.1+1<la.length/\z.2.2.2.1<lb.length/\i<z.2.2.1+z.2.2.2.1) ⟨rfl,⟨_,rfl⟩,⟨_,S9 _,m0⟩,by dsimp only;omega,by dsimp only;omega,by dsimp only;omega⟩ (dj _) ?_ ?_)
 .clear m0 e0 e1 r1 r2;refine fun i=>pr5 fun r out ia ib g st' hi h=>elA h fun e1 mg' e2 l eo m h=>?_
  have h1:=h.1;have h2:=h.2.1;have h3:=h.2.2;clear h;dsimp only at e1 eo m h1 h2 h3;subst e1 e2;refine aI (eF (R:=fun(z:Option (Array Keyed)×Array Keyed×Nat×Nat×Nat×Nat) st'=>(∃mg',st'=sS κ arr pend mg')/\((∃X,z.1=some X/\Q X st')\/ (z.1=none/\(∃l,z.2.1=im f l/\MI (kO O key) la lb l z.2.2.1 z.2.2.2.1)/\z.2.2.1+1<la.length/\z.2.2.2.1<lb.length/\i+1<z.2.2.1+z.2.2.2.1)))
   (rD (fun j (z:Option (Array Keyed)×Array Keyed×Nat×Nat×Nat×Nat) st'=>z.1=none/\st'=sS κ arr pend mg'/\(∃l,z.2.1=im f l/\MI (kO O key) la lb l z.2.2.1 z.2.2.2.1)/\z.2.2.1+1<la.length/\z.2.2.2.1<lb.length/\i+j<z.2.2.1+z.2.2.2.1) ⟨rfl,rfl,⟨l,eo,m⟩,h1,h2,h3⟩ (dj _) ?_ ?_) ?_)
  .clear h1 h2 h3 m eo;refine fun j=>pr6 fun r out ia ib ac bc st' hj h R hy hd=>elB h fun e1 e2 l eo m h=>?_
   have h1:=h.1;have h2:=h.2.1;have h3:=h.2.2;clear h;dsimp only at e1 eo m h1 h2 h3;subst e1 e2;refine gb ib h2 fun y ey eb yn=>?_
   refine ga ia (by omega) fun x ex ea xn=>?_
   clear hi hj;refine MR C eb ea yn xn (aY (fun e=>?_) fun e=>?_)
   .have m':=(m.swap.one hb ey (xK ha ex (GZ e))).swap;have eo':=(cw (fun z=>Array.push z (f y)) eo).trans (eI y);refine t7 eb (aY (fun r1=>?_) fun r1=>?_)
    .have r1:=eq_of_beq r1;rw[bG]at r1;have:=dn _ _ _ m' (.inr (le_of_eq r1.symm));rw[<-eo']at this;exact aH (hd _ _ ⟨⟨_,rfl⟩,.inl ⟨_,rfl,this _⟩⟩)
    .rw[bG,dm]at r1;have g1:ib+1<lb.length:=ke h2 r1;exact aY (fun _=>aH (hd _ _ ⟨⟨_,rfl⟩,.inr ⟨rfl,⟨_,eo',m'⟩,h1,g1,by dsimp only;omega⟩⟩)) fun _=>aH (hy _ _ ⟨rfl,rfl,⟨_,eo',m'⟩,h1,g1,by dsimp only;omega⟩)
   .rw[not_eq_true]at e;have m':=m.one ha ex (xK hb ey e);have eo':=(cw (fun z=>Array.push z (f x)) eo).trans (eI x);refine t7 ea (aY (fun r1=>?_) fun r1=>?_)
    .have r1:=eq_of_beq r1;rw[bG]at r1;have:=lt _ _ _ m' r1;rw[<-eo']at this;exact aH (hd _ _ ⟨⟨_,rfl⟩,.inl ⟨_,rfl,this _⟩⟩)
    .rw[bG,dm]at r1;have g1:ia+1+1<la.length:=ke h1 r1;exact aY (fun _=>aH (hd _ _ ⟨⟨_,rfl⟩,.inr ⟨rfl,⟨_,eo',m'⟩,g1,h2,by dsimp only;omega⟩⟩)) fun _=>aH (hy _ _ ⟨rfl,rfl,⟨_,eo',m'⟩,g1,h2,by dsimp only;omega⟩)
  .rintro⟨r,out,ia,ib,ac,bc⟩ st' ⟨e1,e2,⟨l,e3,m⟩,h1,h2,h3⟩;dsimp only at h1 h2 h3;rw[bG,bG]at h3;omega
  .clear h1 h2 h3 m eo hi;refine pr6 fun r out ia ib ac bc st' h=>elC h (fun mg' e2 X h=>?_) fun mg' e2 e1 l eo m h=>?_
   .have e1:=h.1;have hX:=h.2;clear h;dsimp only at e1;subst e1;exact aH (aH hX)
   .have h1:=h.1;have h2:=h.2.1;have h3:=h.2.2;clear h;dsimp only at e1 eo m h1 h2 h3;subst e1 e2;refine aI (mK ?_);refine aI (eF (R:=fun(z:Option (Array Keyed)×Array Keyed×Nat×Nat×Nat×Nat×Nat) st'=>(∃mg',st'=sS κ arr pend mg')/\((∃X,z.1=some X/\Q X st')\/ (z.1=none/\(∃l,z.2.1=im f l/\MI (kO O key) la lb l z.2.2.1 z.2.2.2.1)/\z.2.2.1+1<la.length/\z.2.2.2.1<lb.length/\i+1<z.2.2.1+z.2.2.2.1)))
     (rD (fun j (z:Option (Array Keyed)×Array Keyed×Nat×Nat×Nat×Nat×Nat) st'=>z.1=none/\(∃mg',st'=sS κ arr pend mg')/\(∃l,z.2.1=im f l/\MI (kO O key) la lb l z.2.2.1 z.2.2.2.1)/\z.2.2.1+1<la.length/\z.2.2.2.1<lb.length/\i+1+j<z.2.2.1+z.2.2.2.1) ⟨rfl,⟨_,rfl⟩,⟨l,eo,m⟩,h1,h2,h3⟩ (dj _) ?_ ?_) ?_)
    .clear h1 h2 h3 m eo;refine fun j=>pr7 fun r out ia ib g ac bc st' hj h R hy hd=>elA h fun e1 mg' e2 l eo m h=>?_
     have h1:=h.1;have h2:=h.2.1;have h3:=h.2.2;clear h;dsimp only at e1 eo m h1 h2 h3;subst e1 e2;clear hj
     extract_lets s1 out1 s2 ia1 s3 ib1 s4 g1 s5 ac1 bc1 b2 jp g2
     refine gb ib h2 fun y ey eb yn=>?_
     refine LA fun g=>?_
     refine Y6 (G9 (l:=la) (x:=y) (base:=ia) (m:=(im f la).size - ia) (j:=0) eb C na yn ha.drop.take (by rw[bG];omega) (by rw[bG];omega) fun k hk p1 p2=>?_);rw[bG]at hk p2;rw[show(la.drop ia).take (la.length - ia)=la.drop ia from eh (by rw[ff];exact bf _),drop_drop]at p2;have m1:=m.more (k:=k) ha fun x hx=>xK hb ey (p1 x hx)
     dsimp(config:={zeta:=false}) only
     extract_lets ac2 jp2 out3 ia3
     refine uG (jp:=jp2 ()) (φ:=fun out ia=>(∃l,out=im f l/\MI (kO O key) la lb l ia ib)/\ia+1<la.length/\(∀z∈la.drop ia,kO O key y z)/\i+1+j<ia+ib) (fun H=>?_) ?_
     .refine aY (fun k0=>?_) fun k0=>H out ia ⟨⟨l,eo,m⟩,h1,by rw[show k=0 from Nat.eq_zero_of_not_pos k0]at p2;exact p2,h3⟩
      have eo3:out3=im f (l++(la.drop ia).take k):=(cw (·++(im f la).extract ia (ia+k)) eo).trans ((cw (_++·) (EM _ _)).trans gM)
      clear_value jp2 out3
      refine aY (fun r1=>?_) fun r1=>aY (fun r2=>?_) fun r2=>?_
      .have r1:=eq_of_beq r1;rw[bG]at r1;have:=lt _ _ _ m1 r1;rw[<-eo3]at this;exact aH (hd _ _ ⟨⟨_,rfl⟩,.inl ⟨_,rfl,this _⟩⟩)
      .have r2:=eq_of_beq r2;rw[bG]at r2;have:=dn _ _ _ m1 (.inl (le_of_eq r2.symm));rw[<-eo3]at this;exact aH (hd _ _ ⟨⟨_,rfl⟩,.inl ⟨_,rfl,this _⟩⟩)
      .rw[bG,dm]at r1 r2;have r1:¬ia+k+1=la.length:=r1;have r2:¬ia+k=la.length:=r2;exact H _ (ia+k) ⟨⟨_,eo3,m1⟩,by omega,p2,by omega⟩
     clear eo m h1 h3 p1 p2 hk m1
     clear_value out1 ia1 ac1
     rintro out ia ⟨⟨l,eo,m⟩,g1,p3,g3⟩;have m2:=(m.swap.one hb ey p3).swap;have eo2:=(cw (fun z=>Array.push z (f y)) eo).trans (eI y);refine t7 eb (aY (fun r1=>?_) fun r1=>?_)
     .have r1:=eq_of_beq r1;rw[bG]at r1;have:=dn _ _ _ m2 (.inr (le_of_eq r1.symm));rw[<-eo2]at this;exact aH (hd _ _ ⟨⟨_,rfl⟩,.inl ⟨_,rfl,this _⟩⟩)
     rw[bG,dm]at r1;have r2:ib+1<lb.length:=ke h2 r1;refine ga ia (by omega) fun x ex ea xn=>?_
     refine G9 (l:=lb) (x:=x) (base:=ib+1) (m:=(im f lb).size - (ib+1)) (j:=0) ea C nb xn hb.drop.take (by rw[bG];omega) (by rw[bG];omega) fun k2 hk2 p4 p5=>?_
     rw[bG]at hk2 p5;rw[show(lb.drop (ib+1)).take (lb.length - (ib+1))=lb.drop (ib+1)from eh (by rw[ff];exact bf _),drop_drop]at p5;have m3:=(m2.swap.more (k:=k2) hb fun z hz=>xK ha ex (p4 z hz)).swap;dsimp(config:={zeta:=false}) only
     extract_lets bc2 ia5 jp3 o5 b5
     refine uG (jp:=jp3 ()) (φ:=fun out ib=>(∃l,out=im f l/\MI (kO O key) la lb l ia ib)/\ib<lb.length/\(∀z∈lb.drop ib,kO O key x z)/\i+1+j+1<ia+ib) (fun H=>?_) ?_
     .refine aY (fun k0=>?_) fun k0=>H _ (ib+1) ⟨⟨_,eo2,m2⟩,r2,by rw[show k2=0 from Nat.eq_zero_of_not_pos k0]at p5;exact p5,by omega⟩
      have eo3:o5=im f (l++[y]++(lb.drop (ib+1)).take k2):=(cw (·++(im f lb).extract (ib+1) (ib+1+k2)) eo2).trans ((cw (_++·) (EM _ _)).trans gM)
      clear_value jp3 o5
      refine aY (fun r3=>?_) fun r3=>?_
      .have r3:=eq_of_beq r3;rw[bG]at r3;have:=dn _ _ _ m3 (.inr (le_of_eq r3.symm));rw[<-eo3]at this;exact aH (hd _ _ ⟨⟨_,rfl⟩,.inl ⟨_,rfl,this _⟩⟩)
      .rw[bG,dm]at r3;have r3:¬ib+1+k2=lb.length:=r3;exact H _ (ib+1+k2) ⟨⟨_,eo3,m3⟩,by omega,p5,by omega⟩
     clear eo eo2 m m2 m3 g3 p3 p4 p5 hk2 r1;rintro out ib ⟨⟨l,eo,m⟩,g3,p6,g4⟩;have m4:=m.one ha ex p6;have eo4:=(cw (fun z=>Array.push z (f x)) eo).trans (eI x);refine t7 ea (aY (fun r3=>?_) fun r3=>?_)
     .have r3:=eq_of_beq r3;rw[bG]at r3;have:=lt _ _ _ m4 r3;rw[<-eo4]at this;exact aH (hd _ _ ⟨⟨_,rfl⟩,.inl ⟨_,rfl,this _⟩⟩)
     .rw[bG,dm]at r3;have r3:ia+1+1<la.length:=ke g1 r3;exact aY (fun _=>aH (hd _ _ ⟨⟨_,rfl⟩,.inr ⟨rfl,⟨_,eo4,m4⟩,r3,g3,by dsimp only;omega⟩⟩)) fun _=>aH (hy _ _ ⟨rfl,⟨_,rfl⟩,⟨_,eo4,m4⟩,r3,g3,by dsimp only;omega⟩)
    .rintro⟨r,out,ia,ib,g,ac,bc⟩ st' ⟨e1,⟨mg',e2⟩,⟨l,e3,m⟩,h1,h2,h3⟩;dsimp only at h1 h2 h3;rw[bG,bG]at h3;omega
    .rintro⟨r,out,ia,ib,g,ac,bc⟩ st' ⟨⟨mg',rfl⟩,⟨X,e1,hX⟩|⟨e1,h⟩⟩
     .dsimp only at e1;subst e1;exact aH (aH hX)
     .dsimp only at e1;subst e1;exact aI (iM (aH ⟨rfl,⟨_,rfl⟩,h⟩))
 .rintro⟨r,out,ia,ib,g⟩ st' ⟨e1,⟨mg',e2⟩,⟨l,e3,m⟩,h1,h2,h3⟩;dsimp only at h1 h2 h3;rw[bG,bG]at h3;omega
end
section
variable {R:Nat->Nat->Prop} {la lb l:List Nat} {i j k:Nat}
structure MJ (R:Nat->Nat->Prop) (la lb l:List Nat) (i j:Nat):Prop where
 perm:l.Perm (la.drop i++lb.drop j)
 S7:l.Pairwise fun x y=>R y x
 a:∀x∈l,∀y∈la.take i,R y x
 b:∀x∈l,∀y∈lb.take j,R y x
theorem MJ.swap (h:MJ R la lb l i j):MJ R lb la l j i:=⟨h.perm.trans kh,h.S7,h.b,h.a⟩
theorem MJ.more (h:MJ R la lb l i j) (ha:la.Pairwise R) (hi:k<=i) (hk:∀x∈(la.take i).drop k,∀y∈lb.take j,R y x):MJ R la lb (l++((la.take i).drop k).reverse) k j:=by
 have e:la.take i=la.take k++(la.take i).drop k:=by
  conv=>lhs;rw[<-dz k (la.take i)]
  rw[take_take,min_eq_left hi]
 have hd:(la.take i).Pairwise R:=ha.take;rw[e,dy]at hd;have sub:∀x∈(la.take i).drop k,x∈la.take i:=fun x hx=>ir hx
 refine⟨?_,dy.mpr ⟨h.S7,List.pairwise_reverse.mpr hd.2.1,fun x hx y hy=>h.a x hx y (sub y (mem_reverse.mp hy))⟩,fun x hx y hy=>?_,fun x hx y hy=>?_⟩
 .have e2:la.drop k=(la.take i).drop k++la.drop i:=by
   conv=>lhs;rw[<-dz i la]
   rw[List.drop_append,fx]
   by_cases hl:i<=la.length
   .rw[min_eq_left hl,Nat.sub_eq_zero_of_le hi,gd]
   .rw[drop_eq_nil_of_le (as:=la) (i:=i) (by omega),List.drop_nil]
  rw[e2,de];refine(kh).trans ?_;exact(List.reverse_perm _).append h.perm
 .rcases bj.mp hx with hx|hx
  .exact h.a x hx y (by rw[e];exact il _ hy)
  .exact hd.2.2 y hy x (mem_reverse.mp hx)
 .rcases bj.mp hx with hx|hx
  .exact h.b x hx y hy
  .exact hk x (mem_reverse.mp hx) y hy
theorem MJ.one (h:MJ R la lb l (i+1) j) (ha:la.Pairwise R) (hx:la[i]? =some x) (hk:∀y∈lb.take j,R y x):MJ R la lb (l++[x]) i j:=by
 have e:(la.take (i+1)).drop i=[x]:=by
  rw[fm,hx,List.drop_append,drop_eq_nil_of_le (by rw[fx];omega),fx];have:=(af.mp hx).1;rw[min_eq_left (by omega),Nat.sub_self];rfl
 have:=h.more (k:=i) ha (ie i) (by rw[e];intro z hz;rw[bu.mp hz];exact hk);rw[e]at this;exact this
theorem MJ.fin (h:MJ R la lb l i j) (ha:la.Pairwise R) (hb:lb.Pairwise R) (hk:∀x∈la.take i,∀y∈lb.take j,R x y):(la.take i++lb.take j++l.reverse).Perm (la++lb)/\(la.take i++lb.take j++l.reverse).Pairwise R:=by
 refine⟨?_,?_⟩
 .have e1:(la++lb).Perm ((la.take i++lb.take j)++(la.drop i++lb.drop j)):=by
   conv=>lhs;rw[<-dz i la,<-dz j lb]
   rw[de,de];refine jn _ ?_;rw[<-de,<-de];exact perm_append_comm.append_right _
  exact(jn _ ((List.reverse_perm l).trans h.perm)).trans e1.symm
 .refine dy.mpr ⟨dy.mpr ⟨ha.take,hb.take,hk⟩,List.pairwise_reverse.mpr h.S7,fun x hx y hy=>?_⟩;have hy:=mem_reverse.mp hy;rcases bj.mp hx with hx|hx
  .exact h.a y hy x hx
  .exact h.b y hy x hx
end
section
variable {c:Tc} {κ:SortKind} {O:KeyOrd} {key:Nat->O.α} {f:Nat->Keyed} {n mg:Nat} {arr:Array Keyed} {pend:Array (Nat×Nat×Nat)}
theorem yF (hs:l.Pairwise (kO O key)) (h:l[i]? =some y) (hx:kO O key y x):∀z∈l.take (i+1),kO O key z x:=by
 have ht:(l.take (i+1)).Pairwise (kO O key):=hs.take;rw[fm,h]at ht⊢
 intro z hz;rcases bj.mp hz with hz|hz
 .exact lH ((dy.mp ht).2.2 z hz y (by simp)) hx
 .rw[show z=y by simpa using hz];exact hx
theorem F3 (i k:Nat):((im f l).extract i k).reverse=im f ((l.take k).drop i).reverse:=by rw[i7,CZ]
theorem VN {Q:Array Keyed->SortSt->Prop} (C:Cm c κ O key f n) (ha:la.Pairwise (kO O key)) (hb:lb.Pairwise (kO O key)) (na:∀i∈la,i<n) (nb:∀i∈lb,i<n) (a0:0<la.length) (b0:0<lb.length)
  (h0:∀y,lb[0]? =some y->∀x∈la,kO O key y x) (hl:∀x∈la.drop (la.length - 1),∀y∈lb,kO O key y x) (q:∀l mg',l.Perm (la++lb)->l.Pairwise (kO O key)->Q (im f l) (sS κ arr pend mg')):TW c (mHi (im f la) (im f lb)) Q (sS κ arr pend mg):=by
 have gb:∀i,i<lb.length->∀{G:Prop},(∀y,lb[i]? =some y->(im f lb)[i]? =some (f y)->y<n->G)->G:=fun i hi G k=>k lb[i] (ag hi) (by rw[nV,ag hi];rfl) (nb _ (je hi))
 have ga:∀i,i<la.length->∀{G:Prop},(∀y,la[i]? =some y->(im f la)[i]? =some (f y)->y<n->G)->G:=fun i hi G k=>k la[i] (ag hi) (by rw[nV,ag hi];rfl) (na _ (je hi))
 have dn:∀l i j,MJ (kO O key) la lb l i j->(i=0\/ j=0)->∀mg',Q ((im f la).extract 0 i++(im f lb).extract 0 j++(im f l).reverse) (sS κ arr pend mg'):=fun l i j m h mg'=>by
  rw[i7,i7,gd,gd,CZ,gM,gM];obtain⟨p1,p2⟩:=m.fin ha hb fun x hx y hy=>by
   rcases h with h|h
   .rw[h]at hx;simp at hx
   .rw[h]at hy;simp at hy
  exact q _ _ p1 p2
 have lt:∀l i j,MJ (kO O key) la lb l i j->j=1->∀mg',Q ((im f lb).extract 0 j++(im f la).extract 0 i++(im f l).reverse) (sS κ arr pend mg'):=fun l i j m h mg'=>by
  rw[i7,i7,gd,gd,CZ,gM,gM];obtain⟨p1,p2⟩:=m.swap.fin hb ha fun x hx y hy=>by
   refine gb 0 b0 fun z ez _ _=>?_
   rw[h,fm,ez]at hx;rw[show x=z by simpa using hx];exact h0 z ez y (dc hy)
  exact q _ _ (p1.trans kh) p2
 refine ga (la.length - 1) (by omega) fun x0 e0 e1 x0n=>?_
 have m0:MJ (kO O key) la lb [x0] (la.length - 1) lb.length:=by
  have hm:x0∈la.drop (la.length - 1):=by
   rw[du (by omega)];rw[ag (by omega)]at e0;rw[Option.some.inj e0];exact ba
  refine(MJ.one (l:=[]) (i:=la.length - 1) ⟨?_,.nil,fun _ h=>(nomatch h),fun _ h=>(nomatch h)⟩ ha e0 fun y hy=>hl x0 hm y (dc hy));rw[show la.length - 1+1=la.length by omega,drop_length,drop_length];exact .nil
 refine aI (mK (aI (vA (x:=f x0) (by rw[bG];exact e1) ?_)));rw[bG,bG];refine aY (fun r1=>?_) fun r1=>aY (fun r2=>?_) fun r2=>?_
 .exact aH (dn _ _ _ m0 (.inl (eq_of_beq r1)) _)
 .exact aH (lt _ _ _ m0 (eq_of_beq r2) _)
 rw[dm]at r1 r2;refine aI (fD ?_);refine aI (fP (fun i (z:Option (Array Keyed)×Nat×Nat×Array Keyed×Nat) st'=>z.1=none/\(∃mg',st'=sS κ arr pend mg')/\(∃l,z.2.2.2.1=im f l/\MJ (kO O key) la lb l z.2.1 z.2.2.1)/\0<z.2.1/\1<z.2.2.1/\z.2.1<=la.length/\z.2.2.1<=lb.length/\i+z.2.1+z.2.2.1<la.length+lb.length) ⟨rfl,⟨_,rfl⟩,⟨_,S9 _,m0⟩,by dsimp only;omega,by dsimp only;omega,by dsimp only;omega,by dsimp only;omega,by dsimp only;omega⟩ (dj _) ?_ ?_)
 .refine fun i=>pr5 fun r p t out g st' hi h=>elA h fun e1 mg' e2 l eo m h=>?_
  have h1:=h.1;have h2:=h.2.1;have h3:=h.2.2.1;have h4:=h.2.2.2.1;have h5:=h.2.2.2.2;clear h;dsimp only at e1 eo m h1 h2 h3 h4 h5;subst e1 e2;subst eo;refine aI (eF (R:=fun(z:Option (Array Keyed)×Nat×Nat×Array Keyed×Nat×Nat) st'=>(∃mg',st'=sS κ arr pend mg')/\((∃X,z.1=some X/\Q X st')\/ (z.1=none/\(∃l,z.2.2.2.1=im f l/\MJ (kO O key) la lb l z.2.1 z.2.2.1)/\0<z.2.1/\1<z.2.2.1/\z.2.1<=la.length/\z.2.2.1<=lb.length/\i+1+z.2.1+z.2.2.1<la.length+lb.length)))
   (rD (fun j (z:Option (Array Keyed)×Nat×Nat×Array Keyed×Nat×Nat) st'=>z.1=none/\st'=sS κ arr pend mg'/\(∃l,z.2.2.2.1=im f l/\MJ (kO O key) la lb l z.2.1 z.2.2.1)/\0<z.2.1/\1<z.2.2.1/\z.2.1<=la.length/\z.2.2.1<=lb.length/\i+j+z.2.1+z.2.2.1<la.length+lb.length) ⟨rfl,rfl,⟨l,rfl,m⟩,h1,h2,h3,h4,h5⟩ (dj _) ?_ ?_) ?_)
  .clear h1 h2 h3 h4 h5 m;refine fun j=>pr6 fun r p t out ac bc st' hj h R hy hd=>elB h fun e1 e2 l eo m h=>?_
   have h1:=h.1;have h2:=h.2.1;have h3:=h.2.2.1;have h4:=h.2.2.2.1;have h5:=h.2.2.2.2;clear h;dsimp only at e1 eo m h1 h2 h3 h4 h5;subst e1 e2;subst eo;obtain⟨p,rfl⟩:∃z,p=z+1:=⟨p - 1,by omega⟩;obtain⟨t,rfl⟩:∃z,t=z+1:=⟨t - 1,by omega⟩;refine gb t (by omega) fun y ey eb yn=>?_
   refine ga p (by omega) fun x ex ea xn=>?_
   refine MR (i:=t+1 - 1) (j:=p+1 - 1) C eb ea yn xn ?_;cases e:O.blt (key y) (key x)with
   | true=>
    have m':=m.one ha ex (yF hb ey (GZ e));refine t7 (i:=p+1 - 1) ea (aY (fun r1=>?_) fun r1=>?_)
    .have:=dn _ _ _ m' (.inl (eq_of_beq r1));rw[<-eI]at this;exact aH (hd _ _ ⟨⟨_,rfl⟩,.inl ⟨_,rfl,this _⟩⟩)
    .rw[dm]at r1;refine aY (fun _=>aH (hd _ _ ⟨⟨_,rfl⟩,.inr ⟨rfl,⟨_,eI x,m'⟩,?_,h2,?_,h4,?_⟩⟩)) fun _=>aH (hy _ _ ⟨rfl,rfl,⟨_,eI x,m'⟩,?_,h2,?_,h4,?_⟩)
     all_goals(dsimp only at r1⊢;omega)
   | false=>
    have m':=(m.swap.one hb ey (yF ha ex e)).swap;refine t7 (i:=t+1 - 1) eb (aY (fun r1=>?_) fun r1=>?_)
    .have:=lt _ _ _ m' (eq_of_beq r1);rw[<-eI]at this;exact aH (hd _ _ ⟨⟨_,rfl⟩,.inl ⟨_,rfl,this _⟩⟩)
    .rw[dm]at r1;refine aY (fun _=>aH (hd _ _ ⟨⟨_,rfl⟩,.inr ⟨rfl,⟨_,eI y,m'⟩,h1,?_,h3,?_,?_⟩⟩)) fun _=>aH (hy _ _ ⟨rfl,rfl,⟨_,eI y,m'⟩,h1,?_,h3,?_,?_⟩)
     all_goals(dsimp only at r1⊢;omega)
  .rintro⟨r,p,t,out,ac,bc⟩ st' ⟨e1,e2,⟨l,e3,m⟩,h1,h2,h3,h4,h5⟩;dsimp only at h1 h2 h3 h4 h5;omega
  .clear h1 h2 h3 h4 h5 m;refine pr6 fun r p t out ac bc st' h=>elC h (fun mg' e2 X h=>?_) fun mg' e2 e1 l eo m h=>?_
   .have e1:=h.1;have hX:=h.2;clear h;dsimp only at e1;subst e1;exact aH (aH hX)
   .have h1:=h.1;have h2:=h.2.1;have h3:=h.2.2.1;have h4:=h.2.2.2.1;have h5:=h.2.2.2.2;clear h;dsimp only at e1 eo m h1 h2 h3 h4 h5;subst e1 e2;subst eo;refine aI (mK ?_);refine aI (eF (R:=fun(z:Option (Array Keyed)×Nat×Nat×Array Keyed×Nat×Nat×Nat) st'=>(∃mg',st'=sS κ arr pend mg')/\((∃X,z.1=some X/\Q X st')\/ (z.1=none/\(∃l,z.2.2.2.1=im f l/\MJ (kO O key) la lb l z.2.1 z.2.2.1)/\0<z.2.1/\1<z.2.2.1/\z.2.1<=la.length/\z.2.2.1<=lb.length/\i+1+z.2.1+z.2.2.1<la.length+lb.length)))
     (rD (fun j (z:Option (Array Keyed)×Nat×Nat×Array Keyed×Nat×Nat×Nat) st'=>z.1=none/\(∃mg',st'=sS κ arr pend mg')/\(∃l,z.2.2.2.1=im f l/\MJ (kO O key) la lb l z.2.1 z.2.2.1)/\0<z.2.1/\1<z.2.2.1/\z.2.1<=la.length/\z.2.2.1<=lb.length/\i+1+j+z.2.1+z.2.2.1<la.length+lb.length) ⟨rfl,⟨_,rfl⟩,⟨l,rfl,m⟩,h1,h2,h3,h4,h5⟩ (dj _) ?_ ?_) ?_)
    .clear h1 h2 h3 h4 h5 m;refine fun j=>pr7 fun r p t out g ac bc st' hj h R hy hd=>elA h fun e1 mg' e2 l eo m h=>?_
     have h1:=h.1;have h2:=h.2.1;have h3:=h.2.2.1;have h4:=h.2.2.2.1;have h5:=h.2.2.2.2;clear h;dsimp only at e1 eo m h1 h2 h3 h4 h5;subst e1 e2;clear hj;obtain⟨t,rfl⟩:∃z,t=z+1:=⟨t - 1,by omega⟩;refine gb t (by omega) fun y ey eb yn=>?_
     extract_lets s1 na1 s2 nb1 s3 out1 s4 g1 s5 ac1 bc1 b2 jp g2
     refine LA fun g=>?_
     refine Y6 (G9 (i:=t+1 - 1) (l:=la) (x:=y) (base:=0) (m:=p) (j:=p - 1) eb C na yn ha.drop.take (by omega) (by omega) fun k hk p1 p2=>?_);rw[gd]at p1 p2;have m1:=m.more (k:=k) ha hk fun x hx=>yF hb ey (p2 x hx)
     dsimp(config:={zeta:=false}) only
     extract_lets k2 ac2 jp2 out3 na3
     refine uG (jp:=jp2 ()) (φ:=fun k out=>(∃l,out=im f l/\MJ (kO O key) la lb l k (t+1))/\0<k/\k<=la.length/\(∀z∈la.take k,kO O key z y)/\i+1+j+k+(t+1)<la.length+lb.length) (fun H=>?_) ?_
     .refine aY (fun k0=>?_) fun k0=>?_
      .have eo3:out3=im f (l++((la.take p).drop k).reverse):=(cw (·++((im f la).extract k p).reverse) eo).trans ((cw (_++·) (F3 _ _)).trans gM)
       clear_value jp2 out3
       refine aY (fun r1=>?_) fun r1=>?_
       .have:=dn _ _ _ m1 (.inl (eq_of_beq r1));rw[<-eo3]at this;exact aH (hd _ _ ⟨⟨_,rfl⟩,.inl ⟨_,rfl,this _⟩⟩)
       .rw[dm]at r1;exact H k _ ⟨⟨_,eo3,m1⟩,Nat.pos_of_ne_zero r1,by omega,p1,by omega⟩
      .have k0:¬p - k>0:=k0;obtain rfl:k=p:=by omega
       exact H k out ⟨⟨_,eo,m⟩,h1,h3,p1,h5⟩
     clear eo m h1 h3 h5 p1 p2 hk m1
     clear_value ac2 na1 out1 ac1
     rintro p out ⟨⟨l,eo,m⟩,h1,h3,p1,h5⟩;have m2:=(m.swap.one hb ey p1).swap;have eo2:=(cw (fun z=>Array.push z (f y)) eo).trans (eI y);refine t7 (i:=t+1 - 1) eb (aY (fun r1=>?_) fun r1=>?_)
     .have:=lt _ _ _ m2 (eq_of_beq r1);rw[<-eo2]at this;exact aH (hd _ _ ⟨⟨_,rfl⟩,.inl ⟨_,rfl,this _⟩⟩)
     rw[dm]at r1;have g2:1<t:=by have r1:¬t=1:=r1;omega
     obtain⟨u,rfl⟩:∃z,p=z+1:=⟨p - 1,by omega⟩;refine ga u (by omega) fun x ex ea xn=>?_
     refine G9 (i:=u+1 - 1) (l:=lb) (x:=x) (base:=0) (m:=t) (j:=t - 1) ea C nb xn hb.drop.take (by omega) (by omega) fun k2 hk2 p4 p5=>?_
     rw[gd]at p4 p5;have m3:=(m2.swap.more (k:=k2) hb hk2 fun z hz=>yF ha ex (p5 z hz)).swap;dsimp(config:={zeta:=false}) only
     extract_lets k3 bc2 na5 jp3 o5 b5
     refine uG (jp:=jp3 ()) (φ:=fun k out=>(∃l,out=im f l/\MJ (kO O key) la lb l (u+1) k)/\1<k/\k<=lb.length/\(∀z∈lb.take k,kO O key z x)/\i+1+j+(u+1)+k+1<la.length+lb.length) (fun H=>?_) ?_
     .refine aY (fun k0=>?_) fun k0=>?_
      .have eo3:o5=im f (l++[y]++((lb.take t).drop k2).reverse):=(cw (·++((im f lb).extract k2 t).reverse) eo2).trans ((cw (_++·) (F3 _ _)).trans gM)
       clear_value jp3 o5
       refine aY (fun r2=>?_) fun r2=>aY (fun r3=>?_) fun r3=>?_
       .have:=lt _ _ _ m3 (eq_of_beq r2);rw[<-eo3]at this;exact aH (hd _ _ ⟨⟨_,rfl⟩,.inl ⟨_,rfl,this _⟩⟩)
       .have:=dn _ _ _ m3 (.inr (eq_of_beq r3));rw[<-eo3]at this;exact aH (hd _ _ ⟨⟨_,rfl⟩,.inl ⟨_,rfl,this _⟩⟩)
       .rw[dm]at r2 r3;have r2:¬k2=1:=r2;have r3:¬k2=0:=r3;exact H k2 _ ⟨⟨_,eo3,m3⟩,by omega,by omega,p4,by omega⟩
      .have k0:¬t - k2>0:=k0;obtain rfl:k2=t:=by omega
       exact H k2 _ ⟨⟨_,eo2,m2⟩,g2,by omega,p4,by omega⟩
     clear eo eo2 m m2 m3 h5 p1 p4 p5 hk2 r1;rintro t' out ⟨⟨l,eo,m⟩,g3,g4,p6,g5⟩;have m4:=m.one ha ex p6;have eo4:=(cw (fun z=>Array.push z (f x)) eo).trans (eI x);refine t7 (i:=u+1 - 1) ea (aY (fun r3=>?_) fun r3=>?_)
     .have:=dn _ _ _ m4 (.inl (eq_of_beq r3));rw[<-eo4]at this;exact aH (hd _ _ ⟨⟨_,rfl⟩,.inl ⟨_,rfl,this _⟩⟩)
     .rw[dm]at r3;have r3:0<u:=Nat.pos_of_ne_zero r3;exact aY (fun _=>aH (hd _ _ ⟨⟨_,rfl⟩,.inr ⟨rfl,⟨_,eo4,m4⟩,r3,g3,Nat.le_of_succ_le h3,g4,by dsimp only;omega⟩⟩)) fun _=>aH (hy _ _ ⟨rfl,⟨_,rfl⟩,⟨_,eo4,m4⟩,r3,g3,Nat.le_of_succ_le h3,g4,by dsimp only;omega⟩)
    .rintro⟨r,p,t,out,g,ac,bc⟩ st' ⟨e1,⟨mg',e2⟩,⟨l,e3,m⟩,h1,h2,h3,h4,h5⟩;dsimp only at h1 h2 h3 h4 h5;omega
    .rintro⟨r,p,t,out,g,ac,bc⟩ st' ⟨⟨mg',rfl⟩,⟨X,e1,hX⟩|⟨e1,⟨l,e2,m⟩,h1,h2,h3,h4,h5⟩⟩
     .dsimp only at e1;subst e1;exact aH (aH hX)
     .dsimp only at e1 e2 m h1 h2 h3 h4 h5;subst e1 e2;exact aI (iM (aH ⟨rfl,⟨_,rfl⟩,⟨l,rfl,m⟩,h1,h2,h3,h4,h5⟩))
 .rintro⟨r,p,t,out,g⟩ st' ⟨e1,⟨mg',e2⟩,⟨l,e3,m⟩,h1,h2,h3,h4,h5⟩;dsimp only at h1 h2 h3 h4 h5;omega
end
section
variable {c:Tc} {κ:SortKind} {O:KeyOrd} {key:Nat->O.α} {f:Nat->Keyed} {n mg lo:Nat} {pend:Array (Nat×Nat×Nat)} {p:Array Nat}
def Up (O:KeyOrd) (key:Nat->O.α) (p:Array Nat) (a b:Nat):Prop:=∀i j,a<=i->i<=j->j<b->O.kle (Ky O key p i) (Ky O key p j)
def Dw (O:KeyOrd) (key:Nat->O.α) (p:Array Nat) (a b:Nat):Prop:=∀i j,a<=i->i<=j->j<b->O.kle (Ky O key p j) (Ky O key p i)
theorem Up.more {a b:Nat} (h:Up O key p a b) (hb:a<b) (hl:O.kle (Ky O key p (b - 1)) (Ky O key p b)):Up O key p a (b+1):=by
 intro i j h1 h2 h3
 by_cases e:j<b
 .exact h i j h1 h2 e
 .obtain rfl:j=b:=by omega
  by_cases e2:i=j
  .subst e2;exact gu _
  .exact km (h i (j - 1) h1 (by omega) (by omega)) hl
theorem Dw.more {a b:Nat} (h:Dw O key p a b) (hb:a<b) (hl:O.kle (Ky O key p b) (Ky O key p (b - 1))):Dw O key p a (b+1):=by
 intro i j h1 h2 h3
 by_cases e:j<b
 .exact h i j h1 h2 e
 .obtain rfl:j=b:=by omega
  by_cases e2:i=j
  .subst e2;exact gu _
  .exact km hl (h i (j - 1) h1 (by omega) (by omega))
noncomputable abbrev sP (κ:SortKind) (f:Nat->Keyed) (p:Array Nat) (pend:Array (Nat×Nat×Nat)) (mg:Nat):SortSt:=sS κ (p.map f) pend mg
theorem mU.size {n:Nat} {p:Array Nat} (h:mU n p):p.size=n:=by have:=h.size_eq;simpa using this
theorem xO (C:Cm c κ O key f n) (hp:mU n p) (hi:i<n) (hj:j<n) {Q:Option Bool->SortSt->Prop} (q:Q (some (O.blt (Ky O key p i) (Ky O key p j))) (sP κ f p pend mg)):TW c (ltAt' i j) Q (sP κ f p pend mg):=by
 have h0:0<n:=by omega
 have e:∀i,i<n->(p.map f)[i]? =some (f (p.getD i 0)):=fun i hi=>by
  have:=hp.size;simp[Array.getD,this,hi]
 rw[ltAt'_eq];exact aI (fD (aI (vA (e i hi) (aI (vA (e j hj) (FZ C (hp.lt h0 i) (hp.lt h0 j) q))))))
theorem EY {Q:Unit->SortSt->Prop} (q:Q () (sP κ f (kas_rev p i j) pend mg)):TW c (reverseSlice' i j) Q (sP κ f p pend mg):=by
 rw[reverseSlice'_eq];refine iM ?_;have e:mirror (p.map f) i j ((j - i) / 2)=(kas_rev p i j).map f:=kas_swaps_map f _ _ _ _;show Q () (sS κ (mirror (p.map f) i j ((j - i) / 2)) pend mg);rw[e];exact q
theorem ZP {Q:Unit->SortSt->Prop} (q:Q () (sP κ f (bubble p i (i - j)) pend mg)):TW c (moveDown' i j) Q (sP κ f p pend mg):=by
 rw[moveDown'_eq];refine iM ?_;have e:bubble (p.map f) i (i - j)=(bubble p i (i - j)).map f:=kas_swaps_map f _ _ _ _;show Q () (sS κ (bubble (p.map f) i (i - j)) pend mg);rw[e];exact q
theorem BN {φ:Array Nat->Prop} {jp m:StateT SortSt Sem α} {Q:α->SortSt->Prop} {st:SortSt} (k:(∀p,φ p->TW c jp Q (sP κ f p pend mg))->TW c m Q st) (H:∀p,φ p->TW c jp Q (sP κ f p pend mg)):TW c m Q st:=k H
theorem uI (hj:j<=p.size) (hk:k<i):(kas_rev p i j)[k]? =p[k]?:=by
 have:=getElem?_mirror_all (xs:=p) (i:=i) hj k;rw[ai (by omega)]at this;exact this
theorem XD {a b:Nat} (hb:b<=p.size) (h:Dw O key p a b):Up O key (kas_rev p a b) a b:=by
 intro i j a1 a2 a3;rw[DP hb,DP hb,aj ⟨a1,by omega⟩,aj ⟨by omega,a3⟩];exact h _ _ (by omega) (by omega) (by omega)
theorem MW {a:Nat} {g:Nat->Option (Option Nat)×Nat->StateT SortSt Sem (ForInStep (Option (Option Nat)×Nat))} {Q:Option (Option Nat)×Nat->SortSt->Prop} (h1:1<=a) (ha:a<=nrem) (hu:Up O key p lo (lo+a))
  (hs:∀x m,1<=m->m<nrem->∀R:ForInStep (Option (Option Nat)×Nat)->SortSt->Prop,R (if O.blt (Ky O key p (lo+m)) (Ky O key p (lo+m - 1))=true then .done (none,m)else .yield (none,m+1)) (sP κ f p pend mg)->TW c (g x (none,m)) R (sP κ f p pend mg))
  (q:∀m,1<=m->m<=nrem->Up O key p lo (lo+m)->(m=nrem\/ O.blt (Ky O key p (lo+m)) (Ky O key p (lo+m - 1))=true)->Q (none,m) (sP κ f p pend mg)):TW c (forIn [a:nrem] (none,a) g) Q (sP κ f p pend mg):=by
 refine fP (fun i (z:Option (Option Nat)×Nat) st'=>st'=sP κ f p pend mg/\z.1=none/\z.2=i/\1<=i/\i<=nrem/\Up O key p lo (lo+i)) ⟨rfl,rfl,rfl,h1,ha,hu⟩ ha ?_ ?_
 .rintro i ⟨r,m⟩ st' hi ⟨rfl,rfl,e,h1,h2,h3⟩;dsimp only at e;subst e;refine hs _ m h1 hi _ ?_;cases e:O.blt (Ky O key p (lo+m)) (Ky O key p (lo+m - 1))with
  |true=>exact q m h1 h2 h3 (.inr e)
  |false=>exact⟨rfl,rfl,rfl,by omega,by omega,h3.more (by omega) e⟩
 .rintro⟨r,m⟩ st' ⟨rfl,rfl,e,h1,h2,h3⟩;dsimp only at e;subst e;exact q m h1 h2 h3 (.inl rfl)
theorem N5 (C:Cm c κ O key f n) (hp:mU n p) (hn:lo+nrem<=n) (h1:1<=nrem)
  (q:∀m p',1<=m->m<=nrem->mU n p'->(∀i,i<lo->p'[i]? =p[i]?)->Up O key p' lo (lo+m)->Q (some m) (sP κ f p' pend mg)):TW c (countRun' lo nrem) Q (sP κ f p pend mg):=by
 have sz:=hp.size;refine aI (MW (lo:=lo) (O:=O) (key:=key) (bf 1) h1 (fun i j a1 a2 a3=>by rw[show i=j by omega];exact gu _) (fun x m b1 b2 R r=>?_) fun m m1 m2 m3 m4=>?_)
 .refine aI (xO C hp (by omega) (by omega) ?_);exact aY (fun e=>aH (by rw[aj e]at r;exact r)) fun e=>aH (by rw[ai e]at r;exact r)
 .refine aY (fun e=>aH (q m p m1 m2 hp (fun _ _=>rfl) m3)) fun e=>?_
  rw[dm]at e;have e:m<nrem:=ke m2 e;have m4:=m4.resolve_left (cm e)
  extract_lets n2 z2 jp
  refine BN (κ:=κ) (f:=f) (pend:=pend) (mg:=mg) (jp:=jp ()) (φ:=fun p1=>mU n p1/\(∀i,i<lo->p1[i]? =p[i]?)/\Dw O key p1 lo (lo+(m+1))) (fun H=>?_) ?_
  .clear_value jp
   refine aY (fun g=>?_) fun g=>H p ⟨hp,fun _ _=>rfl,Dw.more (b:=lo+m) (fun i j a1 a2 a3=>by rw[show i=j by have g:¬m>1:=g;omega];exact gu _) (by omega) (KeyOrd.kle_of_klt m4)⟩
   refine aI (xO C hp (by omega) (by omega) (aY (fun _=>aH (q m p m1 m2 hp (fun _ _=>rfl) m3)) fun e2=>?_));rw[not_eq_true]at e2;have eq:∀k,lo<=k->k<lo+m->Ky O key p k=Ky O key p (lo+m - 1):=fun k k1 k2=>O.total _ _ (km e2 (m3 lo k (bf _) k1 k2)) (m3 k (lo+m - 1) k1 (by omega) (by omega))
   have ky:∀k,Ky O key (kas_rev p lo (lo+m)) k=Ky O key p k:=rF (by omega) eq;refine aI (EY (H _ ⟨hp.rev _ _,fun i hi=>uI (by omega) hi,Dw.more (b:=lo+m) (fun i j a1 a2 a3=>?_) (by omega) ?_⟩))
   .rw[ky,ky,eq i a1 (by omega),eq j (by omega) a3];exact gu _
   .rw[ky,ky];exact KeyOrd.kle_of_klt m4
  rintro p1 ⟨hp1,lw,dw⟩;clear m4 m3 sz;refine aI (mK ?_);refine aI (eF (R:=fun(z:Option (Option Nat)×Nat×Nat) st'=>z.1=none/\∃p',st'=sP κ f p' pend mg/\mU n p'/\(∀i,i<lo->p'[i]? =p[i]?)/\1<=z.2.1/\z.2.1<=nrem/\Dw O key p' lo (lo+z.2.1)/\z.2.2+1<=z.2.1/\∀k,lo+z.2.1 - (z.2.2+1)<=k->k<lo+z.2.1->Ky O key p' k=Ky O key p' (lo+z.2.1 - 1))
   (fP (fun i (z:Option (Option Nat)×Nat×Nat) st'=>z.2.1=i/\z.1=none/\∃p',st'=sP κ f p' pend mg/\mU n p'/\(∀i,i<lo->p'[i]? =p[i]?)/\1<=z.2.1/\z.2.1<=nrem/\Dw O key p' lo (lo+z.2.1)/\z.2.2+1<=z.2.1/\∀k,lo+z.2.1 - (z.2.2+1)<=k->k<lo+z.2.1->Ky O key p' k=Ky O key p' (lo+z.2.1 - 1))
    ⟨rfl,rfl,_,rfl,hp1,lw,le_add_left 1 m,e,dw,le_add_left 1 m,fun k k1 k2=>by rw[show k=lo+(m+1) - 1 by dsimp only at k1 k2;omega]⟩ e ?_ ?_) ?_)
  .clear dw lw hp1 e m1 m2;rintro i ⟨r,m,s⟩ st' hi ⟨e1,rfl,p',rfl,hp1,lw,g1,g2,dw,g3,eq⟩;dsimp only at e1 g1 g2 dw g3 eq;subst e1;have sz':=hp1.size;refine aI (xO (i:=lo+m) (j:=lo+m - 1) C hp1 (by omega) (by omega) (aY (fun e=>?_) fun e=>?_))
   .have dw':=Dw.more dw (by omega) (KeyOrd.kle_of_klt e);have e0:∀P:Array Nat,∀k,lo+(m+1) - (0+1)<=k->k<lo+(m+1)->Ky O key P k=Ky O key P (lo+(m+1) - 1):=fun P k k1 k2=>by rw[show k=lo+(m+1) - 1 by omega]
    refine aY (fun _=>aI (EY (i:=lo+m - (s+1)) (j:=lo+m) (aH ⟨rfl,rfl,_,rfl,hp1.rev _ _,fun i hi=>(uI (i:=lo+m - (s+1)) (j:=lo+m) (by omega) (by omega)).trans (lw i hi),le_add_left 1 m,hi,fun i j a1 a2 a3=>?_,le_add_left 1 m,e0 _⟩))) fun _=>aH ⟨rfl,rfl,_,rfl,hp1,lw,le_add_left 1 m,hi,dw',le_add_left 1 m,e0 _⟩
    rw[rF (by omega) eq,rF (by omega) eq];exact dw' i j a1 a2 a3
   .rw[not_eq_true]at e;refine aI (xO (i:=lo+m - 1) (j:=lo+m) C hp1 (by omega) (by omega) (aY (fun _=>aH ⟨rfl,_,rfl,hp1,lw,g1,g2,dw,g3,eq⟩) fun e'=>?_));rw[not_eq_true]at e';have ee:Ky O key p' (lo+m)=Ky O key p' (lo+m - 1):=O.total _ _ e e';refine aH ⟨rfl,rfl,_,rfl,hp1,lw,le_add_left 1 m,hi,Dw.more (b:=lo+m) dw (by omega) (by rw[ee];exact gu _),Nat.succ_le_succ g3,fun k k1 k2=>?_⟩;dsimp only at k1 k2⊢
    rw[show lo+(m+1) - 1=lo+m by omega,ee]
    by_cases ek:k=lo+m
    .rw[ek,ee]
    .exact eq k (by omega) (by omega)
  .rintro⟨r,m,s⟩ st' ⟨_,h⟩;exact h
  .clear dw lw hp1 e m1 m2;rintro⟨r,m,s⟩ st' ⟨e1,p',e2,hp1,lw,g1,g2,dw,g3,eq⟩;dsimp only at e1 g1 g2 dw g3 eq;subst e1 e2;have sz':=hp1.size;refine BN (κ:=κ) (f:=f) (pend:=pend) (mg:=mg) (φ:=fun p2=>mU n p2/\(∀i,i<lo->p2[i]? =p[i]?)/\Dw O key p2 lo (lo+m)) (fun H=>aY (fun _=>aI (EY (i:=lo+m - (s+1)) (j:=lo+m) (H _ ⟨hp1.rev _ _,fun i hi=>(uI (by omega) (by omega)).trans (lw i hi),fun i j a1 a2 a3=>by rw[rF (by omega) eq,rF (by omega) eq];exact dw i j a1 a2 a3⟩))) fun _=>H _ ⟨hp1,lw,dw⟩) ?_;clear hp1 lw dw eq sz' g3;rintro p2 ⟨hp2,lw2,dw2⟩;have sz2:=hp2.size;refine aI (EY (i:=lo) (j:=lo+m) (aI (MW (lo:=lo) (a:=m) (O:=O) (key:=key) g1 g2 (XD (by omega) dw2) (fun x m' b1 b2 R r=>?_) fun m' b1 b2 b3 b4=>aH (q m' _ b1 b2 (hp2.rev _ _) (fun i hi=>(uI (i:=lo) (j:=lo+m) (by omega) hi).trans (lw2 i hi)) b3))));refine aI (xO (i:=lo+m') (j:=lo+m' - 1) C (hp2.rev _ _) (by omega) (by omega) ?_);exact aY (fun e=>aH (by rw[aj e]at r;exact r)) fun e=>aH (by rw[ai e]at r;exact r)
theorem WU {s t:Nat} (ht:t<p.size) (hs:s<=t) (hl:lo<=s) (up:Up O key p lo t) (g2:∀i,lo<=i->i<s->O.kle (Ky O key p i) (Ky O key p t)) (g3:∀i,s<=i->i<t->O.kle (Ky O key p t) (Ky O key p i)):Up O key (bubble p t (t - s)) lo (t+1):=by
 have e:∀i,Ky O key (bubble p t (t - s)) i=if i=s then Ky O key p t else if s<i/\i<=t then Ky O key p (i - 1)else Ky O key p i:=fun i=>by
  rw[XM ht (Nat.sub_le _ _),Nat.sub_sub_self hs]
 clear ht;intro i j a1 a2 a3;have a3:=Nat.le_of_lt_succ a3;have ki:=e i;have kj:=e j;clear e;rw[ki,kj];clear ki kj
 by_cases cj:j=s
 .rw[aj (c:=j=s) cj]
  by_cases ci:i=s
  .rw[aj ci];exact gu _
  .have h:=ke (cj▸a2) ci;rw[ai ci,ai fun z=>Nat.lt_asymm h z.1];exact g2 i a1 h
 .rw[ai (c:=j=s) cj]
  by_cases cj2:s<j
  .rw[aj (c:=s<j/\j<=t) ⟨cj2,a3⟩];have h1:=Nat.le_sub_one_of_lt cj2;have h3:j - 1<t:=cq (Nat.sub_one_lt (kg (Nat.lt_of_le_of_lt (dj _) cj2))) a3
   by_cases ci:i=s
   .rw[aj ci];exact g3 _ h1 h3
   .rw[ai ci]
    by_cases ci2:s<i
    .rw[aj ⟨ci2,fj a2 a3⟩];exact up _ _ (fj hl (Nat.le_sub_one_of_lt ci2)) (Nat.sub_le_sub_right a2 1) h3
    .rw[ai fun z=>ci2 z.1];exact up i _ a1 (fj (le_of_not_lt ci2) h1) h3
  .have h:=ke (le_of_not_lt cj2) cj;have h2:=Nat.lt_of_le_of_lt a2 h;rw[ai (c:=s<j/\j<=t) fun z=>cj2 z.1,ai (c:=i=s) (cm h2),ai (c:=s<i/\i<=t) fun z=>Nat.lt_asymm h2 z.1];exact up i j a1 a2 (cq h hs)
theorem M0 {ok:Nat} {Q:Bool->SortSt->Prop} (C:Cm c κ O key f n) (hp:mU n p) (hn:lo+m<=n) (h1:1<=ok) (bQ:ok<=m) (hu:Up O key p lo (lo+ok))
  (q:∀p',mU n p'->(∀i,i<lo->p'[i]? =p[i]?)->Up O key p' lo (lo+m)->Q true (sP κ f p' pend mg)):TW c (binarySort' lo m ok) Q (sP κ f p pend mg):=by
 refine aI (fP (fun k (z:Option Bool×Unit) st'=>z.1=none/\∃p',st'=sP κ f p' pend mg/\mU n p'/\(∀i,i<lo->p'[i]? =p[i]?)/\Up O key p' lo (lo+k)) ⟨rfl,p,rfl,hp,fun _ _=>rfl,by rw[Nat.max_eq_left h1];exact hu⟩ (by rw[Nat.max_eq_left h1];exact bQ) ?_ ?_)
 .clear h1 bQ hu hp q;rintro k ⟨r,u⟩ st' hk ⟨e1,p',rfl,hp',lw,up⟩;have hkn:lo+k<n:=cq (Nat.add_lt_add_left hk lo) hn;clear hn;refine aI (eF (R:=fun(z:Option Bool×Nat×Nat) st'=>z.1=none/\st'=sP κ f p' pend mg/\z.2.1<=k/\(∀i,lo<=i->i<lo+z.2.1->O.kle (Ky O key p' i) (Ky O key p' (lo+k)))/\∀i,lo+z.2.1<=i->i<lo+k->O.kle (Ky O key p' (lo+k)) (Ky O key p' i))
   (fP (fun x (z:Option Bool×Nat×Nat) st'=>z.1=none/\st'=sP κ f p' pend mg/\z.2.1<=z.2.2/\z.2.2<=k/\z.2.2+x<=z.2.1+k/\(∀i,lo<=i->i<lo+z.2.1->O.kle (Ky O key p' i) (Ky O key p' (lo+k)))/\∀i,lo+z.2.2<=i->i<lo+k->O.kle (Ky O key p' (lo+k)) (Ky O key p' i))
    ⟨rfl,rfl,dj _,bf _,le_of_eq (Nat.add_comm k 0),fun i a b=>absurd b (Nat.not_lt.mpr a),fun i a b=>absurd b (Nat.not_lt.mpr a)⟩ (dj _) ?_ ?_) ?_)
  .rintro x ⟨r,l,t⟩ st' hx ⟨rfl,rfl,g1,g2,g3,g4,g5⟩;dsimp only at g1 g2 g3 g4 g5;refine aY (fun e=>aH ⟨rfl,rfl,fj g1 g2,g4,fun i a b=>g5 i (fj (ku e lo) a) b⟩) fun e=>?_
   have e:l<t:=Nat.lt_of_not_le e;have hm:l<=(l+t) / 2/\(l+t) / 2<t:=by clear g1 g2 g3 g4 g5 hx hkn hk;omega
   refine aI (xO (i:=lo+k) (j:=lo+(l+t) / 2) C hp' hkn (lt_trans (Nat.add_lt_add_left (cq hm.2 g2) lo) hkn) ?_);generalize(l+t) / 2=w at hm;have hw:lo+w<lo+k:=Nat.add_lt_add_left (cq hm.2 g2) lo;refine aY (fun b=>aH ⟨rfl,rfl,hm.1,fj (gq hm.2) g2,by dsimp only;omega,g4,fun i a1 a2=>?_⟩) fun b=>aH ⟨rfl,rfl,hm.2,g2,by dsimp only;omega,fun i a0 (a1:i<lo+(w+1))=>?_,g5⟩
   .exact km (KeyOrd.kle_of_klt b) (up _ _ (le_add_right _ _) a1 a2)
   .rw[not_eq_true]at b;exact km (up i (lo+w) a0 (Nat.le_of_lt_succ a1) hw) b
  .rintro⟨r,l,t⟩ st' ⟨rfl,rfl,g1,g2,g3,g4,g5⟩;dsimp only at g1 g2 g3 g4 g5;exact⟨rfl,rfl,fj g1 g2,g4,fun i (a1:lo+l<=i) a2=>g5 i (fj (ku (Nat.le_of_add_le_add_right g3) lo) a1) a2⟩
  .rintro⟨r,l,t⟩ st' ⟨e2,e3,g1,g2,g3⟩;dsimp only at e2 g1 g2 g3;subst e2 e3;have sz:=hp'.size;refine aI (ZP (i:=lo+k) (j:=lo+l) (aH ⟨rfl,_,rfl,hp'.bub _ _,fun i hi=>?_,WU (sz▸hkn) (ku g1 lo) (le_add_right _ _) up g2 g3⟩));have:=getElem?_bubble (xs:=p') (src:=lo+k) (sz▸hkn) (lo+k - (lo+l)) (Nat.sub_le _ _) i;rw[Nat.sub_sub_self (ku g1 lo),ai (cm (cq hi (le_add_right _ _))),ai fun z=>jf _ (cq (lt_trans z.1 hi) (le_add_right _ _))]at this;exact this.trans (lw i hi)
 .rintro⟨r,u⟩ st' ⟨e1,p',rfl,hp',lw,up⟩;dsimp only at e1;subst e1;exact aH (q p' hp' lw up)
end
section
variable {c:Tc} {κ:SortKind} {O:KeyOrd} {key:Nat->O.α} {f:Nat->Keyed} {n mg:Nat} {pend:Array (Nat×Nat×Nat)} {p:Array Nat}
theorem V9 {s' st:SortSt} {Q:PUnit->SortSt->Prop} (h:Q ⟨⟩ s'):TW c (set s') Q st:=iM (f:=fun _=>s') h
theorem F2 {sa:Nat}:∀(ps:List Keyed) (k:Nat) (arr:Array Keyed),sa+k+ps.length<=arr.size->∀i,((ps.zipIdx k).foldl (fun a (x:Keyed×Nat)=>a.setIfInBounds (sa+x.2) x.1) arr)[i]? =if sa+k<=i/\i<sa+k+ps.length then ps[i - (sa+k)]? else arr[i]?
 |[],k,arr,_,i=>by rw[List.zipIdx_nil,List.foldl_nil,ai (by rw[length_nil];omega)]
 | x::ps,k,arr,h,i=>by
  rw[length_cons]at h⊢
  rw[List.zipIdx_cons,foldl_cons,F2 ps (k+1) _ (by rw[Array.size_setIfInBounds];omega) i,Array.getElem?_setIfInBounds]
  by_cases e:sa+k=i
  .subst e;rw[ai (by omega),aj rfl,aj (by omega),aj (by omega),Nat.sub_self];rfl
  .rw[ai e]
   by_cases e2:sa+(k+1)<=i/\i<sa+(k+1)+ps.length
   .rw[aj e2,aj (by omega),show i - (sa+k)=(i - (sa+(k+1)))+1 by omega];rfl
   .rw[ai e2,ai (by omega)]
theorem XZ {lc m:List Nat} (h:m.length=lb.length):(im f m).toList.zipIdx.foldl (fun a (x:Keyed×Nat)=>a.setIfInBounds (la.length+x.2) x.1) (im f (la++lb++lc))=im f (la++m++lc):=by
 apply Array.ext_getElem?;intro i;have e:(im f m).toList=m.map f:=by unfold im;simp
 rw[e,F2 _ _ _ (by rw[bG,ah,bq,bq];omega),nV,nV,ah,Nat.add_zero]
 by_cases c1:la.length<=i/\i<la.length+m.length
 .rw[aj c1,aq,de,gi c1.1,gj (by omega)]
 .rw[ai c1];congr 1
  by_cases c2:i<la.length
  .rw[de,de,gj c2,gj c2]
  .rw[gi (by rw[bq];omega),gi (by rw[bq];omega),bq,bq,h]
theorem OR (f:Nat->Keyed) (p:Array Nat):p.map f=im f p.toList:=by unfold im;simp[<-toList_inj]
theorem Up.pw {a b:Nat} (h:Up O key p a b) (hb:b<=p.size):((p.toList.drop a).take (b - a)).Pairwise (kO O key):=by
 rw[ip];intro i j hi hj hij;have hj1:=cq hj (List.length_take_le _ _);have e:∀k,(hk':a+k<p.toList.length)->Ky O key p (a+k)=key (p.toList[a+k]):=fun k hk'=>by
  unfold Ky;rw[jm,<-lg,ag hk'];rfl
 have hb':a+j<b:=Nat.add_lt_of_lt_sub' hj1;have l:a+j<p.toList.length:=cq hb' (by rw[length_toList];exact hb);have:=h (a+i) (a+j) (le_add_right _ _) (ku (gq hij) _) hb';rw[e i (lt_trans (Nat.add_lt_add_left hij _) l),e j l]at this;rw[List.getElem_take,List.getElem_take,List.getElem_drop,List.getElem_drop];exact this
theorem UC {n1 n2 pw:Nat} {Q:Bool->SortSt->Prop} (C:Cm c κ O key f n) (hL:∀i∈L,i<n) (hl:L.length=n1+n2) (h1:0<n1) (h2:0<n2) (ha:(L.take n1).Pairwise (kO O key)) (hb:(L.drop n1).Pairwise (kO O key))
  (q:∀L' mg',L'.Perm L->L'.Pairwise (kO O key)->Q true (sS κ (im f L') #[(0,n1+n2,pw)] mg')):TW c (mergeAt' 0) Q (sS κ (im f L) #[(0,n1,pw),(n1,n2,0)] mg):=by
 have lb0:(L.drop n1).length=n2:=by rw[ff];omega
 have la0:(L.take n1).length=n1:=by rw[fx];omega
 have g:∀i,i<n1+n2->∃y,L[i]? =some y/\(im f L)[i]? =some (f y)/\y<n:=fun i hi=>⟨L[i],ag (by omega),by rw[nV,ag (by omega)];rfl,hL _ (je _)⟩
 obtain⟨y,ey,eb,yn⟩:=g n1 (by omega);obtain⟨x,ex,ea,xn⟩:=g (n1 - 1) (by omega);have eyb:(L.drop n1)[0]? =some y:=by rw[getElem?_drop];exact ey
 have exa:(L.take n1)[n1 - 1]? =some x:=by rw[iz,aj (by omega)];exact ex
 refine aI (fD ?_);refine aI (V9 ?_);have ep:((#[(0,n1,pw),(n1,n2,0)]:Array (Nat×Nat×Nat)).setIfInBounds 0 (0,n1+n2,pw)).eraseIdxIfInBounds (0+1)= #[(0,n1+n2,pw)]:=by
  unfold Array.eraseIdxIfInBounds;rw[dif_pos (by simp)];apply toList_inj.mp;simp
 show TW c _ _ (sS κ (im f L) (((#[(0,n1,pw),(n1,n2,0)]:Array (Nat×Nat×Nat)).setIfInBounds 0 (0,n1+n2,pw)).eraseIdxIfInBounds (0+1)) mg);rw[ep];refine aI (vA eb (aI ?_));refine V0 (l:=L) (x:=y) (base:=0) (m:=n1) (j:=0) C hL yn ha (by omega) h1 fun k hk p1 p2=>?_
 rw[gd]at p1 p2;have split1:L=L.take n1++L.drop n1:=(dz n1 L).symm;refine aY (fun e=>?_) fun e=>?_
 .have e:n1 - k=0:=eq_of_beq e;refine aH (q L _ (.refl _) ?_);rw[split1];refine dy.mpr ⟨ha,hb,fun u hu v hv=>xK hb eyb (p1 u (by rw[show k=n1 by omega];exact hu)) v (by rw[gd];exact hv)⟩
 rw[dm]at e;have e:¬n1 - k=0:=e;have kk:k+(n1 - k)=n1:=Nat.add_sub_cancel' hk;refine aI (vA (x:=f x) (by rw[gw,kk];exact ea) (aI ?_));refine V0 (l:=L) (x:=x) (base:=n1) (m:=n2) (j:=n2 - 1) C hL xn hb.take (by omega) (by omega) fun k2 hk2 p3 p4=>?_
 rw[eh (l:=L.drop n1) (by omega)]at p4;refine aY (fun e2=>?_) fun e2=>?_
 .have e2:k2=0:=eq_of_beq e2;rw[e2,gd]at p4;refine aH (q L _ (.refl _) ?_);rw[split1];refine dy.mpr ⟨ha,hb,fun u hu v hv=>yF ha exa (p4 v hv) u (by rw[show n1 - 1+1=n1 from Nat.sub_add_cancel h1,eh (by omega)];exact hu)⟩
 rw[dm]at e2;have e2:¬k2=0:=e2;have E1:(im f L).extract (0+k) n1=im f ((L.take n1).drop k):=by rw[i7,gw]
 have E2:(im f L).extract n1 (n1+k2)=im f ((L.drop n1).take k2):=EM _ _;have tk:(L.take n1).take k=L.take k:=by rw[take_take,min_eq_left hk]
 have key1:∀l mg',l.Perm ((L.take n1).drop k++(L.drop n1).take k2)->l.Pairwise (kO O key)->Q true (sS κ ((im f l).toList.zipIdx.foldl (fun a (x:Keyed×Nat)=>a.setIfInBounds (0+k+x.2) x.1) (im f L)) #[(0,n1+n2,pw)] mg'):=fun l mg' pm sr=>by
  have eL:L=L.take k++((L.take n1).drop k++(L.drop n1).take k2)++(L.drop n1).drop k2:=by
   conv=>lhs;rw[<-dz n1 L,<-dz k (L.take n1),<-dz k2 (L.drop n1),tk]
   simp only[de]
  have lk:(L.take k).length=k:=by rw[fx];omega
  have:=XZ (f:=f) (la:=L.take k) (lb:=(L.take n1).drop k++(L.drop n1).take k2) (lc:=(L.drop n1).drop k2) (m:=l) pm.length_eq;rw[<-eL,lk]at this;rw[gw,this];have inA:∀u∈(L.take n1).drop k,u∈L.take n1:=fun u hu=>ir hu
  have toX:∀u∈L.take n1,kO O key u x:=fun u hu=>yF ha exa (O.irrefl _) u (by rw[show n1 - 1+1=n1 from Nat.sub_add_cancel h1,eh (by omega)];exact hu)
  have fromY:∀v∈L.drop n1,kO O key y v:=fun v hv=>xK hb eyb (O.irrefl _) v (by rw[gd];exact hv)
  have sa:=ha;rw[<-dz k (L.take n1),tk,dy]at sa;have sb:=hb;rw[<-dz k2 (L.drop n1),dy]at sb;refine q _ _ ?_ ?_
  .conv=>rhs;rw[eL]
   exact(jn _ pm).append_right _
  .refine dy.mpr ⟨dy.mpr ⟨sa.1,sr,fun u hu v hv=>?_⟩,sb.2.1,fun u hu v hv=>?_⟩
   .rcases bj.mp (pm.mem_iff.mp hv)with hv|hv
    .exact sa.2.2 u hu v hv
    .exact lH (p1 u (by rw[take_take,min_eq_left hk]at*;exact hu)) (fromY v (dc hv))
   .rcases bj.mp hu with hu|hu
    .exact lH (toX u (by rw[<-tk]at hu;exact dc hu)) (p4 v hv)
    .rcases bj.mp (pm.mem_iff.mp hu)with hu|hu
     .exact lH (toX u (inA u hu)) (p4 v hv)
     .exact sb.2.2 u hu v hv
 have pre1:∀v,((L.drop n1).take k2)[0]? =some v->∀u∈(L.take n1).drop k,kO O key v u:=fun v hv u hu=>by
  rw[iz,aj (by omega),eyb]at hv;cases hv;exact p2 u hu
 have pre2:∀u∈((L.take n1).drop k).drop (((L.take n1).drop k).length - 1),∀v∈(L.drop n1).take k2,kO O key v u:=fun u hu v hv=>by
  have lk:((L.take n1).drop k).length=n1 - k:=by rw[ff,la0]
  rw[lk,drop_drop,show k+(n1 - k - 1)=n1 - 1 by rw[<-Nat.add_sub_assoc (Nat.pos_of_ne_zero e),kk],du (by omega),drop_eq_nil_of_le (by omega)]at hu;rw[ag (by omega)]at exa;rw[bu.mp hu,Option.some.inj exa];exact p3 v hv
 refine aY (fun _=>?_) fun _=>?_
 .refine aI (show TW c (mLo ((im f L).extract (0+k) n1) ((im f L).extract n1 (n1+k2))) _ _ from ?_);rw[E1,E2];exact VP C ha.drop hb.take (fun i hi=>hL i (dc (ir hi))) (fun i hi=>hL i (ir (dc hi))) (by rw[ff,la0];omega) (by rw[fx,lb0];omega) pre1 pre2 fun l mg' pm sr=>aI (iM (aI (fD (aH (key1 l mg' pm sr)))))
 .refine aI (show TW c (mHi ((im f L).extract (0+k) n1) ((im f L).extract n1 (n1+k2))) _ _ from ?_);rw[E1,E2];exact VN C ha.drop hb.take (fun i hi=>hL i (dc (ir hi))) (fun i hi=>hL i (ir (dc hi))) (by rw[ff,la0];omega) (by rw[fx,lb0];omega) pre1 pre2 fun l mg' pm sr=>aI (iM (aI (fD (aH (key1 l mg' pm sr)))))
theorem RJ {n:Nat} (h2:2<=n) (h:n<128):n<=2*minRun' n n 0/\1<=minRun' n n 0/\minRun' n n 0<=n:=
 (by decide+kernel:∀n:Fin 128,2<=n.1->n.1<=2*minRun' n.1 n.1 0/\1<=minRun' n.1 n.1 0/\minRun' n.1 n.1 0<=n.1) ⟨n,h⟩ h2
theorem pn {lo pw:Nat} (h:m=k):((#[(0,lo,0)]:Array (Nat×Nat×Nat)).modify (1 - 1) fun x=>(x.1,x.2.1,pw)).push (lo,m,0)= #[(0,lo,pw),(lo,k,0)]:=by
 subst h;apply toList_inj.mp;simp
theorem B5 {φ:Nat->Array Nat->Prop} {jp:Nat->StateT SortSt Sem α} {m:StateT SortSt Sem α} {Q:α->SortSt->Prop} {st:SortSt} (k:(∀m p,φ m p->TW c (jp m) Q (sP κ f p pend mg))->TW c m Q st) (H:∀m p,φ m p->TW c (jp m) Q (sP κ f p pend mg)):TW c m Q st:=k H
theorem V6 {Q:Unit->SortSt->Prop} (C:Cm c κ O key f n) (h2:2<=n) (h128:n<128) (hp:mU n p) (q:∀L st',L.Perm (List.range n)->L.Pairwise (kO O key)->arrOf st'=im f L->failedOf st'=none->Q () st'):TW c sortRuns' Q (sP κ f p #[] mg):=by
 refine aI (fD ?_)
 extract_lets size mr lo0
 obtain⟨r1,r2,r3⟩:n<=2*mr/\1<=mr/\mr<=n:=by
  have e:size=n:=by show(p.map f).size=n;rw[size_map,hp.size]
  have:=RJ h2 h128;rw[<-e]at this⊢
  exact this
 have e:size=n:=by show(p.map f).size=n;rw[size_map,hp.size]
 clear_value size mr
 subst e;refine aI (eF (R:=fun(z:Option Unit×Nat) st'=>z.1=none/\∃p',mU size p'/\((∃pw,Up O key p' 0 size/\st'=sP κ f p' #[(0,size,pw)] mg)\/ (∃n1 n2 pw,n1+n2=size/\1<=n1/\1<=n2/\Up O key p' 0 n1/\Up O key p' n1 size/\st'=sP κ f p' #[(0,n1,pw),(n1,n2,0)] mg)))
  (rD (fun i (z:Option Unit×Nat) st'=>z.1=none/\∃p',mU size p'/\((i=0/\z.2=0/\st'=sP κ f p' #[] mg)\/ (∃n1,i=1/\z.2=n1/\mr<=n1/\n1<=size/\Up O key p' 0 n1/\st'=sP κ f p' #[(0,n1,0)] mg)\/ (∃n1 n2 pw,z.2=size/\n1+n2=size/\1<=n1/\1<=n2/\Up O key p' 0 n1/\Up O key p' n1 size/\st'=sP κ f p' #[(0,n1,pw),(n1,n2,0)] mg)))
   ⟨rfl,p,hp,.inl ⟨rfl,rfl,rfl⟩⟩ (dj _) ?_ ?_) ?_)
 .clear hp h128 q;refine fun i=>pr2 fun r lo st' hi h R hy hd=>elD h (fun e1 p' hp' h=>?_) (fun e1 p' hp' h=>?_) fun e1 p' hp' h=>?_
  .have e2:=h.1;have e3:=h.2.1;have e4:=h.2.2;clear h;dsimp only at e1 e3;subst e1 e2 e3 e4;refine aY (fun e=>absurd e (Nat.not_le_of_lt hi)) fun _=>?_
   refine aI (N5 (lo:=0) C hp' (le_of_eq (gw _)) hi fun m p1 m1 m2 hp1 _ up=>?_);rw[gw]at up;dsimp(config:={zeta:=false}) only
   extract_lets n1 jp force n4
   refine B5 (κ:=κ) (f:=f) (pend:= #[]) (mg:=mg) (jp:=jp ()) (φ:=fun m p2=>mU size p2/\mr<=m/\m<=size/\Up O key p2 0 m) (fun H=>?_) ?_
   .clear_value jp
    refine aY (fun e=>?_) fun e=>H m p1 ⟨hp1,le_of_not_lt e,m2,up⟩
    have fo:force=mr:=Nat.min_eq_right r3;have e:m<mr:=e;exact aI (mK (aI (M0 (lo:=0) (m:=force) C hp1 (by omega) m1 (by omega) (by rw[gw];exact up) fun p2 hp2 _ up2=>aY (fun z=>nomatch z) fun _=>H force p2 ⟨hp2,le_of_eq fo.symm,by omega,by rw[gw]at up2;exact up2⟩)))
   .rintro m p2 ⟨hp2,m3,m4,up2⟩;exact aI (fD (aI (iM (aH (hy _ _ ⟨rfl,p2,hp2,.inr (.inl ⟨m,rfl,gw m,m3,m4,up2,rfl⟩)⟩)))))
  .have e2:i=1:=h.choose_spec.1;have e3:=h.choose_spec.2.1;have g1:=h.choose_spec.2.2.1;have g2:=h.choose_spec.2.2.2.1;have g3:=h.choose_spec.2.2.2.2.1;have e4:=h.choose_spec.2.2.2.2.2;dsimp only at e1 e3;rw[<-e3]at g1 g2 g3 e4;clear e3 h;subst e1 e2 e4;refine aY (fun e=>?_) fun e=>?_
   .have e:lo=size:=Nat.le_antisymm g2 e;rw[e]at g3⊢
    exact aH (hd _ _ ⟨rfl,p',hp',.inl ⟨0,g3,rfl⟩⟩)
   have e:lo<size:=Nat.lt_of_not_le e;refine aI (N5 (lo:=lo) C hp' (by omega) (by omega) fun m p1 m1 m2 hp1 lw up=>?_);dsimp(config:={zeta:=false}) only
   extract_lets n1 jp force n4
   refine B5 (κ:=κ) (f:=f) (pend:= #[(0,lo,0)]) (mg:=mg) (jp:=jp ()) (φ:=fun m p2=>mU size p2/\m=size - lo/\(∀i,i<lo->p2[i]? =p'[i]?)/\Up O key p2 lo size) (fun H=>?_) ?_
   .clear_value jp
    refine aY (fun e5=>?_) fun e5=>?_
    .have fo:force=size - lo:=by show min (size - lo) mr=_;omega
     have e5:m<mr:=e5;exact aI (mK (aI (M0 (lo:=lo) (m:=force) C hp1 (by omega) m1 (by omega) up fun p2 hp2 lw2 up2=>aY (fun z=>nomatch z) fun _=>H force p2 ⟨hp2,fo,fun i hi=>(lw2 i hi).trans (lw i hi),by rw[show lo+force=size by omega]at up2;exact up2⟩)))
    .have e5:¬m<mr:=e5;exact H m p1 ⟨hp1,by omega,lw,by rw[show lo+m=size by omega]at up;exact up⟩
   clear lw up hp1 m1 m2;rintro m p2 ⟨hp2,el,lw3,up2⟩;have up1:Up O key p2 0 lo:=fun i j a1 a2 a3=>by
    rw[uQ (lw3 i (by omega)),uQ (lw3 j a3)];exact g3 i j a1 a2 a3
   refine aI (fD (aI (eF (fP (Q:=fun(z:Option Unit×Unit) st'=>z.1=none/\st'=sP κ f p2 #[(0,lo,0)] mg) (fun i (z:Option Unit×Unit) st'=>z.1=none/\st'=sP κ f p2 #[(0,lo,0)] mg) ⟨rfl,rfl⟩ (dj _) ?_ fun _ _ h=>h) ?_)))
   .rintro i ⟨r,u⟩ st' hi ⟨e1,e2⟩;rw[e2];exact aI (fD (aH ⟨rfl,rfl⟩))
   .rintro⟨r,u⟩ st' ⟨e1,e2⟩;dsimp only at e1;subst e1 e2;exact aI (iM (aI (iM (aH (hy _ _ ⟨rfl,_,hp2,.inr (.inr ⟨lo,size - lo,_,(cw (lo+·) el).trans (by omega),by omega,by omega,by omega,up1,up2,cw (fun z=>sS κ (Array.map f p2) z mg) (pn el)⟩)⟩)))))
  .obtain⟨n1,n2,pw,e3,g1,g2,g3,g4,g5,e4⟩:=h;dsimp only at e1 e3;subst e1 e3 e4;exact aY (fun _=>aH (hd _ _ ⟨rfl,p',hp',.inr ⟨n1,n2,pw,g1,g2,g3,g4,g5,rfl⟩⟩)) fun e=>absurd (bf _) e
 .rintro⟨r,lo⟩ st' ⟨e1,p',hp',⟨e2,_⟩|⟨n1,e2,_⟩|⟨n1,n2,pw,e3,g1,g2,g3,g4,g5,e4⟩⟩
  .omega
  .omega
  .exact⟨e1,p',hp',.inr ⟨n1,n2,pw,g1,g2,g3,g4,g5,e4⟩⟩
 .rintro⟨r,lo⟩ st' ⟨e1,p',hp',⟨pw,g1,e4⟩|⟨n1,n2,pw,g1,g2,g3,g4,g5,e4⟩⟩
  all_goals
   dsimp only at e1;subst e1 e4;have lp:p'.toList.Perm (List.range size):=by simpa using jw.mp hp'
   have ln:=hp'.size;have ll:=length_toList (xs:=p')
  .have pw:=g1.pw (by omega);rw[gd,sub_zero,eh (by omega)]at pw;refine aI (eF (fP (Q:=fun(z:Option Unit×Unit) st'=>z.1=none/\∃w,st'=sP κ f p' #[(0,size,w)] mg) (fun i (z:Option Unit×Unit) st'=>z.1=none/\∃w,st'=sP κ f p' #[(0,size,w)] mg) ⟨rfl,_,rfl⟩ (dj _) ?_ fun _ _ h=>h) ?_)
   .rintro i ⟨r,u⟩ st' hi ⟨e1,w,e2⟩;rw[e2];exact aI (fD (aY (fun _=>aH ⟨rfl,_,rfl⟩) fun z=>absurd (bf 1) z))
   .rintro⟨r,u⟩ st' ⟨e1,w,e2⟩;dsimp only at e1;subst e1 e2;exact aH (q p'.toList _ lp pw (OR f p') rfl)
  .have a1:=g4.pw (by omega);have a2:=g5.pw (by omega);rw[gd,sub_zero]at a1;rw[eh (by rw[ff];omega)]at a2;refine aI (eF (R:=fun(z:Option Unit×Unit) st'=>z.1=none/\∃L w mg',L.Perm (List.range size)/\L.Pairwise (kO O key)/\st'=sS κ (im f L) #[(0,size,w)] mg')
    (fP (fun i (z:Option Unit×Unit) st'=>z.1=none/\((i=0/\st'=sP κ f p' #[(0,n1,pw),(n1,n2,0)] mg)\/ ∃L w mg',L.Perm (List.range size)/\L.Pairwise (kO O key)/\st'=sS κ (im f L) #[(0,size,w)] mg')) ⟨rfl,.inl ⟨rfl,rfl⟩⟩ (dj _) ?_ ?_) ?_)
   .rintro i ⟨r,u⟩ st' hi ⟨e1,⟨_,e2⟩|⟨L,w,mg',b1,b2,e2⟩⟩
    .rw[e2];refine aI (fD (aY (fun z=>absurd z (show¬2<=1 by decide)) fun _=>?_));refine aI (show TW c (mergeAt' 0) _ (sS κ (p'.map f) #[(0,n1,pw),(n1,n2,0)] mg)from ?_);rw[OR];refine UC C (fun i hi=>jy.mp (lp.mem_iff.mp hi)) (by omega) (by omega) (by omega) a1 a2 fun L mg' c1 c2=>?_
     exact aY (fun z=>nomatch z) fun _=>aH ⟨rfl,.inr ⟨L,pw,mg',c1.trans lp,c2,by rw[g1]⟩⟩
    .rw[e2];exact aI (fD (aY (fun _=>aH ⟨rfl,L,w,mg',b1,b2,rfl⟩) fun z=>absurd (bf 1) z))
   .rintro⟨r,u⟩ st' ⟨e1,⟨e2,_⟩|h⟩
    .omega
    .exact⟨e1,h⟩
   .rintro⟨r,u⟩ st' ⟨e1,L,w,mg',b1,b2,e2⟩;dsimp only at e1;subst e1 e2;exact aH (q L _ b1 b2 rfl rfl)
end
section
variable {prog:Program} {w:World} {A:Around} {E:Value->Shared->Prop} {s:Shared}
def zI (prog:Program) (w:World) (A:Around) (vs:List Value) (R:Array Nat->Prop) (s:Shared):Prop:=
 ∃(κ:SortKind) (O:KeyOrd) (key:Nat->O.α),(∀(Q:SortKind->Shared->Prop) (E:Value->Shared->Prop),Q κ s->wpAny (model prog w) A (keyKind' vs.toArray) Q E s)/\
  (∀i j (C:Bool->Shared->Prop),i<vs.length->j<vs.length->C (O.blt (key i) (key j)) s->kas_ask prog w A κ vs i j C s)/\∀p,mU vs.length p->DH O key p vs.length->R p
theorem SM {key:Nat->O.α} (h:L.Pairwise (kO O key)):DH O key L.toArray L.length:=by
 intro i j hij hj;have e:∀k,k<L.length->Ky O key L.toArray k=key (L.getD k 0):=fun k hk=>by
  unfold Ky;rw[jm,List.getElem?_toArray,az]
 rw[e i (by omega),e j hj];rcases Nat.lt_or_eq_of_le hij with h1|rfl
 .have:=ip.mp h i j (by omega) hj h1;rw[az,ag (by omega),az,ag hj];exact this
 .exact gu _
theorem QO {κ:SortKind} {key:Nat->O.α} (h2:2<=vs.length) (h128:vs.length<128)
  (ak:∀i j (C:Bool->Shared->Prop),i<vs.length->j<vs.length->C (O.blt (key i) (key j)) s->kas_ask prog w A κ vs i j C s) (hR:∀p,mU vs.length p->DH O key p vs.length->R p):
  wpAny (model prog w) A ((sortRuns').run (SortSt.mk' κ (vs.toArray.zip vs.toArray) #[] 7 none)) (fun r s'=>s'=s/\∃p:Array Nat,(mU vs.length p/\R p)/\arrOf r.2=p.map (kas_item (vs.toArray.zip vs.toArray))/\failedOf r.2=none) E s:=by
 have est:SortSt.mk' κ (vs.toArray.zip vs.toArray) #[] 7 none=sP κ (kas_item (vs.toArray.zip vs.toArray)) (List.range vs.length).toArray #[] 7:=by
  have e:=kas_range (vs.toArray.zip vs.toArray);rw[show(vs.toArray.zip vs.toArray).size=vs.length by simp]at e;show SortSt.mk' κ (vs.toArray.zip vs.toArray) #[] 7 none=SortSt.mk' κ ((List.toArray (List.range vs.length)).map (kas_item (vs.toArray.zip vs.toArray))) #[] 7 none;rw[e]
 rw[est];refine V6 (c:=⟨prog,w,A,E,s⟩) (κ:=κ) (O:=O) (key:=key) (Q:=fun _ st'=>∃p:Array Nat,(mU vs.length p/\R p)/\arrOf st'=p.map (kas_item (vs.toArray.zip vs.toArray))/\failedOf st'=none) (fun i j hi hj C hC=>?_) h2 h128 (Array.Perm.refl _) fun L st' pm sr ar fl=>?_
 .rw[kat_item rfl,kat_item rfl];exact ak i j C hi hj hC
 .have pm':mU vs.length L.toArray:=jw.mpr (by simpa using pm);have hu:=SM sr;rw[pm.length_eq,cu]at hu;exact⟨L.toArray,⟨pm',hR _ pm' hu⟩,by rw[ar];unfold im;simp,fl⟩
theorem xP {a:Addr} {P:PySem.Fin->Shared->Prop} (ho:s.heap.get? a=some (seqObj "list" vs.toArray n)) (h64:vs.length<128)
  (hk:2<=vs.length->∀h':Heap,(∀b o,b≠a->s.heap.get? b=some o->h'.get? b=some o)->zI prog w A vs R {s with heap:=h'}) (hR:vs.length<2->R (List.range vs.length).toArray)
  (h:∀(out:Array Value) (p:Array Nat),mU vs.length p->R p->out.toList=p.toList.map (fun i=>vs.getD i Value.none)->P (.done (.ret .none)) {s with heap:=sortedHeap s.heap a vs out}):wpAny (model prog w) A (Builtin.«list.sort» ⟨[.ref a],[]⟩) P E s:=by
 have la:a<s.heap.objs.size:=cf ho;have small:vs.length<=sizeLine:=by rw[ik];omega
 obtain⟨e1,k1⟩:∃e1,(s.heap.update a (Obj.mapSeq fun _=>(#[]:Array Value))).get? a=some (seqObj "list" #[] e1):=⟨_,get?_update_seq ho fun _=> #[]⟩;generalize hU:s.heap.update a (Obj.mapSeq fun _=>(#[]:Array Value))=U at k1;have zU:U.objs.size=s.heap.objs.size:=by rw[<-hU];exact Heap.size_update ..
 have kp:∀b o,b≠a->s.heap.get? b=some o->((U.push (seqObj "tuple" vs.toArray 0)).push (seqObj "list" #[] 0)).get? b=some o:=fun b o nb gb=>by
  refine ao _ (ao _ ?_);rw[<-hU,Heap.get?_update_ne _ _ _ _ nb];exact gb
 have k2:((U.push (seqObj "tuple" vs.toArray 0)).push (seqObj "list" #[] 0)).get? a=some (seqObj "list" #[] e1):=ao _ (ao _ k1);rw[list_sort_plain];refine ae (listItems_at ho rfl (ae (listUpdate_at ho rfl ?_ (by simpa using small) (dj _))));have k1':=k1;rw[<-hU]at k1';refine ae (seqEpoch_at k1' rfl (ae (wpAny_newTuple (ae (wpAny_newList (gf ?_) (dj _))) (by simpa using small))));rw[hU];show wpAny (model prog w) A _ P E {s with heap:=(U.push (seqObj "tuple" vs.toArray 0)).push (seqObj "list" #[] 0)};have fin:∀(out:Array Value) (p:Array Nat),mU vs.length p->R p->out.toList=p.toList.map (fun i=>vs.getD i Value.none)->P (.done (.ret .none)) {s with heap:=((U.push (seqObj "tuple" vs.toArray 0)).push (seqObj "list" #[] 0)).update a (Obj.mapSeq fun _=>out)}:=fun out p h1 h2 h3=>by
  have:=h out p h1 h2 h3;unfold sortedHeap at this;rw[hU]at this;exact this
 dsimp only
 by_cases h2:vs.toArray.size<2
 .rw[aj h2,aj h2];refine ae (ax ?_);rw[StateT.run_pure];refine ae (ax ?_);dsimp only;have ev:((vs.toArray.zip vs.toArray).map fun x=>x.2).toList=vs:=by simp[List.map_snd_zip]
  refine ae (seqEpoch_at k2 rfl (ae (listUpdate_at k2 rfl ?_ (dj _) ?_)))
  .simp only[bne_self_eq_false,false_eq_true,if_false];exact ax (fin _ (List.range vs.length).toArray (Array.Perm.refl _) (hR (by rw[cn]at h2;exact h2)) (by rw[show(arrOf (SortSt.mk' general' (vs.toArray.zip vs.toArray) #[] 7 none))=vs.toArray.zip vs.toArray from rfl,ev,toList_toArray,HP]))
  .rw[<-length_toList,show(arrOf (SortSt.mk' general' (vs.toArray.zip vs.toArray) #[] 7 none))=vs.toArray.zip vs.toArray from rfl,ev];exact le_succ_of_le small
 .rw[ai h2,ai h2];have l2:2<=vs.length:=by rw[cn]at h2;omega
  obtain⟨κ,O,key,kd,ak,hRR⟩:=hk l2 _ kp;refine ae (kd _ _ ?_);refine ae (di (QO l2 h64 ak hRR) ?_ fun _ _ e=>e);rintro⟨⟨⟩,st'⟩ s' ⟨rfl,p,⟨hp,hr⟩,ar,fl⟩;dsimp only;have out:=kat_snds rfl ar;have pm:=hp.perm;rw[out];refine ae (seqEpoch_at k2 rfl (ae (listUpdate_at k2 rfl ?_ (dj _) ?_)))
  .rw[fl];simp only[bne_self_eq_false,false_eq_true,if_false];exact ax (fin _ p hp hr (by simp))
  .rw[cn,pm.length_eq];exact le_succ_of_le small
theorem CT {l:Addr} {Q:Value->Shared->Prop} (hl:s.heap.IsList l vs.toArray) (h64:vs.length<128)
  (hk:2<=vs.length->∀h':Heap,(∀b o,s.heap.get? b=some o->h'.get? b=some o)->zI prog w A.in1.in1 vs R {s with heap:=h'}) (hR:vs.length<2->R (List.range vs.length).toArray)
  (h:∀(out:Array Value) (p:Array Nat),mU vs.length p->R p->out.toList=p.toList.map (fun i=>vs.getD i Value.none)->Q (.ref (s.heap.objs.size+1)) {s with heap:=sortedAll s.heap vs out}):wpAny (model prog w) A (call (.builtin "sorted") [.ref l]) Q E s:=by
 have small:vs.length<=sizeLine:=by rw[ik];omega
 refine Calls.call_function_entry kind_sorted plain_sorted entry_sorted (args_sorted1 _) ?_;unfold Builtin.«sorted»;refine ae (m:=checkCount "sorted" 1 1 _) (ax (ae (collect_list hl (ae (wpAny_newList ?_ (by simpa using small))) (by simpa using small))));generalize hU:(s.heap.push (seqObj "list" #[] 0)).update s.heap.objs.size (Obj.mapSeq (·++vs.toArray))=U;have zU:U.objs.size=s.heap.objs.size+1:=by rw[<-hU,Heap.size_update];exact size_push' ..
 have kU:∀b o,s.heap.get? b=some o->U.get? b=some o:=fun b o gb=>by
  rw[<-hU,Heap.get?_update_ne _ _ _ _ (cm (cf gb))];exact ao _ gb
 have at':(U.push (seqObj "list" vs.toArray 0)).get? (s.heap.objs.size+1)=some (seqObj "list" vs.toArray 0):=by rw[<-zU];exact cc _ rfl
 show wpAny _ _ _ _ _ {s with heap:=U.push (seqObj "list" vs.toArray 0)};rw[zU];refine ae (gf (gv slot_list_sort ⟨_,at',rfl⟩ entry_list_sort ?bd (args_list_sort _)))
 case bd=>
  refine xP at' h64 (fun l2 h' kp=>hk l2 h' fun b o gb=>kp b o (cm (dv (cf gb))) (ao _ (kU b o gb))) hR fun out p p1 p2 p3=>⟨_,rfl,ax ⟨_,rfl,?_⟩⟩
  have:=h out p p1 p2 p3;unfold sortedAll at this;rw[hU]at this;exact this
end
end L2
namespace L2
open PySem PySem.Spec PyProof.Rows
variable {r r' r'':Bool} {A:KeyOrd}
section
open PySem.W
variable {X:Cx} {pins:List (Addr×Obj)} {σ:St} {H:Hp} {s:Shared} {k:Nat}
theorem uP {ys:List V} {vs:List Value} (r:Vals ys vs):∀ps:List Nat,(∀i∈ps,i<vs.length)->Vals (ps.map fun i=>ys.getD i .bD) (ps.map fun i=>vs.getD i Value.none)
 |[],_=>.nil
 |i::ps,h=>by
  have hlen:=r.length;have hi:=h i ba;obtain⟨x,hx,rx⟩:=r.get' (show vs[i]? =some vs[i] by simp);refine .cons ?_ (uP r ps fun j hj=>h j (ay _ hj));dsimp only;rw[az,hx,az,ag hi];exact rx
end
noncomputable def EE:KeyOrd where
 α:=Int
 blt a b:=decide (a<b)
 irrefl a:=decide_eq_false (by omega)
 trans a b c h1 h2:=decide_eq_true (by have:=av h1;have:=av h2;omega)
 negTrans a b c h:=by
  have h:=av h
  by_cases g:a<b
  .exact .inl (decide_eq_true g)
  .exact .inr (decide_eq_true (by omega))
 total a b h1 h2:=by have:=fu h1;have:=fu h2;omega
theorem z3 {a b:A.α} (h:A.blt a b=true):A.blt b a=false:=KeyOrd.klt_asymm (O:=A) h
theorem fK {A:KeyOrd} (a b:A.α):(A.blt a b=true/\A.blt b a=false)\/ (A.blt b a=true/\A.blt a b=false)\/ (a=b):=by
 cases h1:A.blt a b with
 |true=>exact .inl ⟨rfl,z3 h1⟩
 |false=>
  cases h2:A.blt b a with
  |true=>exact .inr (.inl ⟨rfl,rfl⟩)
  |false=>exact .inr (.inr (A.total a b h1 h2))
noncomputable def gF (A:KeyOrd) (a b:A.α) (r:Bool):Bool:=A.blt a b||(!A.blt b a && r)
theorem eC {a b:A.α} (h:A.blt a b=true):gF A a b r=true:=by unfold gF;rw[h];rfl
theorem kZ {a b:A.α} (h:A.blt b a=true):gF A a b r=false:=by unfold gF;rw[h,z3 h];rfl
theorem gH {a:A.α}:gF A a a r=r:=by unfold gF;rw[A.irrefl];rfl
theorem BW {A:KeyOrd} {a b c:A.α} (hr:r=true->r'=true->r''=true) (h1:gF A a b r=true) (h2:gF A b c r'=true):gF A a c r''=true:=by
 rcases fK (A:=A) a b with⟨x,_⟩|⟨x,_⟩|x
 .rcases fK (A:=A) b c with⟨y,_⟩|⟨y,_⟩|y
  .exact eC (A.trans _ _ _ x y)
  .rw[kZ y]at h2;cases h2
  .rw[<-y];exact eC x
 .rw[kZ x]at h1;cases h1
 .subst x;rw[gH]at h1;rcases fK (A:=A) a c with⟨y,_⟩|⟨y,_⟩|y
  .exact eC y
  .rw[kZ y]at h2;cases h2
  .subst y;rw[gH]at h2⊢
   exact hr h1 h2
theorem JU {A:KeyOrd} {a b c:A.α} (hr:r''=true->r=true\/ r'=true) (h:gF A a c r''=true):gF A a b r=true\/ gF A b c r'=true:=by
 rcases fK (A:=A) a b with⟨x,_⟩|⟨x,_⟩|x
 .exact .inl (eC x)
 .right;rcases fK (A:=A) a c with⟨y,_⟩|⟨y,_⟩|y
  .exact eC (A.trans _ _ _ x y)
  .rw[kZ y]at h;cases h
  .rw[<-y];exact eC x
 .subst x;rcases fK (A:=A) a c with⟨y,_⟩|⟨y,_⟩|y
  .exact .inr (eC y)
  .rw[kZ y]at h;cases h
  .subst y;rw[gH]at h⊢
   rw[gH];exact hr h
theorem AO {A:KeyOrd} {a b:A.α} (h1:gF A a b r=false) (h2:gF A b a r'=false):a=b/\r=false/\r'=false:=by
 rcases fK (A:=A) a b with⟨x,_⟩|⟨x,_⟩|x
 .rw[eC x]at h1;cases h1
 .rw[eC x]at h2;cases h2
 .subst x;rw[gH]at h1 h2;exact⟨rfl,h1,h2⟩
noncomputable def lF (A:KeyOrd):List A.α->List A.α->Bool
 |[],[]=>false
 |[],_::_=>true
 |_::_,[]=>false
 |x::xs,y::ys=>gF A x y (lF A xs ys)
theorem yA:∀xs:List A.α,lF A xs xs=false
 |[]=>rfl
 |x::xs=>by unfold lF;rw[gH];exact yA xs
theorem tI:∀xs ys zs:List A.α,lF A xs ys=true->lF A ys zs=true->lF A xs zs=true
 |[],[],_,h,_=>by cases h
 |[],_::_,[],_,h=>by cases h
 |[],_::_,_::_,_,_=>rfl
 |_::_,[],_,h,_=>by cases h
 |_::_,_::_,[],_,h=>by cases h
 |x::xs,y::ys,z::zs,h1,h2=>BW (tI xs ys zs) h1 h2
theorem xT:∀xs ys zs:List A.α,lF A xs zs=true->lF A xs ys=true\/ lF A ys zs=true
 |[],[],zs,h=>.inr h
 |[],_::_,_,_=>.inl rfl
 |_::_,_,[],h=>by cases h
 |_::_,[],_::_,_=>.inr rfl
 |x::xs,y::ys,z::zs,h=>JU (xT xs ys zs) h
theorem tG:∀xs ys:List A.α,lF A xs ys=false->lF A ys xs=false->xs=ys
 |[],[],_,_=>rfl
 |[],_::_,h,_=>by cases h
 |_::_,[],_,h=>by cases h
 |x::xs,y::ys,h1,h2=>by
  obtain⟨a,b,c⟩:=AO h1 h2;rw[a,tG xs ys b c]
noncomputable def ZZ (A:KeyOrd):KeyOrd:=⟨List A.α,lF A,yA,tI,xT,tG⟩
theorem E3 {a b:Str} (h:a.cps.toList=b.cps.toList):a=b:=by
 cases a with
 |mk x=>
  cases b with
  |mk y=>congr 1;exact toList_inj.mp h
end L2
namespace Mr
open PySem L2
variable {a l:Addr} {e ei:En} {f fa fb fv:FE} {fg:FG} {fi:FI} {fc:FT} {o ob:HO} {H H' H1 H2:Hp} {k:Key} {kvs:List (Key×PV)} {ys:List (Key×V)} {ms:List (Nat×Nat)} {ks:List Kd} {cap:List Nat} {ps:List PV} {xs:List V} {i n:Nat} {p:PV} {s:Sl} {σ:St} {t ta tb tv:TE} {g:TG} {wi:TI} {c u:TT} {α β:Type} {v:V} {W:WS} {E:XK} {L L1 M O Z Z':aJ}
inductive PV where
 |bD|bl (b:Bool)|int (i:Int)|str (x:Str)|ty (n:String)
 |tup (xs:List PV)|lst (xs:List PV)|bA (kvs:List (Key×PV))
abbrev aJ:=Addr->Prop
def aT (A B:aJ):aJ:=fun a=>A a\/ B a
def one (l:Addr):aJ:=fun a=>a=l
def cT:aJ:=fun _=>False
structure WS where
 w:Nat->aJ
 old:aJ
instance:CoeFun WS (fun _=>Nat->aJ):=⟨WS.w⟩
def aw (W:WS):aJ:=fun a=>∃i,W i a
def TupAt (K:Frag) (H:Hp) (a:Addr) (xs:List V):Prop:=H a=some (.tup xs)\/
  ∃(o:Obj) (its:Array Value) (n:Nat),K.lookup a=some o/\o.cls= .type "tuple"/\o.dict=none/\o.data= .seq its n/\its.size<=sizeLine/\Vals xs its.toList
def VE (K:Frag) (a:Addr) (xs:List V):Prop:=
  ∃(o:Obj) (its:Array Value) (n:Nat),K.lookup a=some o/\o.cls= .type "list"/\o.dict=none/\o.data= .seq its n/\its.size<=sizeLine/\Vals xs its.toList
theorem TupAt.sq {K:Frag} (h:TupAt K H a xs):qB K H a xs:=h.elim qB.of fun⟨o,its,n,a,b,_,c⟩=>.inr ⟨o,its,n,a,b,c⟩
mutual
inductive Rep (K:Frag) (Z:aJ) (H:Hp):PV->V->Prop
 |bD:Rep K Z H .bD .bD
 |bl (b:Bool):Rep K Z H (.bl b) (.bl b)
 |int (i:Int):Rep K Z H (.int i) (.int i)
 |str (x:Str):Rep K Z H (.str x) (.str x)
 |ty (n:String):Rep K Z H (.ty n) (.ty n)
 |tup {a:Addr} {xs:List V} {ps:List PV}:TupAt K H a xs->bH K Z H ps xs->Rep K Z H (.tup ps) (.ref a)
 |lst {a:Addr} {xs:List V} {ps:List PV}:Rd H a (.lst xs)->¬Z a->bH K Z H ps xs->Rep K Z H (.lst ps) (.ref a)
 |bA {a:Addr} {ep:Nat} {ys:List (Key×V)} {kvs:List (Key×PV)}:Rd H a (.dK ys ep)->¬Z a->ys.map (·.1)=kvs.map (·.1)->bH K Z H (kvs.map (·.2)) (ys.map (·.2))->Rep K Z H (.bA kvs) (.ref a)
inductive bH (K:Frag) (Z:aJ) (H:Hp):List PV->List V->Prop
 |nil:bH K Z H [] []
 |cons {p:PV} {v:V} {ps:List PV} {vs:List V}:Rep K Z H p v->bH K Z H ps vs->bH K Z H (p::ps) (v::vs)
end
structure cS (Z Z':aJ) (H H':Hp):Prop where
 tup:∀a xs,H a=some (.tup xs)->H' a=some (.tup xs)
 obj:∀a o,H a=some o->¬Z a->H' a=some o/\¬Z' a
theorem cS.rd (k:cS Z Z' H H') (h:Rd H a o) (n:¬Z a):Rd H' a o/\¬Z' a:=by
 rcases h with h|⟨u,h⟩
 .exact⟨.inl (k.obj _ _ h n).1,(k.obj _ _ h n).2⟩
 .exact⟨.inr ⟨u,(k.obj _ _ h n).1⟩,(k.obj _ _ h n).2⟩
mutual
theorem Rep.aK {K:Frag} {Z Z':aJ} {H H':Hp} (k:cS Z Z' H H'):∀{p:PV} {v:V},Rep K Z H p v->Rep K Z' H' p v
 |_,_,.bD=>.bD
 |_,_,.bl b=>.bl b
 |_,_,.int b=>.int b
 |_,_,.str b=>.str b
 |_,_,.ty b=>.ty b
 |_,_,.tup h r=>.tup (h.elim (fun h=>.inl (k.tup _ _ h)) .inr) (bH.aK k r)
 |_,_,.lst h n r=>.lst (k.rd h n).1 (k.rd h n).2 (bH.aK k r)
 |_,_,.bA h n e r=>.bA (k.rd h n).1 (k.rd h n).2 e (bH.aK k r)
theorem bH.aK {K:Frag} {Z Z':aJ} {H H':Hp} (k:cS Z Z' H H'):∀{p:List PV} {v:List V},bH K Z H p v->bH K Z' H' p v
 |_,_,.nil=>.nil
 |_,_,.cons h r=>.cons (Rep.aK k h) (bH.aK k r)
end
theorem cS.same (s:aX H H'):cS Z Z H H':=⟨fun _ _ h=>s _ _ h,fun _ _ h n=>⟨s _ _ h,n⟩⟩
theorem cS.less (h:∀a,Z' a->Z a):cS Z Z' H H:=⟨fun _ _ h=>h,fun _ _ e n=>⟨e,fun z=>n (h _ z)⟩⟩
theorem cS.new (s:aX H H') (hl:H l=none):cS Z (aT Z (one l)) H H':=
 ⟨fun _ _ h=>s _ _ h,fun a o h n=>⟨s _ _ h,fun z=>z.elim n fun e=>by rw[show a=l from e,hl]at h;cases h⟩⟩
theorem bH.length {K:Frag}:∀{ps:List PV} {vs:List V},bH K Z H ps vs->ps.length=vs.length
 |_,_,.nil=>rfl
 |_,_,.cons _ r=>by rw[length_cons,length_cons,bH.length r]
theorem bH.get {K:Frag}:∀{ps:List PV} {vs:List V} {i:Nat} {p:PV},bH K Z H ps vs->ps[i]? =some p->∃v,vs[i]? =some v/\Rep K Z H p v
 |_,_,_,_,.nil,h=>by simp at h
 |_,_,0,_,.cons h _,e=>by simp at e;subst e;exact⟨_,rfl,h⟩
 |_,_,i+1,_,.cons _ r,e=>by
  obtain⟨v,h1,h2⟩:=bH.get (i:=i) r (by simpa using e);exact⟨v,by simpa using h1,h2⟩
theorem bH.app {K:Frag}:∀{ps qs:List PV} {vs ws:List V},bH K Z H ps vs->bH K Z H qs ws->bH K Z H (ps++qs) (vs++ws)
 |_,_,_,_,.nil,s=>s
 |_,_,_,_,.cons h r,s=>.cons h (bH.app r s)
theorem bH.drop {K:Frag}:∀{ps:List PV} {vs:List V} (n:Nat),bH K Z H ps vs->bH K Z H (ps.drop n) (vs.drop n)
 |_,_,0,h=>h
 |_,_,_+1,.nil=>.nil
 |_,_,n+1,.cons _ r=>bH.drop n r
theorem bH.take {K:Frag}:∀{ps:List PV} {vs:List V} (n:Nat),bH K Z H ps vs->bH K Z H (ps.take n) (vs.take n)
 |_,_,0,_=>.nil
 |_,_,_+1,.nil=>.nil
 |_,_,n+1,.cons h r=>.cons h (bH.take n r)
theorem bH.set {K:Frag} (h:Rep K Z H p v):∀{ps:List PV} {vs:List V} (n:Nat),bH K Z H ps vs->bH K Z H (ps.set n p) (vs.set n v)
 |_,_,_,.nil=>.nil
 |_,_,0,.cons _ r=>.cons h r
 |_,_,n+1,.cons q r=>.cons q (bH.set h n r)
def LstAt (K:Frag) (H:Hp) (a:Addr) (xs:List V):Prop:=Rd H a (.lst xs)\/ VE K a xs
theorem LstAt.sq {K:Frag} (h:LstAt K H a xs):k7 K H a xs:=h
inductive Red (K:Frag) (Z:aJ) (H:Hp):PV->V->Prop
 |rep {p:PV} {v:V}:Rep K Z H p v->Red K Z H p v
 |lst {a:Addr} {xs:List V} {ps:List PV}:LstAt K H a xs->bH K Z H ps xs->Red K Z H (.lst ps) (.ref a)
 |bA {a:Addr} {ep:Nat} {ys:List (Key×V)} {kvs:List (Key×PV)}:Rd H a (.dK ys ep)->ys.map (·.1)=kvs.map (·.1)->bH K Z H (kvs.map (·.2)) (ys.map (·.2))->Red K Z H (.bA kvs) (.ref a)
section
variable {K:Frag} {Z:aJ} {H:Hp} {v:V}
theorem Red.int {i:Int} (h:Red K Z H (.int i) v):v= .int i:=by cases h with|rep h=>cases h;rfl
theorem Red.str {i:Str} (h:Red K Z H (.str i) v):v= .str i:=by cases h with|rep h=>cases h;rfl
theorem Red.bl {i:Bool} (h:Red K Z H (.bl i) v):v= .bl i:=by cases h with|rep h=>cases h;rfl
theorem Red.bD (h:Red K Z H .bD v):v= .bD:=by cases h with|rep h=>cases h;rfl
theorem Red.tup (h:Red K Z H (.tup ps) v):∃a xs,v= .ref a/\TupAt K H a xs/\bH K Z H ps xs:=by
 cases h with|rep h=>cases h with|tup h r=>exact⟨_,_,rfl,h,r⟩
theorem Red.wG (h:Red K Z H (.lst ps) v):∃a xs,v= .ref a/\LstAt K H a xs/\bH K Z H ps xs:=by
 cases h with
 |rep h=>cases h with|lst h _ r=>exact⟨_,_,rfl,.inl h,r⟩
 |lst h r=>exact⟨_,_,rfl,h,r⟩
theorem Red.tS (h:Red K Z H (.bA kvs) v):∃a ys,v= .ref a/\x3 H a ys/\ys.map (·.1)=kvs.map (·.1)/\bH K Z H (kvs.map (·.2)) (ys.map (·.2)):=by
 cases h with
 |rep h=>cases h with|bA h _ e r=>exact⟨_,_,rfl,⟨_,h⟩,e,r⟩
 |bA h e r=>exact⟨_,_,rfl,⟨_,h⟩,e,r⟩
end
inductive Sl where
 |val (p:PV)|own (p:PV)|loc (p:PV)|bor (p:PV)
noncomputable def Sl.pv:Sl->PV
 | .val p=>p| .own p=>p| .loc p=>p| .bor p=>p
noncomputable def Sl.dH:Sl->Bool
 | .own _=>true| .loc _=>true|_=>false
abbrev En:=List (Option Sl)
inductive iJ (K:Frag) (Z:aJ) (H:Hp) (a:Addr):PV->Prop
 |lst {xs:List V} {ps:List PV}:H a=some (.lst xs)->bH K Z H ps xs->iJ K Z H a (.lst ps)
 |bA {ep:Nat} {ys:List (Key×V)} {kvs:List (Key×PV)}:H a=some (.dK ys ep)->ys.map (·.1)=kvs.map (·.1)->bH K Z H (kvs.map (·.2)) (ys.map (·.2))->iJ K Z H a (.bA kvs)
theorem iJ.red {K:Frag} (h:iJ K Z H a p):Red K Z H p (.ref a):=by
 cases h with
 |lst e r=>exact .lst (.inl (.inl e)) r
 |bA e k r=>exact .bA (.inl e) k r
theorem iJ.rep {K:Frag} (h:iJ K Z H a p) (n:¬Z a):Rep K Z H p (.ref a):=by
 cases h with
 |lst e r=>exact .lst (.inl e) n r
 |bA e k r=>exact .bA (.inl e) n k r
theorem iJ.there {K:Frag} (h:iJ K Z H a p):∃o,H a=some o/\∀xs,o≠ .tup xs:=by
 cases h with
 |lst e r=>exact⟨_,e,fun _ z=>nomatch z⟩
 |bA e k r=>exact⟨_,e,fun _ z=>nomatch z⟩
theorem iJ.aK {K:Frag} (k:cS Z Z' H H') (e:∀o,H a=some o->H' a=some o) (h:iJ K Z H a p):iJ K Z' H' a p:=by
 cases h with
 |lst h r=>exact .lst (e _ h) (r.aK k)
 |bA h q r=>exact .bA (e _ h) q (r.aK k)
inductive yL (K:Frag) (Z:aJ) (W:WS) (L:aJ) (H:Hp) (a:Addr):PV->Prop
 |lst {xs:List V} {ps:List PV}:Rd H a (.lst xs)->W.old a->¬aw W a->¬L a->bH K Z H ps xs->yL K Z W L H a (.lst ps)
 |eQ {xs:List V} {ps:List PV}:VE K a xs->bH K Z H ps xs->yL K Z W L H a (.lst ps)
 |bA {ep:Nat} {ys:List (Key×V)} {kvs:List (Key×PV)}:Rd H a (.dK ys ep)->W.old a->¬aw W a->¬L a->ys.map (·.1)=kvs.map (·.1)->bH K Z H (kvs.map (·.2)) (ys.map (·.2))->yL K Z W L H a (.bA kvs)
theorem yL.red {K:Frag} (h:yL K Z W L H a p):Red K Z H p (.ref a):=by
 cases h with
 |lst e _ _ _ r=>exact .lst (.inl e) r
 |eQ e r=>exact .lst (.inr e) r
 |bA e _ _ _ k r=>exact .bA e k r
def lA (K:Frag) (Z:aJ) (W:WS) (L:aJ) (H:Hp) (i:Nat) (v:V):Sl->Prop
 | .val p=>Rep K Z H p v
 | .own p=>∃a,v= .ref a/\W i a/\iJ K Z H a p
 | .loc p=>∃a,v= .ref a/\L a/\iJ K Z H a p
 | .bor p=>∃a,v= .ref a/\yL K Z W L H a p
theorem lA.red {K:Frag} {s:Sl} (h:lA K Z W L H i v s):Red K Z H s.pv v:=by
 cases s with
 |val p=>exact .rep h
 |own p=>obtain⟨a,rfl,_,c⟩:=h;exact c.red
 |loc p=>obtain⟨a,rfl,_,c⟩:=h;exact c.red
 |bor p=>obtain⟨a,rfl,c⟩:=h;exact c.red
structure aP (K:Frag) (Z:aJ) (W:WS) (L:aJ) (H:Hp) (σ:St) (e:En):Prop where
 len:e.length=σ.length
 at':∀(i:Nat) s,e[i]? =some (some s)->∃v,σ[i]? =some (some v)/\lA K Z W L H i v s
 rP:∀(i j:Nat) s t,i≠j->e[i]? =some (some s)->e[j]? =some (some t)->s.dH=true->t.dH=true->σ[i]?≠σ[j]?
structure kH (O M:aJ) (W:WS) (L:aJ) (H:Hp):Prop where
 old:∀a,O a->H a≠none
 mo:∀a,M a->O a
 wm:∀i a,W i a->M a
 loc:∀a,L a->H a≠none/\¬O a
structure bY (W:WS) (L:aJ) (H H':Hp):Prop where
 obj:∀a o,H a=some o->¬aw W a->¬L a->H' a=some o
 tup:∀a xs,H a=some (.tup xs)->H' a=some (.tup xs)
 cC:∀a,H a≠none->H' a≠none
theorem bY.refl:bY W L H H:=⟨fun _ _ h _ _=>h,fun _ _ h=>h,fun _ h=>h⟩
theorem bY.trans (a:bY W L H H1) (b:bY W L H1 H2):bY W L H H2:=⟨fun c o h n m=>b.obj c o (a.obj c o h n m) n m,fun c o h=>b.tup c o (a.tup c o h),fun c h=>b.cC c (a.cC c h)⟩
theorem bY.same {H:Hp} (s:aX H H'):bY W L H H':=⟨fun _ _ h _ _=>s _ _ h,fun _ _ h=>s _ _ h,fun a h=>by
 cases e:H a with
 |none=>exact absurd e h
 |some o=>rw[s _ _ e];exact fun z=>nomatch z⟩
theorem kH.keep (o:kH O M W L H) (d:∀a,H a≠none->H' a≠none):kH O M W L H':=⟨fun a h=>d a (o.old a h),o.mo,o.wm,fun a h=>⟨d a (o.loc a h).1,(o.loc a h).2⟩⟩
theorem bY.aK (o:kH O M W L H) (k:bY W L H H'):cS (aT M L) (aT M L) H H':=
 ⟨k.tup,fun a u h n=>⟨k.obj a u h (fun⟨i,z⟩=>n (.inl (o.wm i a z))) fun z=>n (.inr z),n⟩⟩
theorem aP.aK {K:Frag} {e:En} (h:aP K Z W L H σ e) (k:cS Z Z' H H') (ow:∀a o,aw W a\/ L a->H a=some o->H' a=some o) (bo:∀a o,H a=some o->¬aw W a->¬L a->H' a=some o):aP K Z' W L H' σ e:=
 ⟨h.len,fun i s q=>by
  obtain⟨v,h1,h2⟩:=h.at' i s q;refine⟨v,h1,?_⟩;cases s with
  |val p=>exact Rep.aK k h2
  |own p=>obtain⟨a,e,w,c⟩:=h2;exact⟨a,e,w,c.aK k fun o q=>ow a o (.inl ⟨_,w⟩) q⟩
  |loc p=>obtain⟨a,e,w,c⟩:=h2;exact⟨a,e,w,c.aK k fun o q=>ow a o (.inr w) q⟩
  |bor p=>
   obtain⟨a,e,c⟩:=h2;refine⟨a,e,?_⟩;cases c with
   |lst e od n m r=>exact .lst (e.elim (fun e=>.inl (bo _ _ e n m)) fun⟨u,e⟩=>.inr ⟨u,bo _ _ e n m⟩) od n m (r.aK k)
   |eQ e r=>exact .eQ e (r.aK k)
   |bA e od n m kk r=>exact .bA (e.elim (fun e=>.inl (bo _ _ e n m)) fun⟨u,e⟩=>.inr ⟨u,bo _ _ e n m⟩) od n m kk (r.aK k),h.rP⟩
theorem aP.same {K:Frag} (h:aP K Z W L H σ e) (s:aX H H'):aP K Z W L H' σ e:=h.aK (.same s) (fun a o _ q=>s a o q) fun a o q _ _=>s a o q
def L7 (σ:St) (e:En) (a:Addr):Prop:=∀(i:Nat) s,e[i]? =some (some s)->s.dH=true->σ[i]?≠some (some (.ref a))
theorem Rd.ne (h:Rd H a o) (hl:H l=none):a≠l:=by
 rintro rfl;rcases h with h|⟨_,h⟩<;>(rw[hl]at h;cases h)
theorem aP.new {K:Frag} {e:En} (h:aP K (aT M L) W L H σ e) (s:aX H H') (hl:H l=none):aP K (aT M (aT L (one l))) W (aT L (one l)) H' σ e/\L7 σ e l:=by
 have k:cS (aT M L) (aT M (aT L (one l))) H H':=⟨fun _ _ h=>s _ _ h,fun a o h n=>⟨s _ _ h,fun z=>by
  rcases z with z|z|z
  .exact n (.inl z)
  .exact n (.inr z)
  .rw[show a=l from z,hl]at h;cases h⟩⟩
 refine⟨⟨h.len,fun i sl q=>?_,h.rP⟩,fun i sl q hm e=>?_⟩
 .obtain⟨v,h1,h2⟩:=h.at' i sl q;refine⟨v,h1,?_⟩;cases sl with
  |val p=>exact Rep.aK k h2
  |own p=>obtain⟨a,e,w,c⟩:=h2;exact⟨a,e,w,c.aK k fun o q=>s _ _ q⟩
  |loc p=>obtain⟨a,e,w,c⟩:=h2;exact⟨a,e,.inl w,c.aK k fun o q=>s _ _ q⟩
  |bor p=>
   obtain⟨a,e,c⟩:=h2;refine⟨a,e,?_⟩;cases c with
   |lst e od n m r=>exact .lst (e.elim (fun e=>.inl (s _ _ e)) fun⟨u,e⟩=>.inr ⟨u,s _ _ e⟩) od n (fun z=>z.elim m (Rd.ne e hl)) (r.aK k)
   |eQ e r=>exact .eQ e (r.aK k)
   |bA e od n m kk r=>exact .bA (e.elim (fun e=>.inl (s _ _ e)) fun⟨u,e⟩=>.inr ⟨u,s _ _ e⟩) od n (fun z=>z.elim m (Rd.ne e hl)) kk (r.aK k)
 .obtain⟨v,h1,h2⟩:=h.at' i sl q;rw[h1]at e;cases e;cases sl with
  |val p=>cases hm
  |bor p=>cases hm
  |own p=>obtain⟨a,e,w,c⟩:=h2;cases e;obtain⟨o,e,_⟩:=c.there;rw[hl]at e;cases e
  |loc p=>obtain⟨a,e,w,c⟩:=h2;cases e;obtain⟨o,e,_⟩:=c.there;rw[hl]at e;cases e
theorem aP.S3 {K:Frag} {e:En} (h:aP K (aT M (aT L (one l))) W (aT L (one l)) H σ e) (f:L7 σ e l):aP K (aT M L) W L H σ e:=by
 have k:cS (aT M (aT L (one l))) (aT M L) H H:=.less fun a z=>z.elim .inl fun z=>.inr (.inl z)
 refine⟨h.len,fun i sl q=>?_,h.rP⟩;obtain⟨v,h1,h2⟩:=h.at' i sl q;refine⟨v,h1,?_⟩;cases sl with
 |val p=>exact Rep.aK k h2
 |own p=>obtain⟨a,e,w,c⟩:=h2;exact⟨a,e,w,c.aK k fun o q=>q⟩
 |loc p=>
  obtain⟨a,e,w,c⟩:=h2;refine⟨a,e,w.elim id fun z=>?_,c.aK k fun o q=>q⟩;exfalso;have z:a=l:=z;subst z e;exact f i _ q rfl h1
 |bor p=>
  obtain⟨a,e,c⟩:=h2;refine⟨a,e,?_⟩;cases c with
  |lst e od n m r=>exact .lst e od n (fun z=>m (.inl z)) (r.aK k)
  |eQ e r=>exact .eQ e (r.aK k)
  |bA e od n m kk r=>exact .bA e od n (fun z=>m (.inl z)) kk (r.aK k)
inductive Bv where
 |val (p:PV)|slot (i:Nat)|new (p:PV)
noncomputable def rd (e:En) (i:Nat):Option PV:=match e[i]? with
 |some (some s)=>some s.pv
 |_=>none
noncomputable def Bv.get (e:En):Bv->Option PV
 | .val p=>some p
 | .new p=>some p
 | .slot i=>rd e i
noncomputable def Bv.weak:Bv->Bv
 | .new p=>.val p
 |b=>b
noncomputable def Bv.put:Bv->Option PV
 | .val p=>some p
 | .new p=>some p
 | .slot _=>none
def RB (K:Frag) (O M:aJ) (W:WS) (L:aJ) (H:Hp) (σ:St) (e:En) (v:V):Bv->Prop
 | .val p=>aP K (aT M L) W L H σ e/\Rep K (aT M L) H p v
 | .slot i=>aP K (aT M L) W L H σ e/\σ[i]? =some (some v)
 | .new p=>∃a,v= .ref a/\¬O a/\¬L a/\aP K (aT M (aT L (one a))) W (aT L (one a)) H σ e/\L7 σ e a/\iJ K (aT M (aT L (one a))) H a p
theorem RB.weak {K:Frag} {b:Bv} (o:kH O M W L H) (h:RB K O M W L H σ e v b):RB K O M W L H σ e v b.weak:=by
 cases b with
 |val p=>exact h
 |slot i=>exact h
 |new p=>
  obtain⟨a,rfl,n1,n2,h1,hf,h2⟩:=h;exact⟨h1.S3 hf,(h2.aK (.less fun _ z=>z.elim .inl fun z=>.inr (.inl z)) fun _ q=>q).rep fun z=>z.elim (fun z=>n1 (o.mo _ z)) n2⟩
theorem RB.en {K:Frag} {b:Bv} (o:kH O M W L H) (h:RB K O M W L H σ e v b):aP K (aT M L) W L H σ e:=by
 cases b with
 |val p=>exact h.1
 |slot i=>exact h.1
 |new p=>exact(RB.weak (b:=.new p) o h).1
def RV (K:Frag) (Z:aJ) (H:Hp) (σ:St) (v:V):Bv->Prop
 | .val p=>Rep K Z H p v
 | .slot i=>σ[i]? =some (some v)
 | .new _=>False
theorem RB.rv {K:Frag} {b:Bv} (o:kH O M W L H) (h:RB K O M W L H σ e v b):RV K (aT M L) H σ v b.weak:=by
 have h:=h.weak o;cases b with
 |val p=>exact h.2
 |slot i=>exact h.2
 |new p=>exact h.2
theorem RV.keep {K:Frag} {b:Bv} (o:kH O M W L H) (k:bY W L H H') (h:RV K (aT M L) H σ v b):RV K (aT M L) H' σ v b:=by
 cases b with
 |val p=>exact Rep.aK (k.aK o) h
 |slot i=>exact h
 |new p=>exact h
theorem aP.rd {K:Frag} {e:En} {i:Nat} (h:aP K Z W L H σ e) (g:rd e i=some p) (hv:σ[i]? =some (some v)):Red K Z H p v:=by
 unfold Mr.rd at g;cases q:e[i]? with
 |none=>rw[q]at g;cases g
 | some s=>
  cases s with
  |none=>rw[q]at g;cases g
  |some s=>
   rw[q]at g;cases g;obtain⟨w,h1,h2⟩:=h.at' i s q;rw[hv]at h1;cases h1;exact h2.red
theorem RV.red {K:Frag} {b:Bv} (h:RV K Z H σ v b) (he:aP K Z W L H σ e) (g:b.get e=some p):Red K Z H p v:=by
 cases b with
 |val q=>cases g;exact .rep h
 |slot i=>exact he.rd g h
 |new q=>exact h.elim
abbrev FE:=En->Option (Bv×En)
abbrev FT:=En->Option (Bool×En)
abbrev FA:=En->Option (List Bv×En)
def Fr (H:Hp) (v:V):Bv->Prop
 | .new _=>∀a,v= .ref a->H a=none
 |_=>True
theorem Fr.back {H:Hp} {b:Bv} (d:∀a,H a≠none->H1 a≠none) (h:Fr H1 v b):Fr H v b:=by
 cases b with
 |val p=>trivial
 |slot i=>trivial
 |new p=>
  intro a e;cases z:H a with
  |none=>rfl
  |some o=>exact absurd (h a e) (d a (by rw[z];exact fun z=>nomatch z))
def Ref (K:Frag) (t:TE) (f:FE):Prop:=∀(O M:aJ) (W:WS) (L:aJ) (σ:St) (H:Hp) (e e':En) (b:Bv) (Q:VK),kH O M W L H->aP K (aT M L) W L H σ e->f e=some (b,e')->
 (∀v H',bY W L H H'->RB K O M W L H' σ e' v b->Fr H v b->Q v H')->t σ H Q
def lI (K:Frag) (t:TT) (f:FT):Prop:=∀(O M:aJ) (W:WS) (L:aJ) (σ:St) (H:Hp) (e e':En) (b:Bool) (Q:Bool->Hp->Prop),kH O M W L H->aP K (aT M L) W L H σ e->f e=some (b,e')->
 (∀H',bY W L H H'->aP K (aT M L) W L H' σ e'->Q b H')->t σ H Q
inductive BK (K:Frag) (Z:aJ) (H:Hp) (σ:St):List Bv->List V->Prop
 |nil:BK K Z H σ [] []
 |cons {b:Bv} {v:V} {bs:List Bv} {vs:List V}:RV K Z H σ v b->BK K Z H σ bs vs->BK K Z H σ (b::bs) (v::vs)
def tR (K:Frag) (t:TA) (f:FA):Prop:=∀(O M:aJ) (W:WS) (L:aJ) (σ:St) (H:Hp) (e e':En) (bs:List Bv) (Q:List V->Hp->Prop),kH O M W L H->aP K (aT M L) W L H σ e->f e=some (bs,e')->
 (∀vs H',bY W L H H'->aP K (aT M L) W L H' σ e'->BK K (aT M L) H' σ bs vs->Q vs H')->t σ H Q
noncomputable def bE (r:Option (α×En)) (k:α->En->Option β):Option β:=match r with
 |some (a,e)=>k a e
 |none=>none
noncomputable def bO (r:Option α) (k:α->Option β):Option β:=match r with
 |some a=>k a
 |none=>none
theorem aN {r:Option (α×En)} {k:α->En->Option β} {b:β} (h:bE r k=some b):∃a e,r=some (a,e)/\k a e=some b:=by
 cases r with
 |none=>cases h
 |some x=>exact⟨x.1,x.2,rfl,h⟩
theorem aF {r:Option α} {k:α->Option β} {b:β} (h:bO r k=some b):∃a,r=some a/\k a=some b:=by
 cases r with
 |none=>cases h
 |some x=>exact⟨x,rfl,h⟩
theorem B6 {a:α} {k:α->En->Option β}:bE (some (a,e)) k=k a e:=rfl
theorem uA {a:α} {k:α->Option β}:bO (some a) k=k a:=rfl
noncomputable def bB (c:Bool) (x y:β):β:=match c with|true=>x|false=>y
noncomputable def bC (c:Bool) (k:Option β):Option β:=match c with|true=>k|false=>none
theorem aM {c:Bool} {k:Option β} {b:β} (h:bC c k=some b):c=true/\k=some b:=by
 cases c with
 |false=>cases h
 |true=>exact⟨rfl,h⟩
def RN (K:Frag) (Z:aJ) (H H':Hp) (v:V):Bv->Prop
 | .val p=>Rep K Z H' p v
 | .new p=>∃a,v= .ref a/\H a=none/\iJ K (aT Z (one a)) H' a p
 | .slot _=>False
theorem RN.rb {K:Frag} {b:Bv} (o:kH O M W L H) (he:aP K (aT M L) W L H σ e) (s:aX H H') (h:RN K (aT M L) H H' v b):RB K O M W L H' σ e v b:=by
 cases b with
 |val p=>exact⟨he.same s,h⟩
 |slot i=>exact h.elim
 |new p=>
  obtain⟨a,rfl,n,c⟩:=h;have w:=he.new s n;exact⟨a,rfl,fun z=>o.old a z n,fun z=>(o.loc a z).1 n,w.1,w.2,c.aK (.less fun _ z=>by rcases z with z|z|z;exact .inl (.inl z);exact .inl (.inr z);exact .inr z) fun _ q=>q⟩
theorem RN.fr {K:Frag} {H0:Hp} {b:Bv} (d:∀a,H0 a≠none->H a≠none) (h:RN K Z H H' v b):Fr H0 v b:=by
 refine Fr.back d ?_;cases b with
 |val p=>trivial
 |slot i=>trivial
 |new p=>
  obtain⟨a,rfl,n,c⟩:=h;intro a' e;cases e;exact n
def dB (K:Frag) (r:R2) (g:PV->PV->Option Bv):Prop:=∀(Z:aJ) (H:Hp) (x y:V) (p q:PV) (b:Bv) (Q:VK),Red K Z H p x->Red K Z H q y->g p q=some b->(∀v H',aX H H'->RN K Z H H' v b->Q v H')->r x y H Q
def YO (K:Frag) (r:V->Hp->VK->Prop) (g:PV->Option Bv):Prop:=∀(Z:aJ) (H:Hp) (x:V) (p:PV) (b:Bv) (Q:VK),Red K Z H p x->g p=some b->(∀v H',aX H H'->RN K Z H H' v b->Q v H')->r x H Q
inductive wU (K:Frag) (Z:aJ) (H:Hp):List PV->List V->Prop
 |nil:wU K Z H [] []
 |cons {p:PV} {v:V} {ps:List PV} {vs:List V}:Red K Z H p v->wU K Z H ps vs->wU K Z H (p::ps) (v::vs)
def jG (K:Frag) (r:List V->Hp->VK->Prop) (g:List PV->Option Bv):Prop:=∀(Z:aJ) (H:Hp) (vs:List V) (ps:List PV) (b:Bv) (Q:VK),wU K Z H ps vs->g ps=some b->(∀v H',aX H H'->RN K Z H H' v b->Q v H')->r vs H Q
def Z8 (K:Frag) (r:V->List V->Hp->VK->Prop) (g:PV->List PV->Option Bv):Prop:=∀(Z:aJ) (H:Hp) (x:V) (vs:List V) (p:PV) (ps:List PV) (b:Bv) (Q:VK),Red K Z H p x->wU K Z H ps vs->g p ps=some b->(∀v H',aX H H'->RN K Z H H' v b->Q v H')->r x vs H Q
noncomputable def getL (e:En):List Bv->Option (List PV)
 |[]=>some []
 |b::bs=>bO (b.get e) fun p=>bO (getL e bs) fun ps=>some (p::ps)
theorem BK.red {K:Frag} (he:aP K Z W L H σ e):∀{bs:List Bv} {vs:List V} {ps:List PV},BK K Z H σ bs vs->getL e bs=some ps->wU K Z H ps vs
 |_,_,_,.nil,g=>by cases g;exact .nil
 |_,_,_,.cons h r,g=>by
  obtain⟨p,g1,g⟩:=aF g;obtain⟨ps,g2,g⟩:=aF g;cases g;exact .cons (h.red he g1) (BK.red he r g2)
section
variable {K:Frag}
noncomputable def aC (i:Nat):FE:=fun e=>match e[i]? with
 |some (some (.val p))=>some (.val p,e)
 |some (some _)=>some (.slot i,e)
 |_=>none
theorem E9 (i:Nat):Ref K (y8 i) (aC i):=by
 intro O M W L σ H e e' b Q o he hf q;unfold aC at hf;cases g:e[i]? with
 |none=>rw[g]at hf;cases hf
 | some s=>
  cases s with
  |none=>rw[g]at hf;cases hf
  |some s=>
   rw[g]at hf;obtain⟨v,h1,h2⟩:=he.at' i s g;cases s with
   |val p=>cases hf;exact⟨v,h1,q v H .refl ⟨he,h2⟩ trivial⟩
   |own p=>cases hf;exact⟨v,h1,q v H .refl ⟨he,h1⟩ trivial⟩
   |loc p=>cases hf;exact⟨v,h1,q v H .refl ⟨he,h1⟩ trivial⟩
   |bor p=>cases hf;exact⟨v,h1,q v H .refl ⟨he,h1⟩ trivial⟩
noncomputable def fC (p:PV):FE:=fun e=>some (.val p,e)
theorem GH (h:∀Z H,Rep K Z H p v):Ref K (tC v) (fC p):=by
 intro O M W L σ H e e' b Q o he hf q;cases hf;exact q v H .refl ⟨he,h _ _⟩ trivial
theorem R4 (i:Int):Ref K (tC (.int i)) (fC (.int i)):=GH fun _ _=>.int i
theorem QN (i:Str):Ref K (tC (.str i)) (fC (.str i)):=GH fun _ _=>.str i
theorem XB (i:Bool):Ref K (tC (.bl i)) (fC (.bl i)):=GH fun _ _=>.bl i
theorem SG:Ref K (tC .bD) (fC .bD):=GH fun _ _=>.bD
noncomputable def bI (g:PV->PV->Option Bv) (fa fb:FE):FE:=fun e=>bE (fa e) fun x e1=>bE (fb e1) fun y e2=>bO (x.weak.get e2) fun p=>bO (y.weak.get e2) fun q=>bO (g p q) fun b=>some (b,e2)
theorem NF {r:R2} {g:PV->PV->Option Bv} (hg:dB K r g) (ha:Ref K ta fa) (hb:Ref K tb fb):Ref K (YL r ta tb) (bI g fa fb):=by
 intro O M W L σ H e e' b Q o he hf q;obtain⟨x,e1,f1,hf⟩:=aN hf;obtain⟨y,e2,f2,hf⟩:=aN hf;obtain⟨p,g1,hf⟩:=aF hf;obtain⟨p',g2,hf⟩:=aF hf;obtain⟨c,g3,hf⟩:=aF hf;cases hf;refine ha O M W L σ H e e1 x _ o he f1 fun v1 H1 k1 r1 fr=>?_
 have o1:=o.keep k1.cC;refine hb O M W L σ H1 e1 _ y _ o1 (r1.en o1) f2 fun v2 H2 k2 r2 fr=>?_
 have o2:=o1.keep k2.cC;have en:=r2.en o2;refine hg _ H2 v1 v2 p p' _ Q (((r1.rv o1).keep o1 k2).red en g1) ((r2.rv o2).red en g2) g3 fun v H' s rn=>?_
 exact q v H' ((k1.trans k2).trans (.same s)) (rn.rb o2 en s) (rn.fr (k1.trans k2).cC)
noncomputable def fUn (g:PV->Option Bv) (fa:FE):FE:=fun e=>bE (fa e) fun x e1=>bO (x.weak.get e1) fun p=>bO (g p) fun b=>some (b,e1)
theorem X6 {r:V->Hp->VK->Prop} {g:PV->Option Bv} (hg:YO K r g) (ha:Ref K ta fa):Ref K (tUn r ta) (fUn g fa):=by
 intro O M W L σ H e e' b Q o he hf q;obtain⟨x,e1,f1,hf⟩:=aN hf;obtain⟨p,g1,hf⟩:=aF hf;obtain⟨c,g3,hf⟩:=aF hf;cases hf;refine ha O M W L σ H e _ x _ o he f1 fun v1 H1 k1 r1 fr=>?_
 have o1:=o.keep k1.cC;have en:=r1.en o1;refine hg _ H1 v1 p _ Q ((r1.rv o1).red en g1) g3 fun v H' s rn=>?_
 exact q v H' (k1.trans (.same s)) (rn.rb o1 en s) (rn.fr k1.cC)
noncomputable def aO:FA:=fun e=>some ([],e)
noncomputable def aB (fa:FE) (fr:FA):FA:=fun e=>bE (fa e) fun x e1=>bE (fr e1) fun xs e2=>some (x.weak::xs,e2)
theorem O9:tR K tZ aO:=by
 intro O M W L σ H e e' b Q o he hf q;cases hf;exact q [] H .refl he .nil
theorem OA {tr:TA} {fr:FA} (ha:Ref K ta fa) (hr:tR K tr fr):tR K (eR ta tr) (aB fa fr):=by
 intro O M W L σ H e e' b Q o he hf q;obtain⟨x,e1,f1,hf⟩:=aN hf;obtain⟨xs,e2,f2,hf⟩:=aN hf;cases hf;refine ha O M W L σ H e e1 x _ o he f1 fun v1 H1 k1 r1 fr=>?_
 have o1:=o.keep k1.cC;refine hr O M W L σ H1 e1 _ xs _ o1 (r1.en o1) f2 fun vs H2 k2 en2 r2=>?_
 exact q (v1::vs) H2 (k1.trans k2) en2 (.cons ((r1.rv o1).keep o1 k2) r2)
noncomputable def qA (g:List PV->Option Bv) (fa:FA):FE:=fun e=>bE (fa e) fun xs e1=>bO (getL e1 xs) fun ps=>bO (g ps) fun b=>some (b,e1)
theorem UT {r:List V->Hp->VK->Prop} {g:List PV->Option Bv} {ta:TA} {fa:FA} (hg:jG K r g) (ha:tR K ta fa):Ref K (YD r ta) (qA g fa):=by
 intro O M W L σ H e e' b Q o he hf q;obtain⟨x,e1,f1,hf⟩:=aN hf;obtain⟨p,g1,hf⟩:=aF hf;obtain⟨c,g3,hf⟩:=aF hf;cases hf;refine ha O M W L σ H e _ x _ o he f1 fun v1 H1 k1 en r1=>?_
 have o1:=o.keep k1.cC;refine hg _ H1 v1 p _ Q (r1.red en g1) g3 fun v H' s rn=>?_
 exact q v H' (k1.trans (.same s)) (rn.rb o1 en s) (rn.fr k1.cC)
noncomputable def fBM (g:PV->List PV->Option Bv) (fo:FE) (fa:FA):FE:=fun e=>bE (fo e) fun x e0=>match x with
 | .val (.str z)=>bE (fa e0) fun xs e1=>bO (getL e1 xs) fun ps=>bO (g (.str z) ps) fun b=>some (b,e1)
 |_=>none
theorem UR {r:V->List V->Hp->VK->Prop} {g:PV->List PV->Option Bv} {to:TE} {ta:TA} {fo:FE} {fa:FA} (hg:Z8 K r g) (ho:Ref K to fo) (ha:tR K ta fa):Ref K (ZM K "str" r to ta) (fBM g fo fa):=by
 intro O M W L σ H e e' b Q o he hf q;obtain⟨x,e0,f0,hf⟩:=aN hf;cases x with
 |slot i=>cases hf
 |new p=>cases hf
 | val p=>
  cases p with
  |str z=>
   obtain⟨xs,e1,f1,hf⟩:=aN hf;obtain⟨p,g1,hf⟩:=aF hf;obtain⟨c,g3,hf⟩:=aF hf;cases hf;refine ho O M W L σ H e e0 _ _ o he f0 fun v0 H0 k0 r0 fr=>?_
   have o0:=o.keep k0.cC;obtain⟨en0,r0⟩:=r0;cases r0;refine⟨rfl,ha O M W L σ H0 e0 _ xs _ o0 en0 f1 fun v1 H1 k1 en r1=>?_⟩;have o1:=o0.keep k1.cC;refine hg _ H1 (.str z) v1 (.str z) p _ Q (.rep (.str z)) (r1.red en g1) g3 fun v H' s rn=>?_
   exact q v H' ((k0.trans k1).trans (.same s)) (rn.rb o1 en s) (rn.fr (k0.trans k1).cC)
  |_=>cases hf
noncomputable def putL:List Bv->Option (List PV)
 |[]=>some []
 |b::bs=>bO b.put fun p=>bO (putL bs) fun ps=>some (p::ps)
theorem BK.put:∀{bs:List Bv} {vs:List V} {ps:List PV},BK K Z H σ bs vs->putL bs=some ps->bH K Z H ps vs
 |_,_,_,.nil,g=>by cases g;exact .nil
 |b::_,_,_,.cons h r,g=>by
  obtain⟨p,g1,g⟩:=aF g;obtain⟨ps,g2,g⟩:=aF g;cases g;cases b with
  |val p=>cases g1;exact .cons h (BK.put r g2)
  |slot i=>cases g1
  |new p=>exact h.elim
theorem iL (h:decide (n<1000000)=true):n<sizeLine:=szt (by have:=av h;omega)
noncomputable def dQ (fa:FA):FE:=fun e=>bE (fa e) fun xs e1=>bO (putL xs) fun ps=>bC (decide (ps.length<1000000)) (some (.val (.tup ps),e1))
theorem RO {ta:TA} {fa:FA} (ha:tR K ta fa):Ref K (W2 ta) (dQ fa):=by
 intro O M W L σ H e e' b Q o he hf q;obtain⟨x,e1,f1,hf⟩:=aN hf;obtain⟨ps,g1,hf⟩:=aF hf;obtain⟨g2,hf⟩:=aM hf;cases hf;refine ha O M W L σ H e _ x _ o he f1 fun vs H1 k1 en r1=>?_
 have rl:=r1.put g1;refine⟨by rw[<-rl.length];exact gq (iL g2),fun p hp=>?_⟩;have s:aX H1 (upd H1 p (.tup vs)):=aX.upd hp;exact q _ _ (k1.trans (.same s)) ⟨en.same s,.tup (.inl aV) (rl.aK (.same s))⟩ trivial
noncomputable def lG (fa:FA):FE:=fun e=>bE (fa e) fun xs e1=>bO (putL xs) fun ps=>bC (decide (ps.length<1000000)) (some (.new (.lst ps),e1))
theorem P7 {ta:TA} {fa:FA} (ha:tR K ta fa):Ref K (R6 ta) (lG fa):=by
 intro O M W L σ H e e' b Q o he hf q;obtain⟨x,e1,f1,hf⟩:=aN hf;obtain⟨ps,g1,hf⟩:=aF hf;obtain⟨g2,hf⟩:=aM hf;cases hf;refine ha O M W L σ H e _ x _ o he f1 fun vs H1 k1 en r1=>?_
 have o1:=o.keep k1.cC;have rl:=r1.put g1;refine⟨by rw[<-rl.length];exact gq (iL g2),fun p hp=>?_⟩;have s:aX H1 (upd H1 p (.lst vs)):=aX.upd hp;exact q _ _ (k1.trans (.same s)) ⟨p,rfl,fun z=>o1.old p z hp,fun z=>(o1.loc p z).1 hp,(en.new s hp).1,(en.new s hp).2,.lst aV (rl.aK ⟨fun _ _ h=>s _ _ h,fun a o h n=>⟨s _ _ h,fun z=>by
  rcases z with z|z|z
  .exact n (.inl z)
  .exact n (.inr z)
  .rw[show a=p from z,hp]at h;cases h⟩⟩)⟩ (Fr.back (b:=.new (.lst ps)) k1.cC fun a e=>by cases e;exact hp)
noncomputable def qH:FE:=fun e=>some (.new (.bA []),e)
theorem KO:Ref K zB qH:=by
 intro O M W L σ H e e' b Q o he hf q;cases hf;intro p hp;have s:aX H (upd H p (.dK [] 0)):=aX.upd hp;exact q _ _ (.same s) ⟨p,rfl,fun z=>o.old p z hp,fun z=>(o.loc p z).1 hp,(he.new s hp).1,(he.new s hp).2,.bA aV rfl .nil⟩ fun a e=>by cases e;exact hp
noncomputable def bW (f:FE):FT:=fun e=>bE (f e) fun b e1=>match b with
 | .val (.bl c)=>some (c,e1)
 |_=>none
theorem BH (h:Ref K t f):lI K (TC t) (bW f):=by
 intro O M W L σ H e e' b Q o he hf q;obtain⟨x,e1,f1,hf⟩:=aN hf;cases x with
 |slot i=>cases hf
 |new p=>cases hf
 | val p=>
  cases p with
  |bl c=>
   cases hf;refine h O M W L σ H e _ _ _ o he f1 fun v1 H1 k1 r1 fr=>?_
   obtain⟨en,r⟩:=r1;cases r;exact⟨b,rfl,q H1 k1 en⟩
  |_=>cases hf
theorem US (h:Ref K t f):lI K (tB t) (bW f):=BH h
noncomputable def EN (f g:FT):FT:=fun e=>bE (f e) fun b e1=>bB b (g e1) (some (false,e1))
noncomputable def fOr (f g:FT):FT:=fun e=>bE (f e) fun b e1=>bB b (some (true,e1)) (g e1)
noncomputable def XU (f:FT):FT:=fun e=>bE (f e) fun b e1=>some (!b,e1)
theorem Q8 {t:TT} {f g:FT} (h:lI K t f) (h2:lI K u g):lI K (YI t u) (EN f g):=by
 intro O M W L σ H e e' b Q o he hf q;obtain⟨x,e1,f1,hf⟩:=aN hf;refine h O M W L σ H e _ _ _ o he f1 fun H1 k1 en=>?_
 cases x with
 |true=>rw[aj rfl];exact h2 O M W L σ H1 e1 _ _ _ (o.keep k1.cC) en hf fun H2 k2 en2=>q H2 (k1.trans k2) en2
 |false=>cases hf;rw[ai au];exact q H1 k1 en
theorem V4 {t:TT} {f g:FT} (h:lI K t f) (h2:lI K u g):lI K (tOr t u) (fOr f g):=by
 intro O M W L σ H e e' b Q o he hf q;obtain⟨x,e1,f1,hf⟩:=aN hf;refine h O M W L σ H e _ _ _ o he f1 fun H1 k1 en=>?_
 cases x with
 |true=>cases hf;rw[aj rfl];exact q H1 k1 en
 |false=>rw[ai au];exact h2 O M W L σ H1 e1 _ _ _ (o.keep k1.cC) en hf fun H2 k2 en2=>q H2 (k1.trans k2) en2
theorem QD {t:TT} {f:FT} (h:lI K t f):lI K (ZF t) (XU f):=by
 intro O M W L σ H e e' b Q o he hf q;obtain⟨x,e1,f1,hf⟩:=aN hf;cases hf;exact h O M W L σ H e _ _ _ o he f1 fun H1 k1 en=>q H1 k1 en
noncomputable def fE:FT:=fun e=>some (true,e)
theorem L3:lI K TQ fE:=by
 intro O M W L σ H e e' b Q o he hf q;cases hf;exact q H .refl he
noncomputable def NX:Bv->Option Bool
 | .val (.bl c)=>some c
 |_=>none
theorem IZ {x:Bv} {c:Bool} (h:NX x=some c):x= .val (.bl c):=by
 unfold NX at h;split at h
 .cases h;rfl
 .cases h
noncomputable def E4 (fa fb:FE):FE:=fun e=>bE (fa e) fun b e1=>bO (NX b) fun c=>bB c (fb e1) (some (.val (.bl false),e1))
theorem NM (ha:Ref K ta fa) (hb:Ref K tb fb):Ref K (T4 ta tb) (E4 fa fb):=by
 intro O M W L σ H e e' b Q o he hf q;obtain⟨x,e1,f1,hf⟩:=aN hf;obtain⟨c,gc,hf⟩:=aF hf;have ec:=IZ gc;subst ec;refine ha O M W L σ H e _ _ _ o he f1 fun v1 H1 k1 r1 fr=>?_
 obtain⟨en,r⟩:=r1;cases r;refine⟨c,rfl,?_⟩;cases c with
 |true=>rw[aj rfl];exact hb O M W L σ H1 e1 _ _ _ (o.keep k1.cC) en hf fun v2 H2 k2 r2 fr=>q v2 H2 (k1.trans k2) r2 (fr.back k1.cC)
 |false=>cases hf;rw[ai au];exact q _ H1 k1 ⟨en,.bl _⟩ trivial
noncomputable def T5 (fc:FT) (fa fb:FE):FE:=fun e=>bE (fc e) fun b e1=>bB b (fa e1) (fb e1)
theorem XH {tc:TT} (hc:lI K tc fc) (ha:Ref K ta fa) (hb:Ref K tb fb):Ref K (tIf tc ta tb) (T5 fc fa fb):=by
 intro O M W L σ H e e' b Q o he hf q;obtain⟨x,e1,f1,hf⟩:=aN hf;refine hc O M W L σ H e _ _ _ o he f1 fun H1 k1 en=>?_
 cases x with
 |true=>rw[aj rfl];exact ha O M W L σ H1 e1 _ _ _ (o.keep k1.cC) en hf fun v2 H2 k2 r2 fr=>q v2 H2 (k1.trans k2) r2 (fr.back k1.cC)
 |false=>rw[ai au];exact hb O M W L σ H1 e1 _ _ _ (o.keep k1.cC) en hf fun v2 H2 k2 r2 fr=>q v2 H2 (k1.trans k2) r2 (fr.back k1.cC)
abbrev FO:=En->Option (Option Int×En)
def Q5 (K:Frag) (t:TO) (f:FO):Prop:=∀(O M:aJ) (W:WS) (L:aJ) (σ:St) (H:Hp) (e e':En) (b:Option Int) (Q:Option Int->Hp->Prop),kH O M W L H->aP K (aT M L) W L H σ e->f e=some (b,e')->
 (∀H',bY W L H H'->aP K (aT M L) W L H' σ e'->Q b H')->t σ H Q
noncomputable def jJ:FO:=fun e=>some (none,e)
noncomputable def sY (f:FE):FO:=fun e=>bE (f e) fun b e1=>match b with
 | .val (.int i)=>some (some i,e1)
 |_=>none
theorem DU:Q5 K G5 jJ:=by
 intro O M W L σ H e e' b Q o he hf q;cases hf;exact q H .refl he
theorem MV (h:Ref K t f):Q5 K (TM t) (sY f):=by
 intro O M W L σ H e e' b Q o he hf q;obtain⟨x,e1,f1,hf⟩:=aN hf;cases x with
 |slot i=>cases hf
 |new p=>cases hf
 | val p=>
  cases p with
  |int c=>
   cases hf;refine h O M W L σ H e _ _ _ o he f1 fun v1 H1 k1 r1 fr=>?_
   obtain⟨en,r⟩:=r1;cases r;exact⟨c,rfl,q H1 k1 en⟩
  |_=>cases hf
def ZI (K:Frag) (r:V->Option Int->Option Int->Hp->VK->Prop) (g:PV->Option Int->Option Int->Option Bv):Prop:=∀(Z:aJ) (H:Hp) (x:V) (p:PV) (lo hi:Option Int) (b:Bv) (Q:VK),Red K Z H p x->g p lo hi=some b->(∀v H',aX H H'->RN K Z H H' v b->Q v H')->r x lo hi H Q
noncomputable def TL (g:PV->Option Int->Option Int->Option Bv) (fa:FE) (fl fh:FO):FE:=fun e=>bE (fa e) fun x e1=>bE (fl e1) fun lo e2=>bE (fh e2) fun hi e3=>bO (x.weak.get e3) fun p=>bO (g p lo hi) fun b=>some (b,e3)
theorem VQ {r:V->Option Int->Option Int->Hp->VK->Prop} {g:PV->Option Int->Option Int->Option Bv} {tl th:TO} {fl fh:FO} (hg:ZI K r g) (ha:Ref K ta fa) (hl:Q5 K tl fl) (hh:Q5 K th fh):Ref K (tSl r ta tl th) (TL g fa fl fh):=by
 intro O M W L σ H e e' b Q o he hf q;obtain⟨x,e1,f1,hf⟩:=aN hf;obtain⟨lo,e2,f2,hf⟩:=aN hf;obtain⟨hi,e3,f3,hf⟩:=aN hf;obtain⟨p,g1,hf⟩:=aF hf;obtain⟨c,g3,hf⟩:=aF hf;cases hf;refine ha O M W L σ H e e1 x _ o he f1 fun v1 H1 k1 r1 fr=>?_
 have o1:=o.keep k1.cC;refine hl O M W L σ H1 e1 e2 lo _ o1 (r1.en o1) f2 fun H2 k2 en2=>?_
 have o2:=o1.keep k2.cC;refine hh O M W L σ H2 e2 _ hi _ o2 en2 f3 fun H3 k3 en3=>?_
 have o3:=o2.keep k3.cC;refine hg _ H3 v1 p lo hi _ Q ((((r1.rv o1).keep o1 k2).keep o2 k3).red en3 g1) g3 fun v H' s rn=>?_
 exact q v H' (((k1.trans k2).trans k3).trans (.same s)) (rn.rb o3 en3 s) (rn.fr ((k1.trans k2).trans k3).cC)
end
inductive Out where
 |nx (e:En)|rt (b:Bv) (e:En)|bk (e:En)|ct (e:En)
abbrev FS:=En->Option Out
structure mR (W:WS) (L L':aJ) (H H':Hp):Prop where
 obj:∀a o,H a=some o->¬aw W a->¬L a->H' a=some o
 tup:∀a xs,H a=some (.tup xs)->H' a=some (.tup xs)
 cC:∀a,H a≠none->H' a≠none
 new:∀a,L' a->L a\/ H a=none
theorem mR.refl:mR W L L H H:=⟨fun _ _ h _ _=>h,fun _ _ h=>h,fun _ h=>h,fun _ h=>.inl h⟩
theorem mR.keep (k:bY W L H H'):mR W L L H H':=⟨k.obj,k.tup,k.cC,fun _ h=>.inl h⟩
theorem mR.trans {L2:aJ} {H:Hp} (a:mR W L L1 H H1) (b:mR W L1 L2 H1 H2):mR W L L2 H H2:=
 ⟨fun c o h n m=>b.obj c o (a.obj c o h n m) n fun z=>(a.new c z).elim m fun z=>(by rw[h]at z;cases z),fun c xs h=>b.tup c xs (a.tup c xs h),fun c h=>b.cC c (a.cC c h),fun c h=>by
  rcases b.new c h with z|z
  .exact a.new c z
  .refine .inr ?_;cases e:H c with
   |none=>rfl
   |some o=>exact absurd z (a.cC c (by rw[e];exact fun z=>nomatch z))⟩
def RT (K:Frag) (O M:aJ) (W:WS) (L:aJ) (H:Hp) (D:Ends):Out->Prop
 | .nx e'=>∀L' σ' H',mR W L L' H H'->kH O M W L' H'->aP K (aT M L') W L' H' σ' e'->D.nx σ' H'
 | .bk e'=>∀L' σ' H',mR W L L' H H'->kH O M W L' H'->aP K (aT M L') W L' H' σ' e'->D.bk σ' H'
 | .ct e'=>∀L' σ' H',mR W L L' H H'->kH O M W L' H'->aP K (aT M L') W L' H' σ' e'->D.ct σ' H'
 | .rt b e'=>∀L' σ' H' v,mR W L L' H H'->kH O M W L' H'->RB K O M W L' H' σ' e' v b->D.rt v H'
theorem RT.later {K:Frag} {D:Ends} {r:Out} (g:mR W L L1 H H1) (h:RT K O M W L H D r):RT K O M W L1 H1 D r:=by
 cases r with
 |nx e=>exact fun L' σ' H' g'=>h L' σ' H' (g.trans g')
 |bk e=>exact fun L' σ' H' g'=>h L' σ' H' (g.trans g')
 |ct e=>exact fun L' σ' H' g'=>h L' σ' H' (g.trans g')
 |rt b e=>exact fun L' σ' H' v g'=>h L' σ' H' v (g.trans g')
def fR (K:Frag) (t:TS) (f:FS):Prop:=∀(O M:aJ) (W:WS) (L:aJ) (σ:St) (H:Hp) (e:En) (r:Out) (D:Ends),kH O M W L H->aP K (aT M L) W L H σ e->f e=some r->RT K O M W L H D r->t D σ H
section
variable {K:Frag}
noncomputable def dE:FS:=fun e=>some (.nx e)
theorem NL:fR K LW dE:=by
 intro O M W L σ H e r D o he hf q;cases hf;exact q L σ H .refl o he
noncomputable def a8 (f g:FS):FS:=fun e=>match f e with
 |some (.nx e1)=>g e1
 |r=>r
theorem FK {t u:TS} {f g:FS} (h1:fR K t f) (h2:fR K u g):fR K (PU t u) (a8 f g):=by
 intro O M W L σ H e r D o he hf q;unfold a8 at hf;cases c:f e with
 |none=>rw[c]at hf;cases hf
 |some r1=>
  rw[c]at hf;cases r1 with
  |nx e1=>exact h1 O M W L σ H e _ _ o he c fun L' σ' H' g' o' he'=>h2 O M W L' σ' H' e1 r D o' he' hf (q.later g')
  |rt b e1=>cases hf;exact h1 O M W L σ H e _ _ o he c q
  |bk e1=>cases hf;exact h1 O M W L σ H e _ _ o he c q
  |ct e1=>cases hf;exact h1 O M W L σ H e _ _ o he c q
noncomputable def c8 (f:FE):FS:=fun e=>bE (f e) fun b e1=>some (.rt b e1)
theorem Q7 (h:Ref K t f):fR K (XJ t) (c8 f):=by
 intro O M W L σ H e r D o he hf q;obtain⟨x,e1,f1,hf⟩:=aN hf;cases hf;exact h O M W L σ H e _ _ _ o he f1 fun v H' k rb fr=>q L σ H' v (.keep k) (o.keep k.cC) rb
noncomputable def uM (fc:FT) (f g:FS):FS:=fun e=>bE (fc e) fun b e1=>bB b (f e1) (g e1)
theorem RY {t u:TS} {f g:FS} (hc:lI K c fc) (h1:fR K t f) (h2:fR K u g):fR K (XF c t u) (uM fc f g):=by
 intro O M W L σ H e r D o he hf q;obtain⟨x,e1,f1,hf⟩:=aN hf;refine hc O M W L σ H e _ _ _ o he f1 fun H1 k1 en=>?_
 cases x with
 |true=>rw[aj rfl];exact h1 O M W L σ H1 e1 r D (o.keep k1.cC) en hf (q.later (.keep k1))
 |false=>rw[ai au];exact h2 O M W L σ H1 e1 r D (o.keep k1.cC) en hf (q.later (.keep k1))
theorem dP {l:List α} {j:Nat} {x y:α} (h:(l.set i x)[j]? =some y):(i=j/\i<l.length/\x=y)\/ (i≠j/\l[j]? =some y):=by
 by_cases e:i=j
 .subst e;have hl:i<l.length:=by
   have:=(af.mp h).1;simpa using this
  rw[et hl]at h;exact .inl ⟨rfl,hl,Option.some.inj h⟩
 .rw[dh e]at h;exact .inr ⟨e,h⟩
theorem aP.put {e:En} (h:aP K Z W L H σ e) (hm:s.dH=false) (hs:lA K Z W L H i v s):aP K Z W L H (σ.set i (some v)) (e.set i (some s)):=by
 refine⟨by rw[jv,jv];exact h.len,fun j t q=>?_,fun j k s1 s2 hjk q1 q2 m1 m2=>?_⟩
 .rcases dP q with⟨rfl,hl,e⟩|⟨hn,q⟩
  .cases e;exact⟨v,by rw[et (by rw[<-h.len];exact hl)],hs⟩
  .rw[dh hn];exact h.at' j t q
 .rcases dP q1 with⟨rfl,hl,e⟩|⟨hn1,q1⟩
  .cases e;rw[hm]at m1;cases m1
  .rcases dP q2 with⟨rfl,hl,e⟩|⟨hn2,q2⟩
   .cases e;rw[hm]at m2;cases m2
   .rw[dh hn1,dh hn2];exact h.rP j k s1 s2 hjk q1 q2 m1 m2
theorem aP.putL {e:En} (h:aP K (aT M (aT L (one a))) W (aT L (one a)) H σ e) (hf:L7 σ e a) (hc:iJ K (aT M (aT L (one a))) H a p):
  aP K (aT M (aT L (one a))) W (aT L (one a)) H (σ.set i (some (.ref a))) (e.set i (some (.loc p))):=by
 refine⟨by rw[jv,jv];exact h.len,fun j t q=>?_,fun j k s1 s2 hjk q1 q2 m1 m2=>?_⟩
 .rcases dP q with⟨rfl,hl,e⟩|⟨hn,q⟩
  .cases e;exact⟨_,by rw[et (by rw[<-h.len];exact hl)],a,rfl,.inr rfl,hc⟩
  .rw[dh hn];exact h.at' j t q
 .rcases dP q1 with⟨rfl,hl,e⟩|⟨hn1,q1⟩
  .rcases dP q2 with⟨rfl,hl,e⟩|⟨hn2,q2⟩
   .exact absurd rfl hjk
   .rw[dh hn2,et (by rw[<-h.len];exact hl)];exact fun z=>hf k s2 q2 m2 z.symm
  .rcases dP q2 with⟨rfl,hl,e⟩|⟨hn2,q2⟩
   .rw[dh hn1,et (by rw[<-h.len];exact hl)];exact fun z=>hf j s1 q1 m1 z
   .rw[dh hn1,dh hn2];exact h.rP j k s1 s2 hjk q1 q2 m1 m2
noncomputable def b9 (i:Nat) (f:FE):FS:=fun e=>bE (f e) fun b e1=>match b with
 | .val p=>some (.nx (e1.set i (some (.val p))))
 | .new p=>some (.nx (e1.set i (some (.val p))))
 | .slot j=>match e1[j]? with
  |some (some (.bor p))=>some (.nx (e1.set i (some (.bor p))))
  |_=>none
theorem F0 (h:Ref K t f):fR K (u5 t (m8 i)) (b9 i f):=by
 intro O M W L σ H e r D o he hf q;obtain⟨x,e1,f1,hf⟩:=aN hf;refine h O M W L σ H e _ _ _ o he f1 fun v H' k rb fr=>?_
 have o1:=o.keep k.cC;cases x with
 |val p=>cases hf;exact q L _ H' (.keep k) o1 (aP.put rb.1 rfl rb.2)
 |new p=>cases hf;have rb:=rb.weak o1;exact q L _ H' (.keep k) o1 (aP.put (s:=.val p) rb.1 rfl rb.2)
 | slot j=>
  dsimp only at hf;cases c:e1[j]? with
  |none=>rw[c]at hf;cases hf
  | some s=>
   cases s with
   |none=>rw[c]at hf;cases hf
   | some s=>
    rw[c]at hf;cases s with
    |bor p=>
     cases hf;obtain⟨u,h1,h2⟩:=rb.1.at' j _ c;rw[rb.2]at h1;cases h1;exact q L _ H' (.keep k) o1 (aP.put (s:=.bor p) rb.1 rfl h2)
    |_=>cases hf
noncomputable def jA (i:Nat) (f:FE):FS:=fun e=>bE (f e) fun b e1=>match b with
 | .new p=>some (.nx (e1.set i (some (.loc p))))
 |_=>none
theorem MS (h:Ref K t f):fR K (u5 t (m8 i)) (jA i f):=by
 intro O M W L σ H e r D o he hf q;obtain⟨x,e1,f1,hf⟩:=aN hf;cases x with
 |val p=>cases hf
 |slot j=>cases hf
 |new p=>
  cases hf;refine h O M W L σ H e _ _ _ o he f1 fun v H' k rb fr=>?_
  obtain⟨a,rfl,nO,nL,en,fe,c⟩:=rb;obtain⟨ob,hob,_⟩:=c.there;have o1:=o.keep k.cC;have new:H a=none:=fr a rfl;exact q (aT L (one a)) _ H' ⟨k.obj,k.tup,k.cC,fun b z=>z.elim .inl fun z=>.inr (by rw[show b=a from z];exact new)⟩ ⟨o1.old,o1.mo,o1.wm,fun b z=>z.elim (o1.loc b) fun z=>(by rw[show b=a from z];exact⟨(by rw[hob];exact fun z=>nomatch z),nO⟩)⟩ (aP.putL en fe c)
noncomputable def rel (i:Nat) (e:En):Option En:=match e[i]? with
 |some (some (.loc p))=>some (e.set i (some (.val p)))
 |some (some (.val p))=>some e
 |_=>none
theorem aP.rel {e:En} {i:Nat} (o:kH O M W L H) (h:aP K (aT M L) W L H σ e) (hi:e[i]? =some (some (.loc p))):∃L',(∀a,L' a->L a)/\aP K (aT M L') W L' H σ (e.set i (some (.val p))):=by
 obtain⟨v,h1,a,rfl,la,c⟩:=h.at' i _ hi;refine⟨fun b=>L b/\b≠a,fun b z=>z.1,by rw[jv];exact h.len,fun j t q=>?_,fun j k s1 s2 hjk q1 q2 m1 m2=>?_⟩
 .have k:cS (aT M L) (aT M fun b=>L b/\b≠a) H H:=.less fun b z=>z.elim .inl fun z=>.inr z.1
  rcases dP q with⟨rfl,hl,e⟩|⟨hn,q⟩
  .cases e;refine⟨_,h1,(c.aK k fun _ q=>q).rep fun z=>?_⟩;rcases z with z|z
   .exact(o.loc a la).2 (o.mo a z)
   .exact z.2 rfl
  .obtain⟨v,g1,g2⟩:=h.at' j t q;refine⟨v,g1,?_⟩;cases t with
   |val p=>exact Rep.aK k g2
   |own p=>obtain⟨b,e,w,c⟩:=g2;exact⟨b,e,w,c.aK k fun o q=>q⟩
   |loc p=>
    obtain⟨b,e,w,c⟩:=g2;refine⟨b,e,⟨w,fun z=>?_⟩,c.aK k fun o q=>q⟩;subst z;subst e;exact h.rP i j _ _ hn hi q rfl rfl (h1.trans g1.symm)
   |bor p=>
    obtain⟨b,e,c⟩:=g2;refine⟨b,e,?_⟩;cases c with
    |lst e od n m r=>exact .lst e od n (fun z=>m z.1) (r.aK k)
    |eQ e r=>exact .eQ e (r.aK k)
    |bA e od n m kk r=>exact .bA e od n (fun z=>m z.1) kk (r.aK k)
 .rcases dP q1 with⟨rfl,hl,e⟩|⟨hn1,q1⟩
  .cases e;cases m1
  .rcases dP q2 with⟨rfl,hl,e⟩|⟨hn2,q2⟩
   .cases e;cases m2
   .exact h.rP j k s1 s2 hjk q1 q2 m1 m2
noncomputable def UN (i:Nat) (f:FS):FS:=fun e=>bO (rel i e) f
theorem RC {t:TS} {f:FS} (i:Nat) (h:fR K t f):fR K t (UN i f):=by
 intro O M W L σ H e r D o he hf q;obtain⟨e1,f1,hf⟩:=aF hf;unfold Mr.rel at f1;cases c:e[i]? with
 |none=>rw[c]at f1;cases f1
 | some s=>
  cases s with
  |none=>rw[c]at f1;cases f1
  | some s=>
   rw[c]at f1;cases s with
   |loc p=>
    cases f1;obtain⟨L',hL,en⟩:=he.rel o c;refine h O M W L' σ H _ r D ⟨o.old,o.mo,o.wm,fun a z=>o.loc a (hL a z)⟩ en hf (q.later ⟨fun _ _ h _ _=>h,fun _ _ h=>h,fun _ h=>h,fun a z=>.inl (hL a z)⟩)
   |val p=>cases f1;exact h O M W L σ H _ r D o he hf q
   |_=>cases f1
noncomputable def cG (e:En) (i:Nat) (p:PV):En:=match e[i]? with
 |some (some (.own _))=>e.set i (some (.own p))
 |_=>e.set i (some (.loc p))
noncomputable def ownAt (e:En) (i:Nat):Option PV:=match e[i]? with
 |some (some (.own p))=>some p
 |some (some (.loc p))=>some p
 |_=>none
theorem bV (h:ownAt e i=some p):(e[i]? =some (some (.own p))\/ e[i]? =some (some (.loc p))):=by
 unfold ownAt at h;split at h
 .cases h;exact .inl (by assumption)
 .cases h;exact .inr (by assumption)
 .cases h
theorem aP.own {i:Nat} (h:aP K Z W L H σ e) (g:ownAt e i=some p):∃a,σ[i]? =some (some (.ref a))/\(aw W a\/ L a)/\iJ K Z H a p:=by
 rcases bV g with g|g
 .obtain⟨v,h1,a,rfl,w,c⟩:=h.at' i _ g;exact⟨a,h1,.inl ⟨i,w⟩,c⟩
 .obtain⟨v,h1,a,rfl,w,c⟩:=h.at' i _ g;exact⟨a,h1,.inr w,c⟩
theorem cS.write (z:Z a) (h:H a=some ob) (nt:∀xs,ob≠ .tup xs):cS Z Z H (upd H a o):=
 ⟨fun b xs e=>by rw[aU (KP e h fun z=>nt _ z.symm)];exact e,fun b u e n=>⟨by rw[aU (fun q:b=a=>n (by rw[q];exact z))];exact e,n⟩⟩
theorem aP.write {i:Nat} {q:PV} (wm:∀i a,W i a->M a) (h:aP K (aT M L) W L H σ e) (g:ownAt e i=some p) (ha:σ[i]? =some (some (.ref a))) (c:iJ K (aT M L) (upd H a ob) a q):
  aP K (aT M L) W L (upd H a ob) σ (cG e i q):=by
 obtain⟨a',h1,hz,c0⟩:=h.own g;rw[ha]at h1;cases h1;have za:aT M L a:=hz.elim (fun⟨i,w⟩=>.inl (wm i a w)) .inr;obtain⟨o0,e0,nt⟩:=c0.there;have k:cS (aT M L) (aT M L) H (upd H a ob):=.write za e0 nt;have hl:i<e.length:=by
  rcases bV g with g|g<;>exact(af.mp g).1
 have hm:∃s,e[i]? =some (some s)/\s.dH=true:=by
  rcases bV g with g|g<;>exact⟨_,g,rfl⟩
 obtain⟨s0,hs0,hm0⟩:=hm;have key:∀s',(cG e i q)[i]? =some (some s')->∃v,σ[i]? =some (some v)/\lA K (aT M L) W L (upd H a ob) i v s':=fun s' z=>by
  unfold cG at z;rcases bV g with g|g
  .rw[g]at z;rw[et hl]at z;cases z;obtain⟨v,h1,a',rfl,w,_⟩:=h.at' i _ g;rw[ha]at h1;cases h1
   exact⟨_,ha,a,rfl,w,c⟩
  .rw[g]at z;rw[et hl]at z;cases z;obtain⟨v,h1,a',rfl,w,_⟩:=h.at' i _ g;rw[ha]at h1;cases h1
   exact⟨_,ha,a,rfl,w,c⟩
 have oth:∀j,i≠j->(cG e i q)[j]? =e[j]?:=fun j hj=>by
  unfold cG;rcases bV g with g|g<;>(rw[g];exact dh hj)
 refine⟨?_,fun j t z=>?_,fun j l s1 s2 hjk q1 q2 m1 m2=>?_⟩
 .rw[<-h.len];unfold cG;rcases bV g with g|g<;>(rw[g];exact jv)
 .by_cases hj:i=j
  .subst hj;exact key t z
  .rw[oth j hj]at z;obtain⟨v,g1,g2⟩:=h.at' j t z;refine⟨v,g1,?_⟩;cases t with
   |val p=>exact Rep.aK k g2
   |own p=>
    obtain⟨b,e',w,c⟩:=g2;subst e';have hb:b≠a:=fun z'=>h.rP i j s0 _ hj hs0 z hm0 rfl (by rw[ha,g1,z'])
    exact⟨b,rfl,w,c.aK k fun o q=>by rw[aU hb];exact q⟩
   |loc p=>
    obtain⟨b,e',w,c⟩:=g2;subst e';have hb:b≠a:=fun z'=>h.rP i j s0 _ hj hs0 z hm0 rfl (by rw[ha,g1,z'])
    exact⟨b,rfl,w,c.aK k fun o q=>by rw[aU hb];exact q⟩
   | bor p=>
    obtain⟨b,e',c⟩:=g2;refine⟨b,e',?_⟩;cases c with
    |lst e od n m r=>
     have hb:b≠a:=fun z'=>hz.elim (fun w=>n (z'▸w)) fun w=>m (z'▸w)
     exact .lst (e.elim (fun e=>.inl (by rw[aU hb];exact e)) fun⟨u,e⟩=>.inr ⟨u,by rw[aU hb];exact e⟩) od n m (r.aK k)
    |eQ e r=>exact .eQ e (r.aK k)
    |bA e od n m kk r=>
     have hb:b≠a:=fun z'=>hz.elim (fun w=>n (z'▸w)) fun w=>m (z'▸w)
     exact .bA (e.elim (fun e=>.inl (by rw[aU hb];exact e)) fun⟨u,e⟩=>.inr ⟨u,by rw[aU hb];exact e⟩) od n m kk (r.aK k)
 .have dH:∀(j:Nat) (s:Sl),(cG e i q)[j]? =some (some s)->s.dH=true->∃s':Sl,e[j]? =some (some s')/\s'.dH=true:=fun j s z m=>by
   by_cases hj:i=j
   .subst hj;exact⟨s0,hs0,hm0⟩
   .rw[oth j hj]at z;exact⟨s,z,m⟩
  obtain⟨t1,w1,n1⟩:=dH j s1 q1 m1;obtain⟨t2,w2,n2⟩:=dH l s2 q2 m2;exact h.rP j l t1 t2 hjk w1 w2 n1 n2
theorem bY.write (hz:aw W a\/ L a) (h:H a=some ob) (nt:∀xs,ob≠ .tup xs):bY W L H (upd H a o):=
 ⟨fun b u e n m=>by rw[aU (fun q:b=a=>hz.elim (fun z=>n (by rw[q];exact z)) fun z=>m (by rw[q];exact z))];exact e,fun b xs e=>by rw[aU (KP e h fun z=>nt _ z.symm)];exact e,fun b e=>by
  by_cases hb:b=a
  .subst hb;rw[aV];exact fun z=>nomatch z
  .rw[aU hb];exact e⟩
noncomputable def JD (i:Nat) (f:FE):FS:=fun e=>bO (ownAt e i) fun p0=>match p0 with
 | .lst _=>bE (f e) fun b e1=>bO b.put fun p=>match ownAt e1 i with
  |some (.lst ps)=>bC (decide (ps.length<1000000)) (some (.nx (cG e1 i (.lst (ps++[p])))))
  |_=>none
 |_=>none
theorem RB.put {b:Bv} (o:kH O M W L H) (h:RB K O M W L H σ e v b) (g:b.put=some p):aP K (aT M L) W L H σ e/\Rep K (aT M L) H p v:=by
 have h:=h.weak o;cases b with
 |val q=>cases g;exact h
 |new q=>cases g;exact h
 |slot i=>cases g
theorem RW {i:Nat} (h:Ref K t f):fR K (OJ (ZM K "list" uJ (y8 i) (eR t tZ))) (JD i f):=by
 intro O M W L σ H e r D o he hf q;obtain⟨p0,g0,hf⟩:=aF hf;cases p0 with
 | lst ps0=>
  obtain⟨x,e1,f1,hf⟩:=aN hf;obtain⟨p,g1,hf⟩:=aF hf;cases c:ownAt e1 i with
  |none=>rw[c]at hf;cases hf
  | some q1=>
   rw[c]at hf;cases q1 with
   | lst ps=>
    obtain⟨g2,hf⟩:=aM hf;cases hf;obtain⟨a,ha,hz,ct⟩:=he.own g0;refine⟨_,ha,.inl ⟨rfl,?_⟩,?_⟩
    .cases ct with|lst e r=>exact⟨_,k7.of e⟩
    refine h O M W L σ H e _ _ _ o he f1 fun v H' k rb fr=>?_
    have o1:=o.keep k.cC;obtain⟨en,rp⟩:=rb.put o1 g1;obtain⟨a',ha',hz',ct'⟩:=en.own c;rw[ha]at ha';cases ha';cases ct' with
    |lst e2 r2=>
     rename_i xs;refine⟨a,xs,v,rfl,rfl,e2,by rw[<-r2.length];exact iL g2,?_⟩;have kw:bY W L H' (upd H' a (.lst (xs++[v]))):=.write hz e2 fun _ z=>nomatch z
     have st:cS (aT M L) (aT M L) H' (upd H' a (.lst (xs++[v]))):=.write (hz.elim (fun⟨i,w⟩=>.inl (o.wm i a w)) .inr) e2 fun _ z=>nomatch z
     exact q L σ _ (.keep (k.trans kw)) (o1.keep kw.cC) (aP.write o.wm en c ha (.lst aV ((r2.aK st).app (.cons (rp.aK st) .nil))))
   |_=>cases hf
 |_=>cases hf
noncomputable def zA (i:Nat) (fi fv:FE):FS:=fun e=>bE (fv e) fun b e1=>bO b.put fun p=>bO (ownAt e1 i) fun _=>bE (fi e1) fun k e2=>match k with
 | .val (.int k)=>match ownAt e2 i with
  |some (.lst ps)=>bO (wJ ps.length k) fun j=>some (.nx (cG e2 i (.lst (ps.set j p))))
  |_=>none
 |_=>none
theorem ID {i:Nat} {ti:TE} {fi:FE} (hv:Ref K tv fv) (hi:Ref K ti fi):fR K (u5 tv (y7 (y8 i) ti SW)) (zA i fi fv):=by
 intro O M W L σ H e r D o he hf q;obtain⟨x,e1,f1,hf⟩:=aN hf;obtain⟨p,g1,hf⟩:=aF hf;obtain⟨p0,g0,hf⟩:=aF hf;obtain⟨y,e2,f2,hf⟩:=aN hf;cases y with
 |slot i=>cases hf
 |new p=>cases hf
 | val y=>
  cases y with
  | int k=>
   dsimp only at hf;cases c:ownAt e2 i with
   |none=>rw[c]at hf;cases hf
   | some q1=>
    rw[c]at hf;cases q1 with
    | lst ps=>
     obtain⟨j,g2,hf⟩:=aF hf;cases hf;refine hv O M W L σ H e _ _ _ o he f1 fun v H1 k1 rb fr=>?_
     have o1:=o.keep k1.cC;obtain⟨en,rp⟩:=rb.put o1 g1;obtain⟨a,ha,_,_⟩:=en.own g0;refine⟨_,ha,hi O M W L σ H1 e1 _ _ _ o1 en f2 fun v2 H2 k2 rb2 fr2=>?_⟩;obtain⟨en2,r2⟩:=rb2;cases r2;have o2:=o1.keep k2.cC;obtain⟨a',ha',hz,ct⟩:=en2.own c;rw[ha]at ha';cases ha';cases ct with
     |lst e3 r3=>
      rename_i xs;refine⟨a,xs,k,j,rfl,rfl,e3,by rw[<-r3.length];exact g2,?_⟩;have kw:bY W L H2 (upd H2 a (.lst (xs.set j v))):=.write hz e3 fun _ z=>nomatch z
      have st:cS (aT M L) (aT M L) H2 (upd H2 a (.lst (xs.set j v))):=.write (hz.elim (fun⟨i,w⟩=>.inl (o.wm i a w)) .inr) e3 fun _ z=>nomatch z
      exact q L σ _ (.keep ((k1.trans k2).trans kw)) (o2.keep kw.cC) (aP.write o.wm en2 c ha (.lst aV ((r3.aK st).set ((rp.aK (k2.aK o1)).aK st) j)))
    |_=>cases hf
  |_=>cases hf
end
noncomputable def cE (kvs:List (Key×PV)) (k:Key):Option PV:=(kvs.find? fun kv=>decide (kv.1=k)).map (·.2)
noncomputable def dZ (kvs:List (Key×PV)) (k:Key) (v:PV):List (Key×PV):=
 if(kvs.any fun kv=>decide (kv.1=k))=true then kvs.map (fun kv=>if kv.1=k then(kv.1,v)else kv)else kvs++[(k,v)]
section
variable {K:Frag} {Z:aJ} {H:Hp}
def dF (K:Frag) (Z:aJ) (H:Hp) (kvs:List (Key×PV)) (ys:List (Key×V)):Prop:=ys.map (·.1)=kvs.map (·.1)/\bH K Z H (kvs.map (·.2)) (ys.map (·.2))
theorem dF.cases {kvs:List (Key×PV)} {ys:List (Key×V)} (h:dF K Z H kvs ys):(kvs=[]/\ys=[])\/ ∃k p v r s,kvs=(k,p)::r/\ys=(k,v)::s/\Rep K Z H p v/\dF K Z H r s:=by
 obtain⟨h1,h2⟩:=h;cases kvs with
 |nil=>
  cases ys with
  |nil=>exact .inl ⟨rfl,rfl⟩
  |cons y ys=>cases h1
 | cons x kvs=>
  cases ys with
  |nil=>cases h1
  |cons y ys=>
   obtain⟨a,p⟩:=x;obtain⟨b,v⟩:=y;rw[cz,cz]at h1;have h1':=List.cons.inj h1;have e:b=a:=h1'.1;subst e;cases h2 with
   |cons h2 r2=>exact .inr ⟨b,p,v,kvs,ys,rfl,rfl,h2,h1'.2,r2⟩
theorem dF.cons {r:List (Key×PV)} {s:List (Key×V)} (h:Rep K Z H p v) (hr:dF K Z H r s):dF K Z H ((k,p)::r) ((k,v)::s):=
 ⟨by rw[cz,cz,hr.1],.cons h hr.2⟩
theorem dF.val:∀{kvs:List (Key×PV)} {ys:List (Key×V)} (k:Key),dF K Z H kvs ys->(cE kvs k=none/\dS ys k=none)\/ ∃p v,cE kvs k=some p/\dS ys k=some v/\Rep K Z H p v
 |[],ys,k,h=>by
  rcases h.cases with⟨_,rfl⟩|⟨_,_,_,_,_,e,_⟩
  .exact .inl ⟨rfl,rfl⟩
  .cases e
 | x::kvs,ys,k,h=>by
  rcases h.cases with⟨e,_⟩|⟨j,p,v,r,s,e,e',hp,hr⟩
  .cases e
  .cases e;subst e'
   by_cases hj:j=k
   .exact .inr ⟨p,v,by simp[cE,find?_cons,hj],by simp[dS,find?_cons,hj],hp⟩
   .have a:cE ((j,p)::kvs) k=cE kvs k:=by simp[cE,find?_cons,hj]
    have b:dS ((j,v)::s) k=dS s k:=by simp[dS,find?_cons,hj]
    rw[a,b];exact dF.val k hr
theorem dF.any (k:Key) (h:dF K Z H kvs ys):(kvs.any fun kv=>decide (kv.1=k))=ys.any fun kv=>decide (kv.1=k):=by
 have e1:(kvs.any fun kv=>decide (kv.1=k))=(kvs.map (·.1)).any fun j=>decide (j=k):=by rw[any_map];rfl
 have e2:(ys.any fun kv=>decide (kv.1=k))=(ys.map (·.1)).any fun j=>decide (j=k):=by rw[any_map];rfl
 rw[e1,e2,h.1]
theorem dF.EO (hp:Rep K Z H p v) (k:Key):∀{kvs:List (Key×PV)} {ys:List (Key×V)},dF K Z H kvs ys->dF K Z H (kvs.map fun kv=>if kv.1=k then(kv.1,p)else kv) (ys.map fun kv=>if kv.1=k then(kv.1,v)else kv)
 |[],ys,h=>by
  rcases h.cases with⟨_,rfl⟩|⟨_,_,_,_,_,e,_⟩
  .exact h
  .cases e
 | x::kvs,ys,h=>by
  rcases h.cases with⟨e,_⟩|⟨j,q,u,r,s,e,e',hq,hr⟩
  .cases e
  .cases e;subst e';rw[cz,cz]
   by_cases hj:j=k
   .rw[aj hj,aj hj];exact .cons hp (dF.EO hp k hr)
   .rw[ai hj,ai hj];exact .cons hq (dF.EO hp k hr)
theorem dF.put (k:Key) (h:dF K Z H kvs ys) (hp:Rep K Z H p v):dF K Z H (dZ kvs k p) (putK ys k v):=by
 unfold dZ putK;rw[h.any k];split
 .exact h.EO hp k
 .exact⟨by rw[cx,cx,h.1];rfl,by rw[cx,cx];exact h.2.app (.cons hp .nil)⟩
end
noncomputable def keyOf:PV->Option Key
 | .int i=>some (.inl i)
 | .str x=>some (.inr x)
 |_=>none
section
variable {K:Frag}
theorem Red.key {p:PV} (h:Red K Z H p v) (g:keyOf p=some k):v=kV k:=by
 cases p with
 |int i=>cases g;exact h.int
 |str i=>cases g;exact h.str
 |_=>cases g
noncomputable def eW (i:Nat) (fk fv:FE):FS:=fun e=>bE (fv e) fun b e1=>bO b.put fun p=>bO (ownAt e1 i) fun _=>bE (fk e1) fun k e2=>bO (k.weak.get e2) fun kp=>bO (keyOf kp) fun key=>match ownAt e2 i with
  |some (.bA kvs)=>bC (decide (kvs.length<1000000)) (some (.nx (cG e2 i (.bA (dZ kvs key p)))))
  |_=>none
theorem K0 {i:Nat} {tk:TE} {fk:FE} (hv:Ref K tv fv) (hk:Ref K tk fk):fR K (L2.eW (y8 i) tk tv) (eW i fk fv):=by
 intro O M W L σ H e r D o he hf q;obtain⟨x,e1,f1,hf⟩:=aN hf;obtain⟨p,g1,hf⟩:=aF hf;obtain⟨p0,g0,hf⟩:=aF hf;obtain⟨y,e2,f2,hf⟩:=aN hf;obtain⟨kp,g3,hf⟩:=aF hf;obtain⟨key,g4,hf⟩:=aF hf;cases c:ownAt e2 i with
 |none=>rw[c]at hf;cases hf
 | some q1=>
  rw[c]at hf;cases q1 with
  | bA kvs=>
   obtain⟨g2,hf⟩:=aM hf;cases hf;refine hv O M W L σ H e _ _ _ o he f1 fun v H1 k1 rb fr=>?_
   have o1:=o.keep k1.cC;obtain⟨en,rp⟩:=rb.put o1 g1;obtain⟨a,ha,_,_⟩:=en.own g0;refine⟨_,ha,hk O M W L σ H1 e1 _ _ _ o1 en f2 fun v2 H2 k2 rb2 fr2=>?_⟩;have o2:=o1.keep k2.cC;have en2:=rb2.en o2;have ek:=((rb2.rv o2).red en2 g3).key g4;subst ek;obtain⟨a',ha',hz,ct⟩:=en2.own c;rw[ha]at ha';cases ha';cases ct with
   |bA e3 kk r3=>
    rename_i ys;have hl:ys.length=kvs.length:=by have:=cw List.length kk;simpa using this
    refine⟨a,rfl,.inl ⟨_,_,⟨_,e3⟩,rfl,by rw[hl];exact iL g2,fun ep=>?_⟩⟩;have kw:bY W L H2 (upd H2 a (.dK (putK ys key v) ep)):=.write hz e3 fun _ z=>nomatch z
    have st:cS (aT M L) (aT M L) H2 (upd H2 a (.dK (putK ys key v) ep)):=.write (hz.elim (fun⟨i,w⟩=>.inl (o.wm i a w)) .inr) e3 fun _ z=>nomatch z
    have rd:dF K (aT M L) (upd H2 a (.dK (putK ys key v) ep)) (dZ kvs key p) (putK ys key v):=dF.put key ⟨kk,r3.aK st⟩ ((rp.aK (k2.aK o1)).aK st);exact q L σ _ (.keep ((k1.trans k2).trans kw)) (o2.keep kw.cC) (aP.write o.wm en2 c ha (.bA aV rd.1 rd.2))
  |_=>cases hf
abbrev FG:=PV->En->Option En
abbrev J0:=List PV->En->Option En
def AF (K:Frag) (g:TG) (f:FG):Prop:=∀(O M:aJ) (W:WS) (L:aJ) (σ:St) (H:Hp) (e e':En) (p:PV) (v:V) (Q:St->Hp->Prop),kH O M W L H->aP K (aT M L) W L H σ e->Rep K (aT M L) H p v->f p e=some e'->(∀σ',aP K (aT M L) W L H σ' e'->Q σ' H)->g v σ H Q
def GI (K:Frag) (g:E8) (f:J0):Prop:=∀(O M:aJ) (W:WS) (L:aJ) (σ:St) (H:Hp) (e e':En) (p:List PV) (v:List V) (Q:St->Hp->Prop),kH O M W L H->aP K (aT M L) W L H σ e->bH K (aT M L) H p v->f p e=some e'->(∀σ',aP K (aT M L) W L H σ' e'->Q σ' H)->g v σ H Q
noncomputable def aS (i:Nat):FG:=fun p e=>some (e.set i (some (.val p)))
theorem IY (i:Nat):AF K (m8 i) (aS i):=by
 intro O M W L σ H e e' p v Q o he hp hf q;cases hf;exact q _ (aP.put he rfl hp)
noncomputable def jL:J0:=fun ps e=>match ps with|[]=>some e|_=>none
noncomputable def cB (f:FG) (g:J0):J0:=fun ps e=>match ps with|p::ps=>bO (f p e) (g ps)|[]=>none
theorem M3:GI K XG jL:=by
 intro O M W L σ H e e' p v Q o he hp hf q;cases p with
 |nil=>cases hf;cases hp;exact⟨rfl,q σ he⟩
 |cons p ps=>cases hf
theorem HI {gs:E8} {f:FG} {fs:J0} (h1:AF K g f) (h2:GI K gs fs):GI K (J6 g gs) (cB f fs):=by
 intro O M W L σ H e e' p v Q o he hp hf q;cases p with
 |nil=>cases hf
 |cons p ps=>
  obtain⟨e1,f1,hf⟩:=aF hf;cases hp with
  |cons hp hr=>exact⟨_,_,rfl,h1 O M W L σ H e e1 p _ _ o he hp f1 fun σ' he'=>h2 O M W L σ' H e1 e' ps _ _ o he' hr hf q⟩
noncomputable def jQ (n:Nat) (f:J0):FG:=fun p e=>match p with
 | .tup ps=>bC (decide (ps.length=n)) (f ps e)
 |_=>none
theorem OC {g:E8} {f:J0} (h:GI K g f):AF K (QI K n g) (jQ n f):=by
 intro O M W L σ H e e' p v Q o he hp hf q;cases p with
 |tup ps=>
  obtain⟨g1,hf⟩:=aM hf;cases hp with
  |tup ha hr=>exact⟨_,_,rfl,ha.sq,by rw[<-hr.length];exact av g1,h O M W L σ H e e' ps _ Q o he hr hf q⟩
 |_=>cases hf
noncomputable def WH (f:FE) (fg:FG):FS:=fun e=>bE (f e) fun b e1=>bO b.put fun p=>bO (fg p e1) fun e2=>some (.nx e2)
theorem P1 (h:Ref K t f) (hg:AF K g fg):fR K (u5 t g) (WH f fg):=by
 intro O M W L σ H e r D o he hf q;obtain⟨x,e1,f1,hf⟩:=aN hf;obtain⟨p,g1,hf⟩:=aF hf;obtain⟨e2,f2,hf⟩:=aF hf;cases hf;refine h O M W L σ H e _ _ _ o he f1 fun v H1 k1 rb fr=>?_
 have o1:=o.keep k1.cC;obtain⟨en,rp⟩:=rb.put o1 g1;exact hg O M W L σ H1 e1 e2 p v _ o1 en rp f2 fun σ' he'=>q L σ' H1 (.keep k1) o1 he'
def LH (K:Frag) (M L Wr:aJ) (H:Hp) (J:It) (items:List PV):Prop:=∀L' H',(∀a o,H a=some o->¬Wr a->H' a=some o)->(∀a xs,H a=some (.tup xs)->H' a=some (.tup xs))->(∀a,L' a->L a\/ H a=none)->
 (∀k p,items[k]? =some p->J.go k H'/\∀x H3,J.YB k H' x H3->aX H' H3/\Rep K (aT M L') H3 p x)/\J.stop items.length H'
abbrev FI:=(Nat->Bool)->En->Option (List PV×En)
def vR (K:Frag) (wi:TI) (f:FI):Prop:=∀(st:Nat->Bool) (O M:aJ) (W:WS) (L:aJ) (σ:St) (H:Hp) (e e':En) (ps:List PV) (R:It->Hp->Prop),kH O M W L H->aP K (aT M L) W L H σ e->f st e=some (ps,e')->
 (∀J H',bY W L H H'->aP K (aT M L) W L H' σ e'->
  (∀Wr:aJ,(∀a,Wr a->aw W a\/ L a)->(∀(i:Nat) a s,st i=true->e'[i]? =some (some s)->s.dH=true->σ[i]? =some (some (.ref a))->¬Wr a)->LH K M L Wr H' J ps)->R J H')->wi σ H R
noncomputable def o4 (body:PV->En->Option Out):List PV->En->Option Out
 |[],e=>some (.nx e)
 |x::xs,e=>match body x e with
  |some (.nx e1)=>o4 body xs e1
  |some (.ct e1)=>o4 body xs e1
  |some (.bk e1)=>some (.nx e1)
  |some (.rt b e1)=>some (.rt b e1)
  |none=>none
noncomputable def iS (fi:FI) (fg:FG) (fb:FS):FS:=fun e=>bE (fi (fun _=>false) e) fun ps e1=>o4 (fun x e=>bO (fg x e) fb) ps e1
theorem QE {tb:TS} {fg:FG} {fb:FS} (hi:vR K wi fi) (hg:AF K g fg) (hb:fR K tb fb):fR K (WW wi g tb) (iS fi fg fb):=by
 intro O M W L σ H e r D o he hf q;obtain⟨ps,e1,f1,hf⟩:=aN hf;refine hi (fun _=>false) O M W L σ H e e1 ps _ o he f1 fun J H1 k1 en it=>?_
 have it:=it (aT (aw W) L) (fun a z=>z) fun i a s z=>nomatch z
 have o1:=o.keep k1.cC;have q1:=q.later (.keep k1)
 let N:Nat->St->Hp->Prop:=fun i σ' H'=>∃L' e',mR W L L' H1 H'/\kH O M W L' H'/\aP K (aT M L') W L' H' σ' e'/\o4 (fun x e=>bO (fg x e) fb) (ps.drop i) e'=some r
 refine⟨fun i m σ' H'=>m=ps.length - i/\i<=ps.length/\N i σ' H',⟨ps.length,by simp,dj _,L,e1,.refl,o1,en,by rw[gd];exact hf⟩,?_⟩;rintro i m σ2 H2 ⟨rfl,hil,L2,e2,g2,o2,en2,f2⟩;obtain⟨itm,its⟩:=it L2 H2 (fun a ob h n=>g2.obj a ob h (fun z=>n (.inl z)) fun z=>n (.inr z)) g2.tup g2.new
 by_cases hlt:i<ps.length
 .refine .inr ?_;obtain⟨go,yl⟩:=itm i ps[i] (by simp[hlt]);refine⟨go,N (i+1),fun σ' H' n=>⟨ps.length - (i+1),by omega,rfl,hlt,n⟩,fun x H3 y=>?_⟩;obtain⟨s3,rp⟩:=yl x H3 y;rw[du hlt]at f2;unfold o4 at f2;have k3:bY W L2 H2 H3:=.same s3;have o3:=o2.keep k3.cC;have g3:mR W L L2 H1 H3:=g2.trans (.keep k3);cases c1:fg ps[i] e2 with
  |none=>rw[c1]at f2;cases f2
  | some e3=>
   rw[c1]at f2;refine hg O M W L2 σ2 H3 e2 e3 _ x _ o3 (en2.same s3) rp c1 fun σ3 en3=>?_
   cases c2:fb e3 with
   |none=>rw[uA,c2]at f2;cases f2
   |some r1=>
    rw[uA,c2]at f2;refine hb O M W L2 σ3 H3 e3 r1 _ o3 en3 c2 ?_;cases r1 with
    |nx e4=>exact fun L' σ' H' g' o' en'=>⟨L',e4,g3.trans g',o',en',f2⟩
    |ct e4=>exact fun L' σ' H' g' o' en'=>⟨L',e4,g3.trans g',o',en',f2⟩
    |bk e4=>cases f2;exact fun L' σ' H' g' o' en'=>q1 L' σ' H' (g3.trans g') o' en'
    |rt b e4=>cases f2;exact fun L' σ' H' v g' o' en'=>q1 L' σ' H' v (g3.trans g') o' en'
 .have e:i=ps.length:=by omega
  subst e;rw[drop_length]at f2;cases f2;exact .inl ⟨its,q1 L2 σ2 H2 g2 o2 en2⟩
noncomputable def mW (fc:FT) (fb:FS):Nat->En->Option Out
 |0,_=>none
 | n+1,e=>bE (fc e) fun b e1=>match b with
  |false=>some (.nx e1)
  |true=>match fb e1 with
   |some (.nx e2)=>mW fc fb n e2
   |some (.ct e2)=>mW fc fb n e2
   |some (.bk e2)=>some (.nx e2)
   |some (.rt b e2)=>some (.rt b e2)
   |none=>none
theorem JI {tb:TS} {fb:FS} (n:Nat) (hc:lI K c fc) (hb:fR K tb fb):fR K (KR c tb) (mW fc fb n):=by
 intro O M W L σ H e r D o he hf q
 let N:Nat->St->Hp->Prop:=fun m σ' H'=>∃L' e',mR W L L' H H'/\kH O M W L' H'/\aP K (aT M L') W L' H' σ' e'/\mW fc fb m e'=some r
 refine⟨N,⟨n,L,e,.refl,o,he,hf⟩,?_⟩;rintro m σ2 H2 ⟨L2,e2,g2,o2,en2,f2⟩;cases m with
 |zero=>cases f2
 | succ m=>
  obtain⟨b,e3,c1,f2⟩:=aN f2;refine hc O M W L2 σ2 H2 e2 e3 b _ o2 en2 c1 fun H3 k3 en3=>?_
  have o3:=o2.keep k3.cC;have g3:mR W L L2 H H3:=g2.trans (.keep k3);cases b with
  |false=>cases f2;rw[ai au];exact q L2 σ2 H3 g3 o3 en3
  | true=>
   rw[aj rfl];refine⟨N m,fun σ' H' z=>⟨m,ji m,z⟩,?_⟩;dsimp only at f2;cases c2:fb e3 with
   |none=>rw[c2]at f2;cases f2
   |some r1=>
    rw[c2]at f2;refine hb O M W L2 σ2 H3 e3 r1 _ o3 en3 c2 ?_;cases r1 with
    |nx e4=>exact fun L' σ' H' g' o' en'=>⟨L',e4,g3.trans g',o',en',f2⟩
    |ct e4=>exact fun L' σ' H' g' o' en'=>⟨L',e4,g3.trans g',o',en',f2⟩
    |bk e4=>cases f2;exact fun L' σ' H' g' o' en'=>q L' σ' H' (g3.trans g') o' en'
    |rt b e4=>cases f2;exact fun L' σ' H' v g' o' en'=>q L' σ' H' v (g3.trans g') o' en'
end
noncomputable def C3 (e:En) (ms:List (Nat×Nat)) (i j:Nat):Option Sl:=match e[i]? with
 |some (some (.val p))=>some (.val p)
 |some (some (.bor p))=>some (.bor p)
 |some (some (.own p))=>if ms.contains (i,j)then some (.own p)else if ms.any (fun z=>z.1==i)then none else some (.bor p)
 |some (some (.loc p))=>if ms.contains (i,j)then some (.own p)else if ms.any (fun z=>z.1==i)then none else some (.bor p)
 |_=>none
noncomputable def yH (e:En) (ms:List (Nat×Nat)):Nat->List Nat->En
 |_,[]=>[]
 |j,i::r=>C3 e ms i j::yH e ms (j+1) r
noncomputable def tX (k:Nat) (cap:List Nat) (ms:List (Nat×Nat)) (e:En):En:=List.replicate k none++yH e ms k cap
theorem CD:∀{cap:List Nat} {j q:Nat},(yH e ms j cap)[q]? =(cap[q]?).map fun i=>C3 e ms i (j+q)
 |[],j,q=>by simp[yH]
 |i::r,j,0=>by simp[yH]
 |i::r,j,q+1=>by
  rw[yH,List.getElem?_cons_succ,CD,List.getElem?_cons_succ];congr 1;funext i;rw[show j+1+q=j+(q+1) by omega]
theorem CH:∀{cap:List Nat} {j:Nat},(yH e ms j cap).length=cap.length
 |[],j=>rfl
 |i::r,j=>by rw[yH,length_cons,length_cons,CH]
theorem wH {k:Nat} {cap:List Nat} {j:Nat} (h:(tX k cap ms e)[j]? =some (some s)):∃q i,j=k+q/\cap[q]? =some i/\C3 e ms i j=some s:=by
 unfold tX at h
 by_cases hj:j<k
 .rw[gj (by simpa using hj),kn]at h;split at h<;>cases h
 .rw[gi (by simpa using hj),gm,CD]at h;cases q:cap[j - k]? with
  |none=>rw[q]at h;cases h
  |some i=>
   rw[q]at h;have h':C3 e ms i (k+(j - k))=some s:=Option.some.inj h;rw[show k+(j - k)=j by omega]at h';exact⟨j - k,i,by omega,q,h'⟩
theorem vG {k:Nat} {q:Nat} (h:cap[q]? =some i) (hv:σ[i]? =some (some v)):(fL k cap σ)[k+q]? =some (some v):=by
 unfold fL;rw[gi (by simp),gm,aq,show k+q - k=q by omega,h];show some ((σ[i]?).getD none)=_;rw[hv];rfl
noncomputable def k9 (fg:FG) (ft:FT) (fe:FE):List PV->En->Option (List PV×En)
 |[],e=>some ([],e)
 |x::xs,e=>bO (fg x e) fun e1=>bE (ft e1) fun b e2=>match b with
  |false=>k9 fg ft fe xs e2
  |true=>bE (fe e2) fun r e3=>bO r.put fun p=>bE (k9 fg ft fe xs e3) fun ys e4=>some (p::ys,e4)
noncomputable def mZ (ei:En):List (Nat×Nat)->En->Option En
 |[],e=>some e
 |(i,j)::r,e=>bO (ownAt ei j) fun p=>bO (ownAt e i) fun _=>mZ ei r (cG e i p)
noncomputable def iO (fi:FI) (k:Nat) (cap:List Nat) (ms:List (Nat×Nat)) (fg:FG) (ft:FT) (fe:FE):FE:=fun e=>
 bE (fi (fun i=>!(ms.any fun z=>z.1==i)) e) fun items e1=>bC (decide (items.length<1000000)) (bE (k9 fg ft fe items (tX k cap ms e1)) fun ys ei=>bO (mZ ei ms e1) fun e2=>some (.new (.lst ys),e2))
structure C0 (K:Frag) (Z:aJ) (W:WS) (L:aJ) (H:Hp) (σ:St) (T:Nat->Prop) (e:En):Prop where
 len:e.length=σ.length
 at':∀(i:Nat) s,e[i]? =some (some s)->∃v,σ[i]? =some (some v)/\((¬T i\/ s.dH=false)->lA K Z W L H i v s)/\(s.dH=true->∃a,v= .ref a/\((∃p,s= .own p/\W i a)\/ ∃p,s= .loc p/\L a))
 rP:∀(i j:Nat) s t,i≠j->e[i]? =some (some s)->e[j]? =some (some t)->s.dH=true->t.dH=true->σ[i]?≠σ[j]?
theorem rB {K:Frag}:∀{ms:List (Nat×Nat)} {e e':En},C0 K Z W L H σ (fun i=>∃j,(i,j)∈ms) e->(∀i j p a,(i,j)∈ms->ownAt ei j=some p->σ[i]? =some (some (.ref a))->iJ K Z H a p)->mZ ei ms e=some e'->aP K Z W L H σ e'
 |[],e,e',h,hc,g=>by
  cases g;exact⟨h.len,fun i s q=>let⟨v,h1,h2,_⟩:=h.at' i s q;⟨v,h1,h2 (.inl fun⟨j,z⟩=>nomatch z)⟩,h.rP⟩
 | (i,j)::r,e,e',h,hc,g=>by
  obtain⟨p,g1,g⟩:=aF g;obtain⟨p0,g2,g⟩:=aF g;refine rB (e:=cG e i p) ?_ (fun i' j' p' a' hm=>hc i' j' p' a' (ay _ hm)) g;have hl:i<e.length:=by
   rcases bV g2 with g|g<;>exact(af.mp g).1
  have oth:∀l,i≠l->(cG e i p)[l]? =e[l]?:=fun l hj=>by
   unfold cG;rcases bV g2 with g|g<;>(rw[g];exact dh hj)
  have own:∃s0 s1 a,e[i]? =some (some s0)/\s0.dH=true/\(cG e i p)[i]? =some (some s1)/\σ[i]? =some (some (.ref a))/\lA K Z W L H i (.ref a) s1/\((∃p,s1= .own p/\W i a)\/ ∃p,s1= .loc p/\L a):=by
   rcases bV g2 with g|g
   .obtain⟨v,h1,_,h3⟩:=h.at' i _ g;obtain⟨a,rfl,h4⟩:=h3 rfl;have c:=hc i j p a ba g1 h1;rcases h4 with⟨q,e1,w⟩|⟨q,e1,w⟩
    .exact⟨_,.own p,a,g,rfl,by unfold cG;rw[g];exact et hl,h1,⟨a,rfl,w,c⟩,.inl ⟨p,rfl,w⟩⟩
    .cases e1
   .obtain⟨v,h1,_,h3⟩:=h.at' i _ g;obtain⟨a,rfl,h4⟩:=h3 rfl;have c:=hc i j p a ba g1 h1;rcases h4 with⟨q,e1,w⟩|⟨q,e1,w⟩
    .cases e1
    .exact⟨_,.loc p,a,g,rfl,by unfold cG;rw[g];exact et hl,h1,⟨a,rfl,w,c⟩,.inr ⟨p,rfl,w⟩⟩
  obtain⟨s0,s1,a,hs0,hm0,hs1,ha,hrep,hwl⟩:=own;refine⟨?_,fun l s q=>?_,fun l1 l2 t1 t2 hn q1 q2 m1 m2=>?_⟩
  .rw[<-h.len];unfold cG;rcases bV g2 with g|g<;>(rw[g];exact jv)
  .by_cases hil:i=l
   .subst hil;rw[hs1]at q;cases q;exact⟨_,ha,fun _=>hrep,fun _=>⟨a,rfl,hwl⟩⟩
   .rw[oth l hil]at q;obtain⟨v,h1,h2,h3⟩:=h.at' l s q;refine⟨v,h1,fun z=>h2 (z.elim (fun z=>.inl fun⟨j',hm⟩=>?_) .inr),h3⟩;rcases bw.mp hm with hm|hm
    .cases hm;exact hil rfl
    .exact z ⟨j',hm⟩
  .have dH:∀(l:Nat) (s:Sl),(cG e i p)[l]? =some (some s)->s.dH=true->∃s':Sl,e[l]? =some (some s')/\s'.dH=true:=fun l s z m=>by
    by_cases hj:i=l
    .subst hj;exact⟨s0,hs0,hm0⟩
    .rw[oth l hj]at z;exact⟨s,z,m⟩
   obtain⟨u1,w1,n1⟩:=dH l1 t1 q1 m1;obtain⟨u2,w2,n2⟩:=dH l2 t2 q2 m2;exact h.rP l1 l2 u1 u2 hn w1 w2 n1 n2
theorem l5:∀{ms:List (Nat×Nat)} {e e':En},mZ ei ms e=some e'->∀(i:Nat) (s:Sl),e'[i]? =some (some s)->s.dH=true->∃s':Sl,e[i]? =some (some s')/\s'.dH=true
 |[],e,e',g=>by cases g;exact fun i s h m=>⟨s,h,m⟩
 | (i,j)::r,e,e',g=>by
  obtain⟨p,g1,g⟩:=aF g;obtain⟨p0,g2,g⟩:=aF g;intro l s h m;obtain⟨s',h',m'⟩:=l5 g l s h m
  by_cases hj:i=l
  .subst hj;rcases bV g2 with g|g<;>exact⟨_,g,rfl⟩
  .have oth:(cG e i p)[l]? =e[l]?:=by
    unfold cG;rcases bV g2 with g|g<;>(rw[g];exact dh hj)
   rw[oth]at h';exact⟨s',h',m'⟩
section
variable {K:Frag}
noncomputable def JZ (ms:List (Nat×Nat)) (e1:En) (σ:St) (H1:Hp):WS:=⟨fun j a=>∃i s,(i,j)∈ms/\e1[i]? =some (some s)/\s.dH=true/\σ[i]? =some (some (.ref a)),fun a=>H1 a≠none⟩
section
variable {O M L:aJ} {W:WS} {σ:St} {H1:Hp} {e1:En} {l:Addr} {ms:List (Nat×Nat)} {k:Nat} {cap:List Nat} {ob0:HO}
theorem C5 (en:aP K (aT M L) W L H1 σ e1):∀(i:Nat) s a,e1[i]? =some (some s)->s.dH=true->σ[i]? =some (some (.ref a))->(aw W a\/ L a)/\∃ob,H1 a=some ob/\∀xs,ob≠ .tup xs:=fun i s a hs hm ha=>by
 obtain⟨v,h1,h2⟩:=en.at' i s hs;rw[ha]at h1;cases h1;cases s with
 |val p=>cases hm
 |bor p=>cases hm
 |own p=>obtain⟨b,e,w,c⟩:=h2;cases e;exact⟨.inl ⟨i,w⟩,c.there⟩
 |loc p=>obtain⟨b,e,w,c⟩:=h2;cases e;exact⟨.inr w,c.there⟩
theorem xD (en:aP K (aT M L) W L H1 σ e1):∀a,aw (JZ ms e1 σ H1) a->(aw W a\/ L a)/\∃ob,H1 a=some ob/\∀xs,ob≠ .tup xs:=fun a ⟨j,i,s,hm,hs,hmine,ha⟩=>C5 en i s a hs hmine ha
theorem ZH (hl:H1 l=none):cS (aT M L) (aT (aT M (aT L (one l))) cT) H1 (upd H1 l ob0):=⟨fun a xs h=>aX.upd hl _ _ h,fun a ob h n=>⟨aX.upd hl _ _ h,fun z=>by
 rcases z with(z|z|z)|z
 .exact n (.inl z)
 .exact n (.inr z)
 .exact bT h hl z
 .exact z⟩⟩
theorem Z4 (o1:kH O M W L H1) (en:aP K (aT M L) W L H1 σ e1):∀H2,(∀a,H1 a≠none\/ a=l->H2 a≠none)->kH (fun a=>H1 a≠none\/ a=l) (aT M (aT L (one l))) (JZ ms e1 σ H1) cT H2:=fun H2 d=>⟨d,fun a z=>by
  rcases z with z|z|z
  .exact .inl (o1.old a (o1.mo a z))
  .exact .inl (o1.loc a z).1
  .exact .inr z,fun j a z=>by
  rcases(xD en a ⟨j,z⟩).1 with⟨i,w⟩|z
  .exact .inl (o1.wm i a w)
  .exact .inr (.inl z),fun a z=>z.elim⟩
theorem enI (hms:∀i j1 j2,(i,j1)∈ms->(i,j2)∈ms->j1=j2) (en:aP K (aT M L) W L H1 σ e1) (hl:H1 l=none):aP K (aT (aT M (aT L (one l))) cT) (JZ ms e1 σ H1) cT (upd H1 l ob0) (fL k cap σ) (tX k cap ms e1):=by
 have s0:aX H1 (upd H1 l ob0):=aX.upd hl;have k0:=ZH (M:=M) (L:=L) (ob0:=ob0) hl;have wsub:=xD (ms:=ms) en;have lenS:(tX k cap ms e1).length=(fL k cap σ).length:=by
  unfold tX fL;rw[bq,bq,CH,ah,gm,gm]
 have lend:∀(i:Nat) s p a,e1[i]? =some (some s)->(s= .own p\/ s= .loc p)->σ[i]? =some (some (.ref a))->iJ K (aT M L) H1 a p->¬(∃j,(i,j)∈ms)->yL K (aT (aT M (aT L (one l))) cT) (JZ ms e1 σ H1) cT (upd H1 l ob0) a p:=fun i s p a hs hp ha c nm=>by
  have hm:s.dH=true:=by rcases hp with rfl|rfl<;>rfl
  have nw:¬aw (JZ ms e1 σ H1) a:=fun⟨j,i',s',hm',hs',hmine',ha'⟩=>by
   have ne:i'≠i:=fun z=>nm ⟨j,z▸hm'⟩
   exact en.rP i' i s' s ne hs' hs hmine' hm (by rw[ha',ha])
  have c':=c.aK k0 fun ob h=>s0 _ _ h
  cases c' with
  |lst h r=>exact .lst (.inl h) (by obtain⟨ob,h1,_⟩:=c.there;show H1 a≠none;rw[h1];exact fun z=>nomatch z) nw (fun z=>z) r
  |bA h kk r=>exact .bA (.inl h) (by obtain⟨ob,h1,_⟩:=c.there;show H1 a≠none;rw[h1];exact fun z=>nomatch z) nw (fun z=>z) kk r
 have bors:∀p a,yL K (aT M L) W L H1 a p->yL K (aT (aT M (aT L (one l))) cT) (JZ ms e1 σ H1) cT (upd H1 l ob0) a p:=fun p a c=>by
  cases c with
  |lst h od n m r=>exact .lst (h.elim (fun h=>.inl (s0 _ _ h)) fun⟨u,h⟩=>.inr ⟨u,s0 _ _ h⟩) (fun z=>Rd.ne h z rfl) (fun z=>(wsub a z).1.elim n m) (fun z=>z) (r.aK k0)
  |eQ h r=>exact .eQ h (r.aK k0)
  |bA h od n m kk r=>exact .bA (h.elim (fun h=>.inl (s0 _ _ h)) fun⟨u,h⟩=>.inr ⟨u,s0 _ _ h⟩) (fun z=>Rd.ne h z rfl) (fun z=>(wsub a z).1.elim n m) (fun z=>z) kk (r.aK k0)
 have row:∀(i j:Nat) s,C3 e1 ms i j=some s->∃v,σ[i]? =some (some v)/\lA K (aT (aT M (aT L (one l))) cT) (JZ ms e1 σ H1) cT (upd H1 l ob0) j v s/\(s.dH=true->(i,j)∈ms/\∃s',e1[i]? =some (some s')/\s'.dH=true):=fun i j s h=>by
  unfold C3 at h;have nc:∀{p:PV},ms.contains (i,j)=true->(i,j)∈ms:=fun z=>contains_iff_mem.mp z
  cases c:e1[i]? with
  |none=>rw[c]at h;cases h
  | some s'=>
   cases s' with
   |none=>rw[c]at h;cases h
   | some s'=>
    rw[c]at h;obtain⟨v,h1,h2⟩:=en.at' i s' c;refine⟨v,h1,?_⟩;cases s' with
    |val p=>cases h;exact⟨Rep.aK k0 h2,fun z=>nomatch z⟩
    |bor p=>cases h;obtain⟨a,e,c⟩:=h2;exact⟨⟨a,e,bors p a c⟩,fun z=>nomatch z⟩
    | own p=>
     obtain⟨a,e,w,ct⟩:=h2;subst e;dsimp only at h;cases d:ms.contains (i,j)with
     |true=>
      rw[d,aj rfl]at h;cases h;have hm:=contains_iff_mem.mp d;exact⟨⟨a,rfl,⟨i,_,hm,c,rfl,h1⟩,ct.aK k0 fun ob h=>s0 _ _ h⟩,fun _=>⟨hm,_,rfl,rfl⟩⟩
     | false=>
      rw[d,ai au]at h;cases d2:ms.any (fun z=>z.1==i)with
      |true=>rw[d2,aj rfl]at h;cases h
      |false=>
       rw[d2,ai au]at h;cases h;refine⟨⟨a,rfl,lend i _ p a c (.inl rfl) h1 ct fun⟨j',hm'⟩=>?_⟩,fun z=>nomatch z⟩;have:(ms.any fun z=>z.1==i)=true:=ic.mpr ⟨(i,j'),hm',by simp⟩;rw[d2]at this;cases this
    | loc p=>
     obtain⟨a,e,w,ct⟩:=h2;subst e;dsimp only at h;cases d:ms.contains (i,j)with
     |true=>
      rw[d,aj rfl]at h;cases h;have hm:=contains_iff_mem.mp d;exact⟨⟨a,rfl,⟨i,_,hm,c,rfl,h1⟩,ct.aK k0 fun ob h=>s0 _ _ h⟩,fun _=>⟨hm,_,rfl,rfl⟩⟩
     | false=>
      rw[d,ai au]at h;cases d2:ms.any (fun z=>z.1==i)with
      |true=>rw[d2,aj rfl]at h;cases h
      |false=>
       rw[d2,ai au]at h;cases h;refine⟨⟨a,rfl,lend i _ p a c (.inr rfl) h1 ct fun⟨j',hm'⟩=>?_⟩,fun z=>nomatch z⟩;have:(ms.any fun z=>z.1==i)=true:=ic.mpr ⟨(i,j'),hm',by simp⟩;rw[d2]at this;cases this
 refine⟨lenS,fun j s hj=>?_,fun j1 j2 s t hn h1 h2 m1 m2=>?_⟩
 .obtain⟨q,i,rfl,hc,hs⟩:=wH hj;obtain⟨v,h1,h2,_⟩:=row i _ s hs;exact⟨v,vG hc h1,h2⟩
 .obtain⟨q1,i1,rfl,c1,hs1⟩:=wH h1;obtain⟨q2,i2,rfl,c2,hs2⟩:=wH h2;obtain⟨v1,a1,_,b1⟩:=row i1 _ s hs1;obtain⟨v2,a2,_,b2⟩:=row i2 _ t hs2;obtain⟨w1,s1,d1,n1⟩:=b1 m1;obtain⟨w2,s2,d2,n2⟩:=b2 m2;rw[vG c1 a1,vG c2 a2];have ne:i1≠i2:=fun z=>by subst z;exact hn (hms _ _ _ w1 w2)
  have:=en.rP i1 i2 s1 s2 ne d1 d2 n1 n2;rw[a1,a2]at this;exact this
theorem enW {M':aJ} {W':WS} {H5:Hp} {σ:St} {e:En} (en5:aP K (aT M' cT) W' cT H5 σ e) (nlw:¬aw W' l) (old:W'.old l->False) (stw:cS (aT M' cT) (aT M' cT) H5 (upd H5 l o)):aP K (aT M' cT) W' cT (upd H5 l o) σ e:=by
 refine⟨en5.len,fun j s hj=>?_,en5.rP⟩;obtain⟨u,g1,g2⟩:=en5.at' j s hj;refine⟨u,g1,?_⟩;cases s with
 |val p=>exact Rep.aK stw g2
 |own p=>
  obtain⟨a,e,w,c⟩:=g2;exact⟨a,e,w,c.aK stw fun ob h=>by rw[aU (fun z:a=l=>nlw (by rw[<-z];exact⟨j,w⟩))];exact h⟩
 |loc p=>obtain⟨a,e,w,c⟩:=g2;exact w.elim
 |bor p=>
  obtain⟨a,e,c⟩:=g2;refine⟨a,e,?_⟩;have ne:W'.old a->a≠l:=fun od z=>old (z▸od)
  cases c with
  |lst h od n m r=>exact .lst (h.elim (fun h=>.inl (by rw[aU (ne od)];exact h)) fun⟨u,h⟩=>.inr ⟨u,by rw[aU (ne od)];exact h⟩) od n m (r.aK stw)
  |eQ h r=>exact .eQ h (r.aK stw)
  |bA h od n m kk r=>exact .bA (h.elim (fun h=>.inl (by rw[aU (ne od)];exact h)) fun⟨u,h⟩=>.inr ⟨u,by rw[aU (ne od)];exact h⟩) od n m kk (r.aK stw)
theorem OM (en:aP K (aT M L) W L H1 σ e1) (hl:H1 l=none) (kk:bY (JZ ms e1 σ H1) (one l) (upd H1 l ob0) H2):bY W L H1 H2:=⟨fun a ob h n m=>kk.obj a ob (aX.upd hl _ _ h) (fun z=>(xD en a z).1.elim n m) (bT h hl),fun a xs h=>kk.tup a xs (aX.upd hl _ _ h),fun a h=>kk.cC a (by
 cases e:H1 a with
 |none=>exact absurd e h
 |some u=>rw[aX.upd hl _ _ e];exact fun z=>nomatch z)⟩
theorem enO {e' ei:En} {σ2:St} (hms2:∀i1 i2 j,(i1,j)∈ms->(i2,j)∈ms->i1=i2) (o1:kH O M W L H1) (en:aP K (aT M L) W L H1 σ e1) (hl:H1 l=none) (kk:bY (JZ ms e1 σ H1) (one l) (upd H1 l ob0) H2)
  (en2:aP K (aT (aT M (aT L (one l))) cT) (JZ ms e1 σ H1) cT H2 σ2 ei) (f3:mZ ei ms e1=some e'):aP K (aT M (aT L (one l))) W (aT L (one l)) H2 σ e':=by
 have s0:aX H1 (upd H1 l ob0):=aX.upd hl;have zl:∀a ob,H1 a=some ob->a≠l:=fun a ob h=>bT h hl
 have wsub:=xD (ms:=ms) en;have ML:∀a,(aw W a\/ L a)->aT M L a:=fun a z=>z.elim (fun⟨i,w⟩=>.inl (o1.wm i a w)) .inr
 have kout:=OM en hl kk;have kf:cS (aT M L) (aT M (aT L (one l))) H1 H2:=⟨kout.tup,fun a ob h n=>⟨kk.obj a ob (s0 _ _ h) (fun z=>n (ML a (wsub a z).1)) (zl a ob h),fun z=>by
  rcases z with z|z|z
  .exact n (.inl z)
  .exact n (.inr z)
  .exact zl a ob h z⟩⟩
 have pend:C0 K (aT M (aT L (one l))) W (aT L (one l)) H2 σ (fun i=>∃j,(i,j)∈ms) e1:=by
  refine⟨en.len,fun i s hs=>?_,en.rP⟩;obtain⟨v,h1,h2⟩:=en.at' i s hs;have keepM:∀a,s.dH=true->¬(∃j,(i,j)∈ms)->v= .ref a->∀ob,H1 a=some ob->H2 a=some ob:=fun a hm nt ev ob h=>by
   subst ev;refine kk.obj a ob (s0 _ _ h) (fun⟨j,i',s',hm',hs',hmine',ha'⟩=>?_) (zl a ob h);have ne:i'≠i:=fun z=>nt ⟨j,z▸hm'⟩
   exact en.rP i' i s' s ne hs' hs hmine' hm (by rw[ha',h1])
  refine⟨v,h1,fun z=>?_,fun hm=>?_⟩
  .cases s with
   |val p=>exact Rep.aK kf h2
   |own p=>
    obtain⟨a,e,w,c⟩:=h2;exact⟨a,e,w,c.aK kf fun ob h=>keepM a rfl (z.elim id fun z=>nomatch z) e ob h⟩
   |loc p=>
    obtain⟨a,e,w,c⟩:=h2;exact⟨a,e,.inl w,c.aK kf fun ob h=>keepM a rfl (z.elim id fun z=>nomatch z) e ob h⟩
   |bor p=>
    obtain⟨a,e,c⟩:=h2;refine⟨a,e,?_⟩;cases c with
    |lst h od n m r=>exact .lst (h.elim (fun h=>.inl (kout.obj _ _ h n m)) fun⟨u,h⟩=>.inr ⟨u,kout.obj _ _ h n m⟩) od n (fun z=>z.elim m (Rd.ne h hl)) (r.aK kf)
    |eQ h r=>exact .eQ h (r.aK kf)
    |bA h od n m kk r=>exact .bA (h.elim (fun h=>.inl (kout.obj _ _ h n m)) fun⟨u,h⟩=>.inr ⟨u,kout.obj _ _ h n m⟩) od n (fun z=>z.elim m (Rd.ne h hl)) kk (r.aK kf)
  .cases s with
   |val p=>cases hm
   |bor p=>cases hm
   |own p=>obtain⟨a,e,w,c⟩:=h2;exact⟨a,e,.inl ⟨p,rfl,w⟩⟩
   |loc p=>obtain⟨a,e,w,c⟩:=h2;exact⟨a,e,.inr ⟨p,rfl,.inl w⟩⟩
 exact rB pend (fun i j p a hm hp ha=>by
  rcases bV hp with g|g
  .obtain⟨v,h1,a',rfl,⟨i',s',hm',_,_,ha'⟩,c⟩:=en2.at' j _ g;have ei:=hms2 i i' j hm hm';subst ei;rw[ha]at ha';cases ha';exact c.aK (.less fun a z=>.inl z) fun _ h=>h
  .obtain⟨v,h1,a',rfl,w,c⟩:=en2.at' j _ g;exact w.elim) f3
end
theorem KL {tt:TT} {te:TE} {k:Nat} (ms:List (Nat×Nat)) {ft:FT} {fe:FE} (hms:∀i j1 j2,(i,j1)∈ms->(i,j2)∈ms->j1=j2) (hms2:∀i1 i2 j,(i1,j)∈ms->(i2,j)∈ms->i1=i2) (hi:vR K wi fi) (hg:AF K g fg) (ht:lI K tt ft) (he:Ref K te fe):Ref K (xI wi k cap g tt te) (iO fi k cap ms fg ft fe):=by
 intro O M W L σ H e e' b Q o hen hf q;obtain⟨items,e1,f1,hf⟩:=aN hf;obtain⟨hsz,hf⟩:=aM hf;obtain⟨ys,ei,f2,hf⟩:=aN hf;obtain⟨e2,f3,hf⟩:=aF hf;cases hf;have hsz:=av hsz;refine hi (fun i=>!(ms.any fun z=>z.1==i)) O M W L σ H e e1 items _ o hen f1 fun J H1 k1 en it=>?_
 have o1:=o.keep k1.cC
 let W':WS:=JZ ms e1 σ H1
 have wsub:=xD (ms:=ms) en;have it:=it (aw W') (fun a z=>(wsub a z).1) fun i a s hst hs hm ha ⟨j,i',s',hm',hs',hmine',ha'⟩=>by
  have ne:i'≠i:=fun z=>by
   subst z;have:(ms.any fun z=>z.1==i')=true:=ic.mpr ⟨(i',j),hm',by simp⟩;rw[this]at hst;cases hst
  exact en.rP i' i s' s ne hs' hs hmine' hm (by rw[ha',ha])
 intro l hl;have zl:∀a ob,H1 a=some ob->a≠l:=fun a ob h=>bT h hl
 let M':aJ:=aT M (aT L (one l))
 let O':aJ:=fun a=>H1 a≠none\/ a=l
 have s0:aX H1 (upd H1 l (.lst [])):=aX.upd hl;have okc0:=Z4 (l:=l) (ms:=ms) o1 en;have en0:=enI (k:=k) (cap:=cap) (ob0:=.lst []) hms en hl;have dl:∀a xs,H1 a=some (.tup xs)->a≠l:=fun a xs h=>zl a _ h
 let N:Nat->St->Hp->Prop:=fun i σ' H'=>∃ei' acc rest vs,bY W' (one l) (upd H1 l (.lst [])) H'/\H' l=some (.lst vs)/\bH K (aT M' cT) H' acc vs/\aP K (aT M' cT) W' cT H' σ' ei'/\acc.length<=i/\
  k9 fg ft fe (items.drop i) ei'=some (rest,ei)/\ys=acc++rest
 have k0':∀H',bY W' (one l) (upd H1 l (.lst [])) H'->∀a,H1 a≠none\/ a=l->H' a≠none:=fun H' kk a z=>kk.cC a (by
  rcases z with z|z
  .cases e:H1 a with
   |none=>exact absurd e z
   |some u=>rw[s0 _ _ e];exact fun z=>nomatch z
  .rw[z,aV];exact fun z=>nomatch z)
 refine⟨fun i m σ' H'=>m=items.length - i/\i<=items.length/\N i σ' H',⟨items.length,by simp,dj _,tX k cap ms e1,[],ys,[],.refl,aV,.nil,en0,bf _,by rw[gd];exact f2,rfl⟩,?_⟩;rintro i m σ2 H2 ⟨rfl,hil,ei2,acc,rest,vs,kk,hl2,ra,en2,hacc,f4,hys⟩;have oki:=okc0 H2 (k0' H2 kk);obtain⟨itm,its⟩:=it (aT L (one l)) H2 (fun a ob h n=>kk.obj a ob (s0 _ _ h) n (zl a ob h)) (fun a xs h=>kk.tup a xs (s0 _ _ h)) (fun a z=>z.elim .inl fun z=>.inr (by rw[show a=l from z];exact hl))
 by_cases hlt:i<items.length
 .refine .inr ?_;obtain⟨go,yl⟩:=itm i items[i] (by simp[hlt]);refine⟨go,N (i+1),fun σ' H' n=>⟨items.length - (i+1),by omega,rfl,hlt,n⟩,fun x H3 y=>?_⟩;obtain⟨s3,rp⟩:=yl x H3 y;rw[du hlt]at f4;obtain⟨e4,c1,f4⟩:=aF f4;have oki3:=oki.keep (H':=H3) (bY.same (W:=W') (L:=cT) s3).cC;have rp':Rep K (aT M' cT) H3 items[i] x:=rp.aK (.less fun a z=>z.elim id fun z=>z.elim);refine hg O' M' W' cT σ2 H3 ei2 e4 _ x _ oki3 (en2.same s3) rp' c1 fun σ3 en3=>?_
  obtain⟨b,e5,c2,f4⟩:=aN f4;refine ht O' M' W' cT σ3 H3 e4 e5 b _ oki3 en3 c2 fun H4 k4 en4=>?_
  have oki4:=oki3.keep k4.cC;have nlw:¬aw W' l:=fun z=>by obtain⟨_,ob,h,_⟩:=wsub l z;rw[hl]at h;cases h
  have kL:∀{A B:Hp},bY W' cT A B->bY W' (one l) A B:=fun k=>⟨fun a ob h n m=>k.obj a ob h n fun z=>z,k.tup,k.cC⟩
  have st:∀{A B:Hp},bY W' cT A B->kH O' M' W' cT A->cS (aT M' cT) (aT M' cT) A B:=fun k ok=>k.aK ok
  have k34:bY W' cT H2 H4:=(bY.same s3).trans k4;cases b with
  |false=>
   rw[ai au];exact⟨e5,acc,rest,vs,kk.trans (kL k34),k34.obj l _ hl2 nlw (fun z=>z),ra.aK (st k34 oki),en4,le_succ_of_le hacc,f4,hys⟩
  |true=>
   rw[aj rfl];obtain⟨rv,e6,c3,f4⟩:=aN f4;obtain⟨p,c4,f4⟩:=aF f4;obtain⟨rest',e7,c5,f4⟩:=aN f4;cases f4;refine he O' M' W' cT σ3 H4 e5 e6 rv _ oki4 en4 c3 fun v H5 k5 rb fr=>?_
   have oki5:=oki4.keep k5.cC;obtain⟨en5,rp5⟩:=rb.put oki5 c4;have k35:bY W' cT H2 H5:=k34.trans k5;have hl5:=k35.obj l _ hl2 nlw (fun z=>z);have ra5:=ra.aK (st k35 oki);refine⟨vs,hl5,szt (by have:=ra.length;omega),?_⟩;have stw:cS (aT M' cT) (aT M' cT) H5 (upd H5 l (.lst (vs++[v]))):=.write (.inl (.inr (.inr rfl))) hl5 fun _ z=>nomatch z
   have kw:bY W' (one l) H5 (upd H5 l (.lst (vs++[v]))):=.write (.inr rfl) hl5 fun _ z=>nomatch z
   refine⟨e6,acc++[p],rest',vs++[v],(kk.trans (kL k35)).trans kw,aV,(ra5.aK stw).app (.cons (rp5.aK stw) .nil),?_,by rw[bq];exact Nat.succ_le_succ hacc,c5,by rw[hys,de];rfl⟩;exact enW en5 nlw (fun od=>od hl) stw
 .have e:i=items.length:=by omega
  subst e;rw[drop_length]at f4;cases f4;rw[dq]at hys;subst hys;have kout:=OM en hl kk;have enf:=enO hms2 o1 en hl kk en2 f3;refine .inl ⟨its,q _ _ (k1.trans kout) ⟨l,rfl,fun z=>o1.old l z hl,fun z=>(o1.loc l z).1 hl,enf,fun i s hs hm e=>?_,.lst hl2 (ra.aK (.less fun a z=>.inl z))⟩ (Fr.back (b:=.new (.lst _)) k1.cC fun a e=>by cases e;exact hl)⟩;obtain⟨s',hs',hm'⟩:=l5 f3 i s hs hm;obtain⟨_,ob,h,_⟩:=C5 en i s' l hs' hm' e;rw[hl]at h;cases h
end
inductive Kd where
 |v|b|m
 deriving DecidableEq
noncomputable def DG:Kd->PV->Sl
 | .v,p=>.val p
 | .m,p=>.own p
 | .b,.lst ps=>.bor (.lst ps)
 | .b,.bA ps=>.bor (.bA ps)
 | .b,p=>.val p
noncomputable def oR:List Kd->List PV->En
 |k::ks,p::ps=>some (DG k p)::oR ks ps
 |_,_=>[]
noncomputable def pN (ks:List Kd) (vs:List V) (H:Hp):WS:=⟨fun i a=>ks[i]? =some .m/\vs[i]? =some (.ref a),fun a=>H a≠none⟩
noncomputable def N4:List Kd->List V->List V
 | .m::ks,v::vs=>v::N4 ks vs
 |_::ks,_::vs=>N4 ks vs
 |_,_=>[]
def BM (K:Frag) (Z:aJ) (H:Hp) (ks:List Kd) (vs:List V) (qs:List PV):Prop:=∀(n:Nat) v q,(N4 ks vs)[n]? =some v->qs[n]? =some q->∃a,v= .ref a/\iJ K Z H a q
def Y2 (K:Frag) (M:aJ) (H H':Hp) (ks:List Kd) (vs:List V) (r:PV) (qs:List PV) (v:V):Bool->Prop
 |false=>Rep K M H' r v/\BM K M H' ks vs qs
 |true=>∃a,v= .ref a/\H a=none/\iJ K (aT M (one a)) H' a r/\BM K (aT M (one a)) H' ks vs qs
abbrev FN:=List PV->Option (PV×List PV)
def T7 (K:Frag) (ks:List Kd) (fr:Bool) (f:FN):Sp:=fun vs H Q _=>∃(M:aJ) (ps:List PV) (r:PV) (qs:List PV),(∀a,M a->H a≠none)/\vs.length=ks.length/\ps.length=ks.length/\
 (∀(i:Nat) k p v,ks[i]? =some k->ps[i]? =some p->vs[i]? =some v->lA K M (pN ks vs H) cT H i v (DG k p))/\
 (∀(i j:Nat),i≠j->ks[i]? =some .m->ks[j]? =some .m->vs[i]?≠vs[j]?)/\(∀i a,pN ks vs H i a->M a)/\
 f ps=some (r,qs)/\∀v H',bY (pN ks vs H) cT H H'->Y2 K M H H' ks vs r qs v fr->Q v H'
noncomputable def YY (e:En):Bool->Bv->Option PV
 |false,.val p=>some p
 |_,.new p=>some p
 |_,.slot i=>match e[i]? with
  |some (some (.loc p))=>some p
  |_=>none
 |true,.val _=>none
noncomputable def tD (e:En):Nat->List Kd->Option (List PV)
 |_,[]=>some []
 |j,.m::ks=>match e[j]? with
  |some (some (.own q))=>bO (tD e (j+1) ks) fun qs=>some (q::qs)
  |_=>none
 |j,_::ks=>tD e (j+1) ks
noncomputable def WO (ks:List Kd) (fr:Bool):Out->Option (PV×List PV)
 | .rt b e=>bO (YY e fr b) fun r=>bO (tD e 0 ks) fun qs=>some (r,qs)
 | .nx e=>match fr with
  |false=>bO (tD e 0 ks) fun qs=>some (.bD,qs)
  |true=>none
 |_=>none
noncomputable def qJ (ks:List Kd) (nl:Nat) (fr:Bool) (g:FS):FN:=fun ps=>bO (g (oR ks ps++List.replicate nl none)) (WO ks fr)
theorem AS:∀{ks:List Kd} {ps:List PV} {i:Nat} {s:Sl},(oR ks ps)[i]? =some (some s)->∃k p,ks[i]? =some k/\ps[i]? =some p/\s=DG k p
 |[],ps,i,s,h=>by simp[oR]at h
 |k::ks,[],i,s,h=>by simp[oR]at h
 |k::ks,p::ps,0,s,h=>by simp[oR]at h;exact⟨k,p,rfl,rfl,h.symm⟩
 |k::ks,p::ps,i+1,s,h=>by
  rw[oR,List.getElem?_cons_succ]at h;obtain⟨k',p',h1,h2,h3⟩:=AS h;exact⟨k',p',by simpa using h1,by simpa using h2,h3⟩
theorem A6:∀{ks:List Kd} {ps:List PV},ps.length=ks.length->(oR ks ps).length=ks.length
 |[],ps,h=>rfl
 |k::ks,[],h=>by simp at h
 |k::ks,p::ps,h=>by rw[oR,length_cons,length_cons,A6 (by simpa using h)]
theorem oK:∀{ks:List Kd} {vs:List V} {j:Nat} {qs:List PV} {n:Nat} {v:V} {q:PV},tD e j ks=some qs->(N4 ks vs)[n]? =some v->qs[n]? =some q->∃i,ks[i]? =some .m/\vs[i]? =some v/\e[j+i]? =some (some (.own q))
 |[],vs,j,qs,n,v,q,h,h1,h2=>by cases h;simp at h2
 | .m::ks,[],j,qs,n,v,q,h,h1,h2=>by simp[N4]at h1
 | .v::ks,[],j,qs,n,v,q,h,h1,h2=>by simp[N4]at h1
 | .b::ks,[],j,qs,n,v,q,h,h1,h2=>by simp[N4]at h1
 | .v::ks,x::vs,j,qs,n,v,q,h,h1,h2=>by
  obtain⟨i,a,b,c⟩:=oK (ks:=ks) (vs:=vs) (j:=j+1) h h1 h2;exact⟨i+1,by simpa using a,by simpa using b,by rw[show j+(i+1)=j+1+i by omega];exact c⟩
 | .b::ks,x::vs,j,qs,n,v,q,h,h1,h2=>by
  obtain⟨i,a,b,c⟩:=oK (ks:=ks) (vs:=vs) (j:=j+1) h h1 h2;exact⟨i+1,by simpa using a,by simpa using b,by rw[show j+(i+1)=j+1+i by omega];exact c⟩
 | .m::ks,x::vs,j,qs,n,v,q,h,h1,h2=>by
  unfold tD at h;split at h
  .rename_i q0 he;obtain⟨qs',g,h⟩:=aF h;cases h;cases n with
   |zero=>
    simp[N4]at h1 h2;subst h1 h2;exact⟨0,rfl,rfl,he⟩
   |succ n=>
    obtain⟨i,a,b,c⟩:=oK (ks:=ks) (vs:=vs) (j:=j+1) g (by simpa [N4]using h1) (by simpa using h2);exact⟨i+1,by simpa using a,by simpa using b,by rw[show j+(i+1)=j+1+i by omega];exact c⟩
  .cases h
section
variable {K:Frag}
theorem lA.cT {s:Sl} (h:lA K M W L H i v s):lA K (aT M cT) W L H i v s:=by
 have k:cS M (aT M Mr.cT) H H:=.less fun a z=>z.elim id fun z=>z.elim
 cases s with
 |val p=>exact Rep.aK k h
 |own p=>obtain⟨a,e,w,c⟩:=h;exact⟨a,e,w,c.aK k fun _ h=>h⟩
 |loc p=>obtain⟨a,e,w,c⟩:=h;exact⟨a,e,w,c.aK k fun _ h=>h⟩
 |bor p=>
  obtain⟨a,e,c⟩:=h;refine⟨a,e,?_⟩;cases c with
  |lst e od n m r=>exact .lst e od n m (r.aK k)
  |eQ e r=>exact .eQ e (r.aK k)
  |bA e od n m kk r=>exact .bA e od n m kk (r.aK k)
theorem UZ {nl:Nat} {fr:Bool} {t:TS} {g:FS} {N:List Str} (h:fR K t g) (hN:N.length=ks.length+nl) {vs:List V} {Q:VK} (hs:T7 K ks fr (qJ ks nl fr g) vs H Q E):t {nx:=fun _ H'=>Q .bD H',rt:=Q} (L2.start N vs) H:=by
 obtain⟨M,ps,r,qs,hM,hvl,hpl,har,hdis,hwm,hf,q⟩:=hs;obtain⟨out,g1,hf⟩:=aF hf
 let O:aJ:=fun a=>H a≠none
 have o:kH O M (pN ks vs H) cT H:=⟨fun a h=>h,hM,hwm,fun a z=>z.elim⟩;have hvN:N.length - vs.length=nl:=by omega
 have st:∀(i:Nat) v,vs[i]? =some v->(L2.start N vs)[i]? =some (some v):=fun i v hv=>by
  unfold L2.start;have hi:=(af.mp hv).1;rw[gj (by simpa using hi),aq,hv];rfl
 have sl:∀(i:Nat) s,(oR ks ps++List.replicate nl none)[i]? =some (some s)->∃k p v,ks[i]? =some k/\ps[i]? =some p/\vs[i]? =some v/\s=DG k p:=fun i s hi=>by
  by_cases hl:i<(oR ks ps).length
  .rw[gj hl]at hi;obtain⟨k,p,h1,h2,h3⟩:=AS hi;have:i<vs.length:=by have:=(af.mp h1).1;omega
   exact⟨k,p,vs[i],h1,h2,by simp,h3⟩
  .rw[gi (by omega),kn]at hi;split at hi<;>cases hi
 have mk:∀k p,(DG k p).dH=true->k= .m:=fun k p hm=>by
  cases k with
  |v=>cases hm
  |m=>rfl
  |b=>cases p<;>cases hm
 have en:aP K (aT M cT) (pN ks vs H) cT H (L2.start N vs) (oR ks ps++List.replicate nl none):=by
  refine⟨?_,fun i s hi=>?_,fun i j s s' hij h1 h2 m1 m2=>?_⟩
  .unfold L2.start;rw[bq,bq,gm,gm,A6 hpl,ah,hvN,hvl]
  .obtain⟨k,p,v,h1,h2,h3,rfl⟩:=sl i s hi;exact⟨v,st i v h3,(har i k p v h1 h2 h3).cT⟩
  .obtain⟨k,p,v,a1,a2,a3,rfl⟩:=sl i s h1;obtain⟨k',p',v',b1,b2,b3,rfl⟩:=sl j s' h2;rw[st i v a3,st j v' b3];have e1:=mk _ _ m1;have e2:=mk _ _ m2;subst e1 e2;have:=hdis i j hij a1 b1;rw[a3,b3]at this;exact fun z=>this (by cases z;rfl)
 have gk:∀{L':aJ} {H':Hp},mR (pN ks vs H) cT L' H H'->bY (pN ks vs H) cT H H':=fun gr=>⟨gr.obj,gr.tup,gr.cC⟩
 have mu:∀{Z Zf:aJ} {L':aJ} {H':Hp} {σ':St} {e':En} {qs:List PV},aP K Z (pN ks vs H) L' H' σ' e'->(∀a,Zf a->Z a)->tD e' 0 ks=some qs->BM K Zf H' ks vs qs:=fun en' hz hm n v q' h1 h2=>by
  obtain⟨i,a1,a2,a3⟩:=oK hm h1 h2;rw[gw]at a3;obtain⟨u,h3,a,rfl,⟨_,w⟩,c⟩:=en'.at' i _ a3;rw[a2]at w;cases w;exact⟨a,rfl,c.aK (.less hz) fun _ h=>h⟩
 refine h O M (pN ks vs H) cT (L2.start N vs) H _ out _ o en g1 ?_;cases out with
 |bk e'=>cases hf
 |ct e'=>cases hf
 | nx e'=>
  cases fr with
  |true=>cases hf
  |false=>
   obtain⟨qs',g2,hf⟩:=aF hf;cases hf;exact fun L' σ' H' gr o' en'=>q .bD H' (gk gr) ⟨.bD,mu en' (fun a z=>.inl z) g2⟩
 | rt b e'=>
  obtain⟨r',g2,hf⟩:=aF hf;obtain⟨qs',g3,hf⟩:=aF hf;cases hf;intro L' σ' H' v gr o' rb;refine q v H' (gk gr) ?_;cases b with
  | val p=>
   cases fr with
   |true=>cases g2
   |false=>
    cases g2;exact⟨rb.2.aK (.less fun a z=>.inl z),mu rb.1 (fun a z=>.inl z) g3⟩
  | new p=>
   cases fr with
   |false=>
    cases g2;have rb:=rb.weak o';exact⟨Rep.aK (.less fun a z=>.inl z) rb.2,mu rb.1 (fun a z=>.inl z) g3⟩
   |true=>
    cases g2;obtain⟨a,rfl,n1,n2,en',fe,c⟩:=rb;exact⟨a,rfl,eu n1,c.aK (.less fun a z=>z.elim .inl fun z=>.inr (.inr z)) fun _ h=>h,mu en' (fun a z=>z.elim .inl fun z=>.inr (.inr z)) g3⟩
  | slot i=>
   have g2':(match e'[i]? with|some (some (.loc p))=>some p|_=>none)=some r:=by
    cases fr<;>exact g2
   cases c:e'[i]? with
   |none=>rw[c]at g2';cases g2'
   | some s=>
    cases s with
    |none=>rw[c]at g2';cases g2'
    | some s=>
     rw[c]at g2';cases s with
     |loc p=>
      cases g2';obtain⟨u,h1,a,rfl,la,ct⟩:=rb.1.at' i _ c;have:=rb.2;rw[h1]at this;cases this;have nO:H a=none:=eu (o'.loc a la).2;cases fr with
      |false=>exact⟨(ct.aK (.less fun a z=>.inl z) fun _ h=>h).rep fun z=>absurd nO (hM a z),mu rb.1 (fun a z=>.inl z) g3⟩
      |true=>exact⟨a,rfl,nO,ct.aK (.less fun b z=>z.elim .inl fun z=>.inr (by rw[show b=a from z];exact la)) fun _ h=>h,mu rb.1 (fun b z=>z.elim .inl fun z=>.inr (by rw[show b=a from z];exact la)) g3⟩
     |_=>cases g2'
noncomputable def DY (e:En):Kd->Bv->Option PV
 | .v,b=>b.put
 | .b,b=>b.get e
 | .m,.slot i=>ownAt e i
 | .m,_=>none
noncomputable def IP (e:En):List Kd->List Bv->Option (List PV)
 |[],[]=>some []
 |k::ks,b::bs=>bO (DY e k b) fun p=>bO (IP e ks bs) fun ps=>some (p::ps)
 |_,_=>none
noncomputable def bZ:List Kd->List Bv->List Nat
 | .m::ks,.slot i::bs=>i::bZ ks bs
 |_::ks,_::bs=>bZ ks bs
 |_,_=>[]
noncomputable def p7:List Kd->List Bv->List Nat
 | .b::ks,.slot i::bs=>i::p7 ks bs
 |_::ks,_::bs=>p7 ks bs
 |_,_=>[]
noncomputable def resB (r:PV):Bool->Bv
 |true=>.new r
 |false=>.val r
noncomputable def a9 (ks:List Kd) (fr:Bool) (f:FN) (fa:FA):FE:=fun e=>bE (fa e) fun bs e1=>bO (IP e1 ks bs) fun ps=>
 bC (decide ((bZ ks bs).Nodup) && (p7 ks bs).all fun i=>!(bZ ks bs).contains i) (bO (f ps) fun rq=>bO (mZ (rq.2.map fun q=>some (.own q)) (bZ ks bs).zipIdx e1) fun e2=>some (resB rq.1 fr,e2))
theorem CF:∀{ks:List Kd} {bs:List Bv} {ps:List PV},IP e ks bs=some ps->ps.length=ks.length/\bs.length=ks.length/\∀(i:Nat) k b p,ks[i]? =some k->bs[i]? =some b->ps[i]? =some p->DY e k b=some p
 |[],[],ps,h=>by cases h;exact⟨rfl,rfl,fun i k b p h=>by simp at h⟩
 |[],_::_,ps,h=>by cases h
 |_::_,[],ps,h=>by cases h
 |k::ks,b::bs,ps,h=>by
  obtain⟨p,g1,h⟩:=aF h;obtain⟨ps',g2,h⟩:=aF h;cases h;obtain⟨a1,a2,a3⟩:=CF g2;refine⟨by rw[length_cons,length_cons,a1],by rw[length_cons,length_cons,a2],fun i k' b' p' h1 h2 h3=>?_⟩;cases i with
  |zero=>simp at h1 h2 h3;subst h1 h2 h3;exact g1
  |succ i=>exact a3 i k' b' p' (by simpa using h1) (by simpa using h2) (by simpa using h3)
theorem BK.get:∀{bs:List Bv} {vs:List V} {i:Nat} {v:V},BK K Z H σ bs vs->vs[i]? =some v->∃b,bs[i]? =some b/\RV K Z H σ v b
 |_,_,_,_,.nil,h=>by simp at h
 |_,_,0,_,.cons h _,e=>by simp at e;subst e;exact⟨_,rfl,h⟩
 |_,_,i+1,_,.cons _ r,e=>by
  obtain⟨b,h1,h2⟩:=BK.get (i:=i) r (by simpa using e);exact⟨b,by simpa using h1,h2⟩
theorem BK.length:∀{bs:List Bv} {vs:List V},BK K Z H σ bs vs->bs.length=vs.length
 |_,_,.nil=>rfl
 |_,_,.cons _ r=>by rw[length_cons,length_cons,BK.length r]
theorem oJ:∀{ks:List Kd} {bs:List Bv} {i j:Nat},ks[i]? =some .m->bs[i]? =some (.slot j)->∃n:Nat,(bZ ks bs)[n]? =some j
 |[],bs,i,j,h,_=>by simp at h
 |k::ks,[],i,j,_,h=>by simp at h
 |k::ks,b::bs,0,j,h1,h2=>by simp at h1 h2;subst h1 h2;exact⟨0,rfl⟩
 | k::ks,b::bs,i+1,j,h1,h2=>by
  obtain⟨n,h⟩:=oJ (ks:=ks) (bs:=bs) (i:=i) (by simpa using h1) (by simpa using h2);cases k with
  |v=>exact⟨n,h⟩
  |b=>exact⟨n,h⟩
  |m=>
   cases b with
   |val p=>exact⟨n,h⟩
   |new p=>exact⟨n,h⟩
   |slot l=>exact⟨n+1,by simpa [bZ]using h⟩
theorem xN:∀{ks:List Kd} {bs:List Bv} {i j:Nat},ks[i]? =some .b->bs[i]? =some (.slot j)->j∈p7 ks bs
 |[],bs,i,j,h,_=>by simp at h
 |k::ks,[],i,j,_,h=>by simp at h
 |k::ks,b::bs,0,j,h1,h2=>by simp at h1 h2;subst h1 h2;exact ba
 | k::ks,b::bs,i+1,j,h1,h2=>by
  have h:=xN (ks:=ks) (bs:=bs) (i:=i) (j:=j) (by simpa using h1) (by simpa using h2);cases k with
  |v=>exact h
  |m=>exact h
  |b=>
   cases b with
   |val p=>exact h
   |new p=>exact h
   |slot l=>exact ay _ h
theorem vQ:∀{ks:List Kd} {bs:List Bv} {i1 i2 j:Nat},(bZ ks bs).Nodup->i1≠i2->ks[i1]? =some .m->ks[i2]? =some .m->bs[i1]? =some (.slot j)->bs[i2]? =some (.slot j)->False
 |[],bs,i1,i2,j,_,_,h,_,_,_=>by simp at h
 |k::ks,[],i1,i2,j,_,_,_,_,h,_=>by simp at h
 |k::ks,b::bs,0,0,j,_,n,_,_,_,_=>n rfl
 |k::ks,b::bs,0,i2+1,j,nd,n,h1,h2,h3,h4=>by
  simp at h1 h3;subst h1 h3;obtain⟨q,h⟩:=oJ (ks:=ks) (bs:=bs) (i:=i2) (j:=j) (by simpa using h2) (by simpa using h4);rw[bZ,fq]at nd;exact nd.1 (bh h)
 |k::ks,b::bs,i1+1,0,j,nd,n,h1,h2,h3,h4=>by
  simp at h2 h4;subst h2 h4;obtain⟨q,h⟩:=oJ (ks:=ks) (bs:=bs) (i:=i1) (j:=j) (by simpa using h1) (by simpa using h3);rw[bZ,fq]at nd;exact nd.1 (bh h)
 | k::ks,b::bs,i1+1,i2+1,j,nd,n,h1,h2,h3,h4=>by
  refine vQ (ks:=ks) (bs:=bs) (i1:=i1) (i2:=i2) (j:=j) ?_ (fun z=>n (by rw[z])) (by simpa using h1) (by simpa using h2) (by simpa using h3) (by simpa using h4);cases k with
  |v=>exact nd
  |b=>exact nd
  |m=>
   cases b with
   |val p=>exact nd
   |new p=>exact nd
   |slot l=>rw[bZ,fq]at nd;exact nd.2
theorem qQ:∀{ks:List Kd} {bs:List Bv} {vs:List V} {ps:List PV} {n j:Nat},BK K Z H σ bs vs->IP e ks bs=some ps->(bZ ks bs)[n]? =some j->∃v,(N4 ks vs)[n]? =some v/\σ[j]? =some (some v)
 |[],bs,vs,ps,n,j,r,g,h=>by cases bs<;>simp[bZ]at h
 |k::ks,[],vs,ps,n,j,r,g,h=>by simp[bZ]at h
 | k::ks,b::bs,vs,ps,n,j,r,g,h=>by
  obtain⟨p,g1,g⟩:=aF g;obtain⟨ps',g2,g⟩:=aF g;cases r with
  | cons h0 r=>
   cases k with
   |v=>exact qQ (ks:=ks) r g2 (by simpa [bZ]using h)
   |b=>exact qQ (ks:=ks) r g2 (by simpa [bZ]using h)
   | m=>
    cases b with
    |val p=>cases g1
    |new p=>cases g1
    | slot l=>
     cases n with
     |zero=>simp[bZ]at h;subst h;exact⟨_,rfl,h0⟩
     |succ n=>
      obtain⟨v,a,b⟩:=qQ (n:=n) r g2 (by simpa [bZ]using h);exact⟨v,by simpa [N4]using a,b⟩
theorem L9 {fr:Bool} {f:FN} {ta:TA} {fa:FA} (ha:tR K ta fa):Ref K (BV (T7 K ks fr f) [] E ta) (a9 ks fr f fa):=by
 intro O M W L σ H e e' b Q o he hf q;obtain⟨bs,e1,f1,hf⟩:=aN hf;obtain⟨ps,g1,hf⟩:=aF hf;obtain⟨g2,hf⟩:=aM hf;obtain⟨⟨r,qs⟩,g3,hf⟩:=aF hf;obtain⟨e2,g4,hf⟩:=aF hf;cases hf;rw[bz]at g2;have nd:=av g2.1;have nb:∀i∈p7 ks bs,i∉bZ ks bs:=fun i hi hm=>by
  have:=bg.mp g2.2 i hi;rw[contains_iff_mem.mpr hm]at this;cases this
 refine ha O M W L σ H e e1 bs _ o he f1 fun vs H1 k1 en rv=>?_
 have o1:=o.keep k1.cC;obtain⟨pl,bl,ap⟩:=CF g1;have vl:=rv.length;show T7 K ks fr f (vs++[]) H1 Q E;rw[dq];have wr:∀i a,pN ks vs H1 i a->∃j,bs[i]? =some (.slot j)/\σ[j]? =some (some (.ref a))/\j∈bZ ks bs/\∃p,ownAt e1 j=some p:=fun i a ⟨h1,h2⟩=>by
  obtain⟨b,hb,rb⟩:=rv.get h2;have hi:i<ks.length:=(af.mp h1).1;have hp:ps[i]? =some (ps[i]'(by omega)):=ag (by omega);have:=ap i _ b _ h1 hb hp;cases b with
  |val p=>cases this
  |new p=>cases this
  |slot j=>
   obtain⟨n,hn⟩:=oJ h1 hb;exact⟨j,hb,rb,bh hn,_,this⟩
 have wml:∀i a,pN ks vs H1 i a->(aw W a\/ L a)/\∃j s,e1[j]? =some (some s)/\s.dH=true/\σ[j]? =some (some (.ref a))/\j∈bZ ks bs:=fun i a h=>by
  obtain⟨j,_,hs,hm,p,hp⟩:=wr i a h;obtain⟨a',ha',hz,_⟩:=en.own hp;rw[hs]at ha';cases ha';refine⟨hz,j,?_⟩;rcases bV hp with g|g
  .exact⟨_,g,rfl,hs,hm⟩
  .exact⟨_,g,rfl,hs,hm⟩
 have ML:∀a,(aw W a\/ L a)->aT M L a:=fun a z=>z.elim (fun⟨i,w⟩=>.inl (o.wm i a w)) .inr
 have nn:∀{a:Addr} {o:HO},Rd H1 a o->H1 a≠none:=fun h=>h.elim (fun h=>by rw[h];exact fun z=>nomatch z) fun⟨u,h⟩=>by rw[h];exact fun z=>nomatch z
 refine⟨aT M L,ps,r,qs,fun a z=>z.elim (fun z=>o1.old a (o1.mo a z)) fun z=>(o1.loc a z).1,by omega,by omega,fun i k p v h1 h2 h3=>?_,fun i j hij h1 h2 z=>?_,fun i a z=>ML a (wml i a z).1,g3,fun v H' kc res=>?_⟩
 .obtain⟨b,hb,rb⟩:=rv.get h3;have hone:=ap i k b p h1 hb h2;cases k with
  |v=>
   cases b with
   |val p'=>cases hone;exact rb
   |new p'=>exact rb.elim
   |slot j=>cases hone
  | m=>
   cases b with
   |val p'=>cases hone
   |new p'=>cases hone
   |slot j=>
    obtain⟨a,hs,hz,c⟩:=en.own hone;have rb':σ[j]? =some (some v):=rb;rw[hs]at rb';cases rb';exact⟨a,rfl,⟨h1,h3⟩,c⟩
  | b=>
   have lendR:∀p,Rep K (aT M L) H1 p v->lA K (aT M L) (pN ks vs H1) cT H1 i v (DG .b p):=fun p hr=>by
    cases hr with
    |lst h n r=>exact⟨_,rfl,.lst h (nn h) (fun⟨i',w⟩=>n (ML _ (wml i' _ w).1)) (fun z=>z) r⟩
    |bA h n kk r=>exact⟨_,rfl,.bA h (nn h) (fun⟨i',w⟩=>n (ML _ (wml i' _ w).1)) (fun z=>z) kk r⟩
    |bD=>exact Rep.bD
    |bl b=>exact Rep.bl b
    |int b=>exact Rep.int b
    |str b=>exact Rep.str b
    |ty b=>exact Rep.ty b
    |tup h r=>exact Rep.tup h r
   cases b with
   |val p'=>cases hone;exact lendR _ rb
   |new p'=>exact rb.elim
   | slot j=>
    have hone:rd e1 j=some p:=hone;unfold Mr.rd at hone;cases c:e1[j]? with
    |none=>rw[c]at hone;cases hone
    | some s=>
     cases s with
     |none=>rw[c]at hone;cases hone
     | some s=>
      rw[c]at hone;cases hone;obtain⟨u,hs,sr⟩:=en.at' j s c;have rb':σ[j]? =some (some v):=rb;rw[hs]at rb';cases rb';have nm:j∉bZ ks bs:=nb j (xN h1 hb);have nw:∀a,s.dH=true->σ[j]? =some (some (.ref a))->¬aw (pN ks vs H1) a:=fun a hm ha ⟨i',w⟩=>by
       obtain⟨_,j',s',hs',hm',ha',hj'⟩:=wml i' a w;have ne:j≠j':=fun z=>nm (z▸hj')
       exact en.rP j j' s s' ne c hs' hm hm' (by rw[ha,ha'])
      cases s with
      |val p=>exact lendR p sr
      |own p=>
       obtain⟨a,e,w,ct⟩:=sr;subst e;cases ct with
       |lst h r=>exact⟨a,rfl,.lst (.inl h) (nn (.inl h)) (nw a rfl hs) (fun z=>z) r⟩
       |bA h kk r=>exact⟨a,rfl,.bA (.inl h) (nn (.inl h)) (nw a rfl hs) (fun z=>z) kk r⟩
      |loc p=>
       obtain⟨a,e,w,ct⟩:=sr;subst e;cases ct with
       |lst h r=>exact⟨a,rfl,.lst (.inl h) (nn (.inl h)) (nw a rfl hs) (fun z=>z) r⟩
       |bA h kk r=>exact⟨a,rfl,.bA (.inl h) (nn (.inl h)) (nw a rfl hs) (fun z=>z) kk r⟩
      |bor p=>
       obtain⟨a,e,ct⟩:=sr;subst e;cases ct with
       |lst h od n m r=>exact⟨a,rfl,.lst h (nn h) (fun⟨i',w⟩=>(wml i' a w).1.elim n m) (fun z=>z) r⟩
       |eQ h r=>exact⟨a,rfl,.eQ h r⟩
       |bA h od n m kk r=>exact⟨a,rfl,.bA h (nn h) (fun⟨i',w⟩=>(wml i' a w).1.elim n m) (fun z=>z) kk r⟩
 .
  have hi:i<ks.length:=(af.mp h1).1;have hj:j<ks.length:=(af.mp h2).1;have vi:vs[i]? =some (vs[i]'(by omega)):=ag (by omega);have vj:vs[j]? =some (vs[j]'(by omega)):=ag (by omega);have key:∀(i:Nat) (v:V),ks[i]? =some Kd.m->vs[i]? =some v->∃(j:Nat) (a:Addr),v= .ref a/\bs[i]? =some (Bv.slot j)/\σ[j]? =some (some v)/\∃p,ownAt e1 j=some p:=fun i v h1 h3=>by
   obtain⟨b,hb,rb⟩:=rv.get h3;have hi:i<ks.length:=(af.mp h1).1;have:=ap i _ b _ h1 hb (ag (show i<ps.length by omega));cases b with
   |val p=>cases this
   |new p=>cases this
   |slot l=>
    obtain⟨a,ha,_,_⟩:=en.own this;have rb':σ[l]? =some (some v):=rb;rw[ha]at rb';cases rb';exact⟨l,a,rfl,hb,ha,_,this⟩
  obtain⟨l1,a1,x1,y1,z1,p1,w1⟩:=key i _ h1 vi;obtain⟨l2,a2,x2,y2,z2,p2,w2⟩:=key j _ h2 vj
  by_cases hl:l1=l2
  .subst hl;exact vQ nd hij h1 h2 y1 y2
  .have m1:∃s,e1[l1]? =some (some s)/\s.dH=true:=by rcases bV w1 with g|g<;>exact⟨_,g,rfl⟩
   have m2:∃s,e1[l2]? =some (some s)/\s.dH=true:=by rcases bV w2 with g|g<;>exact⟨_,g,rfl⟩
   obtain⟨s1,b1,c1⟩:=m1;obtain⟨s2,b2,c2⟩:=m2;refine en.rP l1 l2 s1 s2 hl b1 b2 c1 c2 ?_;rw[z1,z2,<-Option.some.inj (vi.symm.trans (z.trans vj))]
 .
  have kout:bY W L H1 H':=⟨fun a ob h n m=>kc.obj a ob h (fun⟨i,w⟩=>(wml i a w).1.elim n m) (fun z=>z),kc.tup,kc.cC⟩;have pend:∀(Zf Lf:aJ),(∀a ob,H1 a=some ob->¬aT M L a->¬Zf a)->(∀a,L a->Lf a)->(∀a ob,H1 a=some ob->¬L a->¬Lf a)->C0 K Zf W Lf H' σ (fun i=>∃j,(i,j)∈(bZ ks bs).zipIdx) e1:=fun Zf Lf hz hL hL2=>by
   have kf:cS (aT M L) Zf H1 H':=⟨kc.tup,fun a ob h n=>⟨kc.obj a ob h (fun⟨i,w⟩=>n (ML a (wml i a w).1)) (fun z=>z),hz a ob h n⟩⟩;refine⟨en.len,fun i s hs=>?_,en.rP⟩;obtain⟨u,h1,h2⟩:=en.at' i s hs;have keepM:∀a,s.dH=true->¬(∃j,(i,j)∈(bZ ks bs).zipIdx)->u= .ref a->∀ob,H1 a=some ob->H' a=some ob:=fun a hm nt ev ob h=>by
    subst ev;refine kc.obj a ob h (fun⟨i',w⟩=>?_) (fun z=>z);obtain⟨_,j',s',hs',hm',ha',hj'⟩:=wml i' a w;obtain⟨n,hn⟩:=iq hj';have ne:j'≠i:=fun z=>nt ⟨n,by rw[<-z];exact List.mem_zipIdx_iff_getElem?.mpr hn⟩
    exact en.rP j' i s' s ne hs' hs hm' hm (by rw[ha',h1])
   have rk:∀{a:Addr} {o:HO},Rd H1 a o->¬L a->¬Lf a:=fun h n=>h.elim (fun h=>hL2 _ _ h n) fun⟨u,h⟩=>hL2 _ _ h n
   refine⟨u,h1,fun z=>?_,fun hm=>?_⟩
   .cases s with
    |val p=>exact Rep.aK kf h2
    |own p=>obtain⟨a,e,w,c⟩:=h2;exact⟨a,e,w,c.aK kf fun ob h=>keepM a rfl (z.elim id fun z=>nomatch z) e ob h⟩
    |loc p=>obtain⟨a,e,w,c⟩:=h2;exact⟨a,e,hL a w,c.aK kf fun ob h=>keepM a rfl (z.elim id fun z=>nomatch z) e ob h⟩
    |bor p=>
     obtain⟨a,e,c⟩:=h2;refine⟨a,e,?_⟩;cases c with
     |lst h od n m r=>exact .lst (h.elim (fun h=>.inl (kout.obj _ _ h n m)) fun⟨u,h⟩=>.inr ⟨u,kout.obj _ _ h n m⟩) od n (rk h m) (r.aK kf)
     |eQ h r=>exact .eQ h (r.aK kf)
     |bA h od n m kk r=>exact .bA (h.elim (fun h=>.inl (kout.obj _ _ h n m)) fun⟨u,h⟩=>.inr ⟨u,kout.obj _ _ h n m⟩) od n (rk h m) kk (r.aK kf)
   .cases s with
    |val p=>cases hm
    |bor p=>cases hm
    |own p=>obtain⟨a,e,w,c⟩:=h2;exact⟨a,e,.inl ⟨p,rfl,w⟩⟩
    |loc p=>obtain⟨a,e,w,c⟩:=h2;exact⟨a,e,.inr ⟨p,rfl,hL a w⟩⟩
  have back:∀(Zf:aJ),BM K Zf H' ks vs qs->∀i j p a,(i,j)∈(bZ ks bs).zipIdx->ownAt (qs.map fun q=>some (.own q)) j=some p->σ[i]? =some (some (.ref a))->iJ K Zf H' a p:=fun Zf mu i j p a hm hp ha=>by
   have hm':=List.mem_zipIdx_iff_getElem?.mp hm;obtain⟨v',a1,a2⟩:=qQ rv g1 hm';dsimp only at a2;rw[ha]at a2;cases a2;have hq:qs[j]? =some p:=by
    rcases bV hp with g|g
    .rw[aq]at g;cases c:qs[j]? with
     |none=>rw[c]at g;cases g
     |some q'=>rw[c]at g;cases g;rfl
    .rw[aq]at g;cases c:qs[j]? with
     |none=>rw[c]at g;cases g
     |some q'=>rw[c]at g;cases g
   obtain⟨a',e,c⟩:=mu j _ p a1 hq;cases e;exact c
  cases fr with
  |false=>
   obtain⟨rr,mu⟩:=res;exact q v H' (k1.trans kout) ⟨rB (pend (aT M L) L (fun _ _ _ n=>n) (fun _ z=>z) fun _ _ _ n=>n) (back _ mu) g4,rr⟩ trivial
  | true=>
   obtain⟨a,rfl,na,c,mu⟩:=res;have sub:∀b,aT M (aT L (one a)) b->aT (aT M L) (one a) b:=fun b z=>by
    rcases z with z|z|z
    .exact .inl (.inl z)
    .exact .inl (.inr z)
    .exact .inr z
   have ne:∀b ob,H1 b=some ob->b≠a:=fun b ob h=>bT h na
   have mu':BM K (aT M (aT L (one a))) H' ks vs qs:=fun n v q' h1 h2=>by
    obtain⟨a',e,c⟩:=mu n v q' h1 h2;exact⟨a',e,c.aK (.less sub) fun _ h=>h⟩
   refine q _ H' (k1.trans kout) ⟨a,rfl,fun z=>o1.old a z na,fun z=>(o1.loc a z).1 na,rB (pend (aT M (aT L (one a))) (aT L (one a)) (fun b ob h n z=>?_) (fun _ z=>.inl z) fun b ob h n z=>z.elim n (ne b ob h)) (back _ mu') g4,fun i s hs hm e=>?_,c.aK (.less sub) fun _ h=>h⟩ (Fr.back (b:=.new r) k1.cC fun b e=>by cases e;exact na)
   .rcases z with z|z|z
    .exact n (.inl z)
    .exact n (.inr z)
    .exact ne b ob h z
   .obtain⟨s',hs',hm'⟩:=l5 g4 i s hs hm;obtain⟨u,h1,h2⟩:=en.at' i s' hs';rw[e]at h1;cases h1;cases s' with
    |val p=>cases hm'
    |bor p=>cases hm'
    |own p=>obtain⟨b,e,w,c⟩:=h2;cases e;obtain⟨ob,h,_⟩:=c.there;rw[na]at h;cases h
    |loc p=>obtain⟨b,e,w,c⟩:=h2;cases e;obtain⟨ob,h,_⟩:=c.there;rw[na]at h;cases h
end
end Mr
namespace Mr
open PySem PySem.Spec L2 PyProof.Rows
variable {a:Addr} {ys:Array Value} {X:Cx} {f:FE} {h:Heap} {H:Hp} {g':Int->Int->PV} {g:Int->Int->V} {ps:List PV} {vs xs:List V} {k n:Nat} {p q:PV} {r r':R2} {t:TE} {u v:Value} {W:WS} {L M O Wr Z:aJ}
mutual
inductive Lies (h:Heap):PV->Value->Prop
 |bD:Lies h .bD .none
 |bl (b:Bool):Lies h (.bl b) (.bool b)
 |int (i:Int) (t:Tok):Lies h (.int i) (.int i t)
 |str (x:Str) (t:Tok):Lies h (.str x) (.str x t)
 |tup {a:Addr} {its:List Value} {ps:List PV}:IsTup h a its.toArray->bR h ps its->Lies h (.tup ps) (.ref a)
 |lst {a:Addr} {its:List Value} {ps:List PV}:h.IsList a its.toArray->bR h ps its->Lies h (.lst ps) (.ref a)
inductive bR (h:Heap):List PV->List Value->Prop
 |nil:bR h [] []
 |cons {p:PV} {v:Value} {ps:List PV} {vs:List Value}:Lies h p v->bR h ps vs->bR h (p::ps) (v::vs)
end
noncomputable def gX:Nat->PV->Bool
 |_,.bD=>true
 |_,.bl _=>true
 |_,.int _=>true
 |_,.str _=>true
 |n+1,.tup ps=>ps.all (gX n)
 |n+1,.lst ps=>ps.all (gX n)
 |_,_=>false
section
variable {X:Cx} {pins:List (Addr×Obj)} {σ:L2.St} {H:Hp} {s:Shared}
theorem Rep.lies (I:Inv X pins σ H s):∀{n:Nat} {p:PV} {x:V} {v:Value},gX n p=true->Rep X.K Z H p x->RelV x v->Lies s.heap p v
 |n,.bD,x,v,ok,h,r=>by cases h;cases r;exact .bD
 |n,.bl b,x,v,ok,h,r=>by cases h;cases r;exact .bl b
 |n,.int b,x,v,ok,h,r=>by cases h;obtain⟨t,rfl⟩:=r;exact .int b t
 |n,.str b,x,v,ok,h,r=>by cases h;obtain⟨t,rfl⟩:=r;exact .str b t
 |n,.ty b,x,v,ok,h,r=>by cases n<;>cases ok
 |n,.bA b,x,v,ok,h,r=>by cases n<;>cases ok
 |0,.tup ps,x,v,ok,h,r=>by cases ok
 |0,.lst ps,x,v,ok,h,r=>by cases ok
 | n+1,.tup ps,x,v,ok,h,r=>by
  cases h with
  | tup h rl=>
   cases r;obtain⟨its,rv,pl,_⟩:=I.tuple h.sq;have key:∀(ps:List PV) (xs:List V) (its:List Value),ps.all (gX n)=true->bH X.K Z H ps xs->Vals xs its->bR s.heap ps its:=fun ps=>by
    induction ps with
    |nil=>intro xs its _ h1 h2;cases h1;cases h2;exact .nil
    | cons p ps ih=>
     intro xs its ha h1 h2;rw[all_cons,bz]at ha;cases h1 with
     |cons h1 r1=>
      cases h2 with
      |cons h2 r2=>exact .cons (Rep.lies I (n:=n) ha.1 h1 h2) (ih _ _ ha.2 r1 r2)
   exact .tup pl (key ps _ its ok rl rv)
 | n+1,.lst ps,x,v,ok,h,r=>by
  cases h with
  | lst h nz rl=>
   cases r;obtain⟨its,rv,pl,_⟩:=I.list (show k7 X.K H _ _ from .inl h);have key:∀(ps:List PV) (xs:List V) (its:List Value),ps.all (gX n)=true->bH X.K Z H ps xs->Vals xs its->bR s.heap ps its:=fun ps=>by
    induction ps with
    |nil=>intro xs its _ h1 h2;cases h1;cases h2;exact .nil
    | cons p ps ih=>
     intro xs its ha h1 h2;rw[all_cons,bz]at ha;cases h1 with
     |cons h1 r1=>
      cases h2 with
      |cons h2 r2=>exact .cons (Rep.lies I (n:=n) ha.1 h1 h2) (ih _ _ ha.2 r1 r2)
   exact .lst pl.isList (key ps _ its ok rl rv)
theorem bH.lies (I:Inv X pins σ H s):∀{ps:List PV} {xs:List V} {its:List Value},ps.all (gX n)=true->bH X.K Z H ps xs->Vals xs its->bR s.heap ps its
 |[],_,_,_,h1,h2=>by cases h1;cases h2;exact .nil
 | p::ps,_,_,ha,h1,h2=>by
  rw[all_cons,bz]at ha;cases h1 with
  |cons h1 r1=>
   cases h2 with
   |cons h2 r2=>exact .cons (Rep.lies I (n:=n) ha.1 h1 h2) (bH.lies I ha.2 r1 r2)
theorem Red.lies (I:Inv X pins σ H s) {n:Nat} {x:V} (ok:gX n p=true) (h:Red X.K Z H p x) (r:RelV x v):Lies s.heap p v:=by
 cases h with
 |rep h=>exact h.lies I ok r
 | lst h rl=>
  cases r;cases n with
  |zero=>cases ok
  |succ n=>
   obtain⟨its,rv,pl,_⟩:=I.list h.sq;exact .lst pl.isList (bH.lies I (n:=n) ok rl rv)
 |bA h e r=>cases n<;>cases ok
end
mutual
noncomputable def cI:PV->PV->Bool
 | .bD,.bD=>true
 | .bl a,.bl b=>a==b
 | .bl a,.int b=>(if a then 1 else 0)==b
 | .int a,.bl b=>a==(if b then 1 else 0)
 | .int a,.int b=>a==b
 | .str a,.str b=>a==b
 | .tup xs,.tup ys=>dC xs ys
 | .lst xs,.lst ys=>dC xs ys
 |_,_=>false
noncomputable def dC:List PV->List PV->Bool
 |[],[]=>true
 |x::xs,y::ys=>cI x y && dC xs ys
 |_,_=>false
end
theorem oQ {xs ys:List PV}:cI (.tup xs) (.tup ys)=dC xs ys:=by rw[cI]
theorem uL {xs ys:List PV}:cI (.lst xs) (.lst ys)=dC xs ys:=by rw[cI]
theorem bR.length:∀{ps:List PV} {vs:List Value},bR h ps vs->ps.length=vs.length
 |_,_,.nil=>rfl
 |_,_,.cons _ r=>by rw[length_cons,length_cons,bR.length r]
theorem bR.get:∀{ps:List PV} {vs:List Value} {i:Nat} {v:Value},bR h ps vs->vs[i]? =some v->∃p,ps[i]? =some p/\Lies h p v
 |_,_,_,_,.nil,e=>by simp at e
 |_,_,0,_,.cons q _,e=>by simp at e;subst e;exact⟨_,rfl,q⟩
 |_,_,i+1,_,.cons _ r,e=>by
  obtain⟨v,h1,h2⟩:=bR.get (i:=i) r (by simpa using e);exact⟨v,by simpa using h1,h2⟩
theorem GQ {xs:Array Value} (h1:IsTup h a xs) (h2:IsTup h a ys):xs=ys:=by
 obtain⟨o,g,_,n,d⟩:=h1;obtain⟨o',g',_,n',d'⟩:=h2;rw[g]at g';cases g';rw[d]at d';injection d'
theorem FY {xs:Array Value} (h1:h.IsList a xs) (h2:h.IsList a ys):xs=ys:=by
 obtain⟨o,g,_,n,d⟩:=h1;obtain⟨o',g',_,n',d'⟩:=h2;rw[g]at g';cases g';rw[d]at d';injection d'
theorem uC {xs:Array Value} (h1:IsTup h a xs) (h2:h.IsList a ys):False:=by
 obtain⟨o,g,c,n,d⟩:=h1;obtain⟨o',g',c',n',d'⟩:=h2;rw[g]at g';cases g';rw[c]at c';exact absurd c' (by decide)
mutual
theorem Lies.same {h:Heap}:∀{p:PV} {v:Value},Lies h p v->∀{q:PV},Lies h q v->cI p q=true
 |_,_,.bD,q,k=>by cases k;rfl
 |_,_,.bl b,q,k=>by cases k;exact fy b
 |_,_,.int i t,q,k=>by cases k;exact fy i
 |_,_,.str i t,q,k=>by cases k;exact fy i
 | _,_,.tup ht r,q,k=>by
  cases k with
  |tup ht' r'=>
   have e:_=_:=GQ ht ht';have e:=cw Array.toList e;simp only[toList_toArray]at e;subst e;unfold cI;exact bR.same r r'
  |lst hl r'=>exact(uC ht hl).elim
 | _,_,.lst ht r,q,k=>by
  cases k with
  |tup ht' r'=>exact(uC ht' ht).elim
  |lst hl r'=>
   have e:=cw Array.toList (FY ht hl);simp only[toList_toArray]at e;subst e;unfold cI;exact bR.same r r'
theorem bR.same {h:Heap}:∀{p:List PV} {v:List Value},bR h p v->∀{q:List PV},bR h q v->dC p q=true
 |_,_,.nil,q,k=>by cases k;rfl
 |_,_,.cons h1 r1,q,k=>by
  cases k with
  |cons h2 r2=>unfold dC;rw[Lies.same h1 h2,bR.same r1 r2];rfl
end
mutual
theorem Lies.fn {h:Heap}:∀{p:PV} {v:Value},Lies h p v->∀{q:PV},Lies h q v->p=q
 |_,_,.bD,q,k=>by cases k;rfl
 |_,_,.bl b,q,k=>by cases k;rfl
 |_,_,.int i t,q,k=>by cases k;rfl
 |_,_,.str i t,q,k=>by cases k;rfl
 | _,_,.tup ht r,q,k=>by
  cases k with
  |tup ht' r'=>
   have e:=cw Array.toList (GQ ht ht');simp only[toList_toArray]at e;subst e;rw[bR.fn r r']
  |lst hl r'=>exact(uC ht hl).elim
 | _,_,.lst ht r,q,k=>by
  cases k with
  |tup ht' r'=>exact(uC ht' ht).elim
  |lst hl r'=>
   have e:=cw Array.toList (FY ht hl);simp only[toList_toArray]at e;subst e;rw[bR.fn r r']
theorem bR.fn {h:Heap}:∀{p:List PV} {v:List Value},bR h p v->∀{q:List PV},bR h q v->p=q
 |_,_,.nil,q,k=>by cases k;rfl
 |_,_,.cons h1 r1,q,k=>by
  cases k with
  |cons h2 r2=>rw[Lies.fn h1 h2,bR.fn r1 r2]
end
theorem eN:∀{ps qs:List PV},((List.range (min ps.length qs.length)).all (fun j=>cI (ps.getD j .bD) (qs.getD j .bD)) && ps.length==qs.length)=dC ps qs
 |[],[]=>rfl
 |[],_::_=>by unfold dC;simp
 |_::_,[]=>by unfold dC;simp
 | p::ps,q::qs=>by
  have ih:=eN (ps:=ps) (qs:=qs);unfold dC;rw[<-ih];have e:min (p::ps).length (q::qs).length=min ps.length qs.length+1:=by simp only[length_cons];omega
  rw[e,List.range_succ_eq_map,all_cons,List.all_map];have e2:((p::ps).length==(q::qs).length)=(ps.length==qs.length):=by
   rw[Bool.eq_iff_iff];simp
  rw[e2,Bool.and_assoc];rfl
section
variable {A:Around} {s:Shared}
theorem toArr {vs:List Value} {j:Nat} (h:j<vs.toArray.size):vs[j]? =some (vs.toArray[j]):=by simp at h⊢
theorem yW:∀(n:Nat) (A:Around) {p q:PV} {v u:Value},A.units+n<cLine->gX n p=true->gX n q=true->Lies s.heap p v->Lies s.heap q u->SeqAt.EqAt A s v u (cI p q):=by
 intro n
 induction n with
 | zero=>
  intro A p q v u hu o1 o2 h1 h2;cases h1 with
  |tup _ _=>cases o1
  |lst _ _=>cases o1
  |bD=>
   cases h2 with
   |tup _ _=>cases o2
   |lst _ _=>cases o2
   |bD=>exact .same _
   |bl b=>exact .none_bool b
   |int b t=>exact .none_int b t
   |str b t=>exact .none_str b t
  |bl a=>
   cases h2 with
   |tup _ _=>cases o2
   |lst _ _=>cases o2
   |bD=>exact .bool_none a
   |bl b=>exact .bool_bool a b
   |int b t=>exact .bool_int a b t
   |str b t=>exact .bool_str a b t
  |int a t'=>
   cases h2 with
   |tup _ _=>cases o2
   |lst _ _=>cases o2
   |bD=>exact .int_none a t'
   |bl b=>exact .int_bool a t' b
   |int b t=>exact .int_int a t' b t
   |str b t=>exact .int_str a t' b t
  |str a t'=>
   cases h2 with
   |tup _ _=>cases o2
   |lst _ _=>cases o2
   |bD=>exact .str_none a t'
   |bl b=>exact .str_bool a t' b
   |int b t=>exact .str_int a t' b t
   |str b t=>exact .str_str a t' b t
 | succ n ih=>
  intro A p q v u hu o1 o2 h1 h2;have hu0:A.units<cLine:=by omega
  have hin:A.in1.units=A.units+1:=rfl;have els:∀{ps qs:List PV} {vs us:List Value},ps.all (gX n)=true->qs.all (gX n)=true->bR s.heap ps vs->bR s.heap qs us->∀(j:Nat) (g1:j<vs.toArray.size) (g2:j<us.toArray.size),SeqAt.EqAt A.in1 s vs.toArray[j] us.toArray[j] (cI (ps.getD j .bD) (qs.getD j .bD)):=fun{ps qs vs us} a1 a2 l1 l2 j g1 g2=>by
   obtain⟨x,ex,rx⟩:=l1.get (toArr g1);obtain⟨y,ey,ry⟩:=l2.get (toArr g2);rw[az,az,ex,ey];exact ih A.in1 (by omega) (bg.mp a1 _ (bh ex)) (bg.mp a2 _ (bh ey)) rx ry
  cases h1 with
  | tup ht r=>
   cases h2 with
   | tup ht' r'=>
    rename_i a its ps a' its' ps'
    by_cases hab:a=a'
    .subst hab;rw[Lies.same (.tup ht r) (.tup ht' r')];exact .same _
    .refine .of_refs hab ?_;have e:cI (.tup ps) (.tup ps')=((List.range (min its.toArray.size its'.toArray.size)).all (fun j=>cI (ps.getD j .bD) (ps'.getD j .bD)) && its.toArray.size==its'.toArray.size):=by
      rw[oQ,<-eN,r.length,r'.length,cn,cn]
     rw[e];exact SeqAt.RcAt.tuples (e:=fun j=>cI (ps.getD j .bD) (ps'.getD j .bD)) ht ht' hu0 (els o1 o2 r r')
   |lst hl r'=>exact .tuple_list ht hl hu0
   |bD=>exact .tuple_none ht hu0
   |bl b=>exact .tuple_bool b ht hu0
   |int b t=>exact .tuple_int b t ht hu0
   |str b t=>exact .tuple_str b t ht hu0
  | lst ht r=>
   cases h2 with
   |tup ht' r'=>exact .list_tuple ht ht' hu0
   | lst ht' r'=>
    rename_i a its ps a' its' ps'
    by_cases hab:a=a'
    .subst hab;rw[Lies.same (.lst ht r) (.lst ht' r')];exact .same _
    .refine .of_refs hab ?_
     by_cases hsz:its.length=its'.length
     .have e:cI (.lst ps) (.lst ps')=(List.range its.toArray.size).all (fun j=>cI (ps.getD j .bD) (ps'.getD j .bD)):=by
       rw[uL,<-eN,r.length,r'.length,cn,<-hsz,Nat.min_self,fy,Bool.and_true]
      rw[e];exact SeqAt.RcAt.lists (e:=fun j=>cI (ps.getD j .bD) (ps'.getD j .bD)) ht ht' (by simp[hsz]) hu0 (els o1 o2 r r')
     .have e:cI (.lst ps) (.lst ps')=false:=by
       rw[uL,<-eN,r.length,r'.length,show(its.length==its'.length)=false by simp[hsz],Bool.and_false]
      rw[e];exact SeqAt.RcAt.lists_lengths ht ht' (by simp[hsz]) hu0
   |bD=>exact .list_none ht hu0
   |bl b=>exact .list_bool b ht hu0
   |int b t=>exact .list_int b t ht hu0
   |str b t=>exact .list_str b t ht hu0
  |bD=>
   cases h2 with
   |tup ht' r'=>exact .none_tuple ht' hu0
   |lst hl r'=>exact .none_list hl hu0
   |bD=>exact .same _
   |bl b=>exact .none_bool b
   |int b t=>exact .none_int b t
   |str b t=>exact .none_str b t
  |bl a=>
   cases h2 with
   |tup ht' r'=>exact .bool_tuple a ht' hu0
   |lst hl r'=>exact .bool_list a hl hu0
   |bD=>exact .bool_none a
   |bl b=>exact .bool_bool a b
   |int b t=>exact .bool_int a b t
   |str b t=>exact .bool_str a b t
  |int a t'=>
   cases h2 with
   |tup ht' r'=>exact .int_tuple a t' ht' hu0
   |lst hl r'=>exact .int_list a t' hl hu0
   |bD=>exact .int_none a t'
   |bl b=>exact .int_bool a t' b
   |int b t=>exact .int_int a t' b t
   |str b t=>exact .int_str a t' b t
  |str a t'=>
   cases h2 with
   |tup ht' r'=>exact .str_tuple a t' ht' hu0
   |lst hl r'=>exact .str_list a t' hl hu0
   |bD=>exact .str_none a t'
   |bl b=>exact .str_bool a t' b
   |int b t=>exact .str_int a t' b t
   |str b t=>exact .str_str a t' b t
theorem ME {A:Around} (hu:A.units+(n+1)<cLine) (o1:gX (n+1) p=true) (o2:gX (n+1) q=true) (h1:Lies s.heap p v) (h2:Lies s.heap q u):SeqAt.RcAt A s v u (cI p q)/\SeqAt.RcNeAt A s v u (!cI p q):=by
 have hu0:A.units<cLine:=by omega
 have hin:A.in1.units=A.units+1:=rfl;have els:∀{ps qs:List PV} {vs us:List Value},ps.all (gX n)=true->qs.all (gX n)=true->bR s.heap ps vs->bR s.heap qs us->∀(j:Nat) (g1:j<vs.toArray.size) (g2:j<us.toArray.size),SeqAt.EqAt A.in1 s vs.toArray[j] us.toArray[j] (cI (ps.getD j .bD) (qs.getD j .bD)):=fun{ps qs vs us} a1 a2 l1 l2 j g1 g2=>by
  obtain⟨x,ex,rx⟩:=l1.get (toArr g1);obtain⟨y,ey,ry⟩:=l2.get (toArr g2);rw[az,az,ex,ey];exact yW n A.in1 (by omega) (bg.mp a1 _ (bh ex)) (bg.mp a2 _ (bh ey)) rx ry
 cases h1 with
 | tup ht r=>
  cases h2 with
  | tup ht' r'=>
   rename_i a its ps a' its' ps';have e:cI (.tup ps) (.tup ps')=((List.range (min its.toArray.size its'.toArray.size)).all (fun j=>cI (ps.getD j .bD) (ps'.getD j .bD)) && its.toArray.size==its'.toArray.size):=by
    rw[oQ,<-eN,r.length,r'.length,cn,cn]
   rw[e];exact⟨SeqAt.RcAt.tuples (e:=fun j=>cI (ps.getD j .bD) (ps'.getD j .bD)) ht ht' hu0 (els o1 o2 r r'),SeqAt.RcNeAt.tuples (e:=fun j=>cI (ps.getD j .bD) (ps'.getD j .bD)) ht ht' hu0 (els o1 o2 r r')⟩
  |lst hl r'=>exact⟨.tuple_list ht hl hu0,.tuple_list ht hl hu0⟩
  |bD=>exact⟨.tuple_none ht hu0,.tuple_none ht hu0⟩
  |bl b=>exact⟨.tuple_bool b ht hu0,.tuple_bool b ht hu0⟩
  |int b t=>exact⟨.tuple_int b t ht hu0,.tuple_int b t ht hu0⟩
  |str b t=>exact⟨.tuple_str b t ht hu0,.tuple_str b t ht hu0⟩
 | lst ht r=>
  cases h2 with
  |tup ht' r'=>exact⟨.list_tuple ht ht' hu0,.list_tuple ht ht' hu0⟩
  | lst ht' r'=>
   rename_i a its ps a' its' ps'
   by_cases hsz:its.length=its'.length
   .have e:cI (.lst ps) (.lst ps')=(List.range its.toArray.size).all (fun j=>cI (ps.getD j .bD) (ps'.getD j .bD)):=by
     rw[uL,<-eN,r.length,r'.length,cn,<-hsz,Nat.min_self,fy,Bool.and_true]
    rw[e];exact⟨SeqAt.RcAt.lists (e:=fun j=>cI (ps.getD j .bD) (ps'.getD j .bD)) ht ht' (by simp[hsz]) hu0 (els o1 o2 r r'),SeqAt.RcNeAt.lists (e:=fun j=>cI (ps.getD j .bD) (ps'.getD j .bD)) ht ht' (by simp[hsz]) hu0 (els o1 o2 r r')⟩
   .have e:cI (.lst ps) (.lst ps')=false:=by
     rw[uL,<-eN,r.length,r'.length,show(its.length==its'.length)=false by simp[hsz],Bool.and_false]
    rw[e];exact⟨SeqAt.RcAt.lists_lengths ht ht' (by simp[hsz]) hu0,SeqAt.RcNeAt.lists_lengths ht ht' (by simp[hsz]) hu0⟩
  |bD=>exact⟨.list_none ht hu0,.list_none ht hu0⟩
  |bl b=>exact⟨.list_bool b ht hu0,.list_bool b ht hu0⟩
  |int b t=>exact⟨.list_int b t ht hu0,.list_int b t ht hu0⟩
  |str b t=>exact⟨.list_str b t ht hu0,.list_str b t ht hu0⟩
 |bD=>
  cases h2 with
  |tup ht' r'=>exact⟨.none_tuple ht' hu0,.none_tuple ht' hu0⟩
  |lst hl r'=>exact⟨.none_list hl hu0,.none_list hl hu0⟩
  |bD=>exact⟨.none_none,.none_none⟩
  |bl b=>exact⟨.none_bool b,.none_bool b⟩
  |int b t=>exact⟨.none_int b t,.none_int b t⟩
  |str b t=>exact⟨.none_str b t,.none_str b t⟩
 |bl a=>
  cases h2 with
  |tup ht' r'=>exact⟨.bool_tuple a ht' hu0,.bool_tuple a ht' hu0⟩
  |lst hl r'=>exact⟨.bool_list a hl hu0,.bool_list a hl hu0⟩
  |bD=>exact⟨.bool_none a,.bool_none a⟩
  |bl b=>exact⟨.bool_bool a b,.bool_bool a b⟩
  |int b t=>exact⟨.bool_int a b t,.bool_int a b t⟩
  |str b t=>exact⟨.bool_str a b t,.bool_str a b t⟩
 |int a t'=>
  cases h2 with
  |tup ht' r'=>exact⟨.int_tuple a t' ht' hu0,.int_tuple a t' ht' hu0⟩
  |lst hl r'=>exact⟨.int_list a t' hl hu0,.int_list a t' hl hu0⟩
  |bD=>exact⟨.int_none a t',.int_none a t'⟩
  |bl b=>exact⟨.int_bool a t' b,.int_bool a t' b⟩
  |int b t=>exact⟨.int_int a t' b t,.int_int a t' b t⟩
  |str b t=>exact⟨.int_str a t' b t,.int_str a t' b t⟩
 |str a t'=>
  cases h2 with
  |tup ht' r'=>exact⟨.str_tuple a t' ht' hu0,.str_tuple a t' ht' hu0⟩
  |lst hl r'=>exact⟨.str_list a t' hl hu0,.str_list a t' hl hu0⟩
  |bD=>exact⟨.str_none a t',.str_none a t'⟩
  |bl b=>exact⟨.str_bool a t' b,.str_bool a t' b⟩
  |int b t=>exact⟨.str_int a t' b t,.str_int a t' b t⟩
  |str b t=>exact⟨.str_str a t' b t,.str_str a t' b t⟩
end
def PN (K:Frag) (neg:Bool):R2:=fun x y H Q=>∃p q,Red K cT H p x/\Red K cT H q y/\gX 9 p=true/\gX 9 q=true/\Q (.bl (if neg then !cI p q else cI p q)) H
noncomputable def DS:PV->Option (List PV)
 | .lst ps=>some ps
 | .tup ps=>some ps
 |_=>none
def QX (K:Frag) (neg:Bool):R2:=fun x y H Q=>∃p q ps,Red K cT H p x/\Red K cT H q y/\DS q=some ps/\gX 8 p=true/\ps.all (gX 8)=true/\Q (.bl (if neg then !ps.any (fun z=>cI z p)else ps.any fun z=>cI z p)) H
section
variable {X:Cx} {k:Nat}
theorem K3 (K:Frag) (hr:dG k X.A) (hK:X.K=K:=by rfl):jD X (compareOp .Eq) (PN K false):=by
 subst hK;intro pins s σ H x y v u Q I rx ry h;obtain⟨p,q,h1,h2,o1,o2,hQ⟩:=h;exact(ME (n:=8) (by have:=hr.un;omega) o1 o2 (h1.lies I o1 rx) (h2.lies I o2 ry)).1 _ _ _ _ (iD I hQ rfl)
theorem OL (K:Frag) (hr:dG k X.A) (hK:X.K=K:=by rfl):jD X (compareOp .NotEq) (PN K true):=by
 subst hK;intro pins s σ H x y v u Q I rx ry h;obtain⟨p,q,h1,h2,o1,o2,hQ⟩:=h;exact(ME (n:=8) (by have:=hr.un;omega) o1 o2 (h1.lies I o1 rx) (h2.lies I o2 ry)).2 _ _ _ _ (iD I hQ rfl)
theorem bR.any {e:Value->Bool} {f:PV->Bool} (he:∀{q:PV} {y:Value},Lies h q y->e y=f q):∀{ps:List PV} {its:List Value},bR h ps its->its.any e=ps.any f
 |_,_,.nil=>rfl
 |_,_,.cons h r=>by rw[any_cons,any_cons,he h,bR.any he r]
theorem yQ {s:Shared} {A:Around} (hu:A.units+8<cLine) (op:gX 8 p=true) (hp:Lies s.heap p u) {its:List Value} (ops:ps.all (gX 8)=true) (hl:bR s.heap ps its):
  ∃e:Value->Bool,(∀y,y∈its.toArray->SeqAt.EqAt A s y u (e y))/\its.toArray.any e=ps.any fun z=>cI z p:=by
 classical
 let e:Value->Bool:=fun y=>if c:∃q,Lies s.heap q y then cI c.choose p else false
 have he:∀{q:PV} {y:Value},Lies s.heap q y->e y=cI q p:=fun{q y} h=>by
  have c:∃q,Lies s.heap q y:=⟨q,h⟩;show(if c:∃q,Lies s.heap q y then cI c.choose p else false)=_;rw[dif_pos c,Lies.fn c.choose_spec h]
 refine⟨e,fun y hy=>?_,?_⟩
 .obtain⟨j,hj⟩:=iq (show y∈its by simpa using hy);obtain⟨q,h1,h2⟩:=hl.get hj;rw[he h2];exact yW 8 A hu (bg.mp ops _ (bh h1)) op h2 hp
 .rw[List.any_toArray];exact bR.any (fun h=>he h) hl
theorem acP (K:Frag) (hr:dG k X.A) (hK:X.K=K:=by rfl):jD X (compareOp .In) (QX K false):=by
 subst hK;intro pins s σ H x y v u Q I rx ry h;obtain⟨p,q,ps,h1,h2,hi,o1,o2,hQ⟩:=h;have hu:X.A.in1.units+8<cLine:=by have:=hr.un;show X.A.units+1+8<_;omega
 have lp:=h1.lies I o1 rx;cases q with
 | lst qs=>
  cases hi;cases h2.lies I (n:=9) (p:=.lst _) o2 ry with
  |lst hl r=>
   obtain⟨e,e1,e2⟩:=yQ hu o1 lp o2 r;exact SeqAt.in_listAt e hl e1 (by rw[e2];exact iD I hQ rfl)
 | tup qs=>
  cases hi;cases h2.lies I (n:=9) (p:=.tup _) o2 ry with
  |tup hl r=>
   obtain⟨e,e1,e2⟩:=yQ hu o1 lp o2 r;exact SeqAt.in_tupleAt e hl e1 (by rw[e2];exact iD I hQ rfl)
 |_=>cases hi
theorem QY (K:Frag) (hr:dG k X.A) (hK:X.K=K:=by rfl):jD X (compareOp .NotIn) (QX K true):=by
 subst hK;intro pins s σ H x y v u Q I rx ry h;obtain⟨p,q,ps,h1,h2,hi,o1,o2,hQ⟩:=h;have hu:X.A.in1.units+8<cLine:=by have:=hr.un;show X.A.units+1+8<_;omega
 have lp:=h1.lies I o1 rx;cases q with
 | lst qs=>
  cases hi;cases h2.lies I (n:=9) (p:=.lst _) o2 ry with
  |lst hl r=>
   obtain⟨e,e1,e2⟩:=yQ hu o1 lp o2 r;exact SeqAt.notIn_listAt e hl e1 (by rw[e2];exact iD I hQ rfl)
 | tup qs=>
  cases hi;cases h2.lies I (n:=9) (p:=.tup _) o2 ry with
  |tup hl r=>
   obtain⟨e,e1,e2⟩:=yQ hu o1 lp o2 r;exact SeqAt.notIn_tupleAt e hl e1 (by rw[e2];exact iD I hQ rfl)
 |_=>cases hi
end
section
variable {K:Frag}
theorem dB.or {g g':PV->PV->Option Bv} (h:dB K r g) (h':dB K r' g'):dB K (fun x y H Q=>r x y H Q\/ r' x y H Q) (fun p q=>(g p q).or (g' p q)):=by
 intro Z H x y p q b Q hp hq hg k;have hg:(g p q).or (g' p q)=some b:=hg;cases c:g p q with
 |some b'=>rw[c]at hg;cases hg;exact .inl (h Z H x y p q _ Q hp hq c k)
 |none=>rw[c]at hg;exact .inr (h' Z H x y p q b Q hp hq hg k)
theorem jG.or {r r':List V->Hp->VK->Prop} {g g':List PV->Option Bv} (h:jG K r g) (h':jG K r' g'):jG K (fun x H Q=>r x H Q\/ r' x H Q) (fun p=>(g p).or (g' p)):=by
 intro Z H x p b Q hp hg k;have hg:(g p).or (g' p)=some b:=hg;cases c:g p with
 |some b'=>rw[c]at hg;cases hg;exact .inl (h Z H x p _ Q hp c k)
 |none=>rw[c]at hg;exact .inr (h' Z H x p b Q hp hg k)
noncomputable def gI (C:Int->Int->Bool) (g:Int->Int->PV):PV->PV->Option Bv
 | .int i,.int j=>bC (C i j) (some (.val (g i j)))
 |_,_=>none
theorem NB {C:Int->Int->Prop} {D:Int->Int->Bool} (hD:∀i j,D i j=true->C i j) (hg:∀i j Z H,Rep K Z H (g' i j) (g i j)):dB K (rI C g) (gI D g'):=by
 intro Z H x y p q b Q hp hq h k;cases p with
 | int i=>
  cases q with
  |int j=>
   obtain⟨c,h⟩:=aM h;cases h;exact⟨i,j,hp.int,hq.int,hD i j c,k _ H (aX.refl _) (hg i j Z H)⟩
  |_=>cases h
 |_=>cases h
noncomputable def S0 (g:Int->Int->PV):PV->PV->Option Bv
 | .int i,.int j=>some (.val (g i j))
 |_,_=>none
theorem yB (hg:∀i j Z H,Rep K Z H (g' i j) (g i j)):dB K (GX g) (S0 g'):=by
 intro Z H x y p q b Q hp hq h k;cases p with
 |int i=>
  cases q with
  |int j=>cases h;exact⟨i,j,hp.int,hq.int,k _ H (aX.refl _) (hg i j Z H)⟩
  |_=>cases h
 |_=>cases h
noncomputable def y7:PV->PV->Option Bv:=S0 fun i j=>.int (i - j)
theorem K2:dB K (GX fun i j=>.int (i - j)) y7:=yB fun _ _ _ _=>.int _
noncomputable def x8 (i j:Int):Bool:=decide ((-18446744073709551616<i/\i<18446744073709551616)\/ (-18446744073709551616<j/\j<18446744073709551616))
noncomputable def qV:PV->PV->Option Bv:=gI x8 fun i j=>.int (i*j)
theorem LY:dB K (rI O6 fun i j=>.int (i*j)) qV:=NB (fun i j h=>by have:=av h;show(-(2^64)<i/\i<2^64)\/ (-(2^64)<j/\j<2^64);omega) fun _ _ _ _=>.int _
noncomputable def ON:PV->PV->Option Bv:=gI (fun _ j=>decide (0<j/\j<1000000000000000000000000)) fun i j=>.int (i / j)
theorem MT:dB K (rI T1 fun i j=>.int (i / j)) ON:=NB (fun i j h=>by have:=av h;show 0<j/\j<2^200;omega) fun _ _ _ _=>.int _
noncomputable def m7:PV->PV->Option Bv:=gI (fun _ j=>decide (0<j)) fun i j=>.int (i % j)
theorem N6:dB K (rI (fun _ j=>0<j) fun i j=>.int (i % j)) m7:=NB (fun _ _ h=>av h) fun _ _ _ _=>.int _
noncomputable def tT:PV->PV->Option Bv:=gI (fun i j=>decide (0<=j/\(Builtin.Int.intBits i:Int)*j<=2^27)) fun i j=>.int (i^j.toNat)
theorem NA:dB K (rI (fun i j=>0<=j/\(Builtin.Int.intBits i:Int)*j<=2^27) fun i j=>.int (i^j.toNat)) tT:=NB (fun _ _ h=>av h) fun _ _ _ _=>.int _
noncomputable def R7:PV->Option Bv
 | .int i=>some (.val (.int (-i)))
 |_=>none
theorem M5:YO K (rU fun i=>.int (-i)) R7:=by
 intro Z H x p b Q hp h k;cases p with
 |int i=>cases h;exact⟨i,hp.int,k _ H (aX.refl _) (Rep.int (-i))⟩
 |_=>cases h
noncomputable def M9:PV->PV->Option Bv
 | .str i,.str j=>bC (decide (i.length+j.length<1000000)) (some (.val (.str (i++j))))
 |_,_=>none
theorem RI:dB K (fun x y H Q=>∃i j,x= .str i/\y= .str j/\i.length+j.length<=sizeLine/\Q (.str (i++j)) H) M9:=by
 intro Z H x y p q b Q hp hq h k;cases p with
 | str i=>
  cases q with
  |str j=>
   obtain⟨c,h⟩:=aM h;cases h;exact⟨i,j,hp.str,hq.str,gq (iL c),k _ H (aX.refl _) (Rep.str (i++j))⟩
  |_=>cases h
 |_=>cases h
def N9 (K:Frag):R2:=fun x y H Q=>∃a b xs ys,x= .ref a/\y= .ref b/\k7 K H a xs/\k7 K H b ys/\xs.length+ys.length<=sizeLine/\∀p,H p=none->Q (.ref p) (upd H p (.lst (xs++ys)))
theorem abM (K:Frag) (hK:X.K=K:=by rfl):jD X (binaryOp .Add) (N9 K):=by
 subst hK;intro pins s σ H x y v u Q I rx ry h;obtain⟨a,b,xs,ys,rfl,rfl,ha,hb,hz,q⟩:=h;cases rx;cases ry;obtain⟨its,r1,p1,_⟩:=I.list ha;obtain⟨its2,r2,p2,_⟩:=I.list hb;obtain⟨⟨cls,dd,data,sl⟩,ho,hc,n,hd⟩:=id p1.isList;obtain⟨⟨cls2,dd2,data2,sl2⟩,ho2,hc2,n2,hd2⟩:=id p2.isList;simp only at hc hd hc2 hd2;subst hc hd hc2 hd2;have l1:=r1.length;have l2:=r2.length;have e:its.toArray++its2.toArray=(its++its2).toArray:=by simp
 refine concat_meets ⟨_,ho,rfl⟩ ⟨_,ho2,rfl⟩ noFill_list_add seq_list_add PySem.F.slot_list_add PySem.F.entry_list_add (PySem.F.args_list_add_2 _ _) (list_addW a b its.toArray its2.toArray n n2 dd dd2 sl sl2 (by simp only[cn];omega)) ⟨ho,ho2,?_⟩;rw[e];exact⟨.ref s.heap.objs.size,_,I.laid (t':=s.toks) (o:=.lst (xs++ys)) (fun b ob q=>ao _ q) (bf _) ⟨by rw[bq];exact hz,its++its2,0,r1.append r2,cc _ rfl⟩,rfl,q _ (I.bQ.fresh (bf _))⟩
noncomputable def LI:PV->PV->Option Bv
 | .lst i,.lst j=>bC (decide (i.length+j.length<1000000)) (some (.new (.lst (i++j))))
 |_,_=>none
theorem ET (hl:H a=none) (r:bH K Z H ps xs):RN K Z H (upd H a (.lst xs)) (.ref a) (.new (.lst ps)):=
 ⟨a,rfl,hl,.lst aV (r.aK (.new (aX.upd hl) hl))⟩
theorem QQ:dB K (N9 K) LI:=by
 intro Z H x y p q b Q hp hq h k;cases p with
 | lst i=>
  cases q with
  |lst j=>
   obtain⟨c,h⟩:=aM h;cases h;obtain⟨a,xs,rfl,ha,ra⟩:=hp.wG;obtain⟨a',ys,rfl,ha',ra'⟩:=hq.wG;exact⟨a,a',xs,ys,rfl,rfl,ha.sq,ha'.sq,by rw[<-ra.length,<-ra'.length];exact gq (iL c),fun l hl=>k _ _ (aX.upd hl) (ET hl (ra.app ra'))⟩
  |_=>cases h
 |_=>cases h
def KQ (K:Frag):R2:=fun x y H Q=>∃a b xs ys,x= .ref a/\y= .ref b/\TupAt K H a xs/\TupAt K H b ys/\xs.length+ys.length<=sizeLine/\∀p H',aX H H'->TupAt K H' p (xs++ys)->Q (.ref p) H'
theorem ab7 (K:Frag) (hK:X.K=K:=by rfl):jD X (binaryOp .Add) (KQ K):=by
 subst hK;intro pins s σ H x y v u Q I rx ry h;obtain⟨a,b,xs,ys,rfl,rfl,ha,hb,hz,q⟩:=h;cases rx;cases ry;obtain⟨its,r1,p1,_⟩:=I.tuple ha.sq;obtain⟨its2,r2,p2,_⟩:=I.tuple hb.sq;refine HT.QT p1 p2 (fun z=>⟨.ref b,H,I,rfl,q b H (aX.refl _) (by rw[r1.FD.mp z];exact hb)⟩) (fun z=>⟨.ref a,H,I,rfl,q a H (aX.refl _) (by rw[r2.FD.mp z,dq];exact ha)⟩) (fun _ _=>?_) (by rw[<-r1.length,<-r2.length];exact hz);refine⟨.ref s.heap.objs.size,_,I.laid (t':=s.toks) (o:=.tup (xs++ys)) (fun b ob q=>ao _ q) (bf _) ?_,rfl,q _ _ (aX.upd (I.bQ.fresh (bf _))) (.inl aV)⟩;exact⟨by rw[bq];exact hz,_,r1.append r2,qO.new _ _⟩
noncomputable def KD:PV->PV->Option Bv
 | .tup i,.tup j=>bC (decide (i.length+j.length<1000000)) (some (.val (.tup (i++j))))
 |_,_=>none
theorem RL:dB K (KQ K) KD:=by
 intro Z H x y p q b Q hp hq h k;cases p with
 | tup i=>
  cases q with
  |tup j=>
   obtain⟨c,h⟩:=aM h;cases h;obtain⟨a,xs,rfl,ha,ra⟩:=hp.tup;obtain⟨a',ys,rfl,ha',ra'⟩:=hq.tup;exact⟨a,a',xs,ys,rfl,rfl,ha,ha',by rw[<-ra.length,<-ra'.length];exact gq (iL c),fun l H' s t=>k _ _ s (Rep.tup t ((ra.app ra').aK (.same s)))⟩
  |_=>cases h
 |_=>cases h
theorem jD.or {f:Value->Value->Sem Value} (h:jD X f r) (h':jD X f r'):jD X f (fun x y H Q=>r x y H Q\/ r' x y H Q):=by
 intro pins s σ H x y v u Q I rx ry q;rcases q with q|q
 .exact h pins s σ H x y v u Q I rx ry q
 .exact h' pins s σ H x y v u Q I rx ry q
def SY (K:Frag):R2:=fun x y H Q=>GX (fun i j=>.int (i+j)) x y H Q\/ ((∃i j,x= .str i/\y= .str j/\i.length+j.length<=sizeLine/\Q (.str (i++j)) H)\/ (N9 K x y H Q\/ KQ K x y H Q))
theorem nM (K:Frag) (hK:X.K=K:=by rfl):jD X (binaryOp .Add) (SY K):=jD.or X3 (jD.or EV (jD.or (abM K hK) (ab7 K hK)))
noncomputable def iW:PV->PV->Option Bv:=fun p q=>(S0 (fun i j=>.int (i+j)) p q).or ((M9 p q).or ((LI p q).or (KD p q)))
theorem NJ:dB K (SY K) iW:=dB.or (yB fun _ _ _ _=>.int _) (dB.or RI (dB.or QQ RL))
noncomputable def RS:PV->PV->Option Bv:=fun p q=>bC (gX 9 p && gX 9 q) (some (.val (.bl (cI p q))))
theorem Red.any {v:V} (h:Red K Z H p v):Red K cT H p v:=by
 have k:cS Z cT H H:=.less fun a z=>z.elim
 cases h with
 |rep h=>exact .rep (h.aK k)
 |lst h r=>exact .lst h (r.aK k)
 |bA h e r=>exact .bA h e (r.aK k)
theorem TK:dB K (PN K false) RS:=by
 intro Z H x y p q b Q hp hq h k;obtain⟨c,h⟩:=aM h;rw[bz]at c;cases h;exact⟨p,q,hp.any,hq.any,c.1,c.2,k _ H (aX.refl _) (Rep.bl _)⟩
noncomputable def W5:PV->PV->Option Bv:=fun p q=>bC (gX 9 p && gX 9 q) (some (.val (.bl (!cI p q))))
theorem TZ:dB K (PN K true) W5:=by
 intro Z H x y p q b Q hp hq h k;obtain⟨c,h⟩:=aM h;rw[bz]at c;cases h;exact⟨p,q,hp.any,hq.any,c.1,c.2,k _ H (aX.refl _) (Rep.bl _)⟩
noncomputable def WQ (neg:Bool):PV->PV->Option Bv:=fun p q=>bO (DS q) fun ps=>bC (gX 8 p && ps.all (gX 8)) (some (.val (.bl (if neg then !ps.any (fun z=>cI z p)else ps.any fun z=>cI z p))))
theorem WX (neg:Bool):dB K (QX K neg) (WQ neg):=by
 intro Z H x y p q b Q hp hq h k;obtain⟨ps,g,h⟩:=aF h;obtain⟨c,h⟩:=aM h;rw[bz]at c;cases h;exact⟨p,q,ps,hp.any,hq.any,g,c.1,c.2,k _ H (aX.refl _) (Rep.bl _)⟩
noncomputable def U4 (neg:Bool):PV->PV->Option Bv
 | .str i,.str j=>some (.val (.bl (if neg then !(!(Builtin.Str.occurrences j i 0 j.length 1).isEmpty)else !(Builtin.Str.occurrences j i 0 j.length 1).isEmpty)))
 |_,_=>none
def ZC (neg:Bool):R2:=fun x y H Q=>∃i j,x= .str i/\y= .str j/\Q (.bl (if neg then !(!(Builtin.Str.occurrences j i 0 j.length 1).isEmpty)else !(Builtin.Str.occurrences j i 0 j.length 1).isEmpty)) H
theorem U3 (neg:Bool):dB K (ZC neg) (U4 neg):=by
 intro Z H x y p q b Q hp hq h k;cases p with
 |str i=>
  cases q with
  |str j=>cases h;exact⟨i,j,hp.str,hq.str,k _ H (aX.refl _) (Rep.bl _)⟩
  |_=>cases h
 |_=>cases h
noncomputable def WZ (neg:Bool):PV->PV->Option Bv
 |p,.bA kvs=>bO (keyOf p) fun k=>some (.val (.bl (if neg then !(cE kvs k).isSome else(cE kvs k).isSome)))
 |_,_=>none
def PC (neg:Bool):R2:=fun x y H Q=>∃a kvs k,y= .ref a/\x3 H a kvs/\x=kV k/\Q (.bl (if neg then !(dS kvs k).isSome else(dS kvs k).isSome)) H
theorem inD (hr:dG k X.A):jD X (compareOp .In) (PC false):=by
 intro pins s σ H x y v u Q I rx ry h;obtain⟨a,kvs,key,rfl,ha,rfl,q⟩:=h;cases ry;exact acI (by have:=hr.un;omega) I (.inl ⟨kvs,key,ha,rfl,rfl⟩) rx fun s' I'=>⟨.bl _,H,I',rfl,q⟩
theorem W8 (hr:dG k X.A):jD X (compareOp .NotIn) (PC true):=by
 intro pins s σ H x y v u Q I rx ry h;obtain⟨a,kvs,key,rfl,ha,rfl,q⟩:=h;cases ry;exact PY (by have:=hr.un;omega) I (.inl ⟨kvs,key,ha,rfl,rfl⟩) rx fun s' I'=>⟨.bl _,H,I',rfl,q⟩
theorem VR (neg:Bool):dB K (PC neg) (WZ neg):=by
 intro Z H x y p q b Q hp hq h k;cases q with
 | bA kvs=>
  obtain⟨key,g,h⟩:=aF h;cases h;obtain⟨a,ys,rfl,ha,e,r⟩:=hq.tS;refine⟨a,ys,key,rfl,ha,hp.key g,?_⟩;have es:(dS ys key).isSome=(cE kvs key).isSome:=by
   rcases dF.val key ⟨e,r⟩with⟨h1,h2⟩|⟨p',v',h1,h2,_⟩
   .rw[h1,h2];rfl
   .rw[h1,h2];rfl
  rw[es];exact k _ H (aX.refl _) (Rep.bl _)
 |_=>cases h
def VM (K:Frag) (neg:Bool):R2:=fun x y H Q=>ZC neg x y H Q\/ (QX K neg x y H Q\/ PC neg x y H Q)
theorem ZD (K:Frag) (hr:dG k X.A) (hK:X.K=K:=by rfl):jD X (compareOp .In) (VM K false):=jD.or IU (jD.or (acP K hr hK) (inD hr))
theorem iI (K:Frag) (hr:dG k X.A) (hK:X.K=K:=by rfl):jD X (compareOp .NotIn) (VM K true):=jD.or z9 (jD.or (QY K hr hK) (W8 hr))
noncomputable def AK (neg:Bool):PV->PV->Option Bv:=fun p q=>(U4 neg p q).or ((WQ neg p q).or (WZ neg p q))
theorem SX (neg:Bool):dB K (VM K neg) (AK neg):=dB.or (U3 neg) (dB.or (WX neg) (VR neg))
noncomputable def OP (f:Str->Str->Bool):PV->PV->Option Bv
 | .str i,.str j=>some (.val (.bl (f i j)))
 |_,_=>none
theorem Q0 {f:Str->Str->Bool}:dB K (fun x y H Q=>∃i j,x= .str i/\y= .str j/\Q (.bl (f i j)) H) (OP f):=by
 intro Z H x y p q b Q hp hq h k;cases p with
 |str i=>
  cases q with
  |str j=>cases h;exact⟨i,j,hp.str,hq.str,k _ H (aX.refl _) (Rep.bl _)⟩
  |_=>cases h
 |_=>cases h
def YS:R2:=fun x y H Q=>GX (fun i j=>.bl (decide (i<j))) x y H Q\/ ∃i j,x= .str i/\y= .str j/\Q (.bl (decide (i.cps.toList<j.cps.toList))) H
theorem ltX:jD X (compareOp .Lt) YS:=jD.or ZN IV
noncomputable def gLt:PV->PV->Option Bv:=fun p q=>(S0 (fun i j=>.bl (decide (i<j))) p q).or (OP (fun i j=>decide (i.cps.toList<j.cps.toList)) p q)
theorem TH:dB K YS gLt:=dB.or (yB fun _ _ _ _=>.bl _) Q0
noncomputable def gGt:PV->PV->Option Bv:=S0 fun i j=>.bl (decide (j<i))
theorem T2:dB K (GX fun i j=>.bl (decide (j<i))) gGt:=yB fun _ _ _ _=>.bl _
noncomputable def gGe:PV->PV->Option Bv:=S0 fun i j=>.bl (decide (j<=i))
theorem S4:dB K (GX fun i j=>.bl (decide (j<=i))) gGe:=yB fun _ _ _ _=>.bl _
noncomputable def isNone:PV->Bool
 | .bD=>true
 |_=>false
theorem Red.isNone {v:V} (h:Red K Z H p v):decide (v= .bD)=Mr.isNone p:=by
 cases h with
 |rep h=>cases h<;>rfl
 |lst h r=>rfl
 |bA h e r=>rfl
noncomputable def OX (neg:Bool):PV->PV->Option Bv
 |p,.bD=>some (.val (.bl (if neg then !isNone p else isNone p)))
 |_,_=>none
theorem TB:dB K (fun x y H Q=>y= .bD/\Q (.bl (decide (x= .bD))) H) (OX false):=by
 intro Z H x y p q b Q hp hq h k;cases q with
 |bD=>cases h;exact⟨hq.bD,by rw[hp.isNone];exact k _ H (aX.refl _) (Rep.bl _)⟩
 |_=>cases h
theorem CN:dB K (fun x y H Q=>y= .bD/\Q (.bl (!decide (x= .bD))) H) (OX true):=by
 intro Z H x y p q b Q hp hq h k;cases q with
 |bD=>cases h;exact⟨hq.bD,by rw[hp.isNone];exact k _ H (aX.refl _) (Rep.bl _)⟩
 |_=>cases h
noncomputable def eA:PV->PV->Option Bv
 | .lst ps,.int i=>bO (p9 ps i) fun p=>some (.val p)
 | .tup ps,.int i=>bO (p9 ps i) fun p=>some (.val p)
 | .str z,.int i=>bC (decide (z.length<1000000)) (bO (p9 z.cps.toList i) fun c=>some (.val (.str ⟨#[c]⟩)))
 | .bA kvs,p=>bO (keyOf p) fun k=>bO (cE kvs k) fun q=>some (.val q)
 |_,_=>none
theorem bH.p9 {ps:List PV} {i:Int} (r:bH K Z H ps xs) (h:L2.p9 ps i=some p):∃v,L2.p9 xs i=some v/\Rep K Z H p v:=by
 unfold L2.p9 at h⊢
 rw[<-r.length];cases c:wJ ps.length i with
 |none=>rw[c]at h;cases h
 |some j=>rw[c]at h;exact r.get h
def ZW:R2:=fun x y H Q=>∃a kvs k v,x= .ref a/\x3 H a kvs/\y=kV k/\dS kvs k=some v/\Q v H
theorem ixD (hr:dG k X.A):ES X ZW:=by
 intro value slice pins s σ H x y v u Q I rx ry h hs;obtain⟨a,kvs,key,w,rfl,ha,rfl,hv,q⟩:=h;cases rx;have g:yY H a (kV key) (some w):=.inl ⟨kvs,key,ha,rfl,hv.symm⟩;have hT:=CO I g;unfold subscriptTail;refine ae ?_;rw[getitemInPython_of_ne hT.not_modules];refine ae (wpAny_specialOf hT PySem.F.slot_dict_getitem.lookup ?_);have fin:wpAny (model X.prog X.w) X.A (subscripted slice false (.ref a) u) (fun r s₃=>wpAny (model X.prog X.w) X.A (letTemporaryGo value (.ref a) r>>=fun _=>pure r) (EP X pins σ Q) X.xe s₃) X.xe s:=by
  rw[hs];exact wpAny_operating (di (JP (by have:=hr.un;omega) I g ry fun w' s3 I3 rw'=>(⟨w,H,I3,rw',q⟩:EP X pins σ Q w' s3)) (fun r s₃ h₃=>ae (wpAny_letTemporaryGo (ax h₃))) fun _ _ x=>x)
 first
  |exact ax (ae fin)
  |exact ae (ax (ae fin))
  |exact ae fin
def YU (K:Frag):R2:=fun x y H Q=>T8 K x y H Q\/ (XO K x y H Q\/ (YT x y H Q\/ ZW x y H Q))
theorem fM (K:Frag) (hr:dG k X.A) (hK:X.K=K:=by rfl):ES X (YU K):=ES.or (ixL K hK) (ES.or (ixT K hK) (ES.or XR (ixD hr)))
theorem TN:dB K (YU K) eA:=by
 intro Z H x y p q b Q hp hq h k;cases p with
 | lst ps=>
  cases q with
  |int i=>
   obtain⟨p,g,h⟩:=aF h;cases h;obtain⟨a,xs,rfl,ha,ra⟩:=hp.wG;obtain⟨v,hv,rv⟩:=ra.p9 g;exact .inl ⟨a,xs,i,v,rfl,hq.int,ha.sq,hv,k _ H (aX.refl _) rv⟩
  |_=>cases h
 | tup ps=>
  cases q with
  |int i=>
   obtain⟨p,g,h⟩:=aF h;cases h;obtain⟨a,xs,rfl,ha,ra⟩:=hp.tup;obtain⟨v,hv,rv⟩:=ra.p9 g;exact .inr (.inl ⟨a,xs,i,v,rfl,hq.int,ha.sq,hv,k _ H (aX.refl _) rv⟩)
  |_=>cases h
 | str z=>
  cases q with
  |int i=>
   obtain⟨c,h⟩:=aM h;obtain⟨p,g,h⟩:=aF h;cases h;exact .inr (.inr (.inl ⟨z,i,p,hp.str,hq.int,gq (iL c),g,k _ H (aX.refl _) (Rep.str _)⟩))
  |_=>cases h
 | bA kvs=>
  have h:(bO (keyOf q) fun k=>bO (cE kvs k) fun q=>some (Bv.val q))=some b:=by cases q<;>exact h
  obtain⟨key,g,h⟩:=aF h;obtain⟨p,g2,h⟩:=aF h;cases h;obtain⟨a,ys,rfl,ha,e,r⟩:=hp.tS;rcases dF.val key ⟨e,r⟩with⟨h1,h2⟩|⟨p',v',h1,h2,h3⟩
  .rw[h1]at g2;cases g2
  .rw[h1]at g2;cases g2;exact .inr (.inr (.inr ⟨a,ys,key,v',rfl,ha,hq.key g,h2,k _ H (aX.refl _) h3⟩))
 |_=>cases q<;>cases h
noncomputable def wN (xs:List PV) (lo hi:Option Int):List PV:=(xs.drop (HT.dX xs.length 0 lo)).take (HT.dX xs.length xs.length hi - HT.dX xs.length 0 lo)
theorem bH.cut (r:bH K Z H ps xs) (lo hi:Option Int):bH K Z H (wN ps lo hi) (wI xs lo hi):=by
 unfold wN wI;rw[<-r.length];exact(r.drop _).take _
def aaU (K:Frag):V->Option Int->Option Int->Hp->VK->Prop:=fun x lo hi H Q=>∃a xs,x= .ref a/\TupAt K H a xs/\∀p H',aX H H'->TupAt K H' p (wI xs lo hi)->Q (.ref p) H'
theorem abV (K:Frag) (hK:X.K=K:=by rfl):JY X (aaU K):=by
 subst hK;intro pins s σ H x v vl vu lo hi sl Q I rx hs pl pu h;obtain⟨a,xs,rfl,hx,q⟩:=h
 by_cases hw:HT.dX xs.length 0 lo=0/\HT.dX xs.length xs.length hi=xs.length
 .cases rx;obtain⟨its,r,ht,hz⟩:=I.tuple hx.sq;have hlen:its.toArray.size=xs.length:=by rw[cn];exact r.length.symm
  refine⟨"tuple",_,PyProof.Rows.slot_tuple_getitem.lookup,ht.typeIs,?_⟩;refine HT.rH ht hs pl pu (by rw[hlen];exact hw) ⟨.ref a,H,I,rfl,q a H (aX.refl _) ?_⟩;have e:wI xs lo hi=xs:=by unfold wI;rw[hw.1,hw.2,gd,sub_zero,dk]
  rw[e];exact hx
 .exact UI pins s σ H (.ref a) v vl vu lo hi sl Q I rx hs pl pu ⟨a,xs,rfl,hx.sq,hw,fun p hp=>q p _ (aX.upd hp) (.inl aV)⟩
def L4 (K:Frag):V->Option Int->Option Int->Hp->VK->Prop:=fun x lo hi H Q=>V1 K x lo hi H Q\/ (aaU K x lo hi H Q\/ (∃z,x= .str z/\z.length<=sizeLine/\Q (.str (Txt.slice z lo hi)) H))
theorem ZQ (K:Frag) (hK:X.K=K:=by rfl):JY X (L4 K):=JY.or (slL K hK) (JY.or (abV K hK) VD)
noncomputable def SO:PV->Option Int->Option Int->Option Bv
 | .lst ps,lo,hi=>some (.new (.lst (wN ps lo hi)))
 | .tup ps,lo,hi=>some (.val (.tup (wN ps lo hi)))
 | .str z,lo,hi=>bC (decide (z.length<1000000)) (some (.val (.str (Txt.slice z lo hi))))
 |_,_,_=>none
theorem TX:ZI K (L4 K) SO:=by
 intro Z H x p lo hi b Q hp h k;cases p with
 |lst ps=>
  cases h;obtain⟨a,xs,rfl,ha,ra⟩:=hp.wG;exact .inl ⟨a,xs,rfl,ha.sq,fun l hl=>k _ _ (aX.upd hl) (ET hl (ra.cut lo hi))⟩
 |tup ps=>
  cases h;obtain⟨a,xs,rfl,ha,ra⟩:=hp.tup;exact .inr (.inl ⟨a,xs,rfl,ha,fun l H' s t=>k _ _ s (Rep.tup t ((ra.cut lo hi).aK (.same s)))⟩)
 |str z=>
  obtain⟨c,h⟩:=aM h;cases h;exact .inr (.inr ⟨z,hp.str,gq (iL c),k _ H (aX.refl _) (Rep.str _)⟩)
 |_=>cases h
theorem wU.one (h:wU K Z H [p] vs):∃v,vs=[v]/\Red K Z H p v:=by
 cases h with|cons h r=>cases r;exact⟨_,rfl,h⟩
theorem wU.two (h:wU K Z H [p,q] vs):∃v u,vs=[v,u]/\Red K Z H p v/\Red K Z H q u:=by
 cases h with|cons h r=>cases r with|cons h' r=>cases r;exact⟨_,_,rfl,h,h'⟩
noncomputable def t9:List PV->Option Bv
 |[.lst ps]=>some (.val (.int ps.length))
 |[.tup ps]=>some (.val (.int ps.length))
 |[.str z]=>bC (decide (z.length<1000000)) (some (.val (.int z.length)))
 |_=>none
def MB (K:Frag):List V->Hp->VK->Prop:=fun xs H Q=>(∃p ys,xs=[.ref p]/\(k7 K H p ys\/ qB K H p ys)/\Q (.int ys.length) H)\/ ∃z,xs=[.str z]/\z.length<=sizeLine/\Q (.int z.length) H
theorem BP (K:Frag) (hK:X.K=K:=by rfl):cN X (.builtin "len") (MB K):=by subst hK;exact cN.or AH yG
theorem DJ:jG K (MB K) t9:=by
 intro Z H vs ps b Q hp h k;unfold t9 at h;split at h
 .cases h;obtain⟨v,rfl,hv⟩:=hp.one;obtain⟨a,xs,rfl,ha,ra⟩:=hv.wG;exact .inl ⟨a,xs,rfl,.inl ha.sq,k _ H (aX.refl _) (by rw[ra.length];exact Rep.int _)⟩
 .cases h;obtain⟨v,rfl,hv⟩:=hp.one;obtain⟨a,xs,rfl,ha,ra⟩:=hv.tup;exact .inl ⟨a,xs,rfl,.inr ha.sq,k _ H (aX.refl _) (by rw[ra.length];exact Rep.int _)⟩
 .obtain⟨c,h⟩:=aM h;cases h;obtain⟨v,rfl,hv⟩:=hp.one;exact .inr ⟨_,by rw[hv.str],gq (iL c),k _ H (aX.refl _) (Rep.int _)⟩
 .cases h
noncomputable def sZ:List PV->Option Bv
 |[.lst ps]=>some (.val (.tup ps))
 |[.tup ps]=>some (.val (.tup ps))
 |_=>none
def S5 (K:Frag):List V->Hp->VK->Prop:=fun xs H Q=>∃p ys,xs=[.ref p]/\((k7 K H p ys/\∀l,H l=none->Q (.ref l) (upd H l (.tup ys)))\/ (qB K H p ys/\Q (.ref p) H))
theorem OF (K:Frag) (hK:X.K=K:=by rfl):cN X (.type "tuple") (S5 K):=by subst hK;exact wK
theorem GY:jG K (S5 K) sZ:=by
 intro Z H vs ps b Q hp h k;unfold sZ at h;split at h
 .cases h;obtain⟨v,rfl,hv⟩:=hp.one;obtain⟨a,xs,rfl,ha,ra⟩:=hv.wG;exact⟨a,xs,rfl,.inl ⟨ha.sq,fun l hl=>k _ _ (aX.upd hl) (Rep.tup (.inl aV) (ra.aK (.same (aX.upd hl))))⟩⟩
 .cases h;obtain⟨v,rfl,hv⟩:=hp.one;obtain⟨a,xs,rfl,ha,ra⟩:=hv.tup;exact⟨a,xs,rfl,.inr ⟨ha.sq,k _ H (aX.refl _) (Rep.tup ha ra)⟩⟩
 .cases h
noncomputable def GW:List PV->Option Bv
 |[.int i,.int j]=>some (.val (.int (if j<i then j else i)))
 |_=>none
theorem F4:jG K (fun xs H Q=>∃i j,xs=[.int i,.int j]/\Q (.int (if j<i then j else i)) H) GW:=by
 intro Z H vs ps b Q hp h k;unfold GW at h;split at h
 .cases h;obtain⟨v,u,rfl,hv,hu⟩:=hp.two;exact⟨_,_,by rw[hv.int,hu.int],k _ H (aX.refl _) (Rep.int _)⟩
 .cases h
noncomputable def AR:List PV->Option Bv
 |[.int i]=>some (.val (.int i))
 |[.bl k]=>some (.val (.int (if k then 1 else 0)))
 |_=>none
theorem FH:jG K (fun xs H Q=>(∃i,xs=[.int i]/\Q (.int i) H)\/ ∃k,xs=[.bl k]/\Q (.int (if k then 1 else 0)) H) AR:=by
 intro Z H vs ps b Q hp h k;unfold AR at h;split at h
 .cases h;obtain⟨v,rfl,hv⟩:=hp.one;exact .inl ⟨_,by rw[hv.int],k _ H (aX.refl _) (Rep.int _)⟩
 .cases h;obtain⟨v,rfl,hv⟩:=hp.one;exact .inr ⟨_,by rw[hv.bl],k _ H (aX.refl _) (Rep.int _)⟩
 .cases h
noncomputable def u4:List PV->Option Bv
 |[.int i]=>bC (decide (i.natAbs.log2<1920)) (some (.val (.str (toString i))))
 |_=>none
theorem FJ:jG K (fun xs H Q=>∃i,xs=[.int i]/\i.natAbs.log2<1920/\Q (.str (toString i)) H) u4:=by
 intro Z H vs ps b Q hp h k;unfold u4 at h;split at h
 .obtain⟨c,h⟩:=aM h;cases h;obtain⟨v,rfl,hv⟩:=hp.one;exact⟨_,by rw[hv.int],av c,k _ H (aX.refl _) (Rep.str _)⟩
 .cases h
noncomputable def xX:List PV->Option (List Str)
 |[]=>some []
 | .str x::ps=>bO (xX ps) fun xs=>some (x::xs)
 |_=>none
theorem vS:∀{ps:List PV} {xs:List Str},xX ps=some xs->ps=xs.map PV.str
 |[],xs,h=>by cases h;rfl
 | p::ps,xs,h=>by
  cases p with
  |str x=>
   obtain⟨ys,g,h⟩:=aF h;cases h;rw[vS g];rfl
  |_=>cases h
theorem JG (xs:List Str):xX (xs.map PV.str)=some xs:=by
 induction xs with
 |nil=>rfl
 |cons x xs ih=>rw[cz,xX,ih];rfl
theorem bH.strs:∀{xs:List Str} {vs:List V},bH K Z H (xs.map PV.str) vs->vs=xs.map V.str
 |[],vs,h=>by cases h;rfl
 |x::xs,vs,h=>by cases h with|cons h r=>cases h;rw[bH.strs r];rfl
noncomputable def BA:PV->List PV->Option Bv
 | .str z,[.lst ps]=>bO (xX ps) fun xs=>bC (decide ((xs.map (·.length)).sum+xs.length*z.length<1000000)) (some (.val (.str (Txt.join z xs))))
 |_,_=>none
theorem GO:Z8 K (rJoin K) BA:=by
 intro Z H x vs p ps b Q hp hps h k;unfold BA at h;split at h
 .obtain⟨xs,g,h⟩:=aF h;obtain⟨c,h⟩:=aM h;cases h;obtain⟨v,rfl,hv⟩:=hps.one;obtain⟨a,ys,rfl,ha,ra⟩:=hv.wG;rw[vS g]at ra;rw[ra.strs]at ha;refine⟨_,a,xs,hp.str,rfl,ha.sq,?_,k _ H (aX.refl _) (Rep.str _)⟩;have:=av c;omega
 .cases h
noncomputable def gP:PV->Option (List PV)
 | .lst ps=>some ps
 | .tup ps=>some ps
 | .str z=>some (z.cps.toList.map fun c=>.str ⟨#[c]⟩)
 |_=>none
noncomputable def xA (f:FE):FI:=fun st e=>bE (f e) fun b e1=>match b with
 | .slot i=>match e1[i]? with
  |some (some (.bor p))=>bO (gP p) fun ps=>some (ps,e1)
  |some (some (.own p))=>bC (st i) (bO (gP p) fun ps=>some (ps,e1))
  |some (some (.loc p))=>bC (st i) (bO (gP p) fun ps=>some (ps,e1))
  |_=>none
 | .val p=>bO (gP p) fun ps=>some (ps,e1)
 | .new p=>bO (gP p) fun ps=>some (ps,e1)
def U0 (K:Frag) (tl:TE):TI:=fun σ H R=>tl σ H fun x H1=>(∃a,x= .ref a/\(∃xs,k7 K H1 a xs)/\R (Itl K a) H1)\/ ((∃a,x= .ref a/\(∃xs,qB K H1 a xs)/\R (Itt K a) H1)\/ ∃z,x= .str z/\R (YG z) H1)
theorem cY (K:Frag) {tg l:Expr} {tl:TE} (hl:PE X l tl) (hK:X.K=K:=by rfl):PI X tg l (U0 K tl):=by
 subst hK;intro pins s σ H R I h;refine cL (hl pins s σ H _ I h) fun v s1 ⟨x,H1,I1,r1,q1⟩=>?_
 rcases q1 with⟨a,e,⟨xs,hq⟩,q⟩|⟨a,e,⟨xs,hq⟩,q⟩|⟨z,e,q⟩
 .subst e;cases r1;obtain⟨its,rv,p,hz⟩:=I1.list hq;refine wpAny_pyIter_list p.isList ?_;refine⟨s1.heap.objs.size,[s1.heap.objs.size],_,_,H1,rfl,I1.kept (t':=s1.toks) fun b o e=>ao _ e,JR a _,⟨_,cc _ rfl,rfl,rfl⟩,fun b hb=>?_,q⟩;have e:b=s1.heap.objs.size:=by simpa using hb
  subst e;exact I1.vM (bf _) (I1.bQ.fresh (bf _))
 .subst e;cases r1;obtain⟨its,rv,p,hz⟩:=I1.tuple hq;refine kz (show s1.heap.IsTuple a its.toArray from p) ?_;refine⟨s1.heap.objs.size,[s1.heap.objs.size],_,_,H1,rfl,I1.kept (t':=s1.toks) fun b o e=>ao _ e,D0 a _,⟨_,cc _ rfl,rfl,rfl⟩,fun b hb=>?_,q⟩;have e:b=s1.heap.objs.size:=by simpa using hb
  subst e;exact I1.vM (bf _) (I1.bQ.fresh (bf _))
 .subst e;obtain⟨t,rfl⟩:=r1;cases ha:z.cps.all (·<128)with
  |true=>
   refine wpAny_pyIter_ascii ha ?_;refine⟨s1.heap.objs.size,[s1.heap.objs.size],_,_,H1,rfl,I1.kept (t':=s1.toks) fun b o e=>ao _ e,HK z t _,⟨_,cc _ rfl,rfl,rfl⟩,fun b hb=>?_,q⟩;have e:b=s1.heap.objs.size:=by simpa using hb
   subst e;exact I1.vM (bf _) (I1.bQ.fresh (bf _))
  |false=>
   refine wpAny_pyIter_wide ha ?_;refine⟨s1.heap.objs.size,[s1.heap.objs.size],_,_,H1,rfl,I1.kept (t':=s1.toks) fun b o e=>ao _ e,JF z t _,⟨_,cc _ rfl,rfl,rfl⟩,fun b hb=>?_,q⟩;have e:b=s1.heap.objs.size:=by simpa using hb
   subst e;exact I1.vM (bf _) (I1.bQ.fresh (bf _))
theorem u7 {L':aJ} {H':Hp} (o:kH O M W L H) (hw:∀a,Wr a->aw W a\/ L a) (k1:∀a ob,H a=some ob->¬Wr a->H' a=some ob) (k2:∀a xs,H a=some (.tup xs)->H' a=some (.tup xs)) (k3:∀a,L' a->L a\/ H a=none):cS (aT M L) (aT M L') H H':=
 ⟨k2,fun a ob h n=>⟨k1 a ob h fun z=>n ((hw a z).elim (fun⟨i,w⟩=>.inl (o.wm i a w)) .inr),fun z=>z.elim (fun z=>n (.inl z)) fun z=>(k3 a z).elim (fun z=>n (.inr z)) fun z=>by rw[h]at z;cases z⟩⟩
theorem rG (o:kH O M W L H) (hw:∀a,Wr a->aw W a\/ L a) (ha:(Rd H a (.lst xs)/\¬Wr a)\/ VE K a xs) (r:bH K (aT M L) H ps xs):LH K M L Wr H (Itl K a) ps:=by
 intro L' H' k1 k2 k3;have st:=u7 o hw k1 k2 k3;have sq:k7 K H' a xs:=by
  rcases ha with⟨h|⟨u,h⟩,n⟩|h
  .exact .inl (.inl (k1 _ _ h n))
  .exact .inl (.inr ⟨u,k1 _ _ h n⟩)
  .exact .inr h
 refine⟨fun k p hp=>?_,xs,sq,by rw[r.length];exact bf _⟩;obtain⟨v,hv,rv⟩:=r.get hp;refine⟨⟨xs,v,sq,hv⟩,fun x H3 y=>?_⟩;obtain⟨e,y⟩:=y;subst e;have:=y xs sq;rw[hv]at this;cases this;exact⟨aX.refl _,rv.aK st⟩
theorem VC (o:kH O M W L H) (hw:∀a,Wr a->aw W a\/ L a) (ha:TupAt K H a xs) (r:bH K (aT M L) H ps xs):LH K M L Wr H (Itt K a) ps:=by
 intro L' H' k1 k2 k3;have st:=u7 o hw k1 k2 k3;have sq:qB K H' a xs:=TupAt.sq (ha.elim (fun h=>.inl (k2 _ _ h)) .inr);refine⟨fun k p hp=>?_,xs,sq,by rw[r.length];exact bf _⟩;obtain⟨v,hv,rv⟩:=r.get hp;refine⟨⟨xs,v,sq,hv⟩,fun x H3 y=>?_⟩;obtain⟨e,y⟩:=y;subst e;have:=y xs sq;rw[hv]at this;cases this;exact⟨aX.refl _,rv.aK st⟩
theorem W4 {z:Str}:LH K M L Wr H (YG z) (z.cps.toList.map fun c=>.str ⟨#[c]⟩):=by
 intro L' H' k1 k2 k3;refine⟨fun k p hp=>?_,by simp[YG]⟩;rw[aq]at hp;cases c:z.cps.toList[k]? with
 |none=>rw[c]at hp;cases hp
 |some d=>
  rw[c]at hp;cases hp;have hk:k<z.cps.size:=by simpa using(af.mp c).1
  refine⟨hk,fun x H3 y=>?_⟩;obtain⟨e,d',h1,h2⟩:=y;subst e h2;rw[<-lg,c]at h1;cases h1;exact⟨aX.refl _,.str _⟩
theorem UB (h:Ref K t f):vR K (U0 K t) (xA f):=by
 intro st O M W L σ H e e' ps R o he hf q;obtain⟨x,e1,f1,hf⟩:=aN hf;refine h O M W L σ H e e1 x _ o he f1 fun v H1 k1 rb fr=>?_
 have o1:=o.keep k1.cC;have en:=rb.en o1;have vals:∀p,Rep K (aT M L) H1 p v->gP p=some ps->e1=e'->(∃a,v= .ref a/\(∃xs,k7 K H1 a xs)/\R (Itl K a) H1)\/ ((∃a,v= .ref a/\(∃xs,qB K H1 a xs)/\R (Itt K a) H1)\/ ∃z,v= .str z/\R (YG z) H1):=fun p hp hi ee=>by
  subst ee;cases hp with
  |lst ha n r=>
   cases hi;exact .inl ⟨_,rfl,⟨_,.inl ha⟩,q _ H1 k1 en fun Wr hw _=>rG o1 hw (.inl ⟨ha,fun z=>n ((hw _ z).elim (fun⟨i,w⟩=>.inl (o.wm i _ w)) .inr)⟩) r⟩
  |tup ha r=>
   cases hi;exact .inr (.inl ⟨_,rfl,⟨_,ha.sq⟩,q _ H1 k1 en fun Wr hw _=>VC o1 hw ha r⟩)
  |str z=>
   cases hi;exact .inr (.inr ⟨z,rfl,q _ H1 k1 en fun Wr hw _=>W4⟩)
  |_=>cases hi
 cases x with
 |val p=>
  obtain⟨ps',g,hf⟩:=aF hf;cases hf;exact vals p rb.2 g rfl
 |new p=>
  obtain⟨ps',g,hf⟩:=aF hf;cases hf;exact vals p (rb.weak o1).2 g rfl
 | slot i=>
  dsimp only at hf;cases c:e1[i]? with
  |none=>rw[c]at hf;cases hf
  | some s=>
   cases s with
   |none=>rw[c]at hf;cases hf
   | some s=>
    rw[c]at hf;obtain⟨u,hu,sr⟩:=rb.1.at' i s c;have:=rb.2;rw[hu]at this;cases this;cases s with
    |val p=>cases hf
    |bor p=>
     obtain⟨ps',g,hf⟩:=aF hf;cases hf;obtain⟨a,rfl,lt⟩:=sr;cases lt with
     |lst ha od n m r=>cases g;exact .inl ⟨a,rfl,⟨_,.inl ha⟩,q _ H1 k1 en fun Wr hw _=>rG o1 hw (.inl ⟨ha,fun z=>(hw _ z).elim n m⟩) r⟩
     |eQ ha r=>cases g;exact .inl ⟨a,rfl,⟨_,.inr ha⟩,q _ H1 k1 en fun Wr hw _=>rG o1 hw (.inr ha) r⟩
     |bA ha od n m kk r=>cases g
    |own p=>
     obtain⟨hst,hf⟩:=aM hf;obtain⟨ps',g,hf⟩:=aF hf;cases hf;obtain⟨a,rfl,w,ct⟩:=sr;cases ct with
     |lst ha r=>cases g;exact .inl ⟨a,rfl,⟨_,k7.of ha⟩,q _ H1 k1 en fun Wr hw hs=>rG o1 hw (.inl ⟨.inl ha,hs i a _ hst c rfl hu⟩) r⟩
     |bA ha kk r=>cases g
    |loc p=>
     obtain⟨hst,hf⟩:=aM hf;obtain⟨ps',g,hf⟩:=aF hf;cases hf;obtain⟨a,rfl,w,ct⟩:=sr;cases ct with
     |lst ha r=>cases g;exact .inl ⟨a,rfl,⟨_,k7.of ha⟩,q _ H1 k1 en fun Wr hw hs=>rG o1 hw (.inl ⟨.inl ha,hs i a _ hst c rfl hu⟩) r⟩
     |bA ha kk r=>cases g
theorem OW {lo:Int}:LH K M L Wr H (X8 lo n) ((List.range n).map fun k:Nat=>.int (lo+(k:Int))):=by
 intro L' H' k1 k2 k3;refine⟨fun k p hp=>?_,by simp[X8]⟩;rw[aq]at hp
 by_cases hk:k<n
 .rw[List.getElem?_range hk]at hp;cases hp;refine⟨hk,fun x H3 y=>?_⟩;obtain⟨e,y⟩:=y;subst e y;exact⟨aX.refl _,.int _⟩
 .rw[List.getElem?_eq_none (by simpa using hk)]at hp;cases hp
end
section
variable {K:Frag}
theorem QF {f:FN} {Q:VK} {E:XK} (hf:∀ns:List Int,ns.length<=63->f [.lst (ns.map PV.int)]=some (.bl true,[])) (h:CG K vs H Q E):T7 K [.b] false f vs H Q E:=by
 obtain⟨a,ns,rfl,hS,hl,q⟩:=h;have rl:∀(Z:aJ) (ms:List Int),bH K Z H (ms.map PV.int) (ms.map V.int):=fun Z ms=>by
  induction ms with
  |nil=>exact .nil
  |cons m ms ih=>exact .cons (.int m) ih
 refine⟨cT,[.lst (ns.map PV.int)],.bl true,[],fun a z=>z.elim,rfl,rfl,fun i k p v h1 h2 h3=>?_,fun i j hij h1 h2=>?_,fun i a ⟨h1,_⟩=>?_,hf ns hl,fun v H' k r=>?_⟩
 .cases i with
  | zero=>
   cases h1;cases h2;cases h3;have nw:¬aw (pN [.b] [.ref a] H) a:=fun⟨i,h,_⟩=>by
    cases i with
    |zero=>cases h
    |succ i=>simp at h
   rcases hS with h|h
   .refine⟨a,rfl,.lst h ?_ nw (fun z=>z) (rl _ ns)⟩;rcases h with h|⟨u,h⟩
    .show H a≠none;rw[h];exact fun z=>nomatch z
    .show H a≠none;rw[h];exact fun z=>nomatch z
   .exact⟨a,rfl,.eQ h (rl _ ns)⟩
  |succ i=>simp at h1
 .cases i with
  |zero=>cases h1
  |succ i=>simp at h1
 .cases i with
  |zero=>cases h1
  |succ i=>simp at h1
 .obtain⟨r,_⟩:=r;cases r;exact q H'
noncomputable def kdOf:PV->Option L2.Kd
 | .bD=>some .bD
 | .bl _=>some .bl
 | .int _=>some .int
 | .str _=>some .str
 | .lst _=>some .lst
 | .tup _=>some .tup
 | .bA _=>some .bA
 | .ty _=>none
noncomputable def abW (k:L2.Kd):String->Option Bool
 |"str"=>some (decide (k= .str))
 |"tuple"=>some (decide (k= .tup))
 |"int"=>some (decide (k= .int)||decide (k= .bl))
 |"bool"=>some (decide (k= .bl))
 |_=>none
noncomputable def UL:PV->Option Bool
 | .bD=>some false
 | .bl b=>some b
 | .int i=>some (i !=0)
 | .str y=>bC (decide (y.length<1000000)) (some ((y.length:Int) !=0))
 | .lst ps=>some (!ps.isEmpty)
 | .tup ps=>some (!ps.isEmpty)
 |_=>none
noncomputable def V7 (f:FE):FT:=fun e=>bE (f e) fun b e1=>bO (b.weak.get e1) fun p=>bO (UL p) fun c=>some (c,e1)
theorem bH.empty (r:bH K Z H ps xs):ps.isEmpty=xs.isEmpty:=by cases r<;>rfl
theorem PD (h:Ref K t f):lI K (fun σ H Q=>t σ H fun x H'=>∃k,QA K x H' k/\Q k H') (V7 f):=by
 intro O M W L σ H e e' b Q o he hf q;obtain⟨x,e1,f1,hf⟩:=aN hf;obtain⟨p,g1,hf⟩:=aF hf;obtain⟨c,g2,hf⟩:=aF hf;cases hf;refine h O M W L σ H e _ _ _ o he f1 fun v1 H1 k1 r1 fr=>?_
 have o1:=o.keep k1.cC;have en:=r1.en o1;have rd:=(r1.rv o1).red en g1;refine⟨b,?_,q H1 k1 en⟩;cases p with
 |bD=>cases g2;rw[rd.bD];rfl
 |bl y=>cases g2;rw[rd.bl];rfl
 |int y=>cases g2;rw[rd.int];rfl
 |str y=>obtain⟨c,g2⟩:=aM g2;cases g2;rw[rd.str];exact⟨gq (iL c),rfl⟩
 |lst ps=>cases g2;obtain⟨a,xs,rfl,ha,ra⟩:=rd.wG;exact .inl ⟨xs,ha.sq,by rw[ra.empty]⟩
 |tup ps=>cases g2;obtain⟨a,xs,rfl,ha,ra⟩:=rd.tup;exact .inr (.inl ⟨xs,ha.sq,by rw[ra.empty]⟩)
 |ty y=>cases g2
 |bA y=>cases g2
end
theorem IH (K:Frag) {a:Expr} {ta:TE} (ha:PE X a ta) (he:∀whole,isTrue a X.env whole=(do let v<-whole;standAt a.pos;holding [v] (truthy v))) (hK:X.K=K:=by rfl):
  PT X a (fun σ H Q=>ta σ H fun x H'=>∃k,QA K x H' k/\Q k H'):=by subst hK;exact L6 ha he
theorem HS {K:Frag} {wi:TI} {g:TG} {tt:TT} {te:TE} {fi:FI} {cap:List Nat} (ms:List (Nat×Nat)) {fg:FG} {ft:FT} {fe:FE} (hms:(ms.all fun z=>ms.all fun z'=>(z.1==z'.1)==(z.2==z'.2))=true) (hi:vR K wi fi) (hg:AF K g fg) (ht:lI K tt ft) (he:Ref K te fe):Ref K (xI wi k cap g tt te) (iO fi k cap ms fg ft fe):=by
 have key:∀z∈ms,∀z'∈ms,(z.1==z'.1)=(z.2==z'.2):=fun z hz z' hz'=>by
  have:=bg.mp (bg.mp hms z hz) z' hz';simpa using this
 refine KL ms (fun i j1 j2 h1 h2=>?_) (fun i1 i2 j h1 h2=>?_) hi hg ht he
 .have:=key _ h1 _ h2;simpa using this
 .have:=key _ h1 _ h2;simpa using this
theorem UX (i:Nat) (e:En):aC i e=(match e[i]? with
 |some (some (.val p))=>some (.val p,e)
 |some (some _)=>some (.slot i,e)
 |_=>none):=rfl
theorem abX (p:PV) (e:En):fC p e=some (.val p,e):=rfl
theorem YX (g:PV->PV->Option Bv) (fa fb:FE) (e:En):bI g fa fb e=bE (fa e) fun x e1=>bE (fb e1) fun y e2=>bO (x.weak.get e2) fun p=>bO (y.weak.get e2) fun q=>bO (g p q) fun b=>some (b,e2):=rfl
theorem ZL (g:PV->Option Bv) (fa:FE) (e:En):fUn g fa e=bE (fa e) fun x e1=>bO (x.weak.get e1) fun p=>bO (g p) fun b=>some (b,e1):=rfl
theorem UP (e:En):aO e=some ([],e):=rfl
theorem PB (fa:FE) (fr:FA) (e:En):aB fa fr e=bE (fa e) fun x e1=>bE (fr e1) fun xs e2=>some (x.weak::xs,e2):=rfl
theorem aaB (g:List PV->Option Bv) (fa:FA) (e:En):qA g fa e=bE (fa e) fun xs e1=>bO (getL e1 xs) fun ps=>bO (g ps) fun b=>some (b,e1):=rfl
theorem Y7 (g:PV->List PV->Option Bv) (fo:FE) (fa:FA) (e:En):fBM g fo fa e=(bE (fo e) fun x e0=>match x with
 | .val (.str z)=>bE (fa e0) fun xs e1=>bO (getL e1 xs) fun ps=>bO (g (.str z) ps) fun b=>some (b,e1)
 |_=>none):=rfl
theorem XS (fa:FA) (e:En):dQ fa e=bE (fa e) fun xs e1=>bO (putL xs) fun ps=>bC (decide (ps.length<1000000)) (some (.val (.tup ps),e1)):=rfl
theorem X5 (fa:FA) (e:En):lG fa e=bE (fa e) fun xs e1=>bO (putL xs) fun ps=>bC (decide (ps.length<1000000)) (some (.new (.lst ps),e1)):=rfl
theorem SH (f:FE) (e:En):bW f e=(bE (f e) fun b e1=>match b with
 | .val (.bl c)=>some (c,e1)
 |_=>none):=rfl
theorem WI (f g:FT) (e:En):EN f g e=bE (f e) fun b e1=>bB b (g e1) (some (false,e1)):=rfl
theorem aaE (f g:FT) (e:En):fOr f g e=bE (f e) fun b e1=>bB b (some (true,e1)) (g e1):=rfl
theorem X1 (f:FT) (e:En):XU f e=bE (f e) fun b e1=>some (!b,e1):=rfl
theorem QL (e:En):fE e=some (true,e):=rfl
theorem PX (fa fb:FE) (e:En):E4 fa fb e=bE (fa e) fun b e1=>bO (NX b) fun c=>bB c (fb e1) (some (.val (.bl false),e1)):=rfl
theorem ZY (fc:FT) (fa fb:FE) (e:En):T5 fc fa fb e=bE (fc e) fun b e1=>bB b (fa e1) (fb e1):=rfl
theorem HU (e:En):jJ e=some (none,e):=rfl
theorem O7 (f:FE) (e:En):sY f e=(bE (f e) fun b e1=>match b with
 | .val (.int i)=>some (some i,e1)
 |_=>none):=rfl
theorem Z1 (g:PV->Option Int->Option Int->Option Bv) (fa:FE) (fl fh:FO) (e:En):TL g fa fl fh e=bE (fa e) fun x e1=>bE (fl e1) fun lo e2=>bE (fh e2) fun hi e3=>bO (x.weak.get e3) fun p=>bO (g p lo hi) fun b=>some (b,e3):=rfl
theorem P0 (e:En):dE e=some (.nx e):=rfl
theorem V8 (f:FE) (e:En):c8 f e=bE (f e) fun b e1=>some (.rt b e1):=rfl
theorem aaK (fc:FT) (f g:FS) (e:En):uM fc f g e=bE (fc e) fun b e1=>bB b (f e1) (g e1):=rfl
theorem W6 (i:Nat) (f:FE) (e:En):b9 i f e=(bE (f e) fun b e1=>match b with
 | .val p=>some (.nx (e1.set i (some (.val p))))
 | .new p=>some (.nx (e1.set i (some (.val p))))
 | .slot j=>match e1[j]? with
  |some (some (.bor p))=>some (.nx (e1.set i (some (.bor p))))
  |_=>none):=rfl
theorem QB (i:Nat) (f:FE) (e:En):jA i f e=(bE (f e) fun b e1=>match b with
 | .new p=>some (.nx (e1.set i (some (.loc p))))
 |_=>none):=rfl
theorem U6 (i:Nat) (f:FS) (e:En):UN i f e=bO (rel i e) f:=rfl
theorem VF (i:Nat) (f:FE) (e:En):JD i f e=(bO (ownAt e i) fun p0=>match p0 with
 | .lst _=>bE (f e) fun b e1=>bO b.put fun p=>match ownAt e1 i with
  |some (.lst ps)=>bC (decide (ps.length<1000000)) (some (.nx (cG e1 i (.lst (ps++[p])))))
  |_=>none
 |_=>none):=rfl
theorem KW (i:Nat) (fi fv:FE) (e:En):zA i fi fv e=(bE (fv e) fun b e1=>bO b.put fun p=>bO (ownAt e1 i) fun _=>bE (fi e1) fun k e2=>match k with
 | .val (.int k)=>match ownAt e2 i with
  |some (.lst ps)=>bO (wJ ps.length k) fun j=>some (.nx (cG e2 i (.lst (ps.set j p))))
  |_=>none
 |_=>none):=rfl
theorem P8 (i:Nat) (fk fv:FE) (e:En):eW i fk fv e=(bE (fv e) fun b e1=>bO b.put fun p=>bO (ownAt e1 i) fun _=>bE (fk e1) fun k e2=>bO (k.weak.get e2) fun kp=>bO (keyOf kp) fun key=>match ownAt e2 i with
  |some (.bA kvs)=>bC (decide (kvs.length<1000000)) (some (.nx (cG e2 i (.bA (dZ kvs key p)))))
  |_=>none):=rfl
theorem LR (i:Nat) (p:PV) (e:En):aS i p e=some (e.set i (some (.val p))):=rfl
theorem RF (ps:List PV) (e:En):jL ps e=match ps with|[]=>some e|_=>none:=rfl
theorem K4 (f:FG) (g:J0) (ps:List PV) (e:En):cB f g ps e=match ps with|p::ps=>bO (f p e) (g ps)|[]=>none:=rfl
theorem QS (n:Nat) (f:J0) (p:PV) (e:En):jQ n f p e=(match p with
 | .tup ps=>bC (decide (ps.length=n)) (f ps e)
 |_=>none):=rfl
theorem XY (f:FE) (fg:FG) (e:En):WH f fg e=bE (f e) fun b e1=>bO b.put fun p=>bO (fg p e1) fun e2=>some (.nx e2):=rfl
theorem aaF (f:FE) (st:Nat->Bool) (e:En):xA f st e=(bE (f e) fun b e1=>match b with
 | .slot i=>match e1[i]? with
  |some (some (.bor p))=>bO (gP p) fun ps=>some (ps,e1)
  |some (some (.own p))=>bC (st i) (bO (gP p) fun ps=>some (ps,e1))
  |some (some (.loc p))=>bC (st i) (bO (gP p) fun ps=>some (ps,e1))
  |_=>none
 | .val p=>bO (gP p) fun ps=>some (ps,e1)
 | .new p=>bO (gP p) fun ps=>some (ps,e1)):=rfl
theorem XQ (f:FE) (e:En):V7 f e=bE (f e) fun b e1=>bO (b.weak.get e1) fun p=>bO (UL p) fun c=>some (c,e1):=rfl
theorem P9 (e:En):qH e=some (.new (.bA []),e):=rfl
end Mr
namespace L2
open PySem PySem.Spec PyProof.Rows
variable {a:Expr} {p pos:Pos} {ta:TA}
noncomputable def YM (K:Frag) (a:Addr):It:=
 ⟨fun i H=>∃xs x,k7 K H a xs/\xs[i]? =some x,fun i H v H'=>∃t,H t=none/\v= .ref t/\∀xs,k7 K H a xs->∃x,xs[i]? =some x/\H'=upd H t (.tup [.int i,x]),fun i H=>∃xs,k7 K H a xs/\xs.length=i⟩
theorem EK {P:Program} {w:World} {K:Frag} {elts:List Expr} {x1} (a it e:Addr) (hei:e≠it):Turn P w K (.Tuple elts x1 pos) (YM K a) [e,it] e (fun i h=>(∃old,IsEnum h e it i old)/\h.IsListIter it a i)where
 mem:=by simp
 obj:=fun i h st b hb=>by
  obtain⟨⟨old,he⟩,o,ho,c,d⟩:=st;rcases bw.mp hb with z|z
  .subst z;exact⟨_,he,fun v z=>by cases z⟩
  .have z:b=it:=by simpa using z
   subst z;exact⟨o,ho,fun v z=>by rw[d]at z;cases z⟩
 keep:=fun i h h' st k=>⟨let⟨old,he⟩:=st.1;⟨old,k e (by simp) _ he⟩,st.2.at fun o q=>k it (by simp) o q⟩
 item:=by
  intro X hP hw hK hc i pins s σ H E I hf st hg;subst hP hw hK;obtain⟨xs,x,hq,hx⟩:=hg;obtain⟨its,rv,p,hz⟩:=I.list hq;obtain⟨u,hu,ru⟩:=rv.get hx;obtain⟨⟨old,he⟩,ht⟩:=st;have hne:a≠it:=fun z=>by
   obtain⟨o,ho,c,_⟩:=ht;obtain⟨o',_,ho',c',_,_⟩:=p;subst z;rw[ho]at ho';cases ho'
   rw[c]at c';exact absurd (Value.type.inj c') (by decide)
  have hae:a≠e:=fun z=>by
   obtain⟨o',_,ho',c',_,_⟩:=p;subst z;rw[he]at ho';cases ho'
   exact absurd (Value.type.inj c') (by decide)
  have hlt:i<its.toArray.size:=by have:=(af.mp hu).1;simpa using this
  refine wpAny_pyNext_enum_itemD (Draws.list (A:=X.A.in1) (by exact I.ok.hd hc) it a hne its.toArray) he ⟨ht,p.isList⟩ hlt hei (by simp[hei,Ne.symm hae]) fun v h' tk hPv ho' st' htup hsz hk=>?_
  have ev:v=u:=by
   have h1:its[i]? =some v:=by simpa using hPv
   rw[hu]at h1;exact(Option.some.inj h1).symm
  subst ev;refine⟨_,rfl,wpAny_letOwnedTupleGo_enum (s:={s with heap:=h',toks:=tk+1}) ho' fun h2 he2 sb=>?_⟩;have hTe:s.heap.objs.size≠e:=fun z=>by
   have:=cf he;rw[<-z]at this;exact jf _ this
  have hTi:s.heap.objs.size≠it:=fun z=>by
   obtain⟨o,ho,_⟩:=ht;have:=cf ho;rw[<-z]at this;exact jf _ this
  have hk2:∀b o,b∉[e,it]->s.heap.get? b=some o->h2.get? b=some o:=fun b o hb q=>
   sb.extBut b o (fun z=>hb (by simp[z])) (hk b o (fun z=>hb (by simp[z])) (fun z=>hb (by simp[z])) q)
  have I1:Inv X pins σ H {s with heap:=h2,toks:=tk+1}:=I.HA hk2 hf;have hfr:H s.heap.objs.size=none:=I.bQ.fresh (bf _);have htup2:h2.get? s.heap.objs.size=some {cls:=.type "tuple",data:=.seq #[.int i tk,v]}:=sb.extBut _ _ hTe htup;have I2:Inv X pins σ (upd H s.heap.objs.size (.tup [.int i,x])) {s with heap:=h2,toks:=tk+1}:=by
   refine I.un2 hk2 hf hfr (by simp[hTe,hTi]) ⟨by show 2<=sizeLine;decide,[.int i tk,v],.cons ⟨_,rfl⟩ (.cons ru .nil),qO.of htup2⟩ (fun b hb o q=>?_);rcases bw.mp hb with r|r
   .subst r;exact⟨_,he2⟩
   .have r:b=it:=by simpa using r
    subst r;obtain⟨o',ho',_⟩:=st'.1.extBut sb.extBut (Ne.symm hei);exact⟨o',ho'⟩
  refine⟨.ref s.heap.objs.size,_,I2,rfl,⟨s.heap.objs.size,hfr,rfl,fun ys hy=>⟨x,by rw[I.A2 hy hq];exact hx,rfl⟩⟩,⟨⟨_,he2⟩,st'.1.extBut sb.extBut (Ne.symm hei)⟩,fun b hb=>?_⟩;have hbT:b≠s.heap.objs.size:=fun z=>by
   rcases bw.mp hb with r|r
   .exact hTe (z▸r)
   .have r:b=it:=by simpa using r
    exact hTi (z▸r)
  rw[aU hbT];exact(hf b hb).1
 done:=by
  intro X hP hw hK hc i pins s σ H E I hf st hg;subst hP hw hK;obtain⟨xs,hq,hx⟩:=hg;obtain⟨its,rv,p,hz⟩:=I.list hq;obtain⟨⟨old,he⟩,ht⟩:=st;have hl:=rv.length;have hne:a≠it:=fun z=>by
   obtain⟨o,ho,c,_⟩:=ht;obtain⟨o',_,ho',c',_,_⟩:=p;subst z;rw[ho]at ho';cases ho'
   rw[c]at c';exact absurd (Value.type.inj c') (by decide)
  have ei:(i:Nat)=its.toArray.size:=by simp;omega
  subst ei;obtain⟨f0,f1,f2,f3,f4,f5⟩:=hf it (by simp);exact wpAny_pyNext_enum_endD (Draws.list (A:=X.A.in1) (by exact I.ok.hd hc) it a hne its.toArray) he ⟨ht,p.isList⟩ fun h' eb=>⟨rfl,I.turned (t':=s.toks) (fun b o hb e=>eb b o hb e) f0 f1 f3 f4 f5⟩
 self:=fun _ _ _ _ _ st h=>let⟨_,he⟩:=st.1;wpAny_pyIter_enum he h
section
variable {X:Cx} {elts:List Expr} {x1:Nat} {tpos:Pos}
def zS (K:Frag) (ta:TA):TI:=fun σ H R=>ta σ H fun vs H1=>(∃a xs,vs=[.ref a]/\qB K H1 a xs/\R (Ite K a) H1)\/ ∃a xs,vs=[.ref a]/\k7 K H1 a xs/\R (YM K a) H1
theorem KH (hg:Gl X "enumerate") (hm:X.mg "enumerate"=none) (ha:PA X [a] ta) (hs:starEach [a] X.env=[(false,eval a X.env)]:=by rfl):PI X (.Tuple elts x1 tpos) (.Call (.Name "enumerate" p) [a] [] pos) (zS X.K ta):=by
 intro pins s σ H R I h;refine Call_ (vL I hg hm yR (jg (cL (ha pos pins s σ H _ I h) fun us s1 ⟨vs,H1,I1,r1,q1⟩=>?_) hs rfl));rcases q1 with⟨t,xs,e,hq,q⟩|⟨t,xs,e,hq,q⟩
 .subst e;obtain⟨u,rfl,rx⟩:=vals1 r1;cases rx;obtain⟨its,rv,pt,hz⟩:=I1.tuple hq;refine jE (show s1.heap.IsTuple t its.toArray from pt) fun h' he ht hsz hk=>?_
  have I2:Inv X pins σ H1 {s1 with heap:=h'}:=I1.kept (t':=s1.toks) hk;refine wpAny_pyIter_enum (s:={s1 with heap:=h'}) he ?_;refine⟨s1.heap.objs.size+1,[s1.heap.objs.size+1,s1.heap.objs.size],_,_,H1,rfl,I2,C7 t s1.heap.objs.size (s1.heap.objs.size+1) (Nat.succ_ne_self _),⟨⟨_,he⟩,ht⟩,fun b hb=>?_,q⟩;rcases bw.mp hb with r|r
  .subst r;exact I1.vM (ie _) (I1.bQ.fresh (ie _))
  .have r:b=s1.heap.objs.size:=by simpa using r
   subst r;exact I1.vM (bf _) (I1.bQ.fresh (bf _))
 .subst e;obtain⟨u,rfl,rx⟩:=vals1 r1;cases rx;obtain⟨its,rv,pt,hz⟩:=I1.list hq;refine call_enumerate_list pt.isList fun h' he ht hsz hk=>?_
  have I2:Inv X pins σ H1 {s1 with heap:=h'}:=I1.kept (t':=s1.toks) hk;refine wpAny_pyIter_enum (s:={s1 with heap:=h'}) he ?_;refine⟨s1.heap.objs.size+1,[s1.heap.objs.size+1,s1.heap.objs.size],_,_,H1,rfl,I2,EK t s1.heap.objs.size (s1.heap.objs.size+1) (Nat.succ_ne_self _),⟨⟨_,he⟩,ht⟩,fun b hb=>?_,q⟩;rcases bw.mp hb with r|r
  .subst r;exact I1.vM (ie _) (I1.bQ.fresh (ie _))
  .have r:b=s1.heap.objs.size:=by simpa using r
   subst r;exact I1.vM (bf _) (I1.bQ.fresh (bf _))
theorem y6 (K:Frag) (hg:Gl X "enumerate") (hm:X.mg "enumerate"=none) (ha:PA X [a] ta) (h:X.K=K:=by rfl) (hs:starEach [a] X.env=[(false,eval a X.env)]:=by rfl):
  PI X (.Tuple elts x1 tpos) (.Call (.Name "enumerate" p) [a] [] pos) (zS K ta):=h▸KH hg hm ha hs
end
end L2
namespace Mr
open PySem PySem.Spec L2 PyProof.Rows
variable {fa:FA} {a b:Str}
section
variable {K:Frag}
noncomputable def GA (fa:FA):FI:=fun _ e=>bE (fa e) fun bs e1=>match bs with
 |[.val (.tup ps)]=>some (ps.zipIdx.map fun z=>.tup [.int (z.2:Int),z.1],e1)
 |[.val (.lst ps)]=>some (ps.zipIdx.map fun z=>.tup [.int (z.2:Int),z.1],e1)
 |_=>none
theorem NR {ta:TA} (h:tR K ta fa):vR K (zS K ta) (GA fa):=by
 intro st O M W L σ H e e' ps R o he hf q;obtain⟨x,e1,f1,hf⟩:=aN hf;refine h O M W L σ H e e1 x _ o he f1 fun vs H1 k1 en rv=>?_
 have o1:=o.keep k1.cC;split at hf
 .rename_i ps0;cases hf;cases rv with
  | cons h r=>
   cases r;cases h with
   | tup ha ra=>
    rename_i a xs;refine .inl ⟨a,xs,rfl,ha.sq,q _ H1 k1 en fun Wr hw _=>?_⟩;intro L' H' j1 j2 j3;have st:=u7 o1 hw j1 j2 j3;have sq:qB K H' a xs:=TupAt.sq (ha.elim (fun h=>.inl (j2 _ _ h)) .inr);refine⟨fun k p hp=>?_,xs,sq,by rw[ah,ja,ra.length]⟩;rw[aq,gx]at hp;cases c:ps0[k]? with
    |none=>rw[c]at hp;cases hp
    |some p0=>
     rw[c]at hp;cases hp;obtain⟨v,hv,rv⟩:=ra.get c;refine⟨⟨xs,v,sq,hv⟩,fun x H3 y=>?_⟩;obtain⟨t,ht,rfl,y⟩:=y;obtain⟨x',hx',rfl⟩:=y xs sq;rw[hv]at hx';cases hx';refine⟨aX.upd ht,.tup (.inl aV) (.cons ?_ (.cons ((rv.aK st).aK (.same (aX.upd ht))) .nil))⟩;rw[gw];exact .int _
 .rename_i ps0;cases hf;cases rv with
  | cons h r=>
   cases r;cases h with
   | lst ha n ra=>
    rename_i a xs;refine .inr ⟨a,xs,rfl,.inl ha,q _ H1 k1 en fun Wr hw _=>?_⟩;intro L' H' j1 j2 j3;have st:=u7 o1 hw j1 j2 j3;have nw:¬Wr a:=fun z=>n ((hw _ z).elim (fun⟨i,w⟩=>.inl (o.wm i _ w)) .inr)
    have sq:k7 K H' a xs:=by
     rcases ha with h|⟨u,h⟩
     .exact .inl (.inl (j1 _ _ h nw))
     .exact .inl (.inr ⟨u,j1 _ _ h nw⟩)
    refine⟨fun k p hp=>?_,xs,sq,by rw[ah,ja,ra.length]⟩;rw[aq,gx]at hp;cases c:ps0[k]? with
    |none=>rw[c]at hp;cases hp
    |some p0=>
     rw[c]at hp;cases hp;obtain⟨v,hv,rv⟩:=ra.get c;refine⟨⟨xs,v,sq,hv⟩,fun x H3 y=>?_⟩;obtain⟨t,ht,rfl,y⟩:=y;obtain⟨x',hx',rfl⟩:=y xs sq;rw[hv]at hx';cases hx';refine⟨aX.upd ht,.tup (.inl aV) (.cons ?_ (.cons ((rv.aK st).aK (.same (aX.upd ht))) .nil))⟩;rw[gw];exact .int _
 .cases hf
theorem SK {st:Nat->Bool} {e:En}:GA fa st e=bE (fa e) fun bs e1=>match bs with
 |[.val (.tup ps)]=>some (ps.zipIdx.map fun z=>.tup [.int (z.2:Int),z.1],e1)
 |[.val (.lst ps)]=>some (ps.zipIdx.map fun z=>.tup [.int (z.2:Int),z.1],e1)
 |_=>none:=rfl
end
section
variable {K:Frag}
def CW (a b:Str):Prop:=¬b.cps.toList<a.cps.toList
theorem xM {c:Str} (h:CW a b) (h':CW b c):CW a c:=not_lt.mpr (List.le_trans (not_lt.mp h) (not_lt.mp h'))
theorem MU {a b:Str} (h:CW a b) (h':CW b a):a=b:=by
 have:=List.le_antisymm (not_lt.mp h) (not_lt.mp h');exact Str.ext' (by cases a;cases b;simp at this;exact this)
theorem tF:∀{x:Str} {r:List Str},risingS x r=true->(x::r).Pairwise CW
 |x,[],_=>List.pairwise_singleton _ _
 | x,y::r,h=>by
  have h:(!ltCps y.cps.toList x.cps.toList && risingS y r)=true:=h;rw[bz]at h;have ih:=tF h.2;have hxy:CW x y:=by
   have:=h.1;rw[ltCps_eq]at this;simpa [CW]using this
  refine gp.mpr ⟨fun z hz=>?_,ih⟩;rcases bw.mp hz with e|e
  .rw[e];exact hxy
  .exact xM hxy ((gp.mp ih).1 z e)
theorem A5 {l:List Str} (h:sortedS l=true):l.Pairwise CW:=by
 cases l with
 |nil=>exact .nil
 |cons x r=>exact tF h
theorem sT:∀{a b:List Str},a.Pairwise CW->b.Pairwise CW->a.Perm b->a=b
 |[],b,_,_,p=>(List.Perm.nil_eq p)
 |x::a,[],_,_,p=>absurd p.symm.nil_eq (by simp)
 | x::a,y::b,ha,hb,p=>by
  have hx:=(gp.mp ha).1;have hy:=(gp.mp hb).1;have e:x=y:=by
   rcases bw.mp (p.mem_iff.mp ba)with z|z
   .exact z
   .rcases bw.mp (p.mem_iff.mpr ba)with w|w
    .exact w.symm
    .exact MU (hx y w) (hy x z)
  subst e;rw[sT (gp.mp ha).2 (gp.mp hb).2 p.cons_inv]
noncomputable def leS (a b:Str):Bool:=!ltCps b.cps.toList a.cps.toList
theorem oN:leS a b=true↔CW a b:=by
 unfold leS CW;rw[ltCps_eq];simp
noncomputable def fG (ss:List Str):List Str:=ss.mergeSort leS
theorem zO (ss:List Str):(fG ss).Pairwise CW:=by
 have:=List.pairwise_mergeSort (le:=leS) (fun a b c h1 h2=>oN.mpr (xM (oN.mp h1) (oN.mp h2))) (fun a b=>by
  rw[or_eq_true,oN,oN]
  by_cases h:CW a b
  .exact .inl h
  .right;unfold CW at h⊢
   have h:=Classical.not_not.mp h;exact not_lt.mpr (List.le_of_lt h)) ss
 exact this.imp fun h=>oN.mp h
theorem qZ (ss:List Str):(fG ss).Perm ss:=List.mergeSort_perm ss leS
theorem CJ {ss out:List Str} (hp:out.Perm ss) (hs:sortedS out=true):fG ss=out:=sT (zO ss) (A5 hs) ((qZ ss).trans hp.symm)
noncomputable def zR:List PV->Option Bv
 |[.lst ps]=>bO (xX ps) fun ss=>bC (decide (ss.length<64)) (some (.new (.lst ((fG ss).map PV.str))))
 |_=>none
theorem bH.ofStrs {Z:aJ} {H:Hp}:∀(ss:List Str),bH K Z H (ss.map PV.str) (ss.map V.str)
 |[]=>.nil
 |s::ss=>.cons (.str s) (bH.ofStrs ss)
theorem OE:jG K (DX K) zR:=by
 intro Z H vs ps b Q hp h k;unfold zR at h;split at h
 .obtain⟨ss,g,h⟩:=aF h;obtain⟨c,h⟩:=aM h;cases h;obtain⟨v,rfl,hv⟩:=hp.one;obtain⟨a,ys,rfl,ha,ra⟩:=hv.wG;rw[vS g]at ra;rw[ra.strs]at ha;refine⟨a,ss,rfl,ha.sq,av c,fun l out h1 h2 hl=>?_⟩;rw[CJ h1 h2]at k;exact k _ _ (aX.upd hl) (ET hl (bH.ofStrs out))
 .cases h
end
end Mr
namespace Mr
open PySem L2
variable {Q:Bv×En->Prop} {e:En} {fg:FG} {fi:FI} {ft:FT} {ks:List Kd} {xs:List PV} {y:Str}
structure Mark {α:Type} (Q:α->Prop):Type where
def Wp {α:Type} (r:Option α) (Q:α->Prop) (u:Mark Q:=⟨⟩):Prop:=∃a,r=some a/\Q a
section
variable {α β:Type} {Q:β->Prop}
theorem acC:wJ 1 0=some 0:=by decide
theorem ab9:wJ 2 0=some 0:=by decide
theorem abT:wJ 2 1=some 1:=by decide
theorem ab0:wJ 3 0=some 0:=by decide
theorem ab1:wJ 3 1=some 1:=by decide
theorem acF:wJ 3 2=some 2:=by decide
theorem acE:wJ 4 0=some 0:=by decide
theorem acH:wJ 4 1=some 1:=by decide
theorem ab6:wJ 4 2=some 2:=by decide
theorem ab2:wJ 4 3=some 3:=by decide
theorem OI {a b c d:Nat}:(((a,b):Nat×Nat)==(c,d))=(a==c && b==d):=rfl
theorem at0 {x:α} {xs:List α}:p9 (x::xs) 0=some x:=hB (j:=0) rfl
theorem at1 {x y:α} {xs:List α}:p9 (x::y::xs) 1=some y:=hB (j:=1) rfl
theorem at2 {x y z:α} {xs:List α}:p9 (x::y::z::xs) 2=some z:=hB (j:=2) rfl
theorem at3 {x y z w:α} {xs:List α}:p9 (x::y::z::w::xs) 3=some w:=hB (j:=3) rfl
theorem lL {r:Option (α×En)} {k:α->En->Option β}:Wp (bE r k) Q↔Wp r fun z=>Wp (k z.1 z.2) Q:=by
 constructor
 .rintro⟨b,h,q⟩;obtain⟨a,e,h1,h2⟩:=aN h;exact⟨(a,e),h1,b,h2,q⟩
 .rintro⟨⟨a,e⟩,rfl,b,h2,q⟩;exact⟨b,h2,q⟩
theorem kY {r:Option α} {k:α->Option β}:Wp (bO r k) Q↔Wp r fun z=>Wp (k z) Q:=by
 constructor
 .rintro⟨b,h,q⟩;obtain⟨a,h1,h2⟩:=aF h;exact⟨a,h1,b,h2,q⟩
 .rintro⟨a,rfl,b,h2,q⟩;exact⟨b,h2,q⟩
theorem b8 {b:β}:Wp (some b) Q↔Q b:=⟨fun⟨_,h,q⟩=>by cases h;exact q,fun q=>⟨b,rfl,q⟩⟩
theorem rO:Wp (none:Option β) Q↔False:=by
 constructor
 .rintro⟨_,h,_⟩;cases h
 .exact False.elim
theorem eE {c:Bool} {k:Option β}:Wp (bC c k) Q↔c=true/\Wp k Q:=by
 constructor
 .rintro⟨b,h,q⟩;obtain⟨h1,h2⟩:=aM h;exact⟨h1,b,h2,q⟩
 .rintro⟨rfl,b,h,q⟩;exact⟨b,h,q⟩
theorem wp_seq {f g:FS} {e:En} {Q:Out->Prop}:Wp (a8 f g e) Q↔Wp (f e) fun o=>match o with| .nx e1=>Wp (g e1) Q|o=>Q o:=by
 unfold a8;cases f e with
 |none=>simp[rO]
 |some o=>
  rw[b8];cases o<;>simp[b8]
theorem QG {c:Bool} {x y:Option β}:Wp (bB c x y) Q↔((c=true->Wp x Q)/\(c=false->Wp y Q)):=by
 cases c<;>simp[bB]
theorem abS {x y:β}:bB true x y=x:=rfl
theorem acT {x y:β}:bB false x y=y:=rfl
theorem Wp.mono {r:Option β} {Q Q':β->Prop} (h:Wp r Q) (k:∀b,Q b->Q' b):Wp r Q':=let⟨b,e,q⟩:=h;⟨b,e,k b q⟩
theorem Wp.eq {r:Option β} {b:β} (h:Wp r fun x=>x=b):r=some b:=let⟨_,e,q⟩:=h;q▸e
end
theorem VA {nl:Nat} {fr:Bool} {g:FS} {ps:List PV} {Q:PV×List PV->Prop}:Wp (qJ ks nl fr g ps) Q↔Wp (g (oR ks ps++List.replicate nl none)) fun o=>Wp (WO ks fr o) Q:=by
 unfold qJ;exact kY
theorem wp_call {fr:Bool} {f:FN} {fa:FA}:Wp (a9 ks fr f fa e) Q↔Wp (fa e) fun z=>Wp (IP z.2 ks z.1) fun ps=>
  (decide ((bZ ks z.1).Nodup) && (p7 ks z.1).all fun i=>!(bZ ks z.1).contains i)=true/\Wp (f ps) fun rq=>Wp (mZ (rq.2.map fun q=>some (.own q)) (bZ ks z.1).zipIdx z.2) fun e2=>Q (resB rq.1 fr,e2):=by
 unfold a9;constructor
 .intro h;obtain⟨z,h1,h⟩:=lL.mp h;obtain⟨ps,h2,h⟩:=kY.mp h;obtain⟨g,h⟩:=eE.mp h;obtain⟨rq,h3,h⟩:=kY.mp h;obtain⟨e2,h4,h⟩:=kY.mp h;exact⟨z,h1,ps,h2,g,rq,h3,e2,h4,b8.mp h⟩
 .rintro⟨z,h1,ps,h2,g,rq,h3,e2,h4,q⟩;exact lL.mpr ⟨z,h1,kY.mpr ⟨ps,h2,eE.mpr ⟨g,kY.mpr ⟨rq,h3,kY.mpr ⟨e2,h4,b8.mpr q⟩⟩⟩⟩⟩
theorem cF {body:PV->En->Option Out} (I:Nat->En->Prop) {Q:Out->Prop} (hs:∀(i:Nat) x e,xs[i]? =some x->I i e->Wp (body x e) fun o=>match o with| .nx e1=>I (i+1) e1| .ct e1=>I (i+1) e1| .bk e1=>Q (.nx e1)| .rt b e1=>Q (.rt b e1))
  (hd:∀e,I xs.length e->Q (.nx e)) {e:En} (h0:I 0 e):Wp (o4 body xs e) Q:=by
 have key:∀(ys:List PV) (i:Nat) (e:En),i<=xs.length->xs.drop i=ys->I i e->Wp (o4 body ys e) Q:=by
  intro ys
  induction ys with
  | nil=>
   intro i e hil hy hi;unfold o4;rw[b8];have hl:xs.length<=i:=by
    have:=cw List.length hy;rw[ff]at this;simp at this;omega
   have h:i=xs.length:=by omega
   subst h;exact hd e hi
  | cons x ys ih=>
   intro i e hil hy hi;have hlt:i<xs.length:=by
    have:=cw List.length hy;rw[ff,length_cons]at this;omega
   rw[du hlt]at hy;have hx:xs[i]? =some x:=by rw[ag hlt,(List.cons.inj hy).1]
   obtain⟨o,h1,h2⟩:=hs i x e hx hi;unfold o4;rw[h1];cases o with
   |nx e1=>exact ih (i+1) e1 hlt (List.cons.inj hy).2 h2
   |ct e1=>exact ih (i+1) e1 hlt (List.cons.inj hy).2 h2
   |bk e1=>exact b8.mpr h2
   |rt b e1=>exact b8.mpr h2
 exact key xs 0 e (dj _) rfl h0
theorem gE {fe:FE} (I:Nat->List PV->En->Prop) {Q:List PV×En->Prop} {xs:List PV} (hs:∀(i:Nat) x e acc,xs[i]? =some x->I i acc e->Wp (fg x e) fun e1=>Wp (ft e1) fun z=>match z.1 with|false=>I (i+1) acc z.2|true=>Wp (fe z.2) fun w=>Wp w.1.put fun p=>I (i+1) (acc++[p]) w.2)
  (hd:∀acc e,I xs.length acc e->Q (acc,e)) {e:En} (h0:I 0 [] e):Wp (k9 fg ft fe xs e) Q:=by
 have key:∀(ys:List PV) (i:Nat) (acc:List PV) (e:En),i<=xs.length->xs.drop i=ys->I i acc e->∃rest e',k9 fg ft fe ys e=some (rest,e')/\I xs.length (acc++rest) e':=by
  intro ys
  induction ys with
  | nil=>
   intro i acc e hil hy hi;have hl:xs.length<=i:=by
    have:=cw List.length hy;rw[ff]at this;simp at this;omega
   have h:i=xs.length:=by omega
   subst h;exact⟨[],e,rfl,by rw[dq];exact hi⟩
  | cons x ys ih=>
   intro i acc e hil hy hi;have hlt:i<xs.length:=by
    have:=cw List.length hy;rw[ff,length_cons]at this;omega
   rw[du hlt]at hy;have hx:xs[i]? =some x:=by rw[ag hlt,(List.cons.inj hy).1]
   obtain⟨e1,h1,z,h2,h3⟩:=hs i x e acc hx hi;obtain⟨b,e2⟩:=z;unfold k9;rw[h1,uA,h2,B6];cases b with
   |false=>exact ih (i+1) acc e2 hlt (List.cons.inj hy).2 h3
   |true=>
    obtain⟨⟨r,e3⟩,h4,p,h5,h6⟩:=h3;dsimp only at h4 h5 h6⊢
    obtain⟨rest,e',h7,h8⟩:=ih (i+1) (acc++[p]) e3 hlt (List.cons.inj hy).2 h6;rw[h4,B6,h5,uA,h7,B6];exact⟨p::rest,e',rfl,by rw[de]at h8;exact h8⟩
 obtain⟨rest,e',h1,h2⟩:=key xs 0 [] e (dj _) rfl h0;exact⟨_,h1,hd _ _ h2⟩
theorem qU {fc:FT} {fb:FS} (I:En->Prop) (μ:En->Nat) {Q:Out->Prop} (hs:∀e,I e->Wp (fc e) fun z=>match z.1 with|false=>Q (.nx z.2)|true=>Wp (fb z.2) fun o=>match o with| .nx e1=>I e1/\μ e1<μ e| .ct e1=>I e1/\μ e1<μ e| .bk e1=>Q (.nx e1)| .rt b e1=>Q (.rt b e1)):
  ∀{n:Nat} {e:En},μ e<n->I e->Wp (mW fc fb n e) Q
 |0,e,h,_=>absurd h (Nat.not_lt_zero _)
 | n+1,e,h,hi=>by
  obtain⟨⟨b,e1⟩,h1,h2⟩:=hs e hi;unfold mW;rw[h1,B6];cases b with
  |false=>exact b8.mpr h2
  |true=>
   obtain⟨o,h3,h4⟩:=h2;dsimp only at h3⊢
   rw[h3];cases o with
   |nx e2=>exact qU I μ hs (by have:=h4.2;omega) h4.1
   |ct e2=>exact qU I μ hs (by have:=h4.2;omega) h4.1
   |bk e2=>exact b8.mpr h4
   |rt b e2=>exact b8.mpr h4
theorem NH {k:Nat} {cap:List Nat} {ms:List (Nat×Nat)} {fe:FE}:Wp (iO fi k cap ms fg ft fe e) Q↔Wp (fi (fun i=>!(ms.any fun z=>z.1==i)) e) fun z=>z.1.length<1000000/\Wp (k9 fg ft fe z.1 (tX k cap ms z.2)) fun w=>Wp (mZ w.2 ms z.2) fun e2=>Q (.new (.lst w.1),e2):=by
 unfold iO;constructor
 .intro h;obtain⟨z,h1,h⟩:=lL.mp h;obtain⟨g,h⟩:=eE.mp h;obtain⟨w,h2,h⟩:=lL.mp h;obtain⟨e2,h3,h⟩:=kY.mp h;exact⟨z,h1,av g,w,h2,e2,h3,b8.mp h⟩
 .rintro⟨z,h1,g,w,h2,e2,h3,q⟩;exact lL.mpr ⟨z,h1,eE.mpr ⟨decide_eq_true g,lL.mpr ⟨w,h2,kY.mpr ⟨e2,h3,b8.mpr q⟩⟩⟩⟩
theorem PJ {fb:FS} {Q:Out->Prop}:Wp (iS fi fg fb e) Q↔Wp (fi (fun _=>false) e) fun z=>Wp (o4 (fun x e=>bO (fg x e) fb) z.1 z.2) Q:=by
 unfold iS;rw[lL]
theorem UY:cI PV.bD (PV.str y)=false:=by simp[cI]
theorem W3 {x:Bool} {y:Bool}:cI (PV.bl x) (PV.bl y)=(x==y):=by simp[cI]
theorem WM {x:Int} {y:Int}:cI (PV.int x) (PV.int y)=(x==y):=by simp[cI]
theorem zN {x:Str}:cI (PV.str x) (PV.str y)=(x==y):=by simp[cI]
theorem UH {x:List PV} {y:List PV}:cI (PV.lst x) (PV.lst y)=dC x y:=by simp[cI]
theorem R5:dC [] []=true:=by simp[dC]
theorem RX {x:PV}:dC (x::xs) []=false:=by simp[dC]
end Mr
namespace Mr
open PySem PySem.Spec L2 PyProof.Rows
variable {fa fb:FE}
section
variable {K:Frag}
noncomputable def NP:PV->PV->Option Bv
 | .bA kvs,p=>bO (keyOf p) fun k=>some (.val ((cE kvs k).getD .bD))
 |_,_=>none
noncomputable def G0 (fa fb:FE):FE:=fun e=>bE (fa e) fun x e1=>bO (x.weak.get e1) fun p1=>match p1 with
 | .bA _=>bE (fb e1) fun y e2=>bO (x.weak.get e2) fun p=>bO (y.weak.get e2) fun q=>bO (NP p q) fun b=>some (b,e2)
 |_=>none
theorem LM {ta tb:TE} (ha:Ref K ta fa) (hb:Ref K tb fb):Ref K (LQ ta tb) (G0 fa fb):=by
 intro O M W L σ H e e' b Q o he hf q;obtain⟨x,e1,f1,hf⟩:=aN hf;obtain⟨p1,g0,hf⟩:=aF hf;cases p1 with
 | bA kvs1=>
  obtain⟨y,e2,f2,hf⟩:=aN hf;obtain⟨p,g1,hf⟩:=aF hf;obtain⟨p',g2,hf⟩:=aF hf;obtain⟨c,g3,hf⟩:=aF hf;cases hf;refine ha O M W L σ H e e1 x _ o he f1 fun v1 H1 k1 r1 fr=>?_
  have o1:=o.keep k1.cC;obtain⟨a1,ys1,e11,ha1,_,_⟩:=((r1.rv o1).red (r1.en o1) g0).tS;refine⟨a1,e11,.inl ⟨ys1,ha1⟩,?_⟩;refine hb O M W L σ H1 e1 _ y _ o1 (r1.en o1) f2 fun v2 H2 k2 r2 fr=>?_
  have o2:=o1.keep k2.cC;have en:=r2.en o2;have rp:=((r1.rv o1).keep o1 k2).red en g1;have rq:=(r2.rv o2).red en g2;cases p with
  | bA kvs=>
   obtain⟨key,g4,g3⟩:=aF g3;cases g3;obtain⟨a,ys,e3,ha',ek,r⟩:=rp.tS;rw[e11]at e3;cases e3;refine⟨dS ys key,.inl ⟨ys,key,ha',rq.key g4,rfl⟩,?_⟩;refine q _ H2 (k1.trans k2) ?_ ?_
   .refine⟨en,?_⟩;rcases dF.val key ⟨ek,r⟩with⟨h1,h2⟩|⟨p'',v',h1,h2,h3⟩
    .rw[h1,h2];exact .bD
    .rw[h1,h2];exact h3
   .trivial
  |_=>cases g3
 |_=>cases hf
theorem PQ {e:En}:G0 fa fb e=bE (fa e) fun x e1=>bO (x.weak.get e1) fun p1=>match p1 with
 | .bA _=>bE (fb e1) fun y e2=>bO (x.weak.get e2) fun p=>bO (y.weak.get e2) fun q=>bO (NP p q) fun b=>some (b,e2)
 |_=>none:=rfl
end
end Mr
namespace L2
open PySem PySem.Spec PyProof.Rows PySem.W
variable {a l:Addr} {o u:HO} {H:Hp} {kvs:List (Key×V)} {vs:List (Key×Value)} {s':Shared} {Q:Value->Shared->Prop}
section
variable {prog:Program} {w:World} {A:Around} {E:Value->Shared->Prop} {s:Shared} {T:String} {r d:Addr} {n:Nat} {Pz:Nat->Value->Prop} {OKh:Heap->Prop}
def mT (s s':Shared):Prop:=∃h' tk dr,s'={s with heap:=h',toks:=tk,drawn:=dr}/\s.heap.objs.size<=h'.objs.size/\∀b o,s.heap.get? b=some o->h'.get? b=some o
theorem mT.size {s:Shared} (g:mT s s'):s.heap.objs.size<=s'.heap.objs.size:=by
 obtain⟨h',tk,dr,rfl,k,_⟩:=g;exact k
theorem tN {Q:List Value->Shared->Prop} (K:KdlSrc prog w T r d n Pz OKh) (hh:A.handled=none) (bQ:OKh s.heap) (hn:n<=sizeLine)
  (hq:∀vs s',mT s s'->vs.length=n->(∀j v,vs[j]? =some v->Pz j v)->Q vs s'):wpAny (model prog w) A (collect (.ref r)) Q E s:=by
 have ha:=K.there _ bQ;have fin:∀(h':Heap) (tk:Nat) (acc:Array Value) (c:Nat),(∀b o,s.heap.get? b=some o->h'.get? b=some o)->
   h'.get? s.heap.objs.size=some {cls:=.type "list",dict:=none,data:=.seq acc c,slots:= #[]}->ItemsOf Pz acc n->
   wpAny (model prog w) A (match Value.ref s.heap.objs.size with
    | Value.ref a=>do
     match(<-load a).data with
      |Data.seq xs _=>pure xs.toList
      |_=>unsupported "internal:collect"
    |_=>unsupported "internal:collect") Q E {s with heap:=h',toks:=tk}:=fun h' tk acc c kp hS hacc=>by
  show wpAny _ A (load s.heap.objs.size>>=_) _ _ _;exact ae (wpAny_load hS (ax (hq _ _ ⟨h',tk,s.drawn,rfl,gq (cf hS),kp⟩ (by rw[length_toList];exact hacc.1) fun j v e=>hacc.2 j v (by rw[<-lg];exact e))))
 unfold collect;refine ae (wpAny_runValue (gy F.entry_proto_collect ?_));rw[fw F.plain_proto_collect _];refine ae (m:=newList []) (dg ?_);refine ax ⟨jb F.plain_list_iadd _,gy F.entry_list_iadd ?_⟩;rw[fw F.plain_list_iadd _];have e0:(s.heap.push {cls:=.type "list",data:=.seq ([]:List Value).toArray}).get? s.heap.objs.size=some {cls:=.type "list",data:=.seq #[] 0}:=cc _ rfl;have key:=kdl_extend (A:=A) (s:={s with heap:=s.heap.push {cls:=.type "list",data:=.seq ([]:List Value).toArray}}) (R:=fun rs s'=>∃h' tk acc c,rs= .ok (.ret (.ref s.heap.objs.size))/\s'={s with heap:=h',toks:=tk}/\(∀b o,s.heap.get? b=some o->h'.get? b=some o)/\h'.get? s.heap.objs.size=some {cls:=.type "list",dict:=none,data:=.seq acc c,slots:= #[]}/\ItemsOf Pz acc n) K hh (K.keep _ _ bQ fun b _ o e=>ao _ e) s.heap.objs.size (kg ha.1) (kg ha.2) (.ref s.heap.objs.size) 0 e0
  (fun h' tk acc c kp hS hacc=>⟨h',tk,acc,c,rfl,rfl,fun b o e=>kp b o (cm (cf e)) (ao _ e),hS,hacc⟩) hn
 refine di key (fun f s' h=>?_) fun e s' h=>?_
 .cases f with
  |done f=>
   obtain⟨h',tk,acc,c,e1,rfl,kp,hS,hacc⟩:=h;cases e1;exact fin h' tk acc c kp hS hacc
  |again c'=>
   refine⟨h.1,codeAny_mono h.2 fun rs s2 hr=>?_⟩;obtain⟨h',tk,acc,c,rfl,rfl,kp,hS,hacc⟩:=hr;exact fin h' tk acc c kp hS hacc
 .obtain⟨h',tk,acc,c,e1,_⟩:=h;cases e1
theorem IC (K:KdlSrc prog w T r d n Pz OKh) (hnt:T≠"tuple") (hh:A.handled=none) (bQ:OKh s.heap) (hn:n<=sizeLine)
  (hq:∀(vs:List Value) s1,mT s s1->vs.length=n->(∀j v,vs[j]? =some v->Pz j v)->Q (.ref s1.heap.objs.size) {s1 with heap:=s1.heap.push {cls:=.type "tuple",data:=.seq vs.toArray}}):
  wpAny (model prog w) A (call (.type "tuple") [.ref r]) Q E s:=by
 have hT:=K.type s bQ;refine callType_codes (Q₁:=fun obj s₁=>s₁.TypeIs obj "tuple"/\Q obj s₁) F.called_tuple (F.typeCall_tuple_1 _) F.entry_object_init ?_ fun obj s₁ h₁=>
  ⟨h₁.1,F.args_object_init_2 obj _,object_init_meets F.called_tuple.init.lookup F.called_tuple.made (by decide) prog w A.in1 _ s₁ ⟨h₁.1,rfl,h₁.2⟩⟩
 refine codeAny_of_tree ?_;refine ae (m:=checkBuiltinCall "tuple.__new__" ⟨[.type "tuple",.ref r],[]⟩) (wpAny_of_eq (F.newCall_tuple_1 _) (ax ⟨jb F.plain_tuple_new _,gy F.entry_tuple_new ?_⟩));rw[fw F.plain_tuple_new _];have a1:=sub_tuple_self;have a2:=init_tuple_lookup;have a3:=madeHere_tuple;have a4:(Value.type T==Value.type "tuple")=false:=K.notTuple;unfold Builtin.«tuple.__new__»;generalize hC:collect=C
 wp_walk using wpAny_typeOf hT
 subst hC;refine tN K hh bQ hn fun vs s1 g hl hv=>?_
 refine ae (ax ?_);unfold Builtin.Tuple.tupleExact;refine ae (m:=newObj (.type "tuple") (.seq vs.toArray)) (dg ?_ (by show vs.toArray.size<=sizeLine;rw[cn,hl];exact hn));exact ax ⟨⟨_,cc _ rfl,rfl⟩,hq vs s1 g hl hv⟩
theorem sG {v:Value} {R:List Str->Prop}
  (hcol:∀(E':Value->Shared->Prop) (Q':List Value->Shared->Prop),(∀vs s1 ss,mT s s1->StrsAre vs ss->R ss->Q' vs s1)->wpAny (model prog w) A.in1 (collect v) Q' E' s) (h64:∀ss,R ss->ss.length<64)
  (hq:∀(a:Addr) s2 (out:List Value) c ss ss',mT s s2->s.heap.objs.size<=a->s2.heap.get? a=some (seqObj "list" out.toArray c)->StrsAre out ss'->R ss->ss'.Perm ss->sortedS ss'=true->Q (.ref a) s2):
  wpAny (model prog w) A (call (.builtin "sorted") [v]) Q E s:=by
 refine Calls.call_function_entry kind_sorted plain_sorted entry_sorted (args_sorted1 _) ?_;unfold Builtin.«sorted»;refine ae (m:=checkCount "sorted" 1 1 _) (ax (ae (hcol _ _ fun vs s1 ss g hS hR=>?_)));have hl:vs.length<64:=by rw[hS.length];exact h64 ss hR
 refine ae (wpAny_newList ?_ (by simp only[ik];omega));have e1:(s1.heap.push (seqObj "list" vs.toArray 0)).get? s1.heap.objs.size=some (seqObj "list" vs.toArray 0):=cc _ rfl;refine ae (gf (gv slot_list_sort ⟨_,e1,rfl⟩ entry_list_sort (list_sort_treeK strKind_oneLt e1 hS.keysOf (fun v₁ v₂ rest e=>keyKind_strs (by rw[<-e];exact hS)) hl fun st' a1 a2=>⟨_,rfl,?_⟩) (args_list_sort _)));obtain⟨ss',b1,b2,b3⟩:=sorted_out_str hS a1 a2;refine ax ⟨_,rfl,?_⟩;obtain⟨c,hc⟩:=sortedHeap_at (out:=(arrOf st').map (·.2)) e1;refine hq s1.heap.objs.size _ ((arrOf st').map (·.2)).toList c ss ss' ?_ g.size (by rw[toArray_toList];exact hc) b1 hR b2 b3;obtain⟨h',tk,dr,rfl,gz,k⟩:=g;refine⟨_,tk,dr,rfl,fj gz (gq (cf hc)),fun b o e=>?_⟩;have hb:=cf (k b o e);rw[sortedHeap_old (cm hb) (by rw[size_push'];exact dv hb)];exact ao _ (k b o e)
end
section
variable {X:Cx} {pins:List (Addr×Obj)} {σ:St} {H:Hp} {s s':Shared}
theorem Inv.Y3 (I:Inv X pins σ H s) (g:mT s s'):Inv X pins σ H s':=by
 obtain⟨h',tk,dr,rfl,_,k⟩:=g;exact I.call (g':=s.gens) (d':=dr) (t':=tk) (ch:=[]) (Un.kept k) (I.bQ.kept k) I.bare fun _ z=>nomatch z
end
noncomputable def IS (v d:Addr):HO:=.ext fun h=>h.IsValuesView v d
theorem Rd.upd (h:Rd H a o) (hl:H l=none):Rd (upd H l u) a o:=by
 have ne:a≠l:=by
  rintro rfl;rcases h with h|⟨_,h⟩<;>(rw[hl]at h;cases h)
 rcases h with h|⟨x,h⟩
 .exact .inl (by rw[aU ne];exact h)
 .exact .inr ⟨x,by rw[aU ne];exact h⟩
theorem KV.vals (r:KV kvs vs):Vals (kvs.map (·.2)) (vs.map (·.2)):=by
 unfold KV at r
 induction r with
 |nil=>exact .nil
 |cons h t ih=>exact .cons h.2 ih
theorem KV.len (r:KV kvs vs):kvs.length=vs.length:=by
 have:=cw List.length r.keys;simpa using this
theorem x3.upd (h:x3 H a kvs) (hl:H l=none):x3 (upd H l u) a kvs:=let⟨ep,e⟩:=h;⟨ep,Rd.upd e hl⟩
theorem Inv.aaR {X:Cx} {pins:List (Addr×Obj)} {σ:St} {s:Shared} (I:Inv X pins σ H s) (g:mT s s') (hp:s.heap.objs.size<=a) (new:dD X.prog X.w (L2.upd H a o) s'.heap a o):Inv X pins σ (L2.upd H a o) s':=by
 obtain⟨h',tk,dr,rfl,_,k⟩:=g;exact I.call (g':=s.gens) (d':=dr) (t':=tk) (ch:=[]) (Un.laid k hp (I.bQ.fresh hp)) (I.bQ.laid k hp new) I.bare fun _ z=>nomatch z
section
variable {X:Cx}
def NC (to:TE):TE:=fun σ H Q=>to σ H fun x H1=>∃a kvs,x= .ref a/\x3 H1 a kvs/\∀v,H1 v=none->Q (.ref v) (upd H1 v (IS v a))
theorem F5 {o:Expr} {to:TE} {apos cpos:Pos} (ho:PE X o to) (hbase:attributeBase o "values" X.env (eval o X.env)=eval o X.env:=by rfl) (hline:(apos.endLine==cpos.line)=true:=by rfl):
  PE X (.Call (.Attribute o "values" apos) [] [] cpos) (NC to):=by
 intro pins s σ H Q I h;refine wpAny_Call_method0_late hbase hline (cL (ho pins s σ H _ I h) fun v s1 ⟨x,H1,I1,r1,a,kvs,ex,ha,q1⟩=>?_);subst ex;obtain rfl:v=Value.ref a:=r1;obtain⟨hz,hd,vs,rel,dd⟩:=gU I1.bQ ha;refine⟨"dict","dict.values",plainAttrs_dict,PySem.F.slot_dict_values,PySem.F.type_dict_values,dd.typeIs,dd.mapOf.noDict,gV rfl (PySem.evalArgs_none ?_)⟩;refine call_meetsIn PySem.F.slot_dict_values dd.typeIs PySem.F.entry_dict_values (PySem.F.args_dict_values_1 _) (meets_dict_values (bS X.prog X.w) a hd) ⟨⟨vs,dd⟩,?_⟩;have e0:(s1.heap.push {cls:=.type "dict_values",data:=.fields #[.ref a]}).get? s1.heap.objs.size=some {cls:=.type "dict_values",data:=.fields #[.ref a]}:=cc _ rfl;refine⟨.ref s1.heap.objs.size,_,I1.laid (t':=s1.toks) (o:=IS s1.heap.objs.size a) (fun b u e=>ao _ e) (bf _) ⟨⟨_,e0,rfl,rfl⟩,⟨_,e0⟩,fun h1 h2 ⟨u,e,c⟩ k=>⟨u,k u e,c⟩⟩,rfl,q1 _ (I1.bQ.fresh (bf _))⟩
def SR:List V->Hp->VK->Prop:=fun xs H Q=>∃v a kvs,xs=[.ref v]/\H v=some (IS v a)/\x3 H a kvs/\∀l,H l=none->Q (.ref l) (upd H l (.tup (kvs.map (·.2))))
theorem acD (hc:X.calm=true:=by rfl):cN X (.type "tuple") SR:=by
 intro pins s σ H xs us Q I r ⟨v,a,kvs,e,hv,ha,q⟩;subst e;obtain⟨u,rfl,rx⟩:=vals1 r;cases rx;obtain⟨hz,hd,vs,rel,dd⟩:=gU I.bQ ha;obtain⟨ep,dd⟩:=dd.dictAt;refine IC (kdl_values (knd:=bS X.prog X.w) (r:=v) (d:=a) (kvs:=vs) (ep:=ep)) (by decide) (by exact I.ok.hd hc) ⟨(I.bQ v _ hv).1,dd⟩ (by rw[<-rel.len];exact hz) fun ws s1 g hl hw=>?_
 have ew:=kdl_vals_eq ws hl hw;subst ew;have I1:=I.Y3 g;exact⟨.ref s1.heap.objs.size,_,I1.laid (t':=s1.toks) (o:=.tup (kvs.map (·.2))) (fun b o e=>ao _ e) (bf _) ⟨by rw[ah];exact hz,_,rel.vals,qO.new _ _⟩,rfl,q _ (I1.bQ.fresh (bf _))⟩
def TJ:List V->Hp->VK->Prop:=fun xs H Q=>∃v a kvs,xs=[.ref v]/\H v=some (IS v a)/\x3 H a kvs/\∀l,H l=none->Q (.ref l) (upd H l (.lst (kvs.map (·.2))))
theorem acM (hc:X.calm=true:=by rfl):cN X (.type "list") TJ:=by
 intro pins s σ H xs us Q I r ⟨v,a,kvs,e,hv,ha,q⟩;subst e;obtain⟨u,rfl,rx⟩:=vals1 r;cases rx;obtain⟨hz,hd,vs,rel,dd⟩:=gU I.bQ ha;obtain⟨ep,dd⟩:=dd.dictAt;refine kdl_call (kdl_values (knd:=bS X.prog X.w) (r:=v) (d:=a) (kvs:=vs) (ep:=ep)) (by exact I.ok.hd hc) ⟨(I.bQ v _ hv).1,dd⟩ (by rw[<-rel.len];exact hz) fun h' tk acc c kp hS hacc=>?_
 have ew:=kdl_vals_eq acc.toList (by rw[length_toList];exact hacc.1) fun j x e=>hacc.2 j x (by rw[<-lg];exact e)
 refine⟨.ref s.heap.objs.size,_,I.laid (t':=tk) (o:=.lst (kvs.map (·.2))) kp (bf _) ⟨by rw[ah];exact hz,_,c,rel.vals,?_⟩,rfl,q _ (I.bQ.fresh (bf _))⟩;rw[hS,<-ew,toArray_toList]
def D2:List V->Hp->VK->Prop:=fun xs H Q=>∃a kvs ss,xs=[.ref a]/\x3 H a kvs/\kvs.map (·.1)=ss.map Sum.inr/\ss.length<64/\∀l out,out.Perm ss->sortedS out=true->H l=none->Q (.ref l) (upd H l (.lst (out.map V.str)))
theorem sJ {prog:Program} {w:World}:∀{ss:List Str} {vs:List (Key×Value)} {us:List Value},vs.map (·.1)=ss.map Sum.inr->us.length=vs.length->(∀(j:Nat) v,us[j]? =some v->∃k x,vs[j]? =some (k,x)/\(bS prog w).is k v=true)->StrsAre us ss
 |[],[],[],_,_,_=>.nil
 |[],[],_::_,_,h,_=>by cases h
 |[],_::_,_,h,_,_=>by cases h
 |_::_,[],_,h,_,_=>by cases h
 |_::_,_::_,[],_,h,_=>by cases h
 | t::ss,(k,x)::vs,u::us,h,hl,hu=>by
  rw[cz,cz]at h;have h:=List.cons.inj h;have e:k=Sum.inr t:=h.1;subst e;obtain⟨k',x',e',hk⟩:=hu 0 u rfl;cases e';rcases cA (show nF (Sum.inr t) u=true from hk)with⟨i,tk,z,_⟩|⟨y,tk,z,rfl⟩
  .cases z
  .cases z;exact .cons _ tk (sJ h.2 (by simpa using hl) fun j v e=>hu (j+1) v (by simpa using e))
theorem Z2 (hc:X.calm=true:=by rfl):cN X (.builtin "sorted") D2:=by
 intro pins s σ H xs us Q I r ⟨a,kvs,ss,e,ha,hk,h64,q⟩;subst e;obtain⟨u,rfl,rx⟩:=vals1 r;cases rx;obtain⟨hz,hd,vs,rel,dd⟩:=gU I.bQ ha;obtain⟨ep,dd⟩:=dd.dictAt;rw[rel.keys]at hk;refine sG (R:=fun tt=>tt=ss) (fun E' Q' k=>?_) (fun tt e=>by rw[e];exact h64) fun l s2 out c tt tt' g hl hat h1 h2 h3 h4=>?_
 .exact tN (kdl_dict (knd:=bS X.prog X.w) (d:=a) (kvs:=vs) (ep:=ep) hd) (by exact I.ok.hd hc) dd (by rw[<-rel.len];exact hz) fun ws s1 g hl hw=>k ws s1 ss g (sJ hk hl hw) rfl
 .subst h2;exact⟨.ref l,_,I.aaR (o:=.lst (tt'.map V.str)) g hl ⟨by rw[ah,h3.length_eq];rw[ik];omega,out,c,g8 h1,hat⟩,rfl,q _ tt' h3 h4 (I.bQ.fresh hl)⟩
end
section
variable (prog:Program) (w:World)
variable {prog w}
noncomputable def iC (ks:List Str) (x:Str):List Str:=if x∈ks then ks else ks++[x]
variable {A:Around} {E:Value->Shared->Prop} {s:Shared}
end
noncomputable def cW (ss:List Str):List Str:=ss.foldl iC []
theorem gL (ss:List Str) (x:Str):cW (ss++[x])=iC (cW ss) x:=by unfold cW;rw[foldl_append];rfl
end L2
namespace Mr
open PySem PySem.Spec L2 PyProof.Rows
variable {e:En} {fa:FE} {ta:TE}
section
variable {K:Frag}
noncomputable def DV (fa:FE):FE:=fun e=>bE (fa e) fun x e1=>bO (x.weak.get e1) fun p=>match p with
 | .bA kvs=>some (.val (.tup (kvs.map (·.2))),e1)
 |_=>none
noncomputable def EU (fa:FE):FE:=fun e=>bE (fa e) fun x e1=>bO (x.weak.get e1) fun p=>match p with
 | .bA kvs=>some (.new (.lst (kvs.map (·.2))),e1)
 |_=>none
theorem IW (ha:Ref K ta fa):Ref K (YD SR (eR (NC ta) tZ)) (DV fa):=by
 intro O M W L σ H e e' b Q o he hf q;obtain⟨x,e1,f1,hf⟩:=aN hf;obtain⟨p,g0,hf⟩:=aF hf;cases p with
 |bA kvs=>
  cases hf;refine ha O M W L σ H e _ x _ o he f1 fun v1 H1 k1 r1 fr=>?_
  have o1:=o.keep k1.cC;have en:=r1.en o1;obtain⟨a,ys,rfl,hd,ek,rl⟩:=((r1.rv o1).red en g0).tS;refine⟨a,ys,rfl,hd,fun v hv=>⟨v,a,ys,rfl,aV,x3.upd hd hv,fun l hl=>?_⟩⟩;have s1:aX H1 (upd H1 v (IS v a)):=aX.upd hv;have s2:=aX.upd (o:=.tup (ys.map (·.2))) hl;refine q _ _ ((k1.trans (.same s1)).trans (.same s2)) ⟨(en.same s1).same s2,.tup (.inl aV) ((rl.aK (.same s1)).aK (.same s2))⟩ trivial
 |_=>cases hf
theorem HN (ha:Ref K ta fa):Ref K (YD TJ (eR (NC ta) tZ)) (EU fa):=by
 intro O M W L σ H e e' b Q o he hf q;obtain⟨x,e1,f1,hf⟩:=aN hf;obtain⟨p,g0,hf⟩:=aF hf;cases p with
 |bA kvs=>
  cases hf;refine ha O M W L σ H e _ x _ o he f1 fun v1 H1 k1 r1 fr=>?_
  have o1:=o.keep k1.cC;have en:=r1.en o1;obtain⟨a,ys,rfl,hd,ek,rl⟩:=((r1.rv o1).red en g0).tS;refine⟨a,ys,rfl,hd,fun v hv=>⟨v,a,ys,rfl,aV,x3.upd hd hv,fun l hl=>?_⟩⟩;have s1:aX H1 (upd H1 v (IS v a)):=aX.upd hv;have k2:=k1.trans (.same s1);have s2:=aX.upd (o:=.lst (ys.map (·.2))) hl;have rn:RN K (aT M L) _ _ (.ref l) (.new (.lst (kvs.map (·.2)))):=ET hl (rl.aK (.same s1));exact q _ _ (k2.trans (.same s2)) (rn.rb (o.keep k2.cC) (en.same s1) s2) (rn.fr k2.cC)
 |_=>cases hf
noncomputable def oY:List (Key×PV)->Option (List Str)
 |[]=>some []
 |(.inr x,_)::r=>bO (oY r) fun ss=>some (x::ss)
 |_=>none
theorem u6:∀{kvs:List (Key×PV)} {ss:List Str},oY kvs=some ss->kvs.map (·.1)=ss.map Sum.inr
 |[],ss,h=>by cases h;rfl
 |(.inr x,p)::r,ss,h=>by
  obtain⟨ss',h1,h⟩:=aF h;cases h;rw[cz,cz,u6 h1]
 |(.inl x,p)::r,ss,h=>by cases h
noncomputable def rS:List PV->Option Bv
 |[.bA kvs]=>bO (oY kvs) fun ss=>bC (decide (ss.length<64)) (some (.new (.lst ((fG ss).map PV.str))))
 |_=>none
theorem LJ:jG K D2 rS:=by
 intro Z H vs ps b Q hp h k;unfold rS at h;split at h
 .obtain⟨ss,g,h⟩:=aF h;obtain⟨c,h⟩:=aM h;cases h;obtain⟨v,rfl,hv⟩:=hp.one;obtain⟨a,ys,rfl,ha,ek,ra⟩:=hv.tS;refine⟨a,ys,ss,rfl,ha,ek.trans (u6 g),av c,fun l out h1 h2 hl=>?_⟩;rw[CJ h1 h2]at k;exact k _ _ (aX.upd hl) (ET hl (bH.ofStrs out))
 .cases h
theorem K6:DV fa e=bE (fa e) fun x e1=>bO (x.weak.get e1) fun p=>match p with
 | .bA kvs=>some (.val (.tup (kvs.map (·.2))),e1)
 |_=>none:=rfl
theorem LK:EU fa e=bE (fa e) fun x e1=>bO (x.weak.get e1) fun p=>match p with
 | .bA kvs=>some (.new (.lst (kvs.map (·.2))),e1)
 |_=>none:=rfl
end
end Mr
namespace Mr
open PySem PySem.Spec L2 PyProof.Rows PySem.W
variable {A:Around} {C:Bool->Shared->Prop} {ps:List PV} {n:Nat} {prog:Program} {s:Shared} {w:World}
noncomputable def dO (lt:PV->PV->Option Bool):List PV->List PV->Option Bool
 |[],[]=>some false
 |[],_::_=>some true
 |_::_,[]=>some false
 |x::xs,y::ys=>if cI x y=true then dO lt xs ys else lt x y
noncomputable def rA:Nat->PV->PV->Option Bool
 |_,.str a,.str b=>some (decide (a.cps.toList<b.cps.toList))
 |_,.int a,.int b=>some (decide (a<b))
 |n+1,.tup xs,.tup ys=>dO (rA n) xs ys
 |_,_,_=>none
section
variable {s:Shared}
theorem UG {lt:PV->PV->Option Bool}:∀{xs ys:List PV} {us vs:List Value} {c:Bool} {fin:Bool},bR s.heap xs us->bR s.heap ys vs->(∀x∈xs,∀y∈ys,∀u v,Lies s.heap x u->Lies s.heap y v->SeqAt.EqAt A s u v (cI x y)/\∀b,lt x y=some b->IB A s u v b)->
  fin=decide (us.length<vs.length)->dO lt xs ys=some c->B7 A s fin (us.zip vs) c:=by
 intro xs
 induction xs with
 |nil=>
  intro ys us vs c fin h1 h2 hk hf h;cases h1;cases h2<;>(cases h;rw[hf];exact .done)
 | cons x xs ih=>
  intro ys us vs c fin h1 h2 hk hf h;cases h1 with
  | cons r1 rr1=>
   cases h2 with
   |nil=>cases h;rw[hf];exact .done
   | @cons y _ ys _ r2 rr2=>
    obtain⟨he,hl⟩:=hk x ba y ba _ _ r1 r2;unfold dO at h;cases e:cI x y with
    |true=>
     rw[e]at he;rw[aj e]at h;exact .same he (ih rr1 rr2 (fun a ha b hb=>hk a (ay _ ha) b (ay _ hb)) (by rw[hf];simp) h)
    |false=>
     rw[e]at he;rw[ai (by rw[e];exact au)]at h;exact .less he (hl c h)
theorem DW:∀(n:Nat) (A:Around) {p q:PV} {v u:Value} {b:Bool},A.units+n<cLine->gX n p=true->gX n q=true->Lies s.heap p v->Lies s.heap q u->rA n p q=some b->IB A s v u b:=by
 intro n
 induction n with
 | zero=>
  intro A p q v u b hu o1 o2 h1 h2 h;cases p with
  |str x=>
   cases q with
   |str y=>cases h;cases h1;cases h2;exact fun prog w E Q q=>PySem.P.lt_str q
   |_=>cases h
  |int x=>
   cases q with
   |int y=>cases h;cases h1;cases h2;exact fun prog w E Q q=>PyProof.Rows.lt_int q
   |_=>cases h
  |_=>cases q<;>cases h
 | succ n ih=>
  intro A p q v u b hu o1 o2 h1 h2 h;cases p with
  |str x=>
   cases q with
   |str y=>cases h;cases h1;cases h2;exact fun prog w E Q q=>PySem.P.lt_str q
   |_=>cases h
  |int x=>
   cases q with
   |int y=>cases h;cases h1;cases h2;exact fun prog w E Q q=>PyProof.Rows.lt_int q
   |_=>cases h
  | tup xs=>
   cases q with
   | tup ys=>
    cases h1 with
    | tup t1 l1=>
     cases h2 with
     |tup t2 l2=>
      have hin:A.in1.units=A.units+1:=rfl;have o1:xs.all (gX n)=true:=o1;have o2:ys.all (gX n)=true:=o2;refine XC t1 t2 (by omega) ?_;simpa using UG (A:=A.in1) (s:=s) l1 l2 (fun x hx y hy u v a b=>⟨yW n A.in1 (by omega) (bg.mp o1 x hx) (bg.mp o2 y hy) a b,fun c hc=>ih A.in1 (by omega) (bg.mp o1 x hx) (bg.mp o2 y hy) a b hc⟩) rfl h
   |_=>cases h
  |_=>cases q<;>cases h
theorem LC {fin:Bool} {lt:PV->PV->Option Bool}:∀{xs ys:List PV} {us vs:List Value} {c:Bool} (i:Nat),1<=i->bR s.heap xs us->bR s.heap ys vs->
  (∀x∈xs,∀y∈ys,∀u v,Lies s.heap x u->Lies s.heap y v->SeqAt.EqAt A s u v (cI x y)/\∀b,lt x y=some b->IB A s u v b)->fin=decide (us.length<vs.length)->dO lt xs ys=some c->C c s->KatLex prog w A true fin C (us.zip vs) i s:=by
 intro xs
 induction xs with
 |nil=>
  intro ys us vs c i hi h1 h2 hk hf h hC;cases h1;cases h2<;>(cases h;exact kat_nil (by rw[hf];exact hC))
 | cons x xs ih=>
  intro ys us vs c i hi h1 h2 hk hf h hC;cases h1 with
  | cons r1 rr1=>
   cases h2 with
   |nil=>cases h;exact kat_nil (by rw[hf];exact hC)
   | @cons y _ ys _ r2 rr2=>
    obtain⟨he,hl⟩:=hk x ba y ba _ _ r1 r2;refine kat_cons (he prog w _ _ ?_);unfold dO at h;cases e:cI x y with
    |true=>
     rw[aj e]at h;exact kat_yes (ih (i+1) (by omega) rr1 rr2 (fun a ha b hb=>hk a (ay _ ha) b (ay _ hb)) (by rw[hf];simp) h hC)
    |false=>
     rw[ai (by rw[e];exact au)]at h;refine kat_no ?_;have e0:(true && i==0)=false:=by simp;omega
     rw[e0];exact kat_one _ _ (hl c h prog w _ _ hC)
noncomputable def oU (b:Bool):PV->Bool
 | .tup (.str _::_)=>b
 | .tup (.int _::_)=>!b
 |_=>false
noncomputable def X2 (b:Bool):String:=if b then "str"else "int"
theorem abH {b:Bool} {n:Nat} {vs:List Value} (hl:bR s.heap ps vs) (hu:A.units+n<cLine) (led:∀p∈ps,oU b p=true) (ok:∀p∈ps,gX (n+1) p=true)
  {i j:Nat} {c:Bool} {p q:PV} (hp:ps[i]? =some p) (hq:ps[j]? =some q) (hc:rA (n+1) p q=some c) (hC:C c s):kas_ask prog w A (tuples' (Value.type (X2 b) !=Value.type "tuple")) vs i j C s:=by
 have kt:(Value.type (X2 b) !=Value.type "tuple")=true:=by cases b<;>decide
 obtain⟨u,hu1,lu⟩:∃u,vs[i]? =some u/\Lies s.heap p u:=by
  have hlt:i<vs.length:=by rw[<-hl.length];exact(af.mp hp).1
  obtain⟨p',e,l⟩:=hl.get (ag hlt);rw[hp]at e;cases e
  exact⟨_,ag hlt,l⟩
 obtain⟨v,hv1,lv⟩:∃v,vs[j]? =some v/\Lies s.heap q v:=by
  have hlt:j<vs.length:=by rw[<-hl.length];exact(af.mp hq).1
  obtain⟨p',e,l⟩:=hl.get (ag hlt);rw[hq]at e;cases e
  exact⟨_,ag hlt,l⟩
 have l1:=led p (bh hp);have l2:=led q (bh hq);have o1:=ok p (bh hp);have o2:=ok q (bh hq);show wpAny _ _ (keyLt' _ (vs.getD i Value.none) (vs.getD j Value.none)) C _ s;rw[az,hu1,az,hv1,kt];cases lu with
 | @tup _ us xs t1 r1=>
  cases lv with
  | @tup _ vs' ys t2 r2=>
   obtain⟨oa,ga,_,na,da⟩:=t1;obtain⟨ob,gb,_,nb,db⟩:=t2;refine kat_lt ga da gb db ?_;have o1:xs.all (gX n)=true:=o1;have o2:ys.all (gX n)=true:=o2;have key:∀x∈xs,∀y∈ys,∀u v,Lies s.heap x u->Lies s.heap y v->SeqAt.EqAt A s u v (cI x y)/\∀b,rA n x y=some b->IB A s u v b:=fun x hx y hy u v a b=>
    ⟨yW n A hu (bg.mp o1 x hx) (bg.mp o2 y hy) a b,fun c hc=>DW n A hu (bg.mp o1 x hx) (bg.mp o2 y hy) a b hc⟩
   have hc:dO (rA n) xs ys=some c:=hc;cases r1 with
   |nil=>cases l1
   | @cons x u0 xs us a1 a2=>
    cases r2 with
    |nil=>cases l2
    | @cons y v0 ys vs' b1 b2=>
     obtain⟨he,_⟩:=key x ba y ba _ _ a1 b1;refine kat_cons (he prog w _ _ ?_);unfold dO at hc;cases e:cI x y with
     |true=>
      rw[aj e]at hc;exact kat_yes (LC 1 (bf _) a2 b2 (fun a ha b hb=>key a (ay _ ha) b (ay _ hb)) (by simp) hc hC)
     | false=>
      rw[ai (by rw[e];exact au)]at hc;refine kat_no ?_;cases x with
      | str x=>
       cases y with
       |str y=>
        have hc:some (decide (x.cps.toList<y.cps.toList))=some c:=by cases n<;>exact hc
        cases hc;cases a1;cases b1;exact oneLt_str hC
       |int y=>cases b<;>cases l1<;>cases l2
       |_=>cases l2
      | int x=>
       cases y with
       |int y=>
        have hc:some (decide (x<y))=some c:=by cases n<;>exact hc
        cases hc;cases a1;cases b1;exact oneLt_int hC
       |str y=>cases b<;>cases l1<;>cases l2
       |_=>cases l2
      |_=>cases l1
  |_=>cases l2
 |_=>cases l1
end
noncomputable def o8:Nat->PV->Bool
 |_,.bD=>true
 |_,.int _=>true
 |_,.str _=>true
 |n+1,.tup ps=>ps.all (o8 n)
 |_,_=>false
theorem zL:∀{n:Nat} {p:PV},o8 n p=true->gX n p=true:=by
 intro n
 induction n with
 |zero=>intro p h;cases p<;>first|rfl|cases h
 |succ n ih=>
  intro p h;cases p with
  |tup ps=>exact bg.mpr fun x hx=>ih (bg.mp h x hx)
  |lst ps=>cases h
  |bA ps=>cases h
  |ty x=>cases h
  |bl x=>cases h
  |_=>rfl
theorem HB (ih:∀{p q:PV},o8 n p=true->o8 n q=true->cI p q=true->p=q):∀{xs ys:List PV},xs.all (o8 n)=true->ys.all (o8 n)=true->dC xs ys=true->xs=ys
 |[],[],_,_,_=>rfl
 |[],_::_,_,_,h=>by simp[dC]at h
 |_::_,[],_,_,h=>by simp[dC]at h
 |x::xs,y::ys,h1,h2,h=>by
  simp only[dC,bz]at h;rw[all_cons,bz]at h1 h2;rw[ih h1.1 h2.1 h.1,HB ih h1.2 h2.2 h.2]
theorem EH:∀{n:Nat} {p q:PV},o8 n p=true->o8 n q=true->cI p q=true->p=q:=by
 intro n
 induction n with
 |zero=>
  intro p q h1 h2 h;cases p<;>cases q<;>first|rfl|(cases h1;done)|(cases h2;done)|(simp[cI]at h;try subst h;try rfl)
 | succ n ih=>
  intro p q h1 h2 h;cases p with
  |tup xs=>
   cases q with
   |tup ys=>rw[oQ]at h;rw[HB ih h1 h2 h]
   |_=>simp[cI]at h
  |lst xs=>cases h1
  |bA xs=>cases h1
  |ty xs=>cases h1
  |bl xs=>cases h1
  |bD=>cases q<;>first|rfl|(simp[cI]at h)
  |int i=>cases q<;>first|(cases h2;done)|(simp[cI]at h;try subst h;try rfl)
  |str i=>cases q<;>first|(cases h2;done)|(simp[cI]at h;try subst h;try rfl)
theorem xZ (ih:∀{p:PV},o8 n p=true->cI p p=true):∀{xs:List PV},xs.all (o8 n)=true->dC xs xs=true
 |[],_=>by simp[dC]
 |x::xs,h=>by
  rw[all_cons,bz]at h;simp only[dC,bz];exact⟨ih h.1,xZ ih h.2⟩
theorem BJ:∀{n:Nat} {p:PV},o8 n p=true->cI p p=true:=by
 intro n
 induction n with
 |zero=>intro p h;cases p<;>first|(simp[cI];done)|cases h
 |succ n ih=>
  intro p h;cases p with
  |tup xs=>rw[oQ];exact xZ ih h
  |lst xs=>cases h
  |bA xs=>cases h
  |ty xs=>cases h
  |bl xs=>cases h
  |_=>simp[cI]
noncomputable def code:Nat->PV->List Int
 |_,.str x=>x.cps.toList.map (fun c:Nat=>(c:Int)+1)++[0]
 |_,.int i=>[i]
 |n+1,.tup xs=>xs.flatMap (fun x=>1::code n x)++[0]
 |_,_=>[0]
noncomputable abbrev fY:List Int->List Int->Bool:=lF EE
theorem yX (a r r':List Int):fY (a++r) (a++r')=fY r r':=by
 induction a with
 |nil=>rfl
 |cons x a ih=>
  show gF EE x x (fY (a++r) (a++r'))=_;exact(gH (A:=EE) (a:=x)).trans ih
theorem dY {x y:Int} {r r':List Int}:fY (x::r) (y::r')=if x=y then fY r r' else decide (x<y):=by
 show gF EE x y (fY r r')=_;rcases fK (A:=EE) x y with⟨a,b⟩|⟨a,b⟩|a
 .rw[eC a];have a:=av a;rw[ai (by omega),decide_eq_true a]
 .rw[kZ a];have a:=av a;rw[ai (by omega),decide_eq_false (by omega)]
 .subst a;rw[aj rfl];exact gH (A:=EE) (a:=x)
theorem yU:∀(a b:List Nat) (r r':List Int),fY ((a.map fun c:Nat=>(c:Int)+1)++[0]++r) ((b.map fun c:Nat=>(c:Int)+1)++[0]++r')=if a=b then fY r r' else decide (a<b)
 |[],[],r,r'=>by
  rw[aj rfl];exact yX [0] r r'
 |[],y::b,r,r'=>by
  rw[ai (by simp)];show fY (0::r) (((y:Int)+1)::_)=_;rw[dY,ai (by omega),decide_eq_true (by omega)];exact(decide_eq_true (by simp)).symm
 |x::a,[],r,r'=>by
  rw[ai (by simp)];show fY (((x:Int)+1)::_) (0::r')=_;rw[dY,ai (by omega),decide_eq_false (by omega)];exact(decide_eq_false (by simp)).symm
 | x::a,y::b,r,r'=>by
  show fY (((x:Int)+1)::((a.map fun c:Nat=>(c:Int)+1)++[0]++r)) (((y:Int)+1)::((b.map fun c:Nat=>(c:Int)+1)++[0]++r'))=_;rw[dY,yU a b r r']
  by_cases e:x=y
  .subst e;rw[aj rfl]
   by_cases e2:a=b
   .subst e2;rw[aj rfl,aj rfl]
   .rw[ai e2,ai (by simpa using e2)];congr 1;simp[List.cons_lt_cons_iff]
  .rw[ai (by omega),ai (by intro z;exact e (List.cons.inj z).1)]
   by_cases h:x<y
   .rw[decide_eq_true (show(x:Int)+1<y+1 by omega)];exact(decide_eq_true (List.cons_lt_cons_iff.mpr (.inl h))).symm
   .rw[decide_eq_false (show¬(x:Int)+1<y+1 by omega)];refine(decide_eq_false fun z=>?_).symm;rcases List.cons_lt_cons_iff.mp z with z|z
    .exact h z
    .exact e z.1
theorem B3 (ih:∀{p q:PV} {b:Bool} (r r':List Int),o8 n p=true->o8 n q=true->rA n p q=some b->fY (code n p++r) (code n q++r')=if cI p q=true then fY r r' else b):
  ∀{xs ys:List PV} {b:Bool} (r r':List Int),xs.all (o8 n)=true->ys.all (o8 n)=true->dO (rA n) xs ys=some b->
   fY (xs.flatMap (fun x=>1::code n x)++[0]++r) (ys.flatMap (fun x=>1::code n x)++[0]++r')=if dC xs ys=true then fY r r' else b
 |[],[],b,r,r',_,_,h=>by
  rw[aj (by simp[dC])];exact yX [0] r r'
 |[],y::ys,b,r,r',_,_,h=>by
  cases h;rw[ai (by simp[dC])];show fY (0::r) (1::_)=_;rw[dY];rfl
 |x::xs,[],b,r,r',_,_,h=>by
  cases h;rw[ai (by simp[dC])];show fY (1::_) (0::r')=_;rw[dY];rfl
 | x::xs,y::ys,b,r,r',h1,h2,h=>by
  rw[all_cons,bz]at h1 h2;have e1:∀(z:PV) (zs:List PV) (w:List Int),(z::zs).flatMap (fun x=>1::code n x)++[0]++w=1::(code n z++(zs.flatMap (fun x=>1::code n x)++[0]++w)):=fun z zs w=>by simp
  rw[e1,e1,dY,aj rfl];unfold dO at h;cases e:cI x y with
  |true=>
   rw[aj e]at h;have exy:=EH h1.1 h2.1 e;subst exy;rw[yX,B3 ih r r' h1.2 h2.2 h];simp only[dC,e,Bool.true_and]
  |false=>
   rw[ai (by rw[e];exact au)]at h;rw[ih _ _ h1.1 h2.1 h,ai (by rw[e];exact au),ai (by simp[dC,e])]
theorem SN:∀{n:Nat} {p q:PV} {b:Bool} (r r':List Int),o8 n p=true->o8 n q=true->rA n p q=some b->fY (code n p++r) (code n q++r')=if cI p q=true then fY r r' else b:=by
 have str:∀{n:Nat} {x y:Str} {b:Bool} (r r':List Int),rA n (.str x) (.str y)=some b->fY (code n (.str x)++r) (code n (.str y)++r')=if cI (.str x) (.str y)=true then fY r r' else b:=fun{n x y b} r r' h=>by
  have h:some (decide (x.cps.toList<y.cps.toList))=some b:=by cases n<;>exact h
  cases h;have e1:∀z:Str,code n (.str z)=z.cps.toList.map (fun c:Nat=>(c:Int)+1)++[0]:=fun z=>by cases n<;>rfl
  rw[e1,e1,yU]
  by_cases e:x=y
  .subst e;rw[aj rfl,aj (by simp[cI])]
  .rw[ai (fun z=>e (E3 z)),ai (by simpa [cI]using e)]
 have int:∀{n:Nat} {x y:Int} {b:Bool} (r r':List Int),rA n (.int x) (.int y)=some b->fY (code n (.int x)++r) (code n (.int y)++r')=if cI (.int x) (.int y)=true then fY r r' else b:=fun{n x y b} r r' h=>by
  have h:some (decide (x<y))=some b:=by cases n<;>exact h
  cases h;have e1:∀z:Int,code n (.int z)=[z]:=fun z=>by cases n<;>rfl
  rw[e1,e1];show fY (x::r) (y::r')=_;rw[dY]
  by_cases e:x=y
  .subst e;rw[aj rfl,aj (by simp[cI])]
  .rw[ai e,ai (by simpa [cI]using e)]
 intro n
 induction n with
 | zero=>
  intro p q b r r' h1 h2 h;cases p with
  |str x=>cases q with
   |str y=>exact str r r' h
   |_=>cases h
  |int x=>cases q with
   |int y=>exact int r r' h
   |_=>cases h
  |_=>cases q<;>cases h
 | succ n ih=>
  intro p q b r r' h1 h2 h;cases p with
  |str x=>cases q with
   |str y=>exact str r r' h
   |_=>cases h
  |int x=>cases q with
   |int y=>exact int r r' h
   |_=>cases h
  | tup xs=>cases q with
   |tup ys=>
    rw[oQ];exact B3 ih r r' h1 h2 h
   |_=>cases h
  |_=>cases q<;>cases h
theorem FP (ih:∀{p q:PV},rA n p q=some false->rA n q p=some false->cI p q=true) (sym:∀p q:PV,cI p q=cI q p):∀{xs ys:List PV},dO (rA n) xs ys=some false->dO (rA n) ys xs=some false->dC xs ys=true
 |[],[],_,_=>by simp[dC]
 |[],_::_,h,_=>by cases h
 |_::_,[],_,h=>by cases h
 | x::xs,y::ys,h,h'=>by
  unfold dO at h h';rw[sym y x]at h';cases e:cI x y with
  |true=>
   rw[aj e]at h h';simp only[dC,e,Bool.true_and];exact FP ih sym h h'
  |false=>
   rw[ai (by rw[e];exact au)]at h h';rw[ih h h']at e;cases e
mutual
theorem FR:∀p q:PV,cI p q=cI q p
 | .bD,q=>by cases q<;>simp[cI]
 | .bl a,q=>by cases q<;>simp only[cI]<;>(rw[Bool.eq_iff_iff,dm,dm];exact eq_comm)
 | .int a,q=>by cases q<;>simp only[cI]<;>(rw[Bool.eq_iff_iff,dm,dm];exact eq_comm)
 | .str a,q=>by cases q<;>simp only[cI]<;>(rw[Bool.eq_iff_iff,dm,dm];exact eq_comm)
 | .ty a,q=>by cases q<;>simp[cI]
 | .bA a,q=>by cases q<;>simp[cI]
 | .tup xs,q=>by
  cases q with
  |tup ys=>simp only[cI];exact u9 xs ys
  |_=>simp[cI]
 | .lst xs,q=>by
  cases q with
  |lst ys=>simp only[cI];exact u9 xs ys
  |_=>simp[cI]
theorem u9:∀xs ys:List PV,dC xs ys=dC ys xs
 |[],ys=>by cases ys<;>simp[dC]
 |x::xs,[]=>by simp[dC]
 |x::xs,y::ys=>by simp only[dC];rw[FR x y,u9 xs ys]
end
theorem tri:∀{n:Nat} {p q:PV},rA n p q=some false->rA n q p=some false->cI p q=true:=by
 have str:∀{x y:Str},¬x.cps.toList<y.cps.toList->¬y.cps.toList<x.cps.toList->cI (.str x) (.str y)=true:=fun h h'=>by
  have e:=List.le_antisymm (not_lt.mp h') (not_lt.mp h);rw[E3 e];simp[cI]
 have int:∀{x y:Int},¬x<y->¬y<x->cI (.int x) (.int y)=true:=fun h h'=>by
  have e:_=_:=Int.le_antisymm (Int.not_lt.mp h') (Int.not_lt.mp h);rw[e];simp[cI]
 intro n
 induction n with
 | zero=>
  intro p q h h';cases p with
  |str x=>cases q with
   |str y=>exact str (fu (Option.some.inj h)) (fu (Option.some.inj h'))
   |_=>cases h
  |int x=>cases q with
   |int y=>exact int (fu (Option.some.inj h)) (fu (Option.some.inj h'))
   |_=>cases h
  |_=>cases q<;>cases h
 | succ n ih=>
  intro p q h h';cases p with
  |str x=>cases q with
   |str y=>exact str (fu (Option.some.inj h)) (fu (Option.some.inj h'))
   |_=>cases h
  |int x=>cases q with
   |int y=>exact int (fu (Option.some.inj h)) (fu (Option.some.inj h'))
   |_=>cases h
  |tup xs=>cases q with
   |tup ys=>rw[oQ];exact FP ih FR h h'
   |_=>cases h
  |_=>cases q<;>cases h
noncomputable def dA (n:Nat) (ps:List PV):Bool:=ps.all fun p=>o8 n p && ps.all fun q=>(rA n p q).isSome
noncomputable abbrev rT:KeyOrd:=ZZ EE
noncomputable def oH (n:Nat) (a b:PV):Bool:=!fY (code n b) (code n a)
noncomputable def tH (n:Nat) (ps:List PV):List PV:=ps.mergeSort (oH n)
theorem rY (a b c:PV) (h1:oH n a b=true) (h2:oH n b c=true):oH n a c=true:=by
 unfold oH at*;rw[not_eq_true']at*;exact km (O:=rT) h1 h2
theorem sA {n:Nat} (a b:PV):(oH n a b||oH n b a)=true:=by
 unfold oH;rcases fK (A:=rT) (code n a) (code n b)with⟨x,y⟩|⟨x,y⟩|x
 .rw[show fY (code n b) (code n a)=false from y];rfl
 .rw[show fY (code n a) (code n b)=false from y];simp
 .rw[x,show fY (code n b) (code n b)=false from rT.irrefl _];rfl
theorem dJ (n:Nat) (ps:List PV):(tH n ps).Perm ps:=List.mergeSort_perm ps (oH n)
theorem l9 (n:Nat) (ps:List PV):(tH n ps).Pairwise fun a b=>oH n a b=true:=List.pairwise_mergeSort rY sA ps
theorem nY:∀{a b:List PV},a.Pairwise (fun x y=>oH n x y=true)->b.Pairwise (fun x y=>oH n x y=true)->a.Perm b->(∀x∈a,∀y∈a,oH n x y=true->oH n y x=true->x=y)->a=b
 |[],b,_,_,p,_=>List.Perm.nil_eq p
 |x::a,[],_,_,p,_=>absurd p.symm.nil_eq (by simp)
 | x::a,y::b,ha,hb,p,an=>by
  have hx:=(gp.mp ha).1;have hy:=(gp.mp hb).1;have e:x=y:=by
   rcases bw.mp (p.mem_iff.mp ba)with z|z
   .exact z
   .rcases bw.mp (p.mem_iff.mpr ba)with w|w
    .exact w.symm
    .exact an x ba y (ay _ w) (hx y w) (hy x z)
  subst e;rw[nY (gp.mp ha).2 (gp.mp hb).2 p.cons_inv fun u hu v hv=>an u (ay _ hu) v (ay _ hv)]
theorem qP (h:dA n ps=true) {p q:PV} (hp:p∈ps) (hq:q∈ps):rA n p q=some (fY (code n p) (code n q)):=by
 have a:=bg.mp h p hp;have b:=bg.mp h q hq;rw[bz]at a b;have c:=bg.mp a.2 q hq;obtain⟨v,e⟩:=jr.mp c;have c':=bg.mp b.2 p hp;obtain⟨v',e'⟩:=jr.mp c';have k:=SN [] [] a.1 b.1 e;rw[dq,dq]at k;rw[e,k];cases z:cI p q with
 |false=>rw[ai au]
 | true=>
  rw[aj rfl];have epq:=EH a.1 b.1 z;subst epq;rw[e]at e';cases e';show some v=some false;have irr:∀{m:Nat} {p:PV} {v:Bool},o8 m p=true->rA m p p=some v->v=false:=by
   intro m p v hp h;cases v with
   |false=>rfl
   | true=>
    exfalso;cases m with
    |zero=>
     cases p with
     |str x=>exact absurd (av (Option.some.inj h)) (List.lt_irrefl _)
     |int x=>exact absurd (av (Option.some.inj h)) (by omega)
     |_=>cases h
    | succ m=>
     cases p with
     |str x=>exact absurd (av (Option.some.inj h)) (List.lt_irrefl _)
     |int x=>exact absurd (av (Option.some.inj h)) (by omega)
     | tup xs=>
      have key:∀{l:List PV},l.all (o8 m)=true->dO (rA m) l l=some false:=by
       intro l
       induction l with
       |nil=>intro _;rfl
       |cons x l ih=>
        intro hl;rw[all_cons,bz]at hl;unfold dO;rw[aj (BJ hl.1)];exact ih hl.2
      have:=key (show xs.all (o8 m)=true from hp);rw[show dO (rA m) xs xs=some true from h]at this;cases this
     |_=>cases h
  rw[irr a.1 e]
theorem vZ (h:dA n ps=true) {p q:PV} (hp:p∈ps) (hq:q∈ps) (h1:oH n p q=true) (h2:oH n q p=true):p=q:=by
 have a:=bg.mp h p hp;have b:=bg.mp h q hq;rw[bz]at a b;unfold oH at h1 h2;rw[not_eq_true']at h1 h2;refine EH a.1 b.1 (tri (n:=n) ?_ ?_)
 .rw[qP h hp hq,h2]
 .rw[qP h hq hp,h1]
section
variable {X:Cx} {k:Nat}
def D1 (K:Frag):List V->Hp->VK->Prop:=fun xs H Q=>∃p ys ps b,xs=[.ref p]/\k7 K H p ys/\bH K cT H ps ys/\ys.length<128/\(∀x∈ps,oU b x=true)/\dA 3 ps=true/\
 ∀l (ix:List Nat),ix.Perm (List.range ps.length)->(ix.map fun i=>ps.getD i .bD).Pairwise (fun a b=>oH 3 a b=true)->H l=none->Q (.ref l) (upd H l (.lst (ix.map fun i=>ys.getD i .bD)))
theorem w9 {b:Bool}:∀{ps:List PV} {vs:List Value},bR s.heap ps vs->(∀x∈ps,oU b x=true)->∃fs,KatTups s.heap vs fs/\fs.length=vs.length/\∀v∈fs,(∃x t,b=true/\v= .str x t)\/ ∃x t,b=false/\v= .int x t
 |[],_,.nil,_=>⟨[],.nil,rfl,fun _ h=>nomatch h⟩
 | p::ps,_,.cons l r,h=>by
  obtain⟨fs,h1,h2,h3⟩:=w9 r fun z hz=>h z (ay _ hz)
  have hp:=h p ba;cases l with
  | tup t1 r1=>
   obtain⟨o,g1,g2,m,g3⟩:=t1;cases r1 with
   |nil=>cases hp
   | cons a1 a2=>
    cases a1 with
    |str x t=>
     refine⟨.str x t::fs,.cons g1 g2 g3 (by simp) h1,by rw[length_cons,length_cons,h2],fun v hv=>?_⟩;rcases bw.mp hv with e|e
     .exact .inl ⟨x,t,hp,e⟩
     .exact h3 v e
    |int x t=>
     refine⟨.int x t::fs,.cons g1 g2 g3 (by simp) h1,by rw[length_cons,length_cons,h2],fun v hv=>?_⟩;rcases bw.mp hv with e|e
     .exact .inr ⟨x,t,by simpa [oU]using hp,e⟩
     .exact h3 v e
    |_=>cases hp
  |_=>cases hp
theorem LV {P:Program} {b:Bool} {vs:List Value} (hL:bR s.heap ps vs) (hu:A.units+2<cLine) (led:∀x∈ps,oU b x=true) (ok:∀x∈ps,gX 3 x=true) (cmp:dA 3 ps=true) (h2:2<=vs.length):
  zI P w A vs (fun p=>DH rT (fun i=>code 3 (ps.getD i .bD)) p vs.length) s:=by
 have hl:=hL.length;obtain⟨fs,k1,k2,k3⟩:=w9 hL led;refine⟨tuples' (Value.type (X2 b) !=Value.type "tuple"),rT,fun i=>code 3 (ps.getD i .bD),fun Q E q=>kat_kind k1 (by omega) (fun v hv=>?_) (by cases b<;>decide) q,fun i j C hi hj hC=>?_,fun p _ h=>h⟩
 .rcases k3 v hv with⟨x,t,rfl,rfl⟩|⟨x,t,rfl,rfl⟩
  .exact Looks.of_pure rfl
  .exact Looks.of_pure rfl
 .have e1:ps[i]? =some ps[i]:=ag (by omega);have e2:ps[j]? =some ps[j]:=ag (by omega);refine abH (n:=2) hL hu led ok e1 e2 (qP cmp (je _) (je _)) ?_;have hC:C (rT.blt (code 3 (ps.getD i .bD)) (code 3 (ps.getD j .bD))) _:=hC;rw[az,e1,az,e2]at hC;exact hC
theorem SV {p:Array Nat} {m:Nat} (h:DH rT (fun i=>code 3 (ps.getD i .bD)) p m) (hm:p.toList.length=m):(p.toList.map fun i=>ps.getD i .bD).Pairwise (fun a b=>oH 3 a b=true):=by
 rw[ip];intro i j hi hj hij;rw[ah]at hi hj;have h:=h i j (by omega) (by omega);rw[getElem_map,getElem_map];have ky:∀(i:Nat) (hi:i<p.toList.length),Ky rT (fun i=>code 3 (ps.getD i .bD)) p i=code 3 (ps.getD p.toList[i] .bD):=fun i hi=>by
  unfold Ky;rw[jm,<-lg,ag hi];rfl
 rw[ky i hi,ky j hj]at h;show(!fY _ _)=true;rw[not_eq_true'];exact h
theorem UO (K:Frag) (hr:dG k X.A) (hK:X.K=K:=by rfl):cN X (.builtin "sorted") (D1 K):=by
 subst hK;intro pins s σ H xs us Q I r ⟨p,ys,ps,b,e,hq,rp,h64,led,cmp,q⟩;subst e;obtain⟨u,rfl,rx⟩:=vals1 r;cases rx;obtain⟨vs,rv,pl,hz⟩:=I.list hq;have hlen:=rv.length;have hpl:=rp.length;have ok:∀x∈ps,gX 3 x=true:=fun x hx=>by
  have:=bg.mp cmp x hx;rw[bz]at this;exact zL this.1
 refine CT (R:=fun p=>DH rT (fun i=>code 3 (ps.getD i .bD)) p vs.length) pl.isList (by omega) (fun l2 h' kp=>?_) (fun h2 i j a b=>?_) fun out p h1 h2 h3=>?_
 .have I':=I.kept (t':=s.toks) kp;have hL:bR h' ps vs:=bH.lies I' (n:=3) (bg.mpr ok) rp rv;exact LV (s:={s with heap:=h'}) hL (by have:=hr.un;show X.A.units+1+1+2<_;omega) led ok cmp l2
 .rw[show i=j by omega];exact gu _
 .have hp:p.toList.Perm (List.range vs.length):=by simpa using jw.mp h1
  have hlt:∀i∈p.toList,i<vs.length:=fun i hi=>jy.mp (hp.mem_iff.mp hi)
  have z2:=uP rv p.toList hlt;rw[<-h3]at z2;have hpz:p.toList.length=vs.length:=by rw[hp.length_eq,cu]
  obtain⟨c,hat⟩:=sortedAll_at s.heap vs out;refine⟨.ref (s.heap.objs.size+1),_,I.laid (t':=s.toks) (o:=.lst (p.toList.map fun i=>ys.getD i .bD)) (fun b o e=>sortedAll_old e) (ie _) ⟨by rw[ah,hpz,<-hlen];exact hz,out.toList,c,z2,hat⟩,rfl,q _ _ (by rw[hpl,hlen];exact hp) (SV h2 hpz) (I.bQ.fresh (ie _))⟩
end
section
variable {K:Frag}
noncomputable def yO:List PV->Option Bv
 |[.lst ps]=>bC (decide (ps.length<128) && ((ps.all (oU true)||ps.all (oU false)) && dA 3 ps)) (some (.new (.lst (tH 3 ps))))
 |_=>none
theorem yC {Z:aJ} {H:Hp} {ys:List V} (r:bH K Z H ps ys):∀{ix:List Nat},(∀i∈ix,i<ps.length)->bH K Z H (ix.map fun i=>ps.getD i .bD) (ix.map fun i=>ys.getD i .bD)
 |[],_=>.nil
 |i::ix,h=>by
  have hi:=h i ba;have e:=ag hi;obtain⟨v,ev,rv⟩:=r.get e;refine .cons ?_ (yC r fun j hj=>h j (ay _ hj));dsimp only;rw[az,az,e,ev];exact rv
theorem MH:jG K (D1 K) yO:=by
 intro Z H vs qs b Q hp h kk;unfold yO at h;split at h
 .rename_i ps;obtain⟨c,h⟩:=aM h;cases h;rw[bz,bz]at c;obtain⟨c1,c2,c3⟩:=c;obtain⟨v,rfl,hv⟩:=hp.one;obtain⟨a,ys,rfl,ha,ra⟩:=hv.wG;have led:∃b,∀x∈ps,oU b x=true:=by
   rcases Bool.or_eq_true_iff.mp c2 with z|z
   .exact⟨true,fun x hx=>bg.mp z x hx⟩
   .exact⟨false,fun x hx=>bg.mp z x hx⟩
  obtain⟨b,led⟩:=led;refine⟨a,ys,ps,b,rfl,ha.sq,ra.aK (.less fun _ z=>z.elim),by rw[<-ra.length];exact av c1,led,c3,fun l ix h1 h2 hl=>?_⟩;have hix:∀i∈ix,i<ps.length:=fun i hi=>jy.mp (h1.mem_iff.mp hi)
  have pm:(ix.map fun i=>ps.getD i .bD).Perm ps:=by
   have:=h1.map fun i=>ps.getD i PV.bD
   have e:(List.range ps.length).map (fun i=>ps.getD i PV.bD)=ps:=by
    apply ext_getElem
    .simp
    .intro i a1 a2;simp[ag a2]
   rw[e]at this;exact this
  have es:tH 3 ps=ix.map fun i=>ps.getD i .bD:=
   nY (l9 3 ps) h2 ((dJ 3 ps).trans pm.symm) fun x hx y hy=>vZ c3 ((dJ 3 ps).mem_iff.mp hx) ((dJ 3 ps).mem_iff.mp hy)
  rw[es]at kk;exact kk _ _ (aX.upd hl) (ET hl (yC ra hix))
 .cases h
end
end Mr
namespace Mr
open PySem PySem.Spec L2 PyProof.Rows
variable {X:Cx} {e:En} {fa:FA} {ta:TA}
section
variable {K:Frag}
def LZ (K:Frag):List V->Hp->VK->Prop:=fun xs H Q=>DX K xs H Q\/ (D2 xs H Q\/ D1 K xs H Q)
theorem J8 {k:Nat} (K:Frag) (hr:dG k X.A) (hK:X.K=K:=by rfl) (hc:X.calm=true:=by rfl):cN X (.builtin "sorted") (LZ K):=cN.or (JA K hK) (cN.or (Z2 hc) (UO K hr hK))
noncomputable def kA:List PV->Option Bv:=fun p=>(zR p).or ((rS p).or (yO p))
theorem CQ:jG K (LZ K) kA:=jG.or OE (jG.or LJ MH)
end
section
variable {K:Frag}
noncomputable def mulC (i j:Int):Bool:=decide (Builtin.Int.intTooBig (Builtin.Int.intBits i+Builtin.Int.intBits j)=false)
theorem y4:jD X (binaryOp .Mult) (rI IntMulOk fun i j=>.int (i*j)):=Z5 fun _ _ _ _ _ _ _ hc q=>mul_int q hc
noncomputable def tE:PV->PV->Option Bv:=gI mulC fun i j=>.int (i*j)
theorem E7:dB K (rI IntMulOk fun i j=>.int (i*j)) tE:=NB (fun i j h=>by
 have h:=av h;unfold IntMulOk;rw[h,Bool.and_false];exact au) fun _ _ _ _=>.int _
end
section
variable {K:Frag}
noncomputable def inR (k:Int):Bool:= @decide (-1000000000<=k/\k<1000000000) (Classical.propDecidable _)
theorem fQ {k:Int} (h0: -1000000000<=k) (h1:k<1000000000):inR k=true:= @decide_eq_true _ (Classical.propDecidable _) ⟨h0,h1⟩
noncomputable def qL (fa:FA):FI:=fun _ e=>bE (fa e) fun bs e1=>match bs with
 |[.val (.int j)]=>bC (inR j) (some ((List.range j.toNat).map (fun k:Nat=>.int (0+(k:Int))),e1))
 |_=>none
theorem RP (h:tR K ta fa):vR K (S8 ta) (qL fa):=by
 intro st O M W L σ H e e' ps R o he hf q;obtain⟨x,e1,f1,hf⟩:=aN hf;refine h O M W L σ H e e1 x _ o he f1 fun vs H1 k1 en rv=>?_
 split at hf
 .rename_i j;obtain⟨c,hf⟩:=aM hf;have c:= @av _ (Classical.propDecidable _) c;cases hf;cases rv with
  |cons h r=>
   cases r;cases h;exact⟨j,rfl,by omega,by omega,q _ H1 k1 en fun Wr hw _=>OW⟩
 .cases hf
noncomputable def VX (fa:FA):FI:=fun _ e=>bE (fa e) fun bs e1=>match bs with
 |[.val (.int i),.val (.int j)]=>bC (inR i && inR j) (some ((List.range (j - i).toNat).map (fun k:Nat=>.int (i+(k:Int))),e1))
 |_=>none
theorem RQ (h:tR K ta fa):vR K (S1 ta) (VX fa):=by
 intro st O M W L σ H e e' ps R o he hf q;obtain⟨x,e1,f1,hf⟩:=aN hf;refine h O M W L σ H e e1 x _ o he f1 fun vs H1 k1 en rv=>?_
 split at hf
 .rename_i i j;obtain⟨c,hf⟩:=aM hf;rw[bz]at c;have c1:= @av _ (Classical.propDecidable _) c.1;have c2:= @av _ (Classical.propDecidable _) c.2;cases hf;cases rv with
  | cons h r=>
   cases r with
   |cons h' r=>
    cases r;cases h;cases h';exact⟨i,j,rfl,⟨by omega,by omega,by omega,by omega⟩,q _ H1 k1 en fun Wr hw _=>OW⟩
 .cases hf
theorem WA {st:Nat->Bool}:qL fa st e=bE (fa e) fun bs e1=>match bs with
 |[.val (.int j)]=>bC (inR j) (some ((List.range j.toNat).map (fun k:Nat=>.int (0+(k:Int))),e1))
 |_=>none:=rfl
theorem UW {st:Nat->Bool}:VX fa st e=bE (fa e) fun bs e1=>match bs with
 |[.val (.int i),.val (.int j)]=>bC (inR i && inR j) (some ((List.range (j - i).toNat).map (fun k:Nat=>.int (i+(k:Int))),e1))
 |_=>none:=rfl
end
end Mr
namespace Mr
open PySem L2
variable {fa:FE} {f:FN} {α β:Type}
section
variable {K:Frag}
theorem aP.given {M L:aJ} {W:WS} {H H':Hp} {σ:St} {e:En} {l:Addr} (h:aP K (aT M (aT L (one l))) W (aT L (one l)) H σ e) (f:L7 σ e l) (nL:¬L l) (nW:∀i,¬W i l) (kp:∀a o,a≠l->H a=some o->H' a=some o) (kt:∀a xs,H a=some (.tup xs)->H' a=some (.tup xs)):aP K (aT M L) W L H' σ e:=by
 have k:cS (aT M (aT L (one l))) (aT M L) H H':=⟨kt,fun a o q n=>⟨kp a o (fun z=>n (.inr (.inr z))) q,fun z=>n (z.elim .inl fun z=>.inr (.inl z))⟩⟩;refine⟨h.len,fun i sl q=>?_,h.rP⟩;obtain⟨v,h1,h2⟩:=h.at' i sl q;refine⟨v,h1,?_⟩;cases sl with
 |val p=>exact Rep.aK k h2
 |own p=>obtain⟨a,e,w,c⟩:=h2;exact⟨a,e,w,c.aK k fun o q=>kp a o (fun z=>nW i (z▸w)) q⟩
 | loc p=>
  obtain⟨a,e,w,c⟩:=h2;have na:a≠l:=fun z=>by
   subst z e;exact f i _ q rfl h1
  exact⟨a,e,w.elim id fun z=>absurd z na,c.aK k fun o q=>kp a o na q⟩
 |bor p=>
  obtain⟨a,e,c⟩:=h2;refine⟨a,e,?_⟩;cases c with
  |lst e od n m r=>exact .lst (e.elim (fun e=>.inl (kp _ _ (fun z=>m (.inr z)) e)) fun⟨u,e⟩=>.inr ⟨u,kp _ _ (fun z=>m (.inr z)) e⟩) od n (fun z=>m (.inl z)) (r.aK k)
  |eQ e r=>exact .eQ e (r.aK k)
  |bA e od n m kk r=>exact .bA (e.elim (fun e=>.inl (kp _ _ (fun z=>m (.inr z)) e)) fun⟨u,e⟩=>.inr ⟨u,kp _ _ (fun z=>m (.inr z)) e⟩) od n (fun z=>m (.inl z)) kk (r.aK k)
noncomputable def DB (f:FN) (fa:FE) (i:Nat):FE:=fun e=>bE (fa e) fun x e1=>match x with
 | .new p=>bO (rd e1 i) fun q=>match q with
  | .int k=>bO (f [p,.int k]) fun rq=>some (.val rq.1,e1)
  |_=>none
 |_=>none
theorem HJ {ta:TE} {E:XK} (i:Nat) (ha:Ref K ta fa):Ref K (BV (T7 K [.m,.b] false f) [] E (eR ta (eR (y8 i) tZ))) (DB f fa i):=by
 intro O M W L σ H e e' b Q o he hf q;obtain⟨x,e1,f1,hf⟩:=aN hf;cases x with
 | new p=>
  obtain⟨qv,g1,hf⟩:=aF hf;cases qv with
  | int k=>
   obtain⟨⟨r,qs⟩,g2,hf⟩:=aF hf;cases hf;refine ha O M W L σ H e _ _ _ o he f1 fun v1 H1 k1 r1 fr=>?_
   have o1:=o.keep k1.cC;obtain⟨a,rfl,nO,nL,en,hfree,ct⟩:=r1;have hfr:H a=none:=fr a rfl;have en0:=en.S3 hfree;have g1':=g1;unfold Mr.rd at g1';cases c:e'[i]? with
   |none=>rw[c]at g1';cases g1'
   | some s=>
    cases s with
    |none=>rw[c]at g1';cases g1'
    | some s=>
     obtain⟨u,hs,_⟩:=en0.at' i s c;have hu:=(en0.rd g1 hs).int;subst hu;refine⟨.int k,hs,?_⟩;show T7 K [.m,.b] false f ([.ref a,.int k]++[]) H1 Q E;rw[dq];obtain⟨ob,hob,nt⟩:=ct.there;have ws:∀j b,pN [.m,.b] [.ref a,.int k] H1 j b->b=a:=fun j b ⟨h1,h2⟩=>by
      match j,h1,h2 with
      |0,h1,h2=>cases h2;rfl
      |1,h1,h2=>cases h1
     refine⟨aT M (aT L (one a)),[p,.int k],r,qs,fun b z=>?_,rfl,rfl,fun j kk p' v h1 h2 h3=>?_,fun j1 j2 hne h1 h2=>?_,fun j b h=>?_,g2,fun v H' kc res=>?_⟩
     .rcases z with z|z|z
      .exact o1.old b (o1.mo b z)
      .exact(o1.loc b z).1
      .rw[show b=a from z,hob];exact fun z=>nomatch z
     .match j,h1,h2,h3 with
      |0,h1,h2,h3=>cases h1;cases h2;cases h3;exact⟨a,rfl,⟨rfl,rfl⟩,ct⟩
      |1,h1,h2,h3=>cases h1;cases h2;cases h3;exact Rep.int k
     .match j1,j2,h1,h2 with
      |0,0,_,_=>exact absurd rfl hne
      |0,1,_,h2=>cases h2
      |1,_,h1,_=>cases h1
     .exact .inr (.inr (ws j b h))
     .have kp:∀b u,b≠a->H1 b=some u->H' b=some u:=fun b u nb e=>kc.obj b u e (fun⟨j,w⟩=>nb (ws j b w)) fun z=>z
      have kout:bY W L H H':=⟨fun b u e n m=>kp b u (fun z=>by rw[z,hfr]at e;cases e) (k1.obj b u e n m),fun b xs e=>kc.tup b xs (k1.tup b xs e),fun b h=>kc.cC b (k1.cC b h)⟩;exact q v H' kout ⟨en.given hfree nL (fun j w=>nO (o1.mo a (o1.wm j a w))) kp kc.tup,res.1.aK (.less fun b z=>z.elim .inl fun z=>.inr (.inl z))⟩ trivial
  |_=>cases hf
 |_=>cases hf
theorem NW {i:Nat} {e:En}:DB f fa i e=bE (fa e) fun x e1=>match x with
 | .new p=>bO (rd e1 i) fun q=>match q with
  | .int k=>bO (f [p,.int k]) fun rq=>some (.val rq.1,e1)
  |_=>none
 |_=>none:=rfl
end
theorem QK {k:α->Option β}:bO (none:Option α) k=none:=rfl
theorem RG {k:α->En->Option β}:bE (none:Option (α×En)) k=none:=rfl
end Mr
namespace L2
open PySem PySem.Spec PyProof.Rows PySem.W
section
variable {prog:Program} {w:World} {A:Around} {E:Value->Shared->Prop} {s:Shared}
theorem mT.trans {s s1 s2:Shared} (a:mT s s1) (b:mT s1 s2):mT s s2:=by
 obtain⟨h1,t1,d1,rfl,z1,k1⟩:=a;obtain⟨h2,t2,d2,rfl,z2,k2⟩:=b;exact⟨h2,t2,d2,rfl,fj z1 z2,fun x o e=>k2 x o (k1 x o e)⟩
theorem tV {v:Value} {Ok:List Value->Shared->Prop} {R:List Value->Array Nat->Prop} {Q:Value->Shared->Prop}
  (hcol:∀(E':Value->Shared->Prop) (Q':List Value->Shared->Prop),(∀vs s1,mT s s1->Ok vs s1->Q' vs s1)->wpAny (model prog w) A.in1 (collect v) Q' E' s) (h64:∀vs s1,Ok vs s1->vs.length<128)
  (hk:∀vs s1,mT s s1->Ok vs s1->2<=vs.length->∀h':Heap,(∀b o,s1.heap.get? b=some o->h'.get? b=some o)->zI prog w A.in1.in1 vs (R vs) {s1 with heap:=h'}) (hR:∀vs s1,Ok vs s1->vs.length<2->R vs (List.range vs.length).toArray)
  (hq:∀(a:Addr) s1 s2 (out:Array Value) c vs (p:Array Nat),mT s s1->Ok vs s1->mT s1 s2->s1.heap.objs.size<=a->s2.heap.get? a=some (seqObj "list" out c)->mU vs.length p->R vs p->out.toList=p.toList.map (fun i=>vs.getD i Value.none)->Q (.ref a) s2):
  wpAny (model prog w) A (call (.builtin "sorted") [v]) Q E s:=by
 refine Calls.call_function_entry kind_sorted plain_sorted entry_sorted (args_sorted1 _) ?_;unfold Builtin.«sorted»;refine ae (m:=checkCount "sorted" 1 1 _) (ax (ae (hcol _ _ fun vs s1 g ok=>?_)));have hl:=h64 vs s1 ok;refine ae (wpAny_newList ?_ (by simp only[ik];omega));have e1:(s1.heap.push (seqObj "list" vs.toArray 0)).get? s1.heap.objs.size=some (seqObj "list" vs.toArray 0):=cc _ rfl;refine ae (gf (gv slot_list_sort ⟨_,e1,rfl⟩ entry_list_sort ?bd (args_list_sort _)))
 case bd=>
  refine xP e1 hl (fun l2 h' kp=>hk vs s1 g ok l2 h' fun b o gb=>kp b o (cm (cf gb)) (ao _ gb)) (hR vs s1 ok) fun out p p1 p2 p3=>⟨_,rfl,ax ⟨_,rfl,?_⟩⟩
  obtain⟨c,hc⟩:=sortedHeap_at (out:=out) e1;refine hq s1.heap.objs.size s1 _ out c vs p g ok ?_ (bf _) hc p1 p2 p3;refine⟨_,s1.toks,s1.drawn,rfl,gq (cf hc),fun b o e=>?_⟩;have hb:=cf e;rw[sortedHeap_old (cm hb) (by rw[size_push'];exact dv hb)];exact ao _ e
theorem wV {K:Type} [DecidableEq K] {knd:KeyKind prog w K} {r d:Addr} {kvs:List (K×Value)} {ep:Nat} {Q:List Value->Shared->Prop} (hh:A.handled=none) (hv:s.heap.IsItemsView r d) (hm:s.heap.DictAt knd d kvs ep) (hn:kvs.length<=sizeLine)
  (hq:∀s1 (as:List Addr),mT s s1->as.length=kvs.length->KdxG knd kvs s.heap.objs.size s1.heap as->Q (as.map Value.ref) s1):wpAny (model prog w) A (collect (.ref r)) Q E s:=by
 have hr:r<s.heap.objs.size:=let⟨_,ho,_⟩:=hv;cf ho
 have hd:d<s.heap.objs.size:=hm.lt_size;have fin:∀(h':Heap) (tk:Nat) (acc:Array Value) (c:Nat) (as:List Addr),(∀b o,s.heap.get? b=some o->h'.get? b=some o)->
   h'.get? s.heap.objs.size=some {cls:=.type "list",dict:=none,data:=.seq acc c,slots:= #[]}->as.length=kvs.length->KdxG knd kvs s.heap.objs.size h' as->acc.toList=as.map Value.ref->
   wpAny (model prog w) A (match Value.ref s.heap.objs.size with
    | Value.ref a=>do
     match(<-load a).data with
      |Data.seq xs _=>pure xs.toList
      |_=>unsupported "internal:collect"
    |_=>unsupported "internal:collect") Q E {s with heap:=h',toks:=tk}:=fun h' tk acc c as kp hS hl hG ea=>by
  show wpAny _ A (load s.heap.objs.size>>=_) _ _ _;refine ae (wpAny_load hS (ax ?_));show Q acc.toList _;rw[ea];exact hq _ as ⟨h',tk,s.drawn,rfl,gq (cf hS),kp⟩ hl hG
 unfold collect;refine ae (wpAny_runValue (gy F.entry_proto_collect ?_));rw[fw F.plain_proto_collect _];refine ae (m:=newList []) (dg ?_);refine ax ⟨jb F.plain_list_iadd _,gy F.entry_list_iadd ?_⟩;rw[fw F.plain_list_iadd _];have e0:(s.heap.push {cls:=.type "list",data:=.seq ([]:List Value).toArray}).get? s.heap.objs.size=some {cls:=.type "list",data:=.seq #[] 0}:=cc _ rfl;have key:=kdx_extend (A:=A) (knd:=knd) (kvs:=kvs) (ep:=ep) (s:={s with heap:=s.heap.push {cls:=.type "list",data:=.seq ([]:List Value).toArray}}) (R:=fun rs s'=>∃h' tk acc c as,rs= .ok (.ret (.ref s.heap.objs.size))/\s'={s with heap:=h',toks:=tk}/\(∀b o,s.heap.get? b=some o->h'.get? b=some o)/\h'.get? s.heap.objs.size=some {cls:=.type "list",dict:=none,data:=.seq acc c,slots:= #[]}/\as.length=kvs.length/\KdxG knd kvs s.heap.objs.size h' as/\acc.toList=as.map Value.ref)
  hh (let⟨o,ho,x⟩:=hv;⟨o,ao _ ho,x⟩) (hm.push _) s.heap.objs.size (kg hr) (cm hd) (.ref s.heap.objs.size) 0 e0
  (fun h' tk acc c as kp hS hl hG ea=>⟨h',tk,acc,c,as,rfl,rfl,fun b o e=>kp b o (cm (cf e)) (ao _ e),hS,hl,hG.low (by rw[size_push];exact ie _),ea⟩) hn
 refine di key (fun f s' h=>?_) fun e s' h=>?_
 .cases f with
  |done f=>
   obtain⟨h',tk,acc,c,as,e1,rfl,kp,hS,hl,hG,ea⟩:=h;cases e1;exact fin h' tk acc c as kp hS hl hG ea
  |again c'=>
   refine⟨h.1,codeAny_mono h.2 fun rs s2 hr=>?_⟩;obtain⟨h',tk,acc,c,as,rfl,rfl,kp,hS,hl,hG,ea⟩:=hr;exact fin h' tk acc c as kp hS hl hG ea
 .obtain⟨h',tk,acc,c,as,e1,_⟩:=h;cases e1
theorem Inv.ZK {X:Cx} {pins:List (Addr×Obj)} {σ:L2.St} {H H':Hp} {s s':Shared} (I:Inv X pins σ H s) (g:mT s s') (he:∀b,b<s.heap.objs.size->H' b=H b) (new:∀a o,s.heap.objs.size<=a->H' a=some o->dD X.prog X.w H' s'.heap a o):Inv X pins σ H' s':=by
 obtain⟨h',tk,dr,rfl,_,k⟩:=g;have old:∀a o,H a=some o->H' a=some o:=fun a o e=>by rw[he a (I.bQ.lt e)];exact e
 refine I.call (g':=s.gens) (d':=dr) (t':=tk) (ch:=[]) ⟨fun b u q _ _ _=>k b u q,fun b u q _ _ _=>⟨u.slots,k b u q⟩,fun b u q n _=>by rw[he b (cf q)];exact n,fun b u q _=>⟨u,k b u q⟩,fun b xs q=>old b _ q,fun b u xs q=>old b _ q,fun b ps q=>⟨#[],by rw[old b _ q];simp⟩⟩ (fun a o e=>?_) I.bare fun _ z=>nomatch z
 by_cases ha:a<s.heap.objs.size
 .rw[he a ha]at e;exact(I.bQ a o e).aK (fun c v _ q=>k c v q) (fun c q=>old c _ q) fun c xs q=>old c _ q
 .exact new a o (le_of_not_lt ha) e
end
section
variable {X:Cx}
noncomputable def OZ (v d:Addr):HO:=.ext fun h=>h.IsItemsView v d
def ER (to:TE):TE:=fun σ H Q=>to σ H fun x H1=>∃a kvs,x= .ref a/\x3 H1 a kvs/\∀v,H1 v=none->Q (.ref v) (upd H1 v (OZ v a))
theorem AY {o:Expr} {to:TE} {apos cpos:Pos} (ho:PE X o to) (hbase:attributeBase o "items" X.env (eval o X.env)=eval o X.env:=by rfl) (hline:(apos.endLine==cpos.line)=true:=by rfl):
  PE X (.Call (.Attribute o "items" apos) [] [] cpos) (ER to):=by
 intro pins s σ H Q I h;refine wpAny_Call_method0_late hbase hline (cL (ho pins s σ H _ I h) fun v s1 ⟨x,H1,I1,r1,a,kvs,ex,ha,q1⟩=>?_);subst ex;obtain rfl:v=Value.ref a:=r1;obtain⟨hz,hd,vs,rel,dd⟩:=gU I1.bQ ha;refine⟨"dict","dict.items",plainAttrs_dict,PySem.F.slot_dict_items,PySem.F.type_dict_items,dd.typeIs,dd.mapOf.noDict,gV rfl (PySem.evalArgs_none ?_)⟩;refine call_meetsIn PySem.F.slot_dict_items dd.typeIs PySem.F.entry_dict_items (PySem.F.args_dict_items_1 _) (meets_dict_items (bS X.prog X.w) a hd) ⟨⟨vs,dd⟩,?_⟩;have e0:(s1.heap.push {cls:=.type "dict_items",data:=.fields #[.ref a]}).get? s1.heap.objs.size=some {cls:=.type "dict_items",data:=.fields #[.ref a]}:=cc _ rfl;exact⟨.ref s1.heap.objs.size,_,I1.laid (t':=s1.toks) (o:=OZ s1.heap.objs.size a) (fun b u e=>ao _ e) (bf _) ⟨⟨_,e0,rfl,rfl⟩,⟨_,e0⟩,fun h1 h2 ⟨u,e,c⟩ k=>⟨u,k u e,c⟩⟩,rfl,q1 _ (I1.bQ.fresh (bf _))⟩
end
end L2
namespace Mr
open PySem PySem.Spec L2 PyProof.Rows PySem.W
variable {fa:FE} {H:Hp} {Z:aJ}
noncomputable def wM:Key->PV
 | .inl i=>.int i
 | .inr x=>.str x
theorem xG {h:Heap} {k:Key} {v:Value} (e:nF k v=true):Lies h (wM k) v/\RelV (kV k) v:=by
 rcases cA e with⟨i,t,rfl,rfl⟩|⟨x,t,rfl,rfl⟩
 .exact⟨.int i t,t,rfl⟩
 .exact⟨.str x t,t,rfl⟩
noncomputable def bM (kvs:List (Key×PV)):List PV:=kvs.map fun z=>.tup [wM z.1,z.2]
section
variable {X:Cx} {k:Nat}
def MZ (K:Frag):List V->Hp->VK->Prop:=fun xs H Q=>∃v a ys kvs b,xs=[.ref v]/\H v=some (OZ v a)/\x3 H a ys/\dF K cT H kvs ys/\kvs.length<128/\(∀x∈bM kvs,oU b x=true)/\dA 3 (bM kvs)=true/\
 ∀l H' (as:List Addr) (ix:List Nat),aX H H'->(∀(j:Nat) t q,as[j]? =some t->ys[j]? =some q->H' t=some (.tup [kV q.1,q.2]))->as.length=ys.length->ix.Perm (List.range kvs.length)->(ix.map fun i=>(bM kvs).getD i .bD).Pairwise (fun a b=>oH 3 a b=true)->H l=none->H' l=some (.lst (ix.map fun i=>.ref (as.getD i 0)))->Q (.ref l) H'
theorem CA {h:Heap}:∀{ps:List PV} {vs:List Value},ps.length=vs.length->(∀(j:Nat) p v,ps[j]? =some p->vs[j]? =some v->Lies h p v)->bR h ps vs
 |[],[],_,_=>.nil
 |[],_::_,h,_=>by cases h
 |_::_,[],h,_=>by cases h
 |p::ps,v::vs,h,k=>.cons (k 0 p v rfl rfl) (CA (by simpa using h) fun j p v a b=>k (j+1) p v (by simpa using a) (by simpa using b))
theorem sortI (K:Frag) (hr:dG k X.A) (hK:X.K=K:=by rfl) (hc:X.calm=true:=by rfl):cN X (.builtin "sorted") (MZ K):=by
 subst hK;intro pins s σ H xs us Q I r ⟨v,a,ys,kvs,b,e,hv,ha,rd,h64,led,cmp,q⟩;subst e;obtain⟨u,rfl,rx⟩:=vals1 r;cases rx;obtain⟨hz,hd,vs,rel,dd⟩:=gU I.bQ ha;obtain⟨ep,dd⟩:=dd.dictAt;have hlen:kvs.length=ys.length:=by have:=cw List.length rd.1;simpa using this.symm
 have hlen2:=rel.len;have ok:∀x∈bM kvs,gX 3 x=true:=fun x hx=>by
  have:=bg.mp cmp x hx;rw[bz]at this;exact zL this.1
 refine tV (s:=s) (Ok:=fun ws s1=>∃as:List Addr,ws=as.map Value.ref/\as.length=vs.length/\KdxG (bS X.prog X.w) vs s.heap.objs.size s1.heap as) (R:=fun ws p=>DH rT (fun i=>code 3 ((bM kvs).getD i .bD)) p ws.length) (fun E' Q' kk=>?_) ?_ ?_ ?_ ?_
 .exact wV (by exact I.ok.hd hc) (I.bQ v _ hv).1 dd (by rw[<-hlen2];exact hz) fun s1 as gr hl g=>kk _ s1 gr ⟨as,rfl,hl,g⟩
 .rintro ws s1 ⟨as,rfl,hl,g⟩;rw[ah];omega
 .rintro ws s1 gr ⟨as,rfl,hl,g⟩ l2 h' kp;have I':Inv X pins σ H {s1 with heap:=h'}:=(I.Y3 gr).kept (t':=s1.toks) kp;have okv:(kvs.map (·.2)).all (gX 2)=true:=bg.mpr fun p hp=>by
   obtain⟨z,hz,rfl⟩:=bp.mp hp;have:=ok (.tup [wM z.1,z.2]) (bp.mpr ⟨z,hz,rfl⟩);have this:([wM z.1,z.2].all (gX 2))=true:=this;rw[all_cons,all_cons,bz,bz]at this;exact this.2.1
  have lv:bR h' (kvs.map (·.2)) (vs.map (·.2)):=bH.lies I' (n:=2) okv rd.2 rel.vals;have hL:bR h' (bM kvs) (as.map Value.ref):=by
   refine CA (by unfold bM;rw[ah,ah];omega) fun j p v hp hv=>?_
   rw[aq]at hv;obtain⟨t,ht,rfl⟩:=br.mp hv;unfold bM at hp;rw[aq]at hp;obtain⟨z,hz',rfl⟩:=br.mp hp;obtain⟨key,kk,x,e1,e2,e3⟩:=g.pairs j t ht;have ek:kk=z.1:=by
    have a1:(vs.map (·.1))[j]? =some kk:=by rw[aq,e1];rfl
    have a2:(kvs.map (·.1))[j]? =some z.1:=by rw[aq,hz'];rfl
    rw[<-rel.keys,rd.1,a2]at a1;exact(Option.some.inj a1).symm
   subst ek;obtain⟨p',h1,h2⟩:=lv.get (show(vs.map (·.2))[j]? =some x by rw[aq,e1];rfl);rw[aq,hz']at h1;cases h1;exact .tup ⟨_,kp _ _ e3,rfl,0,rfl⟩ (.cons (xG (show nF z.1 key=true from e2)).1 (.cons h2 .nil))
  exact LV (s:={s1 with heap:=h'}) hL (by have:=hr.un;show X.A.units+1+1+2<_;omega) led ok cmp l2
 .rintro ws s1 ⟨as,rfl,hl,g⟩ h2 i j a b;rw[show i=j by omega];exact gu _
 .rintro l s1 s2 out c ws p gr ⟨as,rfl,hl,g⟩ g2 hla hat h1 h2 h3;have hp:p.toList.Perm (List.range as.length):=by
   have:=jw.mp h1;rw[ah]at this;simpa using this
  have hlt:∀i∈p.toList,i<as.length:=fun i hi=>jy.mp (hp.mem_iff.mp hi)
  have above:∀t∈as,s.heap.objs.size<=t:=fun t ht=>gq (g.above t ht)
  have nl:l∉as:=fun z=>absurd (g.there z) (Nat.not_lt.mpr hla)
  have hls:s.heap.objs.size<=l:=fj gr.size hla
  let H':Hp:=fun x=>if x=l then some (.lst (p.toList.map fun i=>V.ref (as.getD i 0)))else match as.findIdx? (fun t=>t==x)with
   |some j=>(ys[j]?).map fun q=>HO.tup [kV q.1,q.2]
   |none=>H x
  have hl':H' l=some (.lst (p.toList.map fun i=>V.ref (as.getD i 0))):=aj rfl;have hno:∀x,x≠l->x∉as->H' x=H x:=fun x h1 h2=>by
   show(if x=l then _ else _)=_;rw[ai h1];have:as.findIdx? (fun t=>t==x)=none:=List.findIdx?_eq_none_iff.mpr fun t ht=>by
    cases c:t==x with
    |false=>rfl
    |true=>exact absurd (by rw[<-eq_of_beq c];exact ht) h2
   rw[this]
  have hat':∀(j:Nat) t q,as[j]? =some t->ys[j]? =some q->H' t=some (.tup [kV q.1,q.2]):=fun j t q hj hq=>by
   have hm:=bh hj;show(if t=l then _ else _)=_;rw[ai (fun z:t=l=>nl (by rw[<-z];exact hm))];have:as.findIdx? (fun u=>u==t)=some j:=by
    rw[List.findIdx?_eq_some_iff_getElem];obtain⟨hjl,ej⟩:=af.mp hj;refine⟨hjl,by simp[ej],fun i hi=>?_⟩;have:=ip.mp g.rise i j (by omega) hjl hi;rw[ej]at this;simpa using cm this
   rw[this];show(ys[j]?).map _=_;rw[hq];rfl
  have same:aX H H':=fun x o e=>by
   have hx:=I.bQ.lt e;rw[hno x (fun z:x=l=>absurd (by rw[<-z];exact hx) (Nat.not_lt.mpr hls)) (fun z=>absurd hx (Nat.not_lt.mpr (above x z)))];exact e
  have I2:Inv X pins σ H' s2:=by
   refine I.ZK (gr.trans g2) (fun x hx=>hno x (fun z:x=l=>absurd (by rw[<-z];exact hx) (Nat.not_lt.mpr hls)) (fun z=>absurd hx (Nat.not_lt.mpr (above x z)))) fun x o hx e=>?_
   by_cases hxl:x=l
   .subst hxl;rw[hl']at e;cases e;refine⟨by rw[ah,hp.length_eq,cu,hl,<-hlen2];exact hz,out.toList,c,?_,hat⟩;rw[h3];have:∀(ix:List Nat),(∀i∈ix,i<as.length)->Vals (ix.map fun i=>V.ref (as.getD i 0)) (ix.map fun i=>(as.map Value.ref).getD i Value.none):=by
     intro ix
     induction ix with
     |nil=>intro _;exact .nil
     |cons i ix ih=>
      intro hi;refine .cons ?_ (ih fun j hj=>hi j (ay _ hj));have:=hi i ba;dsimp only;rw[az,az,aq,ag this];rfl
    exact this _ hlt
   .by_cases hxa:x∈as
    .obtain⟨j,hj⟩:=List.mem_iff_getElem?.mp hxa;have hjl:=(af.mp hj).1;have hy:ys[j]? =some (ys[j]'(by omega)):=ag (by omega);rw[hat' j x _ hj hy]at e;cases e;obtain⟨key,kk,y,e1,e2,e3⟩:=g.pairs j x hj;have rl:=rel;obtain⟨t1,t2,t3,t4,t5,t6⟩:=g2;subst t4;have rj:∀{l1:List (Key×V)} {l2:List (Key×Value)} {j:Nat} {a b},KV l1 l2->l1[j]? =some a->l2[j]? =some b->a.1=b.1/\RelV a.2 b.2:=by
      intro l1 l2 j a b r;unfold KV at r
      induction r generalizing j with
      |nil=>intro h;simp at h
      |cons h t ih=>
       intro h1 h2;cases j with
       |zero=>simp at h1 h2;subst h1 h2;exact h
       |succ j=>exact ih (by simpa using h1) (by simpa using h2)
     obtain⟨q1,q2⟩:=rj rel hy e1;refine⟨by show 2<=sizeLine;decide,[key,y],.cons ?_ (.cons q2 .nil),qO.of (t6 _ _ e3)⟩;have q1:(ys[j]'(by omega)).1=kk:=q1;rw[q1];exact(xG (h:=s1.heap) (show nF kk key=true from e2)).2
    .rw[hno x hxl hxa]at e;exact absurd (I.bQ.lt e) (Nat.not_lt.mpr hx)
  have hk:as.length=kvs.length:=by omega
  refine⟨.ref l,H',I2,rfl,q l H' as p.toList same hat' (by omega) (by rw[<-hk];exact hp) (SV h2 (by rw[hp.length_eq,cu,ah])) (I.bQ.fresh hls) hl'⟩
end
section
variable {K:Frag}
theorem L8 (k:Key):Rep K Z H (wM k) (kV k):=by
 cases k with
 |inl i=>exact .int i
 |inr x=>exact .str x
noncomputable def EF (fa:FE):FE:=fun e=>bE (fa e) fun x e1=>bO (x.weak.get e1) fun p=>match p with
 | .bA kvs=>bC (decide (kvs.length<128) && (((bM kvs).all (oU true)||(bM kvs).all (oU false)) && dA 3 (bM kvs))) (some (.new (.lst (tH 3 (bM kvs))),e1))
 |_=>none
theorem A7:∀{kvs:List (Key×PV)} {ys:List (Key×V)} {i:Nat} {z:Key×PV},dF K Z H kvs ys->kvs[i]? =some z->∃y,ys[i]? =some y/\y.1=z.1/\Rep K Z H z.2 y.2
 |[],ys,i,z,h,e=>by simp at e
 | x::kvs,ys,i,z,h,e=>by
  rcases h.cases with⟨q,_⟩|⟨j,p,v,r,t,q,q',hp,hr⟩
  .cases q
  .cases q;subst q';cases i with
   |zero=>simp at e;subst e;exact⟨(j,v),rfl,rfl,hp⟩
   |succ i=>exact A7 (i:=i) hr (by simpa using e)
theorem HV {ta:TE} (ha:Ref K ta fa):Ref K (YD (MZ K) (eR (ER ta) tZ)) (EF fa):=by
 intro O M W L σ H e e' b Q o he hf q;obtain⟨x,e1,f1,hf⟩:=aN hf;obtain⟨p,g0,hf⟩:=aF hf;cases p with
 | bA kvs=>
  obtain⟨c,hf⟩:=aM hf;cases hf;rw[bz,bz]at c;obtain⟨c1,c2,c3⟩:=c;refine ha O M W L σ H e _ x _ o he f1 fun v1 H1 k1 r1 fr=>?_
  have o1:=o.keep k1.cC;have en:=r1.en o1;obtain⟨a,ys,rfl,hd,ek,rl⟩:=((r1.rv o1).red en g0).tS;have led:∃b,∀x∈bM kvs,oU b x=true:=by
   rcases Bool.or_eq_true_iff.mp c2 with z|z
   .exact⟨true,fun x hx=>bg.mp z x hx⟩
   .exact⟨false,fun x hx=>bg.mp z x hx⟩
  obtain⟨bb,led⟩:=led;refine⟨a,ys,rfl,hd,fun v hv=>?_⟩;have s1:aX H1 (upd H1 v (OZ v a)):=aX.upd hv;have k2:=k1.trans (.same s1);have rd:dF K (aT M L) (upd H1 v (OZ v a)) kvs ys:=⟨ek,rl.aK (.same s1)⟩;refine⟨v,a,ys,kvs,bb,rfl,aV,hd.upd hv,⟨ek,(rl.aK (.same s1)).aK (.less fun _ z=>z.elim)⟩,av c1,led,c3,fun l H' as ix sm hat al h1 h2 hl hl'=>?_⟩;have hix:∀i∈ix,i<kvs.length:=fun i hi=>jy.mp (h1.mem_iff.mp hi)
  have pl:(bM kvs).length=kvs.length:=by unfold bM;rw[ah]
  have pm:(ix.map fun i=>(bM kvs).getD i .bD).Perm (bM kvs):=by
   have:=h1.map fun i=>(bM kvs).getD i PV.bD
   have e:(List.range kvs.length).map (fun i=>(bM kvs).getD i PV.bD)=bM kvs:=by
    rw[<-pl];apply ext_getElem
    .simp
    .intro i a1 a2;simp[ag a2]
   rw[e]at this;exact this
  have es:tH 3 (bM kvs)=ix.map fun i=>(bM kvs).getD i .bD:=
   nY (l9 3 _) h2 ((dJ 3 _).trans pm.symm) fun x hx y hy=>vZ c3 ((dJ 3 _).mem_iff.mp hx) ((dJ 3 _).mem_iff.mp hy)
  rw[es]at q;have st:cS (aT M L) (aT (aT M L) (one l)) (upd H1 v (OZ v a)) H':=cS.new sm hl;have reps:∀(js:List Nat),(∀i∈js,i<kvs.length)->bH K (aT (aT M L) (one l)) H' (js.map fun i=>(bM kvs).getD i .bD) (js.map fun i=>V.ref (as.getD i 0)):=by
   intro js
   induction js with
   |nil=>intro _;exact .nil
   |cons i js ih=>
    intro hj;have hi:=hj i ba;refine .cons ?_ (ih fun j h=>hj j (ay _ h));have hlen:ys.length=kvs.length:=by have:=cw List.length ek;simpa using this
    obtain⟨y,hy,e1,e2⟩:=A7 rd (ag hi);have ht:as[i]? =some (as[i]'(by omega)):=ag (by omega);dsimp only;rw[az,az,ht];unfold bM;rw[aq,ag hi];show Rep K _ H' (.tup [wM kvs[i].1,kvs[i].2]) (.ref as[i]);refine .tup (.inl (hat i _ _ ht hy)) (.cons (by rw[e1];exact L8 _) (.cons (e2.aK st) .nil))
  have rn:RN K (aT M L) (upd H1 v (OZ v a)) H' (.ref l) (.new (.lst (ix.map fun i=>(bM kvs).getD i .bD))):=⟨l,rfl,hl,.lst hl' (reps ix hix)⟩;exact q _ _ (k2.trans (.same sm)) (rn.rb (o.keep k2.cC) (en.same s1) sm) (rn.fr k2.cC)
 |_=>cases hf
theorem MK {e:En}:EF fa e=bE (fa e) fun x e1=>bO (x.weak.get e1) fun p=>match p with
 | .bA kvs=>bC (decide (kvs.length<128) && (((bM kvs).all (oU true)||(bM kvs).all (oU false)) && dA 3 (bM kvs))) (some (.new (.lst (tH 3 (bM kvs))),e1))
 |_=>none:=rfl
end
end Mr
namespace L2
open PySem PySem.Spec PyProof.Rows PySem.W
section
variable {X:Cx}
def K5:List V->Hp->VK->Prop:=fun xs H Q=>∃a kvs,xs=[.ref a]/\x3 H a kvs/\Q (.int kvs.length) H
theorem abO:cN X (.builtin "len") K5:=by
 intro pins s σ H xs us Q I r ⟨a,kvs,e,ha,q⟩;subst e;obtain⟨u,rfl,rx⟩:=vals1 r;cases rx;obtain⟨hz,hd,vs,rel,dd⟩:=gU I.bQ ha;refine call_len_dict hd dd (by have:=rel.len;rw[ik]at hz;omega) ?_;exact⟨.int kvs.length,H,I.tok _,⟨s.toks+1,by rw[rel.len]⟩,q⟩
end
end L2
namespace Mr
open PySem L2
section
variable {K:Frag}
noncomputable def FL:List PV->Option Bv
 |[.bA kvs]=>some (.val (.int kvs.length))
 |_=>none
theorem PH:jG K K5 FL:=by
 intro Z H vs ps b Q hp h k;unfold FL at h;split at h
 .cases h;obtain⟨v,rfl,hv⟩:=hp.one;obtain⟨a,ys,rfl,ha,ek,ra⟩:=hv.tS;refine⟨a,ys,rfl,ha,k _ H (aX.refl _) ?_⟩;have:=cw List.length ek;rw[ah,ah]at this;rw[this];exact Rep.int _
 .cases h
def T6 (K:Frag):List V->Hp->VK->Prop:=fun xs H Q=>MB K xs H Q\/ K5 xs H Q
theorem ZA {X:Cx} (K:Frag) (hK:X.K=K:=by rfl):cN X (.builtin "len") (T6 K):=cN.or (BP K hK) abO
noncomputable def EZ:List PV->Option Bv:=fun p=>(t9 p).or (FL p)
theorem FC:jG K (T6 K) EZ:=jG.or DJ PH
end
end Mr
namespace L2
open PySem PySem.Spec PyProof.Rows PySem.W
section
variable {prog:Program} {w:World} {A:Around} {R:Result->Shared->Prop} {I:Addr} {fp wr:List Addr} {n:Nat} {Pz:Nat->Value->Prop} {Sz:Nat->Heap->Prop}
def NK (prog:Program) (w:World) (A:Around) (ok:Heap->Prop) (Pz:Nat->Value->Prop) (bt:Nat->Nat->Bool):Prop:=
 ∀i j vi vj (s:Shared) (Q:Value->Shared->Prop) (E:Value->Shared->Prop),ok s.heap->Pz i vi->Pz j vj->Q (.bool (bt i j)) s->wpAny (model prog w) A (richCompare .Lt vi vj) Q E s
theorem rX:(toString "min"++toString ".loop":String)="min.loop":=by decide
theorem BE {ok:Heap->Prop} (W:Walks prog w A.in1 I fp wr n Pz Sz) (bt:Nat->Nat->Bool) (hcmp:NK prog w A.in1 ok Pz bt) (S:Addr) (nf:S∉fp) (okk:∀h h',ok h->(∀b o,b∉wr->b≠S->h.get? b=some o->h'.get? b=some o)->ok h'):
  ∀(k j:Nat) (s:Shared) (vb:Value) (c:Nat),n - (j+1)=k->j+1<=n->ok s.heap->Sz (j+1) s.heap->Pz (argBest bt j) vb->s.heap.get? S=some {cls:=.type "list",dict:=none,data:=.seq #[vb,vb] c,slots:= #[]}->
  (∀v h' tk,Pz (argBest bt (n - 1)) v->(∀b o,b∉wr->b≠S->s.heap.get? b=some o->h'.get? b=some o)->R (.ok (.ret v)) {s with heap:=h',toks:=tk})->codeAny (model prog w) A (.builtin "min.loop" ⟨[.ref I,.none,.ref S],[]⟩) R s:=by
 have nw:S∉wr:=fun h=>nf (W.sub _ h)
 intro k
 induction k with
 |zero=>
  intro j s vb c hk hj bQ st hb gS hR;have e:j+1=n:=by omega
  refine gy F.entry_min_loop ?_;rw[fw gn _];refine ae (m:=seqItems? (.ref S)) (wpAny_seqItems gS rfl ?_);refine ae (m:=tryCatch (pyNext (.ref I)) _) (wpAny_tryCatch (W.done s _ _ (e▸st) fun h' tk kp=>?_));have gS':=kp S _ nw gS;refine ae (m:=updateSeq S (fun _=> #[])) (wpAny_updateSeq gS' rfl (ae (wpAny_letGo (ax ?_))));exact hR vb _ tk (by rw[<-e];exact hb) fun b o h1 h2 q=>(jt _ _ (Ne.symm h2)).trans (kp b o h1 q)
 | succ k ih=>
  intro j s vb c hk hj bQ st hb gS hR;have hlt:j+1<n:=by omega
  refine gy F.entry_min_loop ?_;rw[fw gn _];refine ae (m:=seqItems? (.ref S)) (wpAny_seqItems gS rfl ?_);refine ae (m:=tryCatch (pyNext (.ref I)) _) (wpAny_tryCatch (W.item (j+1) s _ _ hlt st fun v h' tk hP st' kp=>?_));have gS':=kp S _ nw gS;have ok':ok h':=okk _ _ bQ fun b o h1 _ q=>kp b o h1 q
  refine ae (m:=tryCatch (holding [v,v] (richCompare .Lt v vb>>=_)) _) (wpAny_tryCatch (gf (ae (hcmp (j+1) (argBest bt j) v vb {s with heap:=h',toks:=tk} _ _ ok' hP hb ?_))));refine ae (gf (wpAny_truthy_bool (ae (wpAny_letGo (ax ?_)))));cases hbt:bt (j+1) (argBest bt j)with
  |true=>
   simp only[if_true];refine ae (wpAny_updateSeq gS' rfl (ae (wpAny_letGo ?_)));rw[rX];have ne:∀{b:Addr} {o:Obj},b≠S->h'.get? b=some o->(h'.update S (Obj.mapSeq fun _=> #[v,v])).get? b=some o:=fun h q=>(jt _ _ (Ne.symm h)).trans q
   refine ax ⟨jb gn _,ih (j+1) _ v _ (by omega) hlt (okk _ _ ok' fun b o _ h2 q=>ne h2 q) (W.frame _ _ _ st' fun b hbf o q=>ne (fun z=>nf (by rw[<-z];exact hbf)) q) (by simp only[argBest,hbt,if_true];exact hP) (get?_update_self _ gS' rfl) fun v' h2 tk2 hP' kp2=>?_⟩;exact hR v' h2 tk2 hP' fun b o h1 h3 q=>kp2 b o h1 h3 (ne h3 (kp b o h1 q))
  |false=>
   simp only[false_eq_true,if_false];refine ae (wpAny_letGo ?_);rw[rX];refine ax ⟨jb gn _,ih (j+1) _ vb c (by omega) hlt ok' st' (by simp only[argBest,hbt,false_eq_true,if_false];exact hb) gS' fun v' h2 tk2 hP' kp2=>?_⟩;exact hR v' h2 tk2 hP' fun b o h1 h3 q=>kp2 b o h1 h3 (kp b o h1 q)
theorem min_list {E:Value->Shared->Prop} {s:Shared} {l:Addr} {vs:List Value} {Q:Value->Shared->Prop} {ok:Heap->Prop} (bt:Nat->Nat->Bool) (hh:A.handled=none) (hl:s.heap.IsList l vs.toArray) (hn:0<vs.length)
  (bQ:∀h',(∀b o,s.heap.get? b=some o->h'.get? b=some o)->ok h') (okk:∀h h':Heap,ok h->(∀b o,b<s.heap.objs.size->h.get? b=some o->h'.get? b=some o)->ok h') (hcmp:NK prog w A.in1 ok (fun i v=>vs[i]? =some v) bt)
  (hq:∀v h' tk,vs[argBest bt (vs.length - 1)]? =some v->(∀b o,s.heap.get? b=some o->h'.get? b=some o)->Q v {s with heap:=h',toks:=tk}):wpAny (model prog w) A (call (.builtin "min") [.ref l]) Q E s:=by
 have lS:l<s.heap.objs.size:=let⟨_,e,_⟩:=hl;cf e
 refine call_function_tree F.kind_min F.plain_min F.entry_min (F.args_min1 _) ?_;refine ae (m:=Builtin.Builtins.bindParams "min" ["key","default"] 0 ⟨[],[]⟩) (wpAny_of_eq (show Builtin.Builtins.bindParams "min" ["key","default"] 0 ⟨[],[]⟩=pure [none,none]from rfl) (ae (ax ?_)));refine ae (wpAny_pyIter_list hl ?_);refine ae (dg ?_);rw[rX];generalize hX:(s.heap.push {cls:=.type "list_iterator",data:=.fields #[.ref l,.int 0 0]})=h1;have z1:h1.objs.size=s.heap.objs.size+1:=by rw[<-hX];exact size_push ..
 have k1:∀b o,s.heap.get? b=some o->h1.get? b=some o:=fun b o e=>by rw[<-hX];exact ao _ e
 have e1:h1.get? s.heap.objs.size=some {cls:=.type "list_iterator",data:=.fields #[.ref l,.int 0 0]}:=by rw[<-hX];exact cc _ rfl
 have nI:l≠s.heap.objs.size:=cm lS;have W:=Walks.list (prog:=prog) (w:=w) (A:=A.in1) (by exact hh) s.heap.objs.size l nI vs.toArray;have gS:(h1.push {cls:=.type "list",data:=.seq ([]:List Value).toArray}).get? h1.objs.size=some {cls:=.type "list",dict:=none,data:=.seq #[] 0,slots:= #[]}:=cc _ rfl;have nf:h1.objs.size∉[s.heap.objs.size,l]:=by
  rw[z1];simp only[bw,jz,or_false,not_or];exact⟨kg (ji _),kg (dv lS)⟩
 have nw:h1.objs.size∉[s.heap.objs.size]:=fun z=>nf (by simp at z⊢;exact .inl z)
 have st0:(h1.push {cls:=.type "list",data:=.seq ([]:List Value).toArray}).IsListIter s.heap.objs.size l 0/\(h1.push {cls:=.type "list",data:=.seq ([]:List Value).toArray}).IsList l vs.toArray:=by
  refine⟨⟨_,ao _ e1,rfl,rfl⟩,?_⟩;obtain⟨o,e,r⟩:=hl;exact⟨o,ao _ (k1 _ _ e),r⟩
 refine ax ⟨jb gn _,?_⟩;refine gy F.entry_min_loop ?_;rw[fw gn _];refine ae (m:=seqItems? (.ref h1.objs.size)) (wpAny_seqItems gS rfl ?_);refine ae (m:=tryCatch (pyNext (.ref s.heap.objs.size)) _) (wpAny_tryCatch (W.item 0 {s with heap:=h1.push {cls:=.type "list",data:=.seq ([]:List Value).toArray}} _ _ (by simpa using hn) st0 fun v h' tk hP st' kp=>?_));have gS':=kp h1.objs.size _ nw gS;refine ae (m:=updateSeq h1.objs.size (fun _=> #[v,v])) (wpAny_updateSeq gS' rfl ?_);rw[rX];have ne:∀{b:Addr} {o:Obj},b≠h1.objs.size->h'.get? b=some o->(h'.update h1.objs.size (Obj.mapSeq fun _=> #[v,v])).get? b=some o:=fun h q=>(jt _ _ (Ne.symm h)).trans q
 have ltS:∀{b:Addr} {o:Obj},s.heap.get? b=some o->b∉[s.heap.objs.size]/\b≠h1.objs.size:=fun e=>by
  have:=cf e;rw[z1];exact⟨by simp;exact cm this,cm (dv this)⟩
 have kq:∀b o,s.heap.get? b=some o->(h'.update h1.objs.size (Obj.mapSeq fun _=> #[v,v])).get? b=some o:=fun b o e=>ne (ltS e).2 (kp b o (ltS e).1 (ao _ (k1 b o e)))
 refine ax ⟨jb gn _,BE (ok:=ok) W bt (fun i j vi vj s Q E h1 h2 h3 h4=>hcmp i j vi vj s Q E h1 (by simpa using h2) (by simpa using h3) h4) h1.objs.size nf (fun h h2 o k=>okk h h2 o fun b u hb q=>k b u (by simp;exact cm hb) (by rw[z1];exact cm (dv hb)) q) _ 0 _ v _ rfl (by simp;omega) (bQ _ kq) (W.frame _ _ _ st' fun b hbf o q=>ne (fun z=>nf (by rw[<-z];exact hbf)) q) (by simpa [argBest]using hP) (get?_update_self _ gS' rfl) fun v' h2 tk2 hP' kp2=>?_⟩;exact hq v' h2 tk2 (by simpa using hP') fun b o e=>kp2 b o (ltS e).1 (ltS e).2 (kq b o e)
end
end L2
namespace Mr
open PySem PySem.Spec L2 PyProof.Rows PySem.W
noncomputable def vW (ps:List PV) (i j:Nat):Bool:=fY (code 3 (ps.getD i .bD)) (code 3 (ps.getD j .bD))
noncomputable def C9 (ps:List PV):PV:=ps.getD (argBest (vW ps) (ps.length - 1)) .bD
theorem pS (bt:Nat->Nat->Bool):∀k,argBest bt k<=k
 |0=>bf _
 |k+1=>by
  have:=pS bt k;unfold argBest;split<;>omega
theorem R8 {ps:List PV} {k:Nat} (hk:k<ps.length):∀i,i<=k->oH 3 (ps.getD (argBest (vW ps) k) .bD) (ps.getD i .bD)=true:=by
 induction k with
 |zero=>
  intro i hi;have:i=0:=by omega
  subst this;unfold oH argBest;rw[show fY (code 3 (ps.getD 0 .bD)) (code 3 (ps.getD 0 .bD))=false from rT.irrefl _];rfl
 | succ k ih=>
  intro i hi;have ih:=ih (by omega);unfold argBest;cases e:vW ps (k+1) (argBest (vW ps) k)with
  | true=>
   rw[aj rfl]
   by_cases h:i=k+1
   .subst h;unfold oH;rw[show fY (code 3 (ps.getD (k+1) .bD)) (code 3 (ps.getD (k+1) .bD))=false from rT.irrefl _];rfl
   .refine rY _ (ps.getD (argBest (vW ps) k) .bD) _ ?_ (ih i (by omega));unfold oH;rw[show fY (code 3 (ps.getD (argBest (vW ps) k) .bD)) (code 3 (ps.getD (k+1) .bD))=false from z3 (A:=rT) e];rfl
  | false=>
   rw[ai au]
   by_cases h:i=k+1
   .subst h;unfold oH;rw[show fY (code 3 (ps.getD (k+1) .bD)) (code 3 (ps.getD (argBest (vW ps) k) .bD))=false from e];rfl
   .exact ih i (by omega)
theorem DQ {ps:List PV} {q:PV} (hq:q∈ps):oH 3 (C9 ps) q=true:=by
 obtain⟨i,hi,rfl⟩:=List.mem_iff_getElem.mp hq;have:=R8 (ps:=ps) (k:=ps.length - 1) (by omega) i (by omega);rw[show ps.getD i .bD=ps[i] by rw[az,ag hi];rfl]at this;exact this
section
variable {X:Cx} {k:Nat}
def TY (K:Frag):List V->Hp->VK->Prop:=fun xs H Q=>∃p ys ps,xs=[.ref p]/\k7 K H p ys/\bH K cT H ps ys/\0<ps.length/\dA 3 ps=true/\Q (ys.getD (argBest (vW ps) (ps.length - 1)) .bD) H
theorem abG (K:Frag) (hr:dG k X.A) (hK:X.K=K:=by rfl) (hc:X.calm=true:=by rfl):cN X (.builtin "min") (TY K):=by
 subst hK;intro pins s σ H xs us Q I r ⟨p,ys,ps,e,hq,rp,h0,cmp,q⟩;subst e;obtain⟨u,rfl,rx⟩:=vals1 r;cases rx;obtain⟨vs,rv,pl,hz⟩:=I.list hq;have hlen:=rv.length;have hpl:=rp.length;have ok:∀x∈ps,gX 3 x=true:=fun x hx=>by
  have:=bg.mp cmp x hx;rw[bz]at this;exact zL this.1
 refine min_list (ok:=fun h=>∀b o,s.heap.get? b=some o->h.get? b=some o) (vW ps) (by exact I.ok.hd hc) pl.isList (by omega) (fun h' kp=>kp) (fun h h' o kk b u e=>kk b u (cf e) (o b u e)) (fun i j vi vj s' Q E bQ h1 h2 hQ=>?_) fun v h' tk hv kp=>?_
 .have hL:bR s'.heap ps vs:=bH.lies (I.kept (t':=s.toks) bQ) (n:=3) (bg.mpr ok) rp rv;obtain⟨p1,e1,l1⟩:=hL.get h1;obtain⟨p2,e2,l2⟩:=hL.get h2;have m1:=bh e1;have m2:=bh e2;refine DW (s:=s') 3 X.A.in1 (by have:=hr.un;show X.A.units+1+3<_;omega) (ok p1 m1) (ok p2 m2) l1 l2 (qP cmp m1 m2) _ _ _ _ ?_;have hQ:Q (.bool (fY (code 3 (ps.getD i .bD)) (code 3 (ps.getD j .bD)))) s':=hQ;rw[az,e1,az,e2]at hQ;exact hQ
 .obtain⟨y,hy,ry⟩:=rv.get' hv;refine⟨y,H,I.kept (t':=tk) kp,ry,?_⟩;rw[az,show ps.length=vs.length by omega,hy]at q;exact q
end
section
variable {K:Frag}
noncomputable def GR:List PV->Option Bv
 |[.lst ps]=>bC (decide (0<ps.length) && dA 3 ps) (some (.val (C9 ps)))
 |_=>none
theorem G8:jG K (TY K) GR:=by
 intro Z H vs qs b Q hp h kk;unfold GR at h;split at h
 .rename_i ps;obtain⟨c,h⟩:=aM h;cases h;rw[bz]at c;have c1:=av c.1;obtain⟨v,rfl,hv⟩:=hp.one;obtain⟨a,ys,rfl,ha,ra⟩:=hv.wG;refine⟨a,ys,ps,rfl,ha.sq,ra.aK (.less fun _ z=>z.elim),c1,c.2,kk _ H (aX.refl _) ?_⟩;have hlt:argBest (vW ps) (ps.length - 1)<ps.length:=by have:=pS (vW ps) (ps.length - 1);omega
  obtain⟨y,hy,ry⟩:=ra.get (ag hlt);show Rep K Z H (C9 ps) _;unfold C9;rw[az,az,hy,ag hlt];exact ry
 .cases h
end
end Mr
namespace L2
open PySem
section
variable {X:Cx} {pins:List (Addr×Obj)} {σ:St} {H:Hp} {s:Shared} {a:Addr} {y d:V} {u r:Value} {A:Around} {E:Value->Shared->Prop}
theorem M7 {kvs:List (Key×V)} {k:Key} {Q:Value->Shared->Prop} (I:Inv X pins σ H s) (e:uX H a kvs) (ry:RelV (kV k) u) (rd:RelV d r) (hz:kvs.length<sizeLine)
  (h1:∀v w' s',dS kvs k=some v->Inv X pins σ H s'->RelV v w'->Q w' s') (h2:∀ep s',dS kvs k=none->Inv X pins σ (upd H a (.dK (putK kvs k d) ep)) s'->Q r s'):
  wpAny (model X.prog X.w) A (call (.builtin "dict.setdefault") [.ref a,u,r]) Q E s:=by
 obtain⟨z,hd,vs,rel,dd⟩:=MF I.bQ e;have hz':vs.length<=sizeLine:=by rw[<-rel.length];exact z
 have rv:=rel.val k;refine call_meetsIn PySem.F.slot_dict_setdefault dd.typeIs PySem.F.entry_dict_setdefault (PySem.F.args_dict_setdefault_3 _ _ _) (kt_meets_setdefault (bS X.prog X.w) a (qI ry) hd r) ⟨vs,dd,hz',fun v hv=>?_,fun hn h' dd' hs=>?_⟩
 .rw[hv]at rv;cases c:dS kvs k with
  |none=>rw[c]at rv;exact rv.elim
  |some v'=>rw[c]at rv;exact h1 v' v _ c (I.tok _) rv
 .rw[hn]at rv;cases c:dS kvs k with
  |some v'=>rw[c]at rv;exact rv.elim
  |none=>
   have hl:(putK kvs k d).length<=sizeLine:=by have:=jN kvs k d;omega
   have he:∃q,h'.get? a=some q:=let⟨q,_,_,hq,_⟩:=dd';⟨q,hq⟩
   obtain⟨ep,da⟩:=dd'.dictAt;exact h2 ep _ c (uB I e.mut hs he (C8 hl hd (rel.put k rd) da))
end
def OD (td ty tx:TE):TE:=fun σ H Q=>td σ H fun x H1=>∃a,x= .ref a/\IsD H1 a/\ty σ H1 fun y H2=>tx σ H2 fun z H3=>∃kvs k,uX H3 a kvs/\y=kV k/\kvs.length<sizeLine/\
 (∀v,dS kvs k=some v->Q v H3)/\(∀ep,dS kvs k=none->Q z (upd H3 a (.dK (putK kvs k z) ep)))
section
variable {X:Cx} {o e f:Expr} {apos cpos:Pos} {td ty tx:TE}
theorem D6 (ho:PE X o td) (he:PE X e ty) (hf:PE X f tx) (m:M2 X o "setdefault" apos e f cpos):PE X (.Call (.Attribute o "setdefault" apos) [e,f] [] cpos) (OD td ty tx):=by
 intro pins s σ H Q I h;refine wpAny_Call_method m.base m.few m.line plainAttrs_dict PySem.F.slot_dict_setdefault PySem.F.type_dict_setdefault (cL (ho pins s σ H _ I h) fun u s1 ⟨x,H1,I1,rx,a,ex,d,q1⟩=>?_);subst ex;obtain rfl:u=Value.ref a:=rx;obtain⟨t1,t2,_⟩:=ED I1 d;refine⟨t1,t2,?_⟩;rw[m.trees];refine gV rfl (Calls.evalArgs_plain (jh (cL (he pins s1 σ H1 _ I1 q1) fun iv s2 ⟨y,H2,I2,ry,q2⟩=>
  jh (cL (hf pins s2 σ H2 _ I2 q2) fun fv s3 ⟨z,H3,I3,rz,kvs,k,ea,ey,hz,g1,g2⟩=>Calls.spliced_nil ?_))))
 subst ey;exact M7 I3 ea ry rz hz (fun v w' s' c I' r'=>⟨v,H3,I',r',g1 v c⟩) fun ep s' c I'=>⟨z,_,I',rz,g2 ep c⟩
end
end L2
namespace Mr
open PySem L2
variable {a:Addr} {d:DD} {e:En} {D:Ends} {fa:FA} {fb fk fv:FE} {fc:FT} {f g:FX} {H H' H1:Hp} {i:Nat} {σ:St} {tv:TE} {t:Tr} {W:WS} {fi:YH} {B L L1 M O Z:aJ} {Q:w4->Prop}
abbrev DD:=List (Key×List PV)
abbrev Tr:=List (Key×Addr×List PV)
noncomputable def ofT (t:Tr):DD:=t.map fun z=>(z.1,z.2.2)
def BX (a:Addr) (t:Tr):aJ:=fun b=>b=a\/ b∈t.map (·.2.1)
noncomputable def wB (W:WS) (B:aJ):WS:=⟨W.w,fun c=>W.old c/\¬B c⟩
structure Sec (K:Frag) (Z:aJ) (H:Hp) (a:Addr) (t:Tr):Prop where
 SU:uX H a (t.map fun z=>(z.1,V.ref z.2.1))
 lst:∀z∈t,∃xs,H z.2.1=some (.lst xs)/\bH K Z H z.2.2 xs
 nd:(a::t.map (·.2.1)).Nodup
 kd:(t.map (·.1)).Nodup
def Bok (O L:aJ) (H:Hp) (B:aJ):Prop:=∀b,B b->H b≠none/\¬O b/\¬L b
theorem Bok.SS (o:kH O M W L H) (b:Bok O L H B):kH (aT O B) (aT M B) (wB W B) L H:=
 ⟨fun a h=>h.elim (o.old a) fun h=>(b a h).1,fun a h=>h.elim (fun h=>.inl (o.mo a h)) .inr,fun i a h=>.inl (o.wm i a h),fun a h=>⟨(o.loc a h).1,fun z=>z.elim (o.loc a h).2 fun z=>(b a z).2.2 h⟩⟩
structure eT (W:WS) (L L' B B':aJ) (H H':Hp):Prop where
 obj:∀a o,H a=some o->¬aw W a->¬L a->¬B a->H' a=some o
 tup:∀a xs,H a=some (.tup xs)->H' a=some (.tup xs)
 cC:∀a,H a≠none->H' a≠none
 new:∀a,L' a->L a\/ H a=none
 RD:∀a,B' a->B a\/ H a=none
theorem none_of {H:Hp} (d:∀a,H a≠none->H1 a≠none) {a:Addr} (h:H1 a=none):H a=none:=by
 cases e:H a with
 |none=>rfl
 |some o=>exact absurd h (d a (by rw[e];exact fun z=>nomatch z))
theorem eT.keep (k:bY W L H H'):eT W L L B B H H':=⟨fun a o h n m _=>k.obj a o h n m,k.tup,k.cC,fun _ h=>.inl h,fun _ h=>.inl h⟩
theorem eT.refl:eT W L L B B H H:=.keep .refl
theorem eT.trans {L2 B1 B2:aJ} {H2:Hp} (a:eT W L L1 B B1 H H1) (b:eT W L1 L2 B1 B2 H1 H2):eT W L L2 B B2 H H2:=
  ⟨fun c o h n m l=>b.obj c o (a.obj c o h n m l) n (fun z=>(a.new c z).elim m fun z=>(by rw[h]at z;cases z)) fun z=>(a.RD c z).elim l fun z=>(by rw[h]at z;cases z),
   fun c xs h=>b.tup c xs (a.tup c xs h),fun c h=>b.cC c (a.cC c h),fun c h=>(b.new c h).elim (a.new c) fun z=>.inr (none_of a.cC z),fun c h=>(b.RD c h).elim (a.RD c) fun z=>.inr (none_of a.cC z)⟩
inductive w4 where
 |nx (e:En) (d:DD)|ct (e:En) (d:DD)
abbrev FX:=En->DD->Option w4
structure JE (K:Frag) (O M:aJ) (W:WS) (x:Nat) (a:Addr) (L:aJ) (σ:St) (H:Hp) (e:En) (t:Tr):Prop where
 ok:kH O M W L H
 zJ:Bok O L H (BX a t)
 en:aP K (aT (aT M (BX a t)) L) (wB W (BX a t)) L H σ e
 at':σ[x]? =some (some (.ref a))
 sec:Sec K (aT (aT M (BX a t)) L) H a t
def F8 (K:Frag) (O M:aJ) (W:WS) (x:Nat) (a:Addr) (L:aJ) (H:Hp) (t:Tr) (D:Ends):w4->Prop
 | .nx e' d'=>∀L' σ' H' t',eT W L L' (BX a t) (BX a t') H H'->JE K O M W x a L' σ' H' e' t'->ofT t'=d'->D.nx σ' H'
 | .ct e' d'=>∀L' σ' H' t',eT W L L' (BX a t) (BX a t') H H'->JE K O M W x a L' σ' H' e' t'->ofT t'=d'->D.ct σ' H'
theorem F8.later {K:Frag} {x:Nat} {t1:Tr} {r:w4} (g:eT W L L1 (BX a t) (BX a t1) H H1) (h:F8 K O M W x a L H t D r):F8 K O M W x a L1 H1 t1 D r:=by
 cases r with
 |nx e d=>exact fun L' σ' H' t' g'=>h L' σ' H' t' (g.trans g')
 |ct e d=>exact fun L' σ' H' t' g'=>h L' σ' H' t' (g.trans g')
def CK (K:Frag) (x:Nat) (ts:TS) (f:FX):Prop:=∀(O M:aJ) (W:WS) (a:Addr) (L:aJ) (σ:St) (H:Hp) (e:En) (t:Tr) (r:w4) (D:Ends),JE K O M W x a L σ H e t->f e (ofT t)=some r->F8 K O M W x a L H t D r->ts D σ H
section
variable {K:Frag} {x:Nat}
theorem Sec.keep (o:kH O M W L H) (b:Bok O L H (BX a t)) (k:bY (wB W (BX a t)) L H H') (s:Sec K (aT (aT M (BX a t)) L) H a t):Sec K (aT (aT M (BX a t)) L) H' a t:=by
 have st:=k.aK (b.SS o);have nb:∀c ob,BX a t c->H c=some ob->H' c=some ob:=fun c ob hc h=>k.obj c ob h (fun⟨i,w⟩=>(b c hc).2.1 (o.mo _ (o.wm i c w))) (b c hc).2.2
 exact⟨let⟨ep,e⟩:=s.SU;⟨ep,nb a _ (.inl rfl) e⟩,fun z hz=>let⟨xs,h1,h2⟩:=s.lst z hz;⟨xs,nb _ _ (.inr (bp.mpr ⟨z,hz,rfl⟩)) h1,h2.aK st⟩,s.nd,s.kd⟩
theorem JE.keep {e':En} (n:JE K O M W x a L σ H e t) (k:bY (wB W (BX a t)) L H H') (en:aP K (aT (aT M (BX a t)) L) (wB W (BX a t)) L H' σ e'):JE K O M W x a L σ H' e' t:=
 ⟨n.ok.keep k.cC,fun b h=>⟨k.cC b (n.zJ b h).1,(n.zJ b h).2⟩,en,n.at',n.sec.keep n.ok n.zJ k⟩
theorem kw (k:bY (wB W B) L H H'):bY W L H H':=⟨k.obj,k.tup,k.cC⟩
noncomputable def LG:FX:=fun e d=>some (.nx e d)
theorem HL:CK K x LW LG:=by
 intro O M W a L σ H e t r D n hf q;cases hf;exact q L σ H t .refl n rfl
noncomputable def Y8 (f g:FX):FX:=fun e d=>match f e d with
 |some (.nx e1 d1)=>g e1 d1
 |r=>r
noncomputable def xIf (fc:FT) (f g:FX):FX:=fun e d=>bE (fc e) fun b e1=>bB b (f e1 d) (g e1 d)
theorem MQ {c:TT} {t u:TS} (hc:lI K c fc) (h1:CK K x t f) (h2:CK K x u g):CK K x (XF c t u) (xIf fc f g):=by
 intro O M W a L σ H e tr r D n hf q;obtain⟨b,e1,f1,hf⟩:=aN hf;refine hc _ _ _ L σ H e _ _ _ (n.zJ.SS n.ok) n.en f1 fun H1 k1 en=>?_
 have n1:=n.keep k1 en;cases b with
 |true=>rw[aj rfl];exact h1 O M W a L σ H1 e1 tr r D n1 hf (q.later (.keep (kw k1)))
 |false=>rw[ai au];exact h2 O M W a L σ H1 e1 tr r D n1 hf (q.later (.keep (kw k1)))
def GK (K:Frag) (x:Nat) (g:TG) (f:FG):Prop:=∀(O M:aJ) (W:WS) (L:aJ) (σ:St) (H:Hp) (e e':En) (p:PV) (v:V) (Q:St->Hp->Prop),kH O M W L H->aP K (aT M L) W L H σ e->Rep K (aT M L) H p v->f p e=some e'->(∀σ',σ'[x]? =σ[x]?->aP K (aT M L) W L H σ' e'->Q σ' H)->g v σ H Q
def zG (K:Frag) (x:Nat) (g:E8) (f:J0):Prop:=∀(O M:aJ) (W:WS) (L:aJ) (σ:St) (H:Hp) (e e':En) (p:List PV) (v:List V) (Q:St->Hp->Prop),kH O M W L H->aP K (aT M L) W L H σ e->bH K (aT M L) H p v->f p e=some e'->(∀σ',σ'[x]? =σ[x]?->aP K (aT M L) W L H σ' e'->Q σ' H)->g v σ H Q
theorem DZ (h:i≠x):GK K x (m8 i) (aS i):=by
 intro O M W L σ H e e' p v Q o he hp hf q;cases hf;exact q _ (dh h) (aP.put he rfl hp)
theorem JX:zG K x XG jL:=by
 intro O M W L σ H e e' p v Q o he hp hf q;cases p with
 |nil=>cases hf;cases hp;exact⟨rfl,q σ rfl he⟩
 |cons p ps=>cases hf
theorem C1 {g:TG} {gs:E8} {f:FG} {fs:J0} (h1:GK K x g f) (h2:zG K x gs fs):zG K x (J6 g gs) (cB f fs):=by
 intro O M W L σ H e e' p v Q o he hp hf q;cases p with
 |nil=>cases hf
 |cons p ps=>
  obtain⟨e1,f1,hf⟩:=aF hf;cases hp with
  |cons hp hr=>exact⟨_,_,rfl,h1 O M W L σ H e e1 p _ _ o he hp f1 fun σ' ex he'=>h2 O M W L σ' H e1 e' ps _ _ o he' hr hf fun σ2 ex2=>q σ2 (ex2.trans ex)⟩
theorem IQ {n:Nat} {g:E8} {f:J0} (h:zG K x g f):GK K x (QI K n g) (jQ n f):=by
 intro O M W L σ H e e' p v Q o he hp hf q;cases p with
 |tup ps=>
  obtain⟨g1,hf⟩:=aM hf;cases hp with
  |tup ha hr=>exact⟨_,_,rfl,ha.sq,by rw[<-hr.length];exact av g1,h O M W L σ H e e' ps _ Q o he hr hf q⟩
 |_=>cases hf
def ZT (K:Frag) (Z:aJ) (H:Hp) (J:It) (items:List PV):Prop:=∀Z' H',cS Z Z' H H'->(∀k p,items[k]? =some p->J.go k H'/\∀x H3,J.YB k H' x H3->aX H' H3/\Rep K Z' H3 p x)/\J.stop items.length H'
abbrev YH:=En->Option (List PV×En)
def L0 (K:Frag) (wi:TI) (f:YH):Prop:=∀(O M:aJ) (W:WS) (L:aJ) (σ:St) (H:Hp) (e e':En) (ps:List PV) (R:It->Hp->Prop),kH O M W L H->aP K (aT M L) W L H σ e->f e=some (ps,e')->
 (∀J H',bY W L H H'->aP K (aT M L) W L H' σ e'->ZT K (aT M L) H' J ps->R J H')->wi σ H R
noncomputable def xIt (f:FE):YH:=fun e=>bE (f e) fun b e1=>match b with
 | .val (.tup ps)=>some (ps,e1)
 |_=>none
theorem Q1 {t:TE} {f:FE} (h:Ref K t f):L0 K (U0 K t) (xIt f):=by
 intro O M W L σ H e e' ps R o he hf q;obtain⟨b,e1,f1,hf⟩:=aN hf;refine h O M W L σ H e e1 b _ o he f1 fun v H1 k1 rb fr=>?_
 split at hf
 .cases hf;obtain⟨en,rp⟩:=rb;cases rp with
  |tup ha r=>
   rename_i aa xs;refine .inr (.inl ⟨_,rfl,⟨_,ha.sq⟩,q _ H1 k1 en fun Z' H' st=>?_⟩);have sq:qB K H' aa xs:=TupAt.sq (ha.elim (fun h=>.inl (st.tup _ _ h)) .inr);refine⟨fun k p hp=>?_,xs,sq,by rw[r.length];exact bf _⟩;obtain⟨v,hv,rv⟩:=r.get hp;refine⟨⟨xs,v,sq,hv⟩,fun x H3 y=>?_⟩;obtain⟨e,y⟩:=y;subst e;have:=y xs sq;rw[hv]at this;cases this;exact⟨aX.refl _,rv.aK st⟩
 .cases hf
noncomputable def UM (fa:FA):YH:=fun e=>bE (fa e) fun bs e1=>match bs with
 |[.val (.tup ps)]=>some (ps.zipIdx.map fun z=>.tup [.int (z.2:Int),z.1],e1)
 |_=>none
theorem J5 {ta:TA} (h:tR K ta fa):L0 K (zS K ta) (UM fa):=by
 intro O M W L σ H e e' ps R o he hf q;obtain⟨b,e1,f1,hf⟩:=aN hf;refine h O M W L σ H e e1 b _ o he f1 fun vs H1 k1 en rv=>?_
 split at hf
 .rename_i ps0;cases hf;cases rv with
  | cons h r=>
   cases r;cases h with
   | tup ha ra=>
    rename_i aa xs;refine .inl ⟨aa,xs,rfl,ha.sq,q _ H1 k1 en fun Z' H' st=>?_⟩;have sq:qB K H' aa xs:=TupAt.sq (ha.elim (fun h=>.inl (st.tup _ _ h)) .inr);refine⟨fun k p hp=>?_,xs,sq,by rw[ah,ja,ra.length]⟩;rw[aq,gx]at hp;cases c:ps0[k]? with
    |none=>rw[c]at hp;cases hp
    |some p0=>
     rw[c]at hp;cases hp;obtain⟨v,hv,rv⟩:=ra.get c;refine⟨⟨xs,v,sq,hv⟩,fun x H3 y=>?_⟩;obtain⟨t,ht,rfl,y⟩:=y;obtain⟨x',hx',rfl⟩:=y xs sq;rw[hv]at hx';cases hx';refine⟨aX.upd ht,.tup (.inl aV) (.cons ?_ (.cons ((rv.aK st).aK (.same (aX.upd ht))) .nil))⟩;rw[gw];exact .int _
 .cases hf
noncomputable def oZ (body:PV->En->DD->Option w4):List PV->En->DD->Option w4
 |[],e,d=>some (.nx e d)
 |p::ps,e,d=>match body p e d with
  |some (.nx e1 d1)=>oZ body ps e1 d1
  |some (.ct e1 d1)=>oZ body ps e1 d1
  |none=>none
noncomputable def LP (fi:YH) (fg:FG) (fb:FX):FX:=fun e d=>bE (fi e) fun ps e1=>oZ (fun x e d=>bO (fg x e) fun e2=>fb e2 d) ps e1 d
theorem eT.aK {L':aJ} {t':Tr} (o:kH O M W L H) (g:eT W L L' (BX a t) (BX a t') H H'):cS (aT (aT M (BX a t)) L) (aT (aT M (BX a t')) L') H H':=
 ⟨g.tup,fun c ob h n=>⟨g.obj c ob h (fun⟨i,w⟩=>n (.inl (.inl (o.wm i c w)))) (fun z=>n (.inr z)) fun z=>n (.inl (.inr z)),fun z=>by
  rcases z with(z|z)|z
  .exact n (.inl (.inl z))
  .exact(g.RD c z).elim (fun z=>n (.inl (.inr z))) fun z=>by rw[h]at z;cases z
  .exact(g.new c z).elim (fun z=>n (.inr z)) fun z=>by rw[h]at z;cases z⟩⟩
theorem N7 {wi:TI} {g:TG} {tb:TS} {fg:FG} {fb:FX} (hi:L0 K wi fi) (hg:GK K x g fg) (hb:CK K x tb fb):CK K x (WW wi g tb) (LP fi fg fb):=by
 intro O M W a L σ H e tr r D n hf q;obtain⟨ps,e1,f1,hf⟩:=aN hf;refine hi _ _ _ L σ H e e1 ps _ (n.zJ.SS n.ok) n.en f1 fun J H1 k1 en it=>?_
 have n1:=n.keep k1 en;have q1:=q.later (.keep (kw k1))
 let N:Nat->St->Hp->Prop:=fun i σ' H'=>∃L' e' t',eT W L L' (BX a tr) (BX a t') H1 H'/\JE K O M W x a L' σ' H' e' t'/\oZ (fun x e d=>bO (fg x e) fun e2=>fb e2 d) (ps.drop i) e' (ofT t')=some r
 refine⟨fun i m σ' H'=>m=ps.length - i/\i<=ps.length/\N i σ' H',⟨ps.length,by simp,dj _,L,e1,tr,.refl,n1,by rw[gd];exact hf⟩,?_⟩;rintro i m σ2 H2 ⟨rfl,hil,L2,e2,t2,g2,n2,f2⟩;obtain⟨itm,its⟩:=it _ H2 (g2.aK n1.ok)
 by_cases hlt:i<ps.length
 .refine .inr ?_;obtain⟨go,yl⟩:=itm i ps[i] (by simp[hlt]);refine⟨go,N (i+1),fun σ' H' n=>⟨ps.length - (i+1),by omega,rfl,hlt,n⟩,fun v H3 y=>?_⟩;obtain⟨s3,rp⟩:=yl v H3 y;rw[du hlt]at f2;unfold oZ at f2;have k3:bY (wB W (BX a t2)) L2 H2 H3:=.same s3;have n3:=n2.keep k3 (n2.en.same s3);have g3:eT W L L2 (BX a tr) (BX a t2) H1 H3:=g2.trans (.keep (kw k3));cases c1:fg ps[i] e2 with
  |none=>rw[c1]at f2;cases f2
  | some e3=>
   rw[c1,uA]at f2;refine hg _ _ _ L2 σ2 H3 e2 e3 _ v _ (n3.zJ.SS n3.ok) n3.en rp c1 fun σ3 ex en3=>?_
   have n4:JE K O M W x a L2 σ3 H3 e3 t2:=⟨n3.ok,n3.zJ,en3,by rw[ex];exact n3.at',n3.sec⟩;cases c2:fb e3 (ofT t2)with
   |none=>rw[c2]at f2;cases f2
   |some r1=>
    rw[c2]at f2;refine hb O M W a L2 σ3 H3 e3 t2 r1 _ n4 c2 ?_;cases r1 with
    |nx e4 d4=>exact fun L' σ' H' t' g' n' ed=>⟨L',e4,t',g3.trans g',n',by rw[ed];exact f2⟩
    |ct e4 d4=>exact fun L' σ' H' t' g' n' ed=>⟨L',e4,t',g3.trans g',n',by rw[ed];exact f2⟩
 .have e:i=ps.length:=by omega
  subst e;rw[drop_length]at f2;cases f2;exact .inl ⟨its,q1 L2 σ2 H2 t2 g2 n2 rfl⟩
end
theorem C4 {α β:Type} {f:α->β}:∀{l:List α},(l.map f).Nodup->∀y∈l,∀z∈l,f y=f z->y=z
 |[],_,_,h,_,_,_=>nomatch h
 | w::l,nd,y,hy,z,hz,e=>by
  rw[cz,fq]at nd;rcases bw.mp hy with e1|h1
  .rcases bw.mp hz with e2|h2
   .rw[e1,e2]
   .exact absurd (bp.mpr ⟨z,h2,by rw[<-e,e1]⟩) nd.1
  .rcases bw.mp hz with e2|h2
   .exact absurd (bp.mpr ⟨y,h1,by rw[e,e2]⟩) nd.1
   .exact C4 nd.2 y h1 z h2 e
noncomputable def oS (d:DD) (k:Key) (p:PV):DD:=if(d.any fun kp=>decide (kp.1=k))=true then d.map (fun kp=>if kp.1=k then(kp.1,kp.2++[p])else kp)else d++[(k,[p])]
noncomputable def vY (t:Tr) (k:Key) (p:PV):Tr:=t.map fun z=>if z.1=k then(z.1,z.2.1,z.2.2++[p])else z
theorem yE (t:Tr) (k:Key) (p:PV):(vY t k p).map (·.2.1)=t.map (·.2.1):=by
 unfold vY;rw[jc];refine ig fun z _=>?_
 simp only[Function.comp_apply];split<;>rfl
theorem KU (t:Tr) (k:Key) (p:PV):(vY t k p).map (·.1)=t.map (·.1):=by
 unfold vY;rw[jc];refine ig fun z _=>?_
 simp only[Function.comp_apply];split<;>rfl
theorem J3 (t:Tr) (k:Key) (p:PV):(vY t k p).map (fun z=>(z.1,V.ref z.2.1))=t.map fun z=>(z.1,V.ref z.2.1):=by
 unfold vY;rw[jc];refine ig fun z _=>?_
 simp only[Function.comp_apply];split<;>rfl
theorem GC (t:Tr) (k:Key) (p:PV):ofT (vY t k p)=(ofT t).map fun kp=>if kp.1=k then(kp.1,kp.2++[p])else kp:=by
 unfold vY ofT;rw[jc,jc];refine ig fun z _=>?_
 simp only[Function.comp_apply];split<;>rfl
theorem y3 (a:Addr) (t:Tr) (k:Key) (p:PV):BX a (vY t k p)=BX a t:=by
 unfold BX;rw[yE]
section
variable {K:Frag} {x:Nat}
theorem aP.grow {Z':aJ} {W':WS} {e:En} (h:aP K Z W L H σ e) (k:cS Z Z' H H') (ew:W'.w=W.w) (od:∀a,W.old a->H a≠none->W'.old a)
  (ow:∀a o,aw W a\/ L a->H a=some o->H' a=some o) (bo:∀a o,H a=some o->W.old a->¬aw W a->¬L a->H' a=some o):aP K Z' W' L H' σ e:=by
 have aw':∀a,aw W' a->aw W a:=fun a ⟨i,w⟩=>⟨i,by rw[<-ew];exact w⟩
 refine⟨h.len,fun i s q=>?_,h.rP⟩;obtain⟨v,h1,h2⟩:=h.at' i s q;refine⟨v,h1,?_⟩;have rn:∀{a:Addr} {ob:HO},Rd H a ob->H a≠none:=fun r=>by rcases r with r|⟨u,r⟩<;>(rw[r];exact fun z=>nomatch z)
 cases s with
 |val p=>exact Rep.aK k h2
 |own p=>obtain⟨a,e,w,c⟩:=h2;exact⟨a,e,by rw[ew];exact w,c.aK k fun o q=>ow a o (.inl ⟨_,w⟩) q⟩
 |loc p=>obtain⟨a,e,w,c⟩:=h2;exact⟨a,e,w,c.aK k fun o q=>ow a o (.inr w) q⟩
 |bor p=>
  obtain⟨a,e,c⟩:=h2;refine⟨a,e,?_⟩;cases c with
  |lst e o n m r=>exact .lst (e.elim (fun e=>.inl (bo _ _ e o n m)) fun⟨u,e⟩=>.inr ⟨u,bo _ _ e o n m⟩) (od _ o (rn e)) (fun z=>n (aw' _ z)) m (r.aK k)
  |eQ e r=>exact .eQ e (r.aK k)
  |bA e o n m kk r=>exact .bA (e.elim (fun e=>.inl (bo _ _ e o n m)) fun⟨u,e⟩=>.inr ⟨u,bo _ _ e o n m⟩) (od _ o (rn e)) (fun z=>n (aw' _ z)) m kk (r.aK k)
theorem aP.unset {e:En} {v:Option V} (h:aP K Z W L H σ e):aP K Z W L H (σ.set i v) (e.set i none):=by
 refine⟨by rw[jv,jv];exact h.len,fun j t q=>?_,fun j k s1 s2 hjk q1 q2 m1 m2=>?_⟩
 .rcases dP q with⟨rfl,hl,e⟩|⟨hn,q⟩
  .cases e
  .rw[dh hn];exact h.at' j t q
 .rcases dP q1 with⟨rfl,hl,e⟩|⟨hn1,q1⟩
  .cases e
  .rcases dP q2 with⟨rfl,hl,e⟩|⟨hn2,q2⟩
   .cases e
   .rw[dh hn1,dh hn2];exact h.rP j k s1 s2 hjk q1 q2 m1 m2
theorem CS {l:Addr} {k:Key} {ps:List PV} {e2:En} {b:Bv} {p:PV} (hv:Ref K tv fv) (n:JE K O M W x a L σ H e t) (hz:(k,l,ps)∈t)
  (f2:fv e=some (b,e2)) (g:b.put=some p) (hl:ps.length<1000000) (q:∀H',eT W L L (BX a t) (BX a (vY t k p)) H H'->JE K O M W x a L σ H' e2 (vY t k p)->D.nx σ H'):
  tyV K "list" (.ref l) H/\(eR tv tZ) σ H fun xs H5=>uJ (.ref l) xs H5 fun _ H6=>D.nx σ H6:=by
 obtain⟨xs0,e0,_⟩:=n.sec.lst _ hz;refine⟨.inl ⟨rfl,xs0,k7.of e0⟩,?_⟩;refine hv _ _ _ L σ H e _ _ _ (n.zJ.SS n.ok) n.en f2 fun v H5 k5 rb fr=>?_
 have o5:=(n.zJ.SS n.ok).keep k5.cC;obtain⟨en,rp⟩:=rb.put o5 g;have n5:=n.keep k5 en;obtain⟨xs,e5,r5⟩:=n5.sec.lst _ hz;have bl:BX a t l:=.inr (bp.mpr ⟨_,hz,rfl⟩);have nl:=(n5.zJ l bl).2;have st:cS (aT (aT M (BX a t)) L) (aT (aT M (BX a t)) L) H5 (upd H5 l (.lst (xs++[v]))):=.write (.inl (.inr bl)) e5 fun _ z=>nomatch z
 have cC:∀c,H5 c≠none->upd H5 l (.lst (xs++[v])) c≠none:=fun c h=>by
  by_cases hc:c=l
  .rw[hc,aV];exact fun z=>nomatch z
  .rw[aU hc];exact h
 have off:∀c ob,c≠l->H5 c=some ob->upd H5 l (.lst (xs++[v])) c=some ob:=fun c ob hc h=>by rw[aU hc];exact h
 refine⟨l,xs,v,rfl,rfl,e5,by rw[<-r5.length,ik];show ps.length<_;omega,q _ ?_ ?_⟩
 .rw[y3];exact⟨fun c ob h nw nL nB=>off c ob (fun z=>nB (by rw[z];exact bl)) (k5.obj c ob h nw nL),fun c ys h=>st.tup c ys (k5.tup c ys h),fun c h=>cC c (k5.cC c h),fun _ h=>.inl h,fun _ h=>.inl h⟩
 .have al:a≠l:=fun z=>by
   have:=n5.sec.nd;rw[fq]at this;exact this.1 (by rw[z];exact bp.mpr ⟨_,hz,rfl⟩)
  refine⟨n5.ok.keep cC,?_,?_,n5.at',?_⟩
  .rw[y3];exact fun c h=>⟨cC c (n5.zJ c h).1,(n5.zJ c h).2⟩
  .rw[y3];refine n5.en.grow st rfl (fun _ h _=>h) (fun c ob h he=>off c ob (fun z=>?_) he) fun c ob he h _ _=>off c ob (fun z=>h.2 (by rw[z];exact bl)) he
   rw[z]at h;exact h.elim (fun⟨i,w⟩=>nl.1 (n.ok.mo _ (n.ok.wm i l w))) nl.2
  .rw[y3];refine⟨?_,fun z hz'=>?_,?_,?_⟩
   .rw[J3];exact let⟨ep,e⟩:=n5.sec.SU;⟨ep,off a _ al e⟩
   .obtain⟨z0,h0,rfl⟩:=bp.mp hz'
    by_cases hk:z0.1=k
    .have:z0=(k,l,ps):=C4 n5.sec.kd z0 h0 _ hz hk;subst this;rw[aj rfl];exact⟨_,aV,(r5.aK st).app (.cons (rp.aK st) .nil)⟩
    .rw[ai hk];obtain⟨ys,h1,h2⟩:=n5.sec.lst z0 h0;have hne:z0.2.1≠l:=fun z=>by
      have:=C4 (fq.mp n5.sec.nd).2 z0 h0 _ hz z;exact hk (by rw[this])
     exact⟨ys,off _ _ hne h1,h2.aK st⟩
   .rw[yE];exact n5.sec.nd
   .rw[KU];exact n5.sec.kd
noncomputable def W7 (fk fv:FE):FX:=fun e d=>bE (fk e) fun kb e1=>bO (kb.weak.get e1) fun kp=>bO (keyOf kp) fun k=>bE (fv e1) fun b e2=>bO b.put fun p=>
 bC (decide (d.length<1000000) && d.all fun kp=>decide (kp.2.length<1000000)) (some (.nx e2 (oS d k p)))
theorem X4:∀(t:Tr) (k:Key),(dS (t.map fun z=>(z.1,V.ref z.2.1)) k=none/\∀z∈t,z.1≠k)\/ ∃z∈t,z.1=k/\dS (t.map fun z=>(z.1,V.ref z.2.1)) k=some (.ref z.2.1)
 |[],k=>.inl ⟨rfl,fun _ h=>nomatch h⟩
 | z::t,k=>by
  by_cases h:z.1=k
  .refine .inr ⟨z,ba,h,?_⟩;unfold dS;rw[cz,find?_cons,decide_eq_true h];rfl
  .have e:dS ((z::t).map fun z=>(z.1,V.ref z.2.1)) k=dS (t.map fun z=>(z.1,V.ref z.2.1)) k:=by
    unfold dS;rw[cz,find?_cons,decide_eq_false h]
   rw[e];rcases X4 t k with⟨h1,h2⟩|⟨y,hy,h1,h2⟩
   .exact .inl ⟨h1,fun w hw=>(bw.mp hw).elim (fun e=>by rw[e];exact h) (h2 w)⟩
   .exact .inr ⟨y,ay _ hy,h1,h2⟩
theorem OK {tk:TE} (hk:Ref K tk fk) (hv:Ref K tv fv):CK K x (OJ (ZM K "list" uJ (OD (y8 x) tk (R6 tZ)) (eR tv tZ))) (W7 fk fv):=by
 intro O M W a L σ H e tr r D n hf q;obtain⟨kb,e1,f1,hf⟩:=aN hf;obtain⟨kp,g1,hf⟩:=aF hf;obtain⟨k,gk,hf⟩:=aF hf;obtain⟨b,e2,f2,hf⟩:=aN hf;obtain⟨p,g2,hf⟩:=aF hf;obtain⟨gz,hf⟩:=aM hf;cases hf;rw[bz]at gz;have z1:=av gz.1;have z2:=bg.mp gz.2;have lenT:tr.length=(ofT tr).length:=by unfold ofT;rw[ah]
 refine⟨.ref a,n.at',a,rfl,.inl ⟨_,n.sec.SU.rd⟩,?_⟩;refine hk _ _ _ L σ H e _ _ _ (n.zJ.SS n.ok) n.en f1 fun y H2 k1 rb fr=>?_
 have o2:=(n.zJ.SS n.ok).keep k1.cC;have n2:=n.keep k1 (rb.en o2);have ky:y=kV k:=((rb.rv o2).red (rb.en o2) g1).key gk;refine⟨dj _,fun l hl=>?_⟩;have al:a≠l:=fun z=>(n2.zJ a (.inl rfl)).1 (by rw[z];exact hl)
 have sm:aX H2 (upd H2 l (.lst [])):=aX.upd hl;have n3:JE K O M W x a L σ (upd H2 l (.lst [])) e1 tr:=n2.keep (.same sm) (n2.en.same sm);refine⟨_,k,n3.sec.SU,ky,by rw[ah,lenT,ik];omega,?_,?_⟩
 .intro v hv';rcases X4 tr k with⟨h1,_⟩|⟨z,hz,h1,h2⟩
  .rw[h1]at hv';cases hv'
  .rw[h2]at hv';cases hv';have hz':(k,z.2.1,z.2.2)∈tr:=by rw[<-h1];exact hz
   have zl:=av (z2 (z.1,z.2.2) (bp.mpr ⟨z,hz,rfl⟩));refine CS hv n3 hz' f2 g2 zl fun H' g' n'=>q L σ H' _ ((eT.keep (kw k1)).trans ((eT.keep (.same sm)).trans g')) n' ?_
   rw[GC];have anyT:((ofT tr).any fun kp=>decide (kp.1=k))=true:=ic.mpr ⟨(z.1,z.2.2),bp.mpr ⟨z,hz,rfl⟩,decide_eq_true h1⟩;unfold oS;rw[aj anyT]
 .intro ep hv';rcases X4 tr k with⟨_,h2⟩|⟨z,hz,h1,h2⟩
  .have anyF:((tr.map fun z=>(z.1,V.ref z.2.1)).any fun kv=>decide (kv.1=k))=false:=by
    rw[any_map,jk];intro z hz;simpa using h2 z hz
   have eput:putK (tr.map fun z=>(z.1,V.ref z.2.1)) k (.ref l)=(tr++[(k,l,[])]:Tr).map fun z:Key×Addr×List PV=>(z.1,V.ref z.2.1):=by
    unfold putK;rw[anyF,ai au,cx];rfl
   rw[eput];have cC:∀c,H2 c≠none->upd (upd H2 l (.lst [])) a (.dK ((tr++[(k,l,[])]:Tr).map fun z:Key×Addr×List PV=>(z.1,V.ref z.2.1)) ep) c≠none:=fun c h=>by
    by_cases hc:c=a
    .rw[hc,aV];exact fun z=>nomatch z
    .rw[aU hc]
     by_cases hc:c=l
     .rw[hc,aV];exact fun z=>nomatch z
     .rw[aU hc];exact h
   have off:∀c ob,c≠a->H2 c=some ob->upd (upd H2 l (.lst [])) a (.dK ((tr++[(k,l,[])]:Tr).map fun z:Key×Addr×List PV=>(z.1,V.ref z.2.1)) ep) c=some ob:=fun c ob hc h=>by
    rw[aU hc,aU (fun z=>by rw[z,hl]at h;cases h)];exact h
   have ll:upd (upd H2 l (.lst [])) a (.dK ((tr++[(k,l,[])]:Tr).map fun z:Key×Addr×List PV=>(z.1,V.ref z.2.1)) ep) l=some (.lst []):=by rw[aU (Ne.symm al),aV]
   have bx:∀c,BX a (tr++[(k,l,[])]) c->BX a tr c\/ c=l:=fun c h=>by
    rcases h with h|h
    .exact .inl (.inl h)
    .rw[cx]at h;rcases bj.mp h with h|h
     .exact .inl (.inr h)
     .exact .inr (by simpa using h)
   have st:cS (aT (aT M (BX a tr)) L) (aT (aT M (BX a (tr++[(k,l,[])]))) L) H2 (upd (upd H2 l (.lst [])) a (.dK ((tr++[(k,l,[])]:Tr).map fun z:Key×Addr×List PV=>(z.1,V.ref z.2.1)) ep)):=
    ⟨fun c ys h=>off c _ (fun z=>by obtain⟨_,e⟩:=n2.sec.SU;rw[z,e]at h;cases h) h,fun c ob h nz=>⟨off c ob (fun z=>nz (.inl (.inr (.inl z)))) h,fun z=>by
     rcases z with(z|z)|z
     .exact nz (.inl (.inl z))
     .rcases bx c z with z|z
      .exact nz (.inl (.inr z))
      .rw[z,hl]at h;cases h
     .exact nz (.inr z)⟩⟩
   have na:=n2.zJ a (.inl rfl);have n4:JE K O M W x a L σ (upd (upd H2 l (.lst [])) a (.dK ((tr++[(k,l,[])]:Tr).map fun z:Key×Addr×List PV=>(z.1,V.ref z.2.1)) ep)) e1 (tr++[(k,l,[])]):=by
    refine⟨n2.ok.keep cC,fun c h=>?_,?_,n2.at',?_⟩
    .rcases bx c h with h|h
     .exact⟨cC c (n2.zJ c h).1,(n2.zJ c h).2⟩
     .rw[h];exact⟨by rw[ll];exact(fun z=>nomatch z),fun z=>n2.ok.old l z hl,fun z=>(n2.ok.loc l z).1 hl⟩
    .refine n2.en.grow st rfl (fun c h hc=>⟨h.1,fun z=>(bx c z).elim h.2 fun z=>hc (by rw[z];exact hl)⟩) (fun c ob h he=>off c ob (fun z=>?_) he) fun c ob he h _ _=>off c ob (fun z=>h.2 (.inl z)) he
     rw[z]at h;exact h.elim (fun⟨i,w⟩=>na.2.1 (n2.ok.mo _ (n2.ok.wm i a w))) na.2.2
    .refine⟨⟨ep,aV⟩,fun z hz=>?_,?_,?_⟩
     .rcases bj.mp hz with hz|hz
      .obtain⟨xs,h1,h3⟩:=n2.sec.lst z hz;have hne:z.2.1≠a:=fun w=>(fq.mp n2.sec.nd).1 (by rw[<-w];exact bp.mpr ⟨z,hz,rfl⟩)
       exact⟨xs,off _ _ hne h1,h3.aK st⟩
      .rw[bu.mp hz];exact⟨[],ll,.nil⟩
     .rw[cx,<-cons_append];refine nodup_append.mpr ⟨n2.sec.nd,by simp,fun u hu w hw e=>?_⟩;have hw':w=l:=by simpa using hw
      rw[e,hw']at hu;rcases bw.mp hu with hu|hu
      .exact al hu.symm
      .obtain⟨z,hz,ez⟩:=bp.mp hu;obtain⟨xs,h1,_⟩:=n2.sec.lst z hz;rw[show z.2.1=l from ez,hl]at h1;cases h1
     .rw[cx];refine nodup_append.mpr ⟨n2.sec.kd,by simp,fun u hu w hw e=>?_⟩;have hw':w=k:=by simpa using hw
      obtain⟨z,hz,ez⟩:=bp.mp hu;exact h2 z hz (by rw[ez,e,hw'])
   have g4:eT W L L (BX a tr) (BX a (tr++[(k,l,[])])) H2 (upd (upd H2 l (.lst [])) a (.dK ((tr++[(k,l,[])]:Tr).map fun z:Key×Addr×List PV=>(z.1,V.ref z.2.1)) ep)):=
    ⟨fun c ob h _ _ nb=>off c ob (fun z=>nb (.inl z)) h,st.tup,cC,fun _ h=>.inl h,fun c h=>(bx c h).elim .inl fun z=>.inr (by rw[z];exact hl)⟩
   have hz:(k,l,[])∈tr++[(k,l,([]:List PV))]:=bj.mpr (.inr ba);refine CS hv n4 hz f2 g2 (by decide) fun H' g' n'=>q L σ H' _ ((eT.keep (kw k1)).trans (g4.trans g')) n' ?_
   have anyD:((ofT tr).any fun kp=>decide (kp.1=k))=false:=by
    unfold ofT;rw[any_map,jk];intro z hz;simpa using h2 z hz
   unfold oS;rw[anyD,ai au,GC];have eo:ofT (tr++[(k,l,[])])=ofT tr++[(k,[])]:=by unfold ofT;rw[cx];rfl
   rw[eo,cx];congr 1
   .have:∀kp∈ofT tr,(if kp.1=k then(kp.1,kp.2++[p])else kp)=kp:=fun kp hkp=>by
     obtain⟨z,hz,rfl⟩:=bp.mp hkp;exact ai (h2 z hz)
    rw[ig this,List.map_id']
   .simp
  .rw[h2]at hv';cases hv'
noncomputable def sX (x:Nat) (f:FX):FS:=fun e=>bC (decide (x<e.length)) (match f (e.set x none) []with
 |some (.nx e' d)=>some (.rt (.new (.bA (d.map fun kp=>(kp.1,.lst kp.2)))) e')
 |_=>none)
theorem vH:∀{t:Tr},(∀z∈t,∃xs,H z.2.1=some (.lst xs)/\bH K Z H z.2.2 xs/\¬Z z.2.1)->bH K Z H (((ofT t).map fun kp=>(kp.1,PV.lst kp.2)).map (·.2)) ((t.map fun z=>(z.1,V.ref z.2.1)).map (·.2))
 |[],_=>.nil
 |z::t,h=>by
  obtain⟨xs,h1,h2,h3⟩:=h z ba;exact .cons (.lst (.inl h1) h3 h2) (vH fun w hw=>h w (ay _ hw))
theorem D3 {ts:TS} (h:CK K x ts f):fR K (PU (u5 zB (m8 x)) (PU ts (XJ (y8 x)))) (sX x f):=by
 intro O M W L σ H e r D o he hf q;obtain⟨hx,hf⟩:=aM hf;have hx:=av hx;split at hf
 .rename_i e' d c;cases hf;intro a ha;have sm:aX H (upd H a (.dK [] 0)):=aX.upd ha;have na:¬O a/\¬L a:=⟨fun z=>o.old a z ha,fun z=>(o.loc a z).1 ha⟩;have b0:∀c,BX a [] c->c=a:=fun c h=>h.elim id fun h=>nomatch h
  have n0:JE K O M W x a L (σ.set x (some (.ref a))) (upd H a (.dK [] 0)) (e.set x none) []:=by
   refine⟨o.keep (bY.same (W:=W) (L:=L) sm).cC,fun c h=>?_,?_,?_,?_⟩
   .rw[b0 c h,aV];exact⟨(fun z=>nomatch z),na⟩
   .refine(he.grow (Z':=aT (aT M (BX a [])) L) (W':=wB W (BX a [])) (H':=upd H a (.dK [] 0)) ⟨fun _ _ h=>sm _ _ h,fun c ob h nz=>⟨sm _ _ h,fun z=>?_⟩⟩ rfl (fun c h hc=>⟨h,fun z=>hc (by rw[b0 c z];exact ha)⟩) (fun c ob _ h=>sm _ _ h) fun c ob h _ _ _=>sm _ _ h).unset;rcases z with(z|z)|z
    .exact nz (.inl z)
    .rw[b0 c z,ha]at h;cases h
    .exact nz (.inr z)
   .rw[et (by rw[<-he.len];exact hx)]
   .exact⟨⟨0,aV⟩,(fun _ h=>nomatch h),by simp,by simp⟩
  refine h O M W a L _ _ _ [] _ _ n0 c fun L' σ' H' t' g n ed=>⟨.ref a,n.at',q L' σ' H' (.ref a) ?_ n.ok ?_⟩
  .refine⟨fun c ob h nw nl=>g.obj c ob (sm _ _ h) nw nl fun z=>?_,fun c ys h=>g.tup c ys (sm _ _ h),fun c h=>g.cC c ((bY.same (W:=W) (L:=L) sm).cC c h),fun c h=>(g.new c h).elim .inl fun z=>.inr (none_of (bY.same (W:=W) (L:=L) sm).cC z)⟩;rw[b0 c z,ha]at h;cases h
  .subst ed;have nb:=fun c h=>n.zJ c h
   have na':=nb a (.inl rfl);have less:∀c,aT M (aT L' (one a)) c->aT (aT M (BX a t')) L' c:=fun c z=>by
    rcases z with z|z|z
    .exact .inl (.inl z)
    .exact .inr z
    .exact .inl (.inr (.inl z))
   have k:cS (aT (aT M (BX a t')) L') (aT M (aT L' (one a))) H' H':=.less less;refine⟨a,rfl,na'.2.1,na'.2.2,⟨n.en.len,fun i s hs=>?_,n.en.rP⟩,fun i s hs hm es=>?_,?_⟩
   .obtain⟨v,h1,h2⟩:=n.en.at' i s hs;refine⟨v,h1,?_⟩;cases s with
    |val p=>exact Rep.aK k h2
    |own p=>obtain⟨a,e,w,c⟩:=h2;exact⟨a,e,w,c.aK k fun o q=>q⟩
    |loc p=>obtain⟨a,e,w,c⟩:=h2;exact⟨a,e,.inl w,c.aK k fun o q=>q⟩
    |bor p=>
     obtain⟨a',e,c⟩:=h2;refine⟨a',e,?_⟩;cases c with
     |lst e od n m r=>exact .lst e od.1 n (fun z=>z.elim m fun z=>od.2 (.inl z)) (r.aK k)
     |eQ e r=>exact .eQ e (r.aK k)
     |bA e od n m kk r=>exact .bA e od.1 n (fun z=>z.elim m fun z=>od.2 (.inl z)) kk (r.aK k)
   .obtain⟨v,h1,h2⟩:=n.en.at' i s hs;rw[h1]at es;cases es;cases s with
    |val p=>cases hm
    |bor p=>cases hm
    |own p=>obtain⟨a',e,w,c⟩:=h2;cases e;exact na'.2.1 (n.ok.mo _ (n.ok.wm i a w))
    |loc p=>obtain⟨a',e,w,c⟩:=h2;cases e;exact na'.2.2 w
   .obtain⟨_,SU⟩:=n.sec.SU;refine .bA SU ?_ (vH fun z hz=>?_)
    .unfold ofT;rw[jc,jc,jc];rfl
    .obtain⟨xs,h1,h2⟩:=n.sec.lst z hz;have hb:BX a t' z.2.1:=.inr (bp.mpr ⟨z,hz,rfl⟩);have nz:=nb _ hb;refine⟨xs,h1,h2.aK k,fun w=>?_⟩;rcases w with w|w|w
     .exact nz.2.1 (n.ok.mo _ w)
     .exact nz.2.2 w
     .exact(fq.mp n.sec.nd).1 (by rw[<-show z.2.1=a from w];exact bp.mpr ⟨z,hz,rfl⟩)
 .cases hf
end
section
variable {K:Frag}
noncomputable def LU:PV->PV->PV->Option Bv
 | .bA kvs,p,z=>bO (keyOf p) fun k=>some (.val ((cE kvs k).getD z))
 |_,_,_=>none
noncomputable def J2 (fa fb fc:FE):FE:=fun e=>bE (fa e) fun x e1=>bO (x.weak.get e1) fun p1=>match p1 with
 | .bA _=>bE (fb e1) fun y e2=>bE (fc e2) fun z e3=>bO z.put fun pz=>bO (x.weak.get e3) fun p=>bO (y.weak.get e3) fun q=>bO (LU p q pz) fun b=>some (b,e3)
 |_=>none
theorem LD {ta tb tc:TE} {fa fc:FE} (ha:Ref K ta fa) (hb:Ref K tb fb) (hc:Ref K tc fc):Ref K (MP ta tb tc) (J2 fa fb fc):=by
 intro O M W L σ H e e' b Q o he hf q;obtain⟨x,e1,f1,hf⟩:=aN hf;obtain⟨p1,g0,hf⟩:=aF hf;cases p1 with
 | bA kvs1=>
  obtain⟨y,e2,f2,hf⟩:=aN hf;obtain⟨z,e3,f3,hf⟩:=aN hf;obtain⟨pz,gz,hf⟩:=aF hf;obtain⟨p,g1,hf⟩:=aF hf;obtain⟨p',g2,hf⟩:=aF hf;obtain⟨c,g3,hf⟩:=aF hf;cases hf;refine ha O M W L σ H e e1 x _ o he f1 fun v1 H1 k1 r1 fr=>?_
  have o1:=o.keep k1.cC;obtain⟨a1,ys1,e11,ha1,_,_⟩:=((r1.rv o1).red (r1.en o1) g0).tS;refine⟨a1,e11,.inl ⟨ys1,ha1⟩,?_⟩;refine hb O M W L σ H1 e1 _ y _ o1 (r1.en o1) f2 fun v2 H2 k2 r2 fr=>?_
  have o2:=o1.keep k2.cC;refine hc O M W L σ H2 e2 _ z _ o2 (r2.en o2) f3 fun v3 H3 k3 r3 fr=>?_
  have o3:=o2.keep k3.cC;obtain⟨en,rz⟩:=r3.put o3 gz;have rp:=(((r1.rv o1).keep o1 k2).keep o2 k3).red en g1;have rq:=((r2.rv o2).keep o2 k3).red en g2;cases p with
  | bA kvs=>
   obtain⟨key,g4,g3⟩:=aF g3;cases g3;obtain⟨a,ys,e3',ha',ek,r⟩:=rp.tS;rw[e11]at e3';cases e3';refine⟨dS ys key,.inl ⟨ys,key,ha',rq.key g4,rfl⟩,?_⟩;refine q _ H3 ((k1.trans k2).trans k3) ?_ ?_
   .refine⟨en,?_⟩;rcases dF.val key ⟨ek,r⟩with⟨h1,h2⟩|⟨p'',v',h1,h2,h3⟩
    .rw[h1,h2];exact rz
    .rw[h1,h2];exact h3
   .trivial
  |_=>cases g3
 |_=>cases hf
theorem RU {fa fc:FE}:J2 fa fb fc e=bE (fa e) fun x e1=>bO (x.weak.get e1) fun p1=>match p1 with
 | .bA _=>bE (fb e1) fun y e2=>bE (fc e2) fun z e3=>bO z.put fun pz=>bO (x.weak.get e3) fun p=>bO (y.weak.get e3) fun q=>bO (LU p q pz) fun b=>some (b,e3)
 |_=>none:=rfl
theorem O4 {f g:FX} {e:En} {d:DD} {Q:w4->Prop}:Wp (Y8 f g e d) Q↔Wp (f e d) fun o=>match o with| .nx e1 d1=>Wp (g e1 d1) Q|o=>Q o:=by
 unfold Y8;cases f e d with
 |none=>simp[rO]
 |some o=>
  rw[b8];cases o<;>simp[b8]
theorem SD {fg:FG} {fb:FX}:Wp (LP fi fg fb e d) Q↔Wp (fi e) fun z=>Wp (oZ (fun x e d=>bO (fg x e) fun e2=>fb e2 d) z.1 z.2 d) Q:=by
 unfold LP;rw[lL]
theorem YQ {x:Nat} {f:FX} {e:En} {Q:Out->Prop}:Wp (sX x f e) Q↔x<e.length/\Wp (f (e.set x none) []) fun o=>match o with| .nx e' d=>Q (.rt (.new (.bA (d.map fun kp=>(kp.1,.lst kp.2)))) e')| .ct _ _=>False:=by
 unfold sX;rw[eE,ju];refine and_congr_right fun _=>?_
 cases f (e.set x none) []with
 |none=>simp[rO]
 |some o=>
  rw[b8];cases o<;>simp[b8,rO]
theorem Q3:LG e d=some (.nx e d):=rfl
theorem ZU:xIf fc f g e d=bE (fc e) fun b e1=>bB b (f e1 d) (g e1 d):=rfl
theorem aaD {f:FE}:xIt f e=bE (f e) fun b e1=>match b with
 | .val (.tup ps)=>some (ps,e1)
 |_=>none:=rfl
theorem XW:UM fa e=bE (fa e) fun bs e1=>match bs with
 |[.val (.tup ps)]=>some (ps.zipIdx.map fun z=>.tup [.int (z.2:Int),z.1],e1)
 |_=>none:=rfl
theorem X0:W7 fk fv e d=bE (fk e) fun kb e1=>bO (kb.weak.get e1) fun kp=>bO (keyOf kp) fun k=>bE (fv e1) fun b e2=>bO b.put fun p=>
 bC (decide (d.length<1000000) && d.all fun kp=>decide (kp.2.length<1000000)) (some (.nx e2 (oS d k p))):=rfl
theorem A4 {body:PV->En->DD->Option w4} (I:Nat->En->DD->Prop) {xs:List PV} (hs:∀(i:Nat) x e d,xs[i]? =some x->I i e d->Wp (body x e d) fun o=>match o with| .nx e1 d1=>I (i+1) e1 d1| .ct e1 d1=>I (i+1) e1 d1)
  (hd:∀e d,I xs.length e d->Q (.nx e d)) {e:En} {d:DD} (h0:I 0 e d):Wp (oZ body xs e d) Q:=by
 have key:∀(ys:List PV) (i:Nat) (e:En) (d:DD),i<=xs.length->xs.drop i=ys->I i e d->Wp (oZ body ys e d) Q:=by
  intro ys
  induction ys with
  | nil=>
   intro i e d hil hy hi;unfold oZ;rw[b8];have hl:xs.length<=i:=by
    have:=cw List.length hy;rw[ff]at this;simp at this;omega
   have h:i=xs.length:=by omega
   subst h;exact hd e d hi
  | cons x ys ih=>
   intro i e d hil hy hi;have hlt:i<xs.length:=by
    have:=cw List.length hy;rw[ff,length_cons]at this;omega
   rw[du hlt]at hy;have hx:xs[i]? =some x:=by rw[ag hlt,(List.cons.inj hy).1]
   obtain⟨o,h1,h2⟩:=hs i x e d hx hi;unfold oZ;rw[h1];cases o with
   |nx e1 d1=>exact ih (i+1) e1 d1 hlt (List.cons.inj hy).2 h2
   |ct e1 d1=>exact ih (i+1) e1 d1 hlt (List.cons.inj hy).2 h2
 exact key xs 0 e d (dj _) rfl h0
end
end Mr
namespace L2
open PySem
section
variable {prog:Program} {w:World} {A:Around} {R:Result->Shared->Prop} {s:Shared}
theorem HY {kx vx target iter:Expr} {ifs:List Expr} {scope:Scope} {pos:Pos} {it:Value} {D:Addr} {env:Env} (I:Nat->Shared->Prop)
  (turn:∀n s,I n s->wpAny (model prog w) A (pyNext it) (fun r s₁=>match r with
   |none=>R (.ok .next) s₁
   | some v=>wpAny (model prog w) A (letOwnedTupleGo target it v) (fun _ s₁'=>wpAny (model prog w) A (assign target env v) (fun _ s₂=>
     wpAny (model prog w) A (forIn ifs true fun c r=>if r=true then do let ok<-isTrue c env (eval c env);pure (ForInStep.yield ok)else pure (ForInStep.yield r)) (fun ok s₃=>
      if ok=true then wpAny (model prog w) A (eval kx env) (fun kv s₄=>wpAny (model prog w) A (eval vx env) (fun vv s₅=>
       wpAny (model prog w) A (dictSet D kv vv) (fun _ s₆=>∃m,m<n/\I m s₆) (fun _ _=>False) s₅) (fun _ _=>False) s₄) (fun _ _=>False) s₃
      else∃m,m<n/\I m s₃) (fun _ _=>False) s₂) (fun _ _=>False) s₁') (fun _ _=>False) s₁) (fun _ _=>False) s)
  (n:Nat) (h:I n s):
  codeAny (model prog w) A (.compLoop (.DictComp kx vx [⟨target,iter,ifs,0⟩] scope pos) 0 it (.ref D) env) R s:=by
 refine codeAny_loop rfl I (fun n s hI=>?_) n h;show wpAny _ A ((compTurn (.DictComp kx vx [⟨target,iter,ifs,0⟩] scope pos) 0 it (.ref D) env).onRaise (fun x=>do noteFrame x env;theTreesLotGoes x)) _ _ s;refine wpAny_noted ?_;refine di (E:=fun _ _=>False) ?_ (fun _ _ q=>q) (fun _ _ z=>z.elim);rw[compTurn_dict];refine ae (wpAny_standAt (ae (di (turn n s hI) (fun r s₁ h₁=>?_) fun _ _ h'=>h')));cases r with
 |none=>exact ax h₁
 | some v=>
  refine ae (di h₁ (fun _ s₁' h₁'=>?_) fun _ _ h'=>h');refine ae (di h₁' (fun _ s₂ h₂=>ae (di h₂ (fun ok s₃ h₃=>?_) fun _ _ h'=>h')) fun _ _ h'=>h');cases ok with
  |false=>exact ax ⟨rfl,h₃⟩
  |true=>
   exact ae (ae (di h₃ (fun kv s₄ h₄=>ae (gf (di h₄ (fun vv s₅ h₅=>ae (wpAny_standAt (gf (di h₅ (fun _ s₆ h₆=>ax ⟨rfl,h₆⟩) fun _ _ h'=>h')))) fun _ _ h'=>h'))) fun _ _ h'=>h'))
end
def YJ (J:It) (g:TG) (tt:TT) (tk te:TE) (l:Addr) (σ0:St) (H0:Hp) (Q:VK):Prop:=
 ∃W:Nat->Nat->St->Hp->Prop,(∃m,W 0 m σ0 H0)/\
   ∀i m σ' H2,W i m σ' H2->(J.stop i H2/\Q (.ref l) H2)\/ (J.go i H2/\∃N:St->Hp->Prop,(∀σ3 H3,N σ3 H3->∃m',m'<m/\W (i+1) m' σ3 H3)/\
    ∀x H3,J.YB i H2 x H3->g x σ' H3 fun σ4 H4=>tt σ4 H4 fun b H5=>if b=true then tk σ4 H5 fun kv H6=>te σ4 H6 fun y H7=>∃kvs key,uX H7 l kvs/\kv=kV key/\kvs.length<sizeLine/\∀ep,N σ4 (upd H7 l (.dK (putK kvs key y) ep))else N σ4 H5)
def yV (wi:TI) (k:Nat) (cap:List Nat) (g:TG) (tt:TT) (tk te:TE):TE:=fun σ H Q=>wi σ H fun J H1=>∀l,H1 l=none->YJ J g tt tk te l (fL k cap σ) (upd H1 l (.dK [] 0)) Q
section
variable {X:Cx} {kx vx tg iter:Expr} {ifs:List Expr} {scope:Scope} {pos:Pos} {wi:TI} {g:TG} {tt:TT} {tk te:TE} {N:List Str} {k:Nat} {cap:List Nat}
theorem N8 {pins:List (Addr×Obj)} {σ:St} {H2:Hp} {s2:Shared} {cl:List (Str×Addr)} {C:Addr} {fp:List Addr} {h1:Heap} {tk:Nat} {m0:Str->Option Value} (S:fV X scope N k cap) (I2:Inv X pins σ H2 s2)
  (hcl1:∀y c,cl.lookup y=some c->X.env.cells.lookup y=some c) (hcl2:∀y,(y,NameKind.free)∈scope.names->(cl.lookup y).isSome=true) (hC:C=s2.heap.objs.size+1)
  (hf:∀b∈fp,rM X pins H2 b) (ho:∀b∈fp,b<s2.heap.objs.size) (hk:∀b o,s2.heap.get? b=some o->h1.get? b=some o) (hD:h1.get? s2.heap.objs.size=some {cls:=.type "dict",data:=.dict #[]}) (hns:h1.Ns C m0):
  Inv (bJ X scope N ⟨cl,C,s2,H2,fp⟩) [] (fL k cap σ) (upd H2 s2.heap.objs.size (.dK [] 0)) {s2 with heap:=h1,toks:=tk}:=by
 have fr:H2 s2.heap.objs.size=none:=I2.bQ.fresh (bf _);have hCf:H2 C=none:=I2.bQ.fresh (hC▸ie _);refine⟨uO S I2 hcl1 hcl2 (hC▸ie _) hf ho,rfl,I2.bare,Un.laid hk (bf _) fr,⟨m0,hns,fun i y v e1 e2 e3=>?_⟩,fun x c e=>?_,?_,fun x c e=>?_,fun p hp=>absurd (show p∈([]:List (Addr×Obj))from hp) (by simp),I2.bQ.laid hk (bf _) ?_,?_⟩
 .obtain⟨q,j,rfl,hj,hv⟩:=xU e2;obtain⟨z,hz1,hz2,hz3⟩:=S.cap q j hj;have e1':N[k+q]? =some y:=e1;rw[hz1]at e1';cases e1';obtain⟨m,hn,hl⟩:=I2.loc;have hfr:=S.free (y,.free) (fz hz3) rfl;obtain⟨u,r,l⟩:=hl j y v hz2 hv (by rcases hfr with z|z;exact .inr (.inl z);exact .inr (.inr z));refine⟨u,r,.inr ⟨dW (env:=X.env) hz3,?_⟩⟩;obtain⟨c,hc⟩:=jr.mp (hcl2 y (fz hz3));rcases l with⟨hk',_⟩|⟨_,c',hc',hcell⟩
  .rcases hfr with z|z<;>(rw[hk']at z;cases z)
  .have e:=hcl1 y c hc;rw[hc']at e;cases e;obtain⟨o,ho',hd⟩:=hcell;exact⟨_,hc,o,hk _ _ ho',hd⟩
 .obtain⟨v,o,ho',hd⟩:=I2.cell x c (hcl1 x c e);exact⟨v,o,hk _ _ ho',hd⟩
 .show upd H2 s2.heap.objs.size (.dK [] 0) C=none;rw[aU (kg (hC▸ji _))];exact hCf
 .have e':=hcl1 x c e;obtain⟨v,q⟩:=I2.cell x c e';rw[aU (cm q.lt)];exact I2.nC x c e'
 .exact⟨dj _,beq_eq_false_iff_ne.mpr (Ne.symm (cm I2.big)),[],.nil,⟨_, #[],hD,⟨rfl,rfl,rfl⟩,rfl,(fun _ h=>absurd h (by simp)),.nil,nodup_nil⟩⟩
 .show(fL k cap σ).length=N.length;unfold fL;rw[bq,gm,ah,S.len]
theorem KA (hc:X.calm=true) (S:fV X scope N k cap) (hi:PI X tg iter wi) (hg:∀c,PG (bJ X scope N c) tg g) (ht:∀c,S6 (bJ X scope N c) ifs tt) (hk:∀c,PE (bJ X scope N c) kx tk) (he:∀c,PE (bJ X scope N c) vx te)
  (hs:∀x,foldedSetIterable iter X.env x=pure x:=by intro _;rfl):PE X (.DictComp kx vx [⟨tg,iter,ifs,0⟩] scope pos) (yV wi k cap g tt tk te):=by
 intro pins s σ H Q I h;rw[arm_eval_DictComp];obtain⟨cl,hclos,hcl1,hcl2⟩:=kQ (scope:=scope) (env:=X.env) (fun p hp hf=>I.ok.has p.1 (S.free p hp hf));refine wpAny_comprehension_free (use:=none) rfl hs hclos S.kind S.names (cL (hi pins s σ H _ I h) fun v s1 h1=>cL h1 fun itv s2 h2=>?_);obtain⟨it,fp,tn,J,H2,e,I2,T,st2,f2,q2⟩:=h2;subst e;obtain⟨W,⟨m0,w0⟩,turn⟩:=q2 s2.heap.objs.size (I2.bQ.fresh (bf _));have hob:∀b∈fp,b<s2.heap.objs.size:=fun b hb=>let⟨o,e,_⟩:=T.obj _ _ st2 b hb;cf e
 refine dg (wpAny_newFunctionEnv S.cell (by intro y hy;simp at hy) (fun h₁ hns₁ hsb₁=>?_) S.kind);dsimp only at hns₁ hsb₁⊢
 generalize hHH:s2.heap.push {cls:=.type "dict",dict:=none,data:=.dict #[]}=HH at hns₁ hsb₁⊢
 have hCC:HH.objs.size=s2.heap.objs.size+1:=by rw[<-hHH,size_push]
 have old:∀b o,s2.heap.get? b=some o->h₁.get? b=some o:=fun b o e=>hsb₁.extBut b o (cm (hCC▸dv (cf e))) (ao _ (hHH▸ao _ e))
 have hD:h₁.get? s2.heap.objs.size=some {cls:=.type "dict",data:=.dict #[]}:=hsb₁.extBut _ _ (cm (hCC▸ji _)) (ao _ (hHH▸cc _ rfl));have I4:=fun tk=>N8 (tk:=tk) S I2 hcl1 hcl2 hCC f2 hob old hD hns₁
 have X':=bJ X scope N ⟨cl,HH.objs.size,s2,H2,fp⟩;have stat:∀{H':Hp},(∀b∈fp,H' b=none)->∀b∈fp,rM (bJ X scope N ⟨cl,HH.objs.size,s2,H2,fp⟩) [] H' b:=fun hn b hb=>
  ⟨hn b hb,cm (hCC▸dv (hob b hb)),(uO S I2 hcl1 hcl2 (hCC▸ie _) f2 hob).BY b hb,.inl hb,fun x c e=>(f2 b hb).2.2.2.2.1 x c (hcl1 x c e),fun p hp=>absurd (show p∈([]:List (Addr×Obj))from hp) (by simp)⟩
 have loop:∀s₃:Shared,s₃={s2 with heap:=h₁,toks:=s2.toks+([]:List (Str×Value)).length}->
   codeAny (model X.prog X.w) X.A (.compLoop (.DictComp kx vx [⟨tg,iter,ifs,0⟩] scope pos) 0 (.ref it) (.ref s2.heap.objs.size) (compEnvC scope cl HH.objs.size X.env))
    (compPost (model X.prog X.w) X.A X.xe none (EP X pins σ Q) (.ref s2.heap.objs.size) HH.objs.size) s₃:=by
  rintro s₃ rfl;refine HY (fun n s'=>∃i σ' H',Inv (bJ X scope N ⟨cl,HH.objs.size,s2,H2,fp⟩) [] σ' H' s'/\tn i s'.heap/\(∀b∈fp,H' b=none)/\W i n σ' H') ?_ m0
   ⟨0,fL k cap σ,_,I4 _,T.keep _ _ _ st2 fun b _ o e=>old b o e,fun b hb=>by rw[aU (cm (hob b hb))];exact(f2 b hb).1,w0⟩
  rintro n s3 ⟨i,σ3,H3,I3,st3,fr3,w3⟩;rcases turn i n σ3 H3 w3 with⟨stop,qn⟩|⟨go,NN,hN,step⟩
  .refine cL (T.done (bJ X scope N ⟨cl,HH.objs.size,s2,H2,fp⟩) rfl rfl rfl hc i [] s3 σ3 H3 _ I3 (stat fr3) st3 stop) fun r s4 ⟨hr,J4⟩=>?_
   subst hr;obtain⟨m,hn,_⟩:=J4.loc;refine⟨m,hn,fun h' hs'=>?_⟩;have keepC:∀b o,b≠HH.objs.size->s4.heap.get? b=some o->h'.get? b=some o:=fun b o hb e=>hs'.extBut b o hb e
   have fY:∀b o,s2.heap.get? b=some o->b≠HH.objs.size:=fun b o e=>cm (hCC▸dv (cf e))
   have u:=J4.base;have u':Un (IL X.stack) fp H2 H3 s2.heap h':=⟨fun b o q n hb hx=>keepC b o (fY b o q) (u.keep b o q n hb hx),fun b o q n hb hx=>by
     obtain⟨sl,e⟩:=u.slot b o q n hb hx;exact⟨sl,keepC b _ (fY b o q) e⟩,u.free,fun b o q hx=>by
     obtain⟨o',e⟩:=u.there b o q hx;exact⟨o',keepC b _ (fY b o q) e⟩,u.wY,u.uZ,u.wL⟩
   refine⟨.ref s2.heap.objs.size,H3,I2.NT (ch:=fp) J4.os u' (J4.bQ.but J4.free keepC) J4.bare fun b hb=>?_,rfl,qn⟩;obtain⟨_,f1,_,f3,f4,f5⟩:=f2 b hb;exact⟨f3,f1,f4,f5⟩
  .refine cL (T.item (bJ X scope N ⟨cl,HH.objs.size,s2,H2,fp⟩) rfl rfl rfl hc i [] s3 σ3 H3 _ I3 (stat fr3) st3 go) fun r s4 ⟨u,hr,h4⟩=>?_
   subst hr;refine cL h4 fun _ s5 ⟨x,H5,I5,r5,y5,st5,fr5⟩=>?_
   have I5':=I5.pinned (stat fr5) (T.obj _ _ st5);have again:∀{s7:Shared} {σ7:St} {H7:Hp},Inv (bJ X scope N ⟨cl,HH.objs.size,s2,H2,fp⟩) ([]++pF fp s5.heap) σ7 H7 s7->NN σ7 H7->
     ∃m,m<n/\∃i σ' H',Inv (bJ X scope N ⟨cl,HH.objs.size,s2,H2,fp⟩) [] σ' H' s7/\tn i s7.heap/\(∀b∈fp,H' b=none)/\W i m σ' H':=fun{s7 σ7 H7} I7 n7=>by
    obtain⟨m',hm,w7⟩:=hN σ7 H7 n7;refine⟨m',hm,i+1,σ7,H7,I7.kX,T.keep _ _ _ st5 fun b hb o e=>(I7.pin (b,o) (cp _ (cp _ (dI hb e)))).1,fun b hb=>?_,w7⟩;obtain⟨o,e,d⟩:=T.obj _ _ st5 b hb;exact(I7.pin (b,o) (cp _ (cp _ (dI hb e)))).2.1
   refine cL (hg _ _ s5 σ3 H5 x u _ I5' r5 (step x H5 y5)) fun _ s6 ⟨σ6,H6,I6,q6⟩=>?_
   refine cL (ht _ _ s6 σ6 H6 _ I6 q6) fun b s7 ⟨H7,I7,q7⟩=>?_
   cases b with
   |false=>exact again I7 q7
   |true=>
    refine cL (hk _ _ s7 σ6 H7 _ I7 q7) fun kv s8 ⟨kx',H8,I8,r8,q8⟩=>?_
    refine cL (he _ _ s8 σ6 H8 _ I8 q8) fun y s9 ⟨yv,H9,I9,r9,kvs,key,hl,ek,hz,n9⟩=>?_
    subst ek;obtain⟨z,hd,vs,rel,dd⟩:=MF I9.bQ hl;have hz':vs.length<=sizeLine:=by rw[<-rel.length];exact z
    have hl':(putK kvs key yv).length<=sizeLine:=by have:=jN kvs key yv;omega
    refine wpAny_dictSet_pairs (hsz:=hz') (qI r8) dd fun h' dd' hs'=>?_
    have hx':∃q,h'.get? s2.heap.objs.size=some q:=let⟨q,_,_,hq,_⟩:=dd';⟨q,hq⟩
    obtain⟨ep,da⟩:=dd'.dictAt;exact again (uB I9 hl.mut hs' hx' (C8 hl' hd (rel.put key r9) da)) (n9 ep)
 exact codeAny_compStart_dict (loop _ rfl) (T.self X.A 0 _ _ _ (T.keep _ _ _ st2 fun b _ o e=>old b o e) (loop _ rfl))
theorem G7 (N:List Str) (k:Nat) (cap:List Nat) (XN:List Str) (xs:Scope) (hc:X.calm=true) (hN:X.N=XN) (hx:X.env.scope=xs) (hi:PI X tg iter wi) (chk:qX XN xs scope N k cap=true)
  (hg:∀c,PG (bJ X scope N c) tg g) (ht:∀c,S6 (bJ X scope N c) ifs tt) (hk:∀c,PE (bJ X scope N c) kx tk) (he:∀c,PE (bJ X scope N c) vx te)
  (hs:∀x,foldedSetIterable iter X.env x=pure x:=by intro _;rfl):PE X (.DictComp kx vx [⟨tg,iter,ifs,0⟩] scope pos) (yV wi k cap g tt tk te):=KA hc (l4 hN hx chk) hi hg ht hk he hs
end
end L2
namespace Mr
open PySem L2
variable {fe fk:FE} {fg:FG} {fi:FI} {ft:FT} {cap:List Nat} {k:Nat} {te tk:TE} {g:TG} {wi:TI} {tt:TT}
noncomputable def mD (fg:FG) (ft:FT) (fk fe:FE):List PV->En->List (Key×PV)->Option (List (Key×PV)×En)
 |[],e,d=>some (d,e)
 |x::xs,e,d=>bO (fg x e) fun e1=>bE (ft e1) fun b e2=>match b with
  |false=>mD fg ft fk fe xs e2 d
  |true=>bE (fk e2) fun kb e3=>bE (fe e3) fun r e4=>bO (kb.weak.get e4) fun kp=>bO (keyOf kp) fun k=>bO r.put fun p=>mD fg ft fk fe xs e4 (dZ d k p)
noncomputable def oA (fi:FI) (k:Nat) (cap:List Nat) (ms:List (Nat×Nat)) (fg:FG) (ft:FT) (fk fe:FE):FE:=fun e=>
 bE (fi (fun i=>!(ms.any fun z=>z.1==i)) e) fun items e1=>bC (decide (items.length<1000000)) (bE (mD fg ft fk fe items (tX k cap ms e1) []) fun ys ei=>bO (mZ ei ms e1) fun e2=>some (.new (.bA ys),e2))
section
variable {K:Frag}
theorem JK (ms:List (Nat×Nat)) (hms:∀i j1 j2,(i,j1)∈ms->(i,j2)∈ms->j1=j2) (hms2:∀i1 i2 j,(i1,j)∈ms->(i2,j)∈ms->i1=i2) (hi:vR K wi fi) (hg:AF K g fg) (ht:lI K tt ft) (hk:Ref K tk fk) (he:Ref K te fe):Ref K (yV wi k cap g tt tk te) (oA fi k cap ms fg ft fk fe):=by
 intro O M W L σ H e e' b Q o hen hf q;obtain⟨items,e1,f1,hf⟩:=aN hf;obtain⟨hsz,hf⟩:=aM hf;obtain⟨ys,ei,f2,hf⟩:=aN hf;obtain⟨e2,f3,hf⟩:=aF hf;cases hf;have hsz:=av hsz;refine hi (fun i=>!(ms.any fun z=>z.1==i)) O M W L σ H e e1 items _ o hen f1 fun J H1 k1 en it=>?_
 have o1:=o.keep k1.cC
 let W':WS:=JZ ms e1 σ H1
 have wsub:=xD (ms:=ms) en;have it:=it (aw W') (fun a z=>(wsub a z).1) fun i a s hst hs hm ha ⟨j,i',s',hm',hs',hmine',ha'⟩=>by
  have ne:i'≠i:=fun z=>by
   subst z;have:(ms.any fun z=>z.1==i')=true:=ic.mpr ⟨(i',j),hm',by simp⟩;rw[this]at hst;cases hst
  exact en.rP i' i s' s ne hs' hs hmine' hm (by rw[ha',ha])
 intro l hl;have zl:∀a ob,H1 a=some ob->a≠l:=fun a ob h=>bT h hl
 let M':aJ:=aT M (aT L (one l))
 let O':aJ:=fun a=>H1 a≠none\/ a=l
 have s0:aX H1 (upd H1 l (.dK [] 0)):=aX.upd hl;have okc0:=Z4 (l:=l) (ms:=ms) o1 en;have en0:=enI (k:=k) (cap:=cap) (ob0:=.dK [] 0) hms en hl;have dl:∀a xs,H1 a=some (.tup xs)->a≠l:=fun a xs h=>zl a _ h
 let N:Nat->St->Hp->Prop:=fun i σ' H'=>∃ei' acc vs,bY W' (one l) (upd H1 l (.dK [] 0)) H'/\uX H' l vs/\dF K (aT M' cT) H' acc vs/\aP K (aT M' cT) W' cT H' σ' ei'/\acc.length<=i/\
  mD fg ft fk fe (items.drop i) ei' acc=some (ys,ei)
 have k0':∀H',bY W' (one l) (upd H1 l (.dK [] 0)) H'->∀a,H1 a≠none\/ a=l->H' a≠none:=fun H' kk a z=>kk.cC a (by
  rcases z with z|z
  .cases e:H1 a with
   |none=>exact absurd e z
   |some u=>rw[s0 _ _ e];exact fun z=>nomatch z
  .rw[z,aV];exact fun z=>nomatch z)
 refine⟨fun i m σ' H'=>m=items.length - i/\i<=items.length/\N i σ' H',⟨items.length,by simp,dj _,tX k cap ms e1,[],[],.refl,⟨0,aV⟩,⟨rfl,.nil⟩,en0,bf _,by rw[gd];exact f2⟩,?_⟩;rintro i m σ2 H2 ⟨rfl,hil,ei2,acc,vs,kk,hl2,ra,en2,hacc,f4⟩;have oki:=okc0 H2 (k0' H2 kk);obtain⟨itm,its⟩:=it (aT L (one l)) H2 (fun a ob h n=>kk.obj a ob (s0 _ _ h) n (zl a ob h)) (fun a xs h=>kk.tup a xs (s0 _ _ h)) (fun a z=>z.elim .inl fun z=>.inr (by rw[show a=l from z];exact hl))
 by_cases hlt:i<items.length
 .refine .inr ?_;obtain⟨go,yl⟩:=itm i items[i] (by simp[hlt]);refine⟨go,N (i+1),fun σ' H' n=>⟨items.length - (i+1),by omega,rfl,hlt,n⟩,fun x H3 y=>?_⟩;obtain⟨s3,rp⟩:=yl x H3 y;rw[du hlt]at f4;obtain⟨e4,c1,f4⟩:=aF f4;have oki3:=oki.keep (H':=H3) (bY.same (W:=W') (L:=cT) s3).cC;have rp':Rep K (aT M' cT) H3 items[i] x:=rp.aK (.less fun a z=>z.elim id fun z=>z.elim);refine hg O' M' W' cT σ2 H3 ei2 e4 _ x _ oki3 (en2.same s3) rp' c1 fun σ3 en3=>?_
  obtain⟨b,e5,c2,f4⟩:=aN f4;refine ht O' M' W' cT σ3 H3 e4 e5 b _ oki3 en3 c2 fun H4 k4 en4=>?_
  have oki4:=oki3.keep k4.cC;have nlw:¬aw W' l:=fun z=>by obtain⟨_,ob,h,_⟩:=wsub l z;rw[hl]at h;cases h
  have kL:∀{A B:Hp},bY W' cT A B->bY W' (one l) A B:=fun k=>⟨fun a ob h n m=>k.obj a ob h n fun z=>z,k.tup,k.cC⟩
  have st:∀{A B:Hp},bY W' cT A B->kH O' M' W' cT A->cS (aT M' cT) (aT M' cT) A B:=fun k ok=>k.aK ok
  have k34:bY W' cT H2 H4:=(bY.same s3).trans k4;cases b with
  |false=>
   rw[ai au];exact⟨e5,acc,vs,kk.trans (kL k34),(let⟨ep,e⟩:=hl2;⟨ep,k34.obj l _ e nlw (fun z=>z)⟩),⟨ra.1,ra.2.aK (st k34 oki)⟩,en4,le_succ_of_le hacc,f4⟩
  | true=>
   rw[aj rfl];obtain⟨kb,e6,ck,f4⟩:=aN f4;obtain⟨rv,e7,c3,f4⟩:=aN f4;obtain⟨kp,cg,f4⟩:=aF f4;obtain⟨key,cy,f4⟩:=aF f4;obtain⟨p,c4,f4⟩:=aF f4;refine hk O' M' W' cT σ3 H4 e5 e6 kb _ oki4 en4 ck fun kv H4' k4' rk frk=>?_
   have oki4':=oki4.keep k4'.cC;refine he O' M' W' cT σ3 H4' e6 e7 rv _ oki4' (rk.en oki4') c3 fun v H5 k5 rb fr=>?_
   have oki5:=oki4'.keep k5.cC;obtain⟨en5,rp5⟩:=rb.put oki5 c4;have ek:kv=kV key:=(((rk.rv oki4').keep oki4' k5).red en5 cg).key cy;have k35:bY W' cT H2 H5:=(k34.trans k4').trans k5;obtain⟨ep0,hl20⟩:=hl2;have hl5:=k35.obj l _ hl20 nlw (fun z=>z);have ra5:dF K (aT M' cT) H5 acc vs:=⟨ra.1,ra.2.aK (st k35 oki)⟩;have lv:vs.length=acc.length:=by have:=cw List.length ra.1;rw[ah,ah]at this;exact this
   refine⟨vs,key,⟨_,hl5⟩,ek,by rw[ik];omega,fun ep=>?_⟩;have stw:cS (aT M' cT) (aT M' cT) H5 (upd H5 l (.dK (putK vs key v) ep)):=.write (.inl (.inr (.inr rfl))) hl5 fun _ z=>nomatch z
   have kw:bY W' (one l) H5 (upd H5 l (.dK (putK vs key v) ep)):=.write (.inr rfl) hl5 fun _ z=>nomatch z
   have lp:(dZ acc key p).length<=acc.length+1:=by
    unfold dZ;split
    .rw[ah];omega
    .rw[bq];exact bf _
   refine⟨e7,dZ acc key p,putK vs key v,(kk.trans (kL k35)).trans kw,⟨ep,aV⟩,dF.put key ⟨ra5.1,ra5.2.aK stw⟩ (rp5.aK stw),?_,by omega,f4⟩;exact enW en5 nlw (fun od=>od hl) stw
 .have e:i=items.length:=by omega
  subst e;rw[drop_length]at f4;cases f4;have kout:=OM en hl kk;have enf:=enO hms2 o1 en hl kk en2 f3;refine .inl ⟨its,q _ _ (k1.trans kout) ⟨l,rfl,fun z=>o1.old l z hl,fun z=>(o1.loc l z).1 hl,enf,fun i s hs hm e=>?_,.bA hl2.choose_spec ra.1 (ra.2.aK (.less fun a z=>.inl z))⟩ (Fr.back (b:=.new (.bA _)) k1.cC fun a e=>by cases e;exact hl)⟩;obtain⟨s',hs',hm'⟩:=l5 f3 i s hs hm;obtain⟨_,ob,h,_⟩:=C5 en i s' l hs' hm' e;rw[hl]at h;cases h
theorem D4 (ms:List (Nat×Nat)) (hms:(ms.all fun z=>ms.all fun z'=>(z.1==z'.1)==(z.2==z'.2))=true) (hi:vR K wi fi) (hg:AF K g fg) (ht:lI K tt ft) (hk:Ref K tk fk) (he:Ref K te fe):Ref K (yV wi k cap g tt tk te) (oA fi k cap ms fg ft fk fe):=by
 have key:∀z∈ms,∀z'∈ms,(z.1==z'.1)=(z.2==z'.2):=fun z hz z' hz'=>by
  have:=bg.mp (bg.mp hms z hz) z' hz';simpa using this
 refine JK ms (fun i j1 j2 h1 h2=>?_) (fun i1 i2 j h1 h2=>?_) hi hg ht hk he
 .have:=key _ h1 _ h2;simpa using this
 .have:=key _ h1 _ h2;simpa using this
end
theorem qG {fk fe:FE} (I:Nat->List (Key×PV)->En->Prop) {Q:List (Key×PV)×En->Prop} {xs:List PV}
  (hs:∀(i:Nat) x e d,xs[i]? =some x->I i d e->Wp (fg x e) fun e1=>Wp (ft e1) fun z=>match z.1 with|false=>I (i+1) d z.2|true=>Wp (fk z.2) fun kb=>Wp (fe kb.2) fun w=>Wp (kb.1.weak.get w.2) fun kp=>Wp (keyOf kp) fun k=>Wp w.1.put fun p=>I (i+1) (dZ d k p) w.2)
  (hd:∀d e,I xs.length d e->Q (d,e)) {e:En} {d:List (Key×PV)} (h0:I 0 d e):Wp (mD fg ft fk fe xs e d) Q:=by
 have key:∀(ys:List PV) (i:Nat) (e:En) (d:List (Key×PV)),i<=xs.length->xs.drop i=ys->I i d e->Wp (mD fg ft fk fe ys e d) Q:=by
  intro ys
  induction ys with
  | nil=>
   intro i e d hil hy hi;unfold mD;rw[b8];have hl:xs.length<=i:=by
    have:=cw List.length hy;rw[ff]at this;simp at this;omega
   have h:i=xs.length:=by omega
   subst h;exact hd d e hi
  | cons x ys ih=>
   intro i e d hil hy hi;have hlt:i<xs.length:=by
    have:=cw List.length hy;rw[ff,length_cons]at this;omega
   rw[du hlt]at hy;have hx:xs[i]? =some x:=by rw[ag hlt,(List.cons.inj hy).1]
   obtain⟨e1,g1,⟨b,e2⟩,g2,h⟩:=hs i x e d hx hi;unfold mD;rw[g1,uA,g2,B6];cases b with
   |false=>exact ih (i+1) e2 d hlt (List.cons.inj hy).2 h
   |true=>
    obtain⟨⟨kb,e3⟩,g3,⟨r,e4⟩,g4,kp,g5,k,g6,p,g7,h⟩:=h;dsimp only at g3 g4 g5 g6 g7 h⊢
    rw[g3,B6,g4,B6,g5,uA,g6,uA,g7,uA];exact ih (i+1) e4 _ hlt (List.cons.inj hy).2 h
 exact key xs 0 e d (dj _) rfl h0
theorem HG {ms:List (Nat×Nat)} {e:En} {Q:Bv×En->Prop}:
  Wp (oA fi k cap ms fg ft fk fe e) Q↔Wp (fi (fun i=>!(ms.any fun z=>z.1==i)) e) fun z=>z.1.length<1000000/\Wp (mD fg ft fk fe z.1 (tX k cap ms z.2) []) fun w=>Wp (mZ w.2 ms z.2) fun e2=>Q (.new (.bA w.1),e2):=by
 unfold oA;constructor
 .intro h;obtain⟨z,h1,h⟩:=lL.mp h;obtain⟨g,h⟩:=eE.mp h;obtain⟨w,h2,h⟩:=lL.mp h;obtain⟨e2,h3,h⟩:=kY.mp h;exact⟨z,h1,av g,w,h2,e2,h3,b8.mp h⟩
 .rintro⟨z,h1,g,w,h2,e2,h3,q⟩;exact lL.mpr ⟨z,h1,eE.mpr ⟨decide_eq_true g,lL.mpr ⟨w,h2,kY.mpr ⟨e2,h3,b8.mpr q⟩⟩⟩⟩
end Mr
namespace L2
open PySem PySem.Spec PyProof.Rows
variable {l tg:Expr} {elts:List Expr} {P:Program} {K:Frag} {tl:TE} {w:World}
theorem Paired.WR {α β:Type} {F:α->β->Prop}:∀{l:List α} {m:List β} {i:Nat} {x:α},Paired F l m->l[i]? =some x->∃y,m[i]? =some y/\F x y
 |_,_,_,_,.nil,h=>by simp at h
 |_,_,0,_,.cons h _,e=>by simp at e;subst e;exact⟨_,rfl,h⟩
 |_,_,i+1,_,.cons _ r,e=>by
  obtain⟨y,h1,h2⟩:=Paired.WR (i:=i) r (by simpa using e);exact⟨y,by simpa using h1,h2⟩
theorem KS {k:Key} {v:Value} (e:nF k v=true):RelV (kV k) v:=by
 rcases cA e with⟨i,t,rfl,rfl⟩|⟨x,t,rfl,rfl⟩
 .exact⟨t,rfl⟩
 .exact⟨t,rfl⟩
noncomputable def Itk (a:Addr) (kvs:List (Key×V)) (ep:Nat):It:=
 ⟨fun i H=>Rd H a (.dK kvs ep)/\i<kvs.length,fun i H x H'=>H'=H/\∀kv,kvs[i]? =some kv->x=kV kv.1,fun i H=>Rd H a (.dK kvs ep)/\i=kvs.length⟩
theorem HM (a it:Addr) (kvs:List (Key×V)) (ep:Nat):Turn P w K tg (Itk a kvs ep) [it] it (fun i h=>h.IsKeyIter it a i kvs.length ep)where
 mem:=by simp
 obj:=fun i h st b hb=>by
  have e:b=it:=by simpa using hb
  subst e;obtain⟨o,e,c,d⟩:=st;exact⟨o,e,fun v z=>by rw[d]at z;cases z⟩
 keep:=fun i h h' st k=>st.at fun o e=>k it (by simp) o e
 item:=by
  intro X hP hw hK hc i pins s σ H E I hf st hg;subst hP hw hK;obtain⟨hr,hi⟩:=hg;obtain⟨_,_,vs,rel,dd⟩:=uU I.bQ hr;have hl:kvs.length=vs.length:=Paired.length rel;obtain⟨q,hq,rq⟩:=Paired.WR rel (ag hi);rw[hl]at st;obtain⟨f0,f1,f2,f3,f4,f5⟩:=hf it (by simp);refine wpAny_pyNext_dict_item st dd (k:=q.1) (v:=q.2) hq fun key h' hk st' sb=>?_
  have I1:Inv X pins σ H {s with heap:=h'}:=I.turned (t':=s.toks) (fun b o hb e=>(sb.2 b hb).trans e) f0 f1 f3 f4 f5;obtain⟨o,e,c,d⟩:=id st';rw[<-hl]at st';refine⟨key,rfl,xS (s:={s with heap:=h'}) e c d (by decide) ⟨kV q.1,H,I1,KS hk,⟨rfl,fun kv hkv=>?_⟩,st',fun b hb=>(hf b hb).1⟩⟩;rw[ag hi]at hkv;cases hkv;rw[rq.1]
 done:=by
  intro X hP hw hK hc i pins s σ H E I hf st hg;subst hP hw hK;obtain⟨hr,hi⟩:=hg;obtain⟨_,_,vs,rel,dd⟩:=uU I.bQ hr;have hl:kvs.length=vs.length:=Paired.length rel;rw[hl]at st;obtain⟨f0,f1,f2,f3,f4,f5⟩:=hf it (by simp);exact wpAny_pyNext_dict_end (I.ok.hd hc) st dd (List.getElem?_eq_none_iff.mpr (by omega)) fun h' eb=>⟨rfl,I.turned (t':=s.toks) (fun b o hb e=>eb b o hb e) f0 f1 f3 f4 f5⟩
 self:=fun _ _ _ _ _ st h=>wpAny_pyIter_keyiter st h
noncomputable def Iti (a:Addr) (kvs:List (Key×V)) (ep:Nat):It:=
 ⟨fun i H=>Rd H a (.dK kvs ep)/\i<kvs.length,fun i H v H'=>∃t,H t=none/\v= .ref t/\∀kv,kvs[i]? =some kv->H'=upd H t (.tup [kV kv.1,kv.2]),fun i H=>Rd H a (.dK kvs ep)/\i=kvs.length⟩
theorem EI {x1} {pos:Pos} (a it:Addr) (kvs:List (Key×V)) (ep:Nat):Turn P w K (.Tuple elts x1 pos) (Iti a kvs ep) [it] it (fun i h=>∃ok ov,IsItemIter h it a i kvs.length ep ok ov)where
 mem:=by simp
 obj:=fun i h st b hb=>by
  have e:b=it:=by simpa using hb
  subst e;obtain⟨_,_,e⟩:=st;exact⟨_,e,fun v z=>by cases z⟩
 keep:=fun i h h' st k=>let⟨ok,ov,e⟩:=st;⟨ok,ov,k it (by simp) _ e⟩
 item:=by
  intro X hP hw hK hc i pins s σ H E I hf st hg;subst hP hw hK;obtain⟨hr,hi⟩:=hg;obtain⟨ok,ov,st⟩:=st;obtain⟨_,_,vs,rel,dd⟩:=uU I.bQ hr;have hl:kvs.length=vs.length:=Paired.length rel;obtain⟨q,hq,rq⟩:=Paired.WR rel (ag hi);rw[hl]at st;refine wpAny_pyNext_items_item st dd (k:=q.1) (v:=q.2) hq fun key h' hk ho' htup hsz hkp=>?_
  refine⟨_,rfl,wpAny_letOwnedTupleGo_items (s:={s with heap:=h'}) ho' fun h2 he2 sb=>?_⟩;have hT:s.heap.objs.size≠it:=fun z=>by
   have:=cf st;rw[<-z]at this;exact jf _ this
  have hk2:∀b o,b∉[it]->s.heap.get? b=some o->h2.get? b=some o:=fun b o hb q=>
   sb.extBut b o (fun z=>hb (by simp[z])) (hkp b o (fun z=>hb (by simp[z])) q)
  have hfr:H s.heap.objs.size=none:=I.bQ.fresh (bf _);have htup2:h2.get? s.heap.objs.size=some {cls:=.type "tuple",data:=.seq #[key,q.2]}:=sb.extBut _ _ hT htup;have I2:Inv X pins σ (upd H s.heap.objs.size (.tup [kV q.1,kvs[i].2])) {s with heap:=h2,toks:=s.toks}:=by
   refine I.un2 hk2 hf hfr (by simp[hT]) ⟨by show 2<=sizeLine;decide,[key,q.2],.cons (KS hk) (.cons rq.2 .nil),qO.of htup2⟩ (fun b hb o q=>?_);have r:b=it:=by simpa using hb
   subst r;exact⟨_,he2⟩
  refine⟨.ref s.heap.objs.size,_,I2,rfl,⟨s.heap.objs.size,hfr,rfl,fun kv hkv=>?_⟩,⟨_,_,by rw[hl];exact he2⟩,fun b hb=>?_⟩
  .rw[ag hi]at hkv;cases hkv;rw[rq.1]
  .have r:b=it:=by simpa using hb
   rw[aU (by rw[r];exact Ne.symm hT)];exact(hf b hb).1
 done:=by
  intro X hP hw hK hc i pins s σ H E I hf st hg;subst hP hw hK;obtain⟨hr,hi⟩:=hg;obtain⟨ok,ov,st⟩:=st;obtain⟨_,_,vs,rel,dd⟩:=uU I.bQ hr;have hl:kvs.length=vs.length:=Paired.length rel;rw[hl]at st;obtain⟨f0,f1,f2,f3,f4,f5⟩:=hf it (by simp);exact wpAny_pyNext_items_end (I.ok.hd hc) st dd (List.getElem?_eq_none_iff.mpr (by omega)) fun h' eb=>⟨rfl,I.turned (t':=s.toks) (fun b o hb e=>eb b o hb e) f0 f1 f3 f4 f5⟩
 self:=fun _ _ _ _ _ st h=>by
  obtain⟨_,_,e⟩:=st;exact PySem.W.kcp_self e h
section
variable {X:Cx}
def TV (tl:TE):TI:=fun σ H R=>tl σ H fun x H1=>∃a kvs ep,x= .ref a/\Rd H1 a (.dK kvs ep)/\R (Itk a kvs ep) H1
theorem SJ (hl:PE X l tl):PI X tg l (TV tl):=by
 intro pins s σ H R I h;refine cL (hl pins s σ H _ I h) fun v s1 ⟨x,H1,I1,r1,a,kvs,ep,e,hr,q⟩=>?_
 subst e;cases r1;obtain⟨_,hd,vs,rel,dd⟩:=uU I1.bQ hr;refine wpAny_pyIter_dict hd dd ?_;refine⟨s1.heap.objs.size,[s1.heap.objs.size],_,_,H1,rfl,I1.kept (t':=s1.toks) fun b o e=>ao _ e,HM a _ kvs ep,⟨_,cc _ rfl,rfl,by rw[show kvs.length=vs.length from Paired.length rel];rfl⟩,fun b hb=>?_,q⟩;have e:b=s1.heap.objs.size:=by simpa using hb
 subst e;exact I1.vM (bf _) (I1.bQ.fresh (bf _))
def K7 (te:TE):TI:=fun σ H R=>te σ H fun x H1=>∃v a kvs ep,x= .ref v/\H1 v=some (OZ v a)/\Rd H1 a (.dK kvs ep)/\R (Iti a kvs ep) H1
theorem MG {x1} {tpos:Pos} (hl:PE X l tl):PI X (.Tuple elts x1 tpos) l (K7 tl):=by
 intro pins s σ H R I h;refine cL (hl pins s σ H _ I h) fun v s1 ⟨x,H1,I1,r1,vw,a,kvs,ep,e,hv,hr,q⟩=>?_
 subst e;cases r1;obtain⟨_,hd,vs,rel,dd⟩:=uU I1.bQ hr;have vi:s1.heap.IsItemsView vw a:=(show dD X.prog X.w H1 s1.heap vw (OZ vw a)from I1.bQ vw _ hv).1;refine wpAny_pyIter_items vi dd ?_;refine⟨s1.heap.objs.size,[s1.heap.objs.size],_,_,H1,rfl,I1.kept (t':=s1.toks) fun b o e=>ao _ e,EI a _ kvs ep,⟨.none,.none,by rw[show kvs.length=vs.length from Paired.length rel];exact cc _ rfl⟩,fun b hb=>?_,q⟩;have e:b=s1.heap.objs.size:=by simpa using hb
 subst e;exact I1.vM (bf _) (I1.bQ.fresh (bf _))
end
end L2
namespace Mr
open PySem PySem.Spec L2 PyProof.Rows
variable {f:FE} {H:Hp} {kvs:List (Key×PV)} {t:TE} {Z:aJ}
section
variable {K:Frag}
noncomputable def AN:PV->Option (List (Key×PV))
 | .bA kvs=>some kvs
 |_=>none
theorem oE {p:PV} (h:AN p=some kvs):p= .bA kvs:=by
 cases p with
 |bA k=>cases h;rfl
 |_=>cases h
noncomputable def xV (f:FE) (st:Nat->Bool) (e:En):Option (List (Key×PV)×En):=bE (f e) fun b e1=>match b with
 | .slot i=>match e1[i]? with
  |some (some (.bor p))=>bO (AN p) fun ps=>some (ps,e1)
  |some (some (.own p))=>bC (st i) (bO (AN p) fun ps=>some (ps,e1))
  |some (some (.loc p))=>bC (st i) (bO (AN p) fun ps=>some (ps,e1))
  |_=>none
 | .val p=>bO (AN p) fun ps=>some (ps,e1)
 | .new p=>bO (AN p) fun ps=>some (ps,e1)
theorem AL (h:Ref K t f) {st:Nat->Bool} {O M L:aJ} {W:WS} {σ:L2.St} {e e':En} {Q:VK} (o:kH O M W L H) (he:aP K (aT M L) W L H σ e) (hf:xV f st e=some (kvs,e'))
  (q:∀a ys ep H1,bY W L H H1->aP K (aT M L) W L H1 σ e'->Rd H1 a (.dK ys ep)->dF K (aT M L) H1 kvs ys->
   (∀Wr:aJ,(∀a,Wr a->aw W a\/ L a)->(∀(i:Nat) a s,st i=true->e'[i]? =some (some s)->s.dH=true->σ[i]? =some (some (.ref a))->¬Wr a)->¬Wr a)->Q (.ref a) H1):t σ H Q:=by
 obtain⟨x,e1,f1,hf⟩:=aN hf;refine h O M W L σ H e e1 x _ o he f1 fun v H1 k1 rb fr=>?_
 have o1:=o.keep k1.cC;have en:=rb.en o1;have vals:∀p,Rep K (aT M L) H1 p v->AN p=some kvs->e1=e'->Q v H1:=fun p hp hi ee=>by
  subst ee;have:=oE hi;subst this;cases hp with
  |bA ha n ek r=>exact q _ _ _ H1 k1 en ha ⟨ek,r⟩ fun Wr hw _ z=>n ((hw _ z).elim (fun⟨i,w⟩=>.inl (o.wm i _ w)) .inr)
 cases x with
 |val p=>
  obtain⟨ps',g,hf⟩:=aF hf;cases hf;exact vals p rb.2 g rfl
 |new p=>
  obtain⟨ps',g,hf⟩:=aF hf;cases hf;exact vals p (rb.weak o1).2 g rfl
 | slot i=>
  dsimp only at hf;cases c:e1[i]? with
  |none=>rw[c]at hf;cases hf
  | some s=>
   cases s with
   |none=>rw[c]at hf;cases hf
   | some s=>
    rw[c]at hf;obtain⟨u,hu,sr⟩:=rb.1.at' i s c;have:=rb.2;rw[hu]at this;cases this;cases s with
    |val p=>cases hf
    |bor p=>
     obtain⟨ps',g,hf⟩:=aF hf;cases hf;have:=oE g;subst this;obtain⟨a,rfl,lt⟩:=sr;cases lt with
     |bA ha od n m ek r=>exact q _ _ _ H1 k1 en ha ⟨ek,r⟩ fun Wr hw _ z=>(hw _ z).elim n m
    |own p=>
     obtain⟨hst,hf⟩:=aM hf;obtain⟨ps',g,hf⟩:=aF hf;cases hf;have:=oE g;subst this;obtain⟨a,rfl,w,ct⟩:=sr;cases ct with
     |bA ha ek r=>exact q _ _ _ H1 k1 en (.inl ha) ⟨ek,r⟩ fun Wr hw hs=>hs i a _ hst c rfl hu
    |loc p=>
     obtain⟨hst,hf⟩:=aM hf;obtain⟨ps',g,hf⟩:=aF hf;cases hf;have:=oE g;subst this;obtain⟨a,rfl,w,ct⟩:=sr;cases ct with
     |bA ha ek r=>exact q _ _ _ H1 k1 en (.inl ha) ⟨ek,r⟩ fun Wr hw hs=>hs i a _ hst c rfl hu
theorem GG (k:Key):Rep K Z H (wM k) (kV k):=by
 cases k with
 |inl i=>exact .int i
 |inr x=>exact .str x
theorem E6 {H':Hp} {Wr:aJ} {a:Addr} {u:HO} (h:Rd H a u) (k1:∀a o,H a=some o->¬Wr a->H' a=some o) (n:¬Wr a):Rd H' a u:=by
 rcases h with h|⟨o,h⟩
 .exact .inl (k1 _ _ h n)
 .exact .inr ⟨o,k1 _ _ h n⟩
theorem dF.at {ys:List (Key×V)} (r:dF K Z H kvs ys) {i:Nat} {z:Key×PV} (h:kvs[i]? =some z):∃y,ys[i]? =some y/\y.1=z.1/\Rep K Z H z.2 y.2:=by
 obtain⟨r1,r2⟩:=r;obtain⟨v,hv,rv⟩:=r2.get (i:=i) (p:=z.2) (by rw[aq,h];rfl);rw[aq]at hv;cases c:ys[i]? with
 |none=>rw[c]at hv;cases hv
 |some y=>
  rw[c]at hv;cases hv;have e:=cw (·[i]?) r1;simp only[aq,c,h]at e;exact⟨y,rfl,Option.some.inj e,rv⟩
theorem dF.len {ys:List (Key×V)} (r:dF K Z H kvs ys):kvs.length=ys.length:=by
 have:=cw List.length r.1;simpa using this.symm
noncomputable def LL (f:FE):FI:=fun st e=>bO (xV f st e) fun z=>some (z.1.map fun kv=>wM kv.1,z.2)
theorem NY (h:Ref K t f):vR K (TV t) (LL f):=by
 intro st O M W L σ H e e' ps R o he hf q;obtain⟨⟨kvs,e1⟩,g1,hf⟩:=aF hf;cases hf;refine AL h o he g1 fun a ys ep H1 k1 en rd r nw=>⟨a,ys,ep,rfl,rd,q _ H1 k1 en fun Wr hw hs=>?_⟩
 intro L' H' c1 c2 c3;have rd':=E6 rd c1 (nw Wr hw hs);refine⟨fun k p hp=>?_,rd',by rw[ah];exact r.len⟩;rw[aq]at hp;cases c:kvs[k]? with
 |none=>rw[c]at hp;cases hp
 |some z=>
  rw[c]at hp;cases hp;obtain⟨y,hy,ey,_⟩:=r.at c;refine⟨⟨rd',(af.mp hy).1⟩,fun x H3 yl=>?_⟩;obtain⟨e,yl⟩:=yl;subst e;rw[yl y hy,ey];exact⟨aX.refl _,GG _⟩
noncomputable def DE (f:FE):FI:=fun st e=>bO (xV f st e) fun z=>some (bM z.1,z.2)
theorem HF (h:Ref K t f):vR K (K7 (ER t)) (DE f):=by
 intro st O M W L σ H e e' ps R o he hf q;obtain⟨⟨kvs,e1⟩,g1,hf⟩:=aF hf;cases hf;refine AL h o he g1 fun a ys ep H1 k1 en rd r nw=>⟨a,ys,rfl,⟨ep,rd⟩,fun v hv=>?_⟩
 have s1:aX H1 (upd H1 v (OZ v a)):=aX.upd hv;have k2:=k1.trans (.same s1);have o2:=o.keep k2.cC;refine⟨v,a,ys,ep,rfl,aV,Rd.upd rd hv,q _ _ k2 (en.same s1) fun Wr hw hs=>?_⟩;intro L' H' c1 c2 c3;have rd':=E6 (Rd.upd rd hv) c1 (nw Wr hw hs);have st:=u7 o2 hw c1 c2 c3;have lp:(bM kvs).length=ys.length:=by unfold bM;rw[ah];exact r.len
 refine⟨fun k p hp=>?_,rd',lp⟩;unfold bM at hp;rw[aq]at hp;cases c:kvs[k]? with
 |none=>rw[c]at hp;cases hp
 |some z=>
  rw[c]at hp;cases hp;obtain⟨y,hy,ey,ry⟩:=r.at c;refine⟨⟨rd',(af.mp hy).1⟩,fun x H3 yl=>?_⟩;obtain⟨t',ht,rfl,yl⟩:=yl;have e3:=yl y hy;subst e3;have s3:=aX.upd (o:=.tup [kV y.1,y.2]) ht;exact⟨s3,.tup (.inl aV) (.cons (by rw[ey];exact GG _) (.cons (((ry.aK (.same s1)).aK st).aK (.same s3)) .nil))⟩
end
end Mr
namespace Mr
open PySem L2
section
variable {K:Frag}
def Ind (t:TE):Prop:=∀(σ σ':L2.St) (H:Hp) (Q Q':VK),(∀v H',Q v H'->Q' v H')->t σ H Q->t σ' H Q'
theorem BL:Ind zB:=fun _ _ _ _ _ k h p hp=>k _ _ (h p hp)
theorem N2 {i j:Nat} {ta tb:TE} {fa fb:FS} (ia:Ind ta) (ib:Ind tb) (ha:fR K (u5 ta (m8 i)) fa) (hb:fR K (u5 tb (m8 j)) fb):fR K (Y4 i j (eR ta (eR tb tZ))) (a8 fa fb):=by
 intro O M W L σ H e r D o he hf q;have k:=FK ha hb O M W L σ H e r D o he hf q;exact ia _ σ _ _ _ (fun x H1 k1=>ib _ σ _ _ _ (fun y H2 k2=>⟨_,_,rfl,k2⟩) k1) k
end
end Mr
namespace L2
open PySem PySem.Spec PyProof.Rows PySem.W
section
variable {prog:Program} {w:World} {A:Around}
theorem KI {E:Value->Shared->Prop} {s0:Shared} {x y:Value} {Q:Value->Shared->Prop} {ok:Heap->Prop} (bt:Nat->Nat->Bool) (hh:A.handled=none)
  (bQ:∀h',(∀b o,s0.heap.get? b=some o->h'.get? b=some o)->ok h') (okk:∀h h':Heap,ok h->(∀b o,b<s0.heap.objs.size->h.get? b=some o->h'.get? b=some o)->ok h') (hcmp:NK prog w A.in1 ok (fun i v=>[x,y][i]? =some v) bt)
  (hq:∀v h' tk,[x,y][argBest bt ([x,y].length - 1)]? =some v->(∀b o,s0.heap.get? b=some o->h'.get? b=some o)->Q v {s0 with heap:=h',toks:=tk}):wpAny (model prog w) A (call (.builtin "min") [x,y]) Q E s0:=by
 refine call_function_tree F.kind_min F.plain_min F.entry_min (F.args_min2 _ _) ?_;refine ae (m:=Builtin.Builtins.bindParams "min" ["key","default"] 0 ⟨[],[]⟩) (wpAny_of_eq (show Builtin.Builtins.bindParams "min" ["key","default"] 0 ⟨[],[]⟩=pure [none,none]from rfl) ?_);show wpAny _ A.in1 (newTuple [x,y]>>=_) _ _ s0;refine ae (dg ?_)
 let s:Shared:={s0 with heap:=s0.heap.push {cls:=.type "tuple",data:=.seq #[x,y]}}
 let l:Addr:=s0.heap.objs.size
 let vs:List Value:=[x,y]
 have lS0:s0.heap.objs.size<(s0.heap.push {cls:=.type "tuple",data:=.seq #[x,y]}).objs.size:=by rw[size_push];exact ji _
 have hl:s.heap.IsTuple l vs.toArray:=⟨_,cc _ rfl,rfl,0,rfl⟩;have hn:0<vs.length:=by show 0<2;decide
 have hsz:s0.heap.objs.size<s.heap.objs.size:=lS0;have lS:l<s.heap.objs.size:=let⟨_,e,_⟩:=hl;cf e
 have k0:∀b o,s0.heap.get? b=some o->s.heap.get? b=some o:=fun b o e=>ao _ e
 refine ae (kz (s:=s) hl ?_);refine ae (dg ?_);rw[rX];generalize hX:(s.heap.push {cls:=.type "tuple_iterator",data:=.fields #[.ref l,.int 0 0]})=h1;have z1:h1.objs.size=s.heap.objs.size+1:=by rw[<-hX];exact size_push ..
 have k1:∀b o,s.heap.get? b=some o->h1.get? b=some o:=fun b o e=>by rw[<-hX];exact ao _ e
 have e1:h1.get? s.heap.objs.size=some {cls:=.type "tuple_iterator",data:=.fields #[.ref l,.int 0 0]}:=by rw[<-hX];exact cc _ rfl
 have nI:l≠s.heap.objs.size:=cm lS;have W:=Walks.tuple (prog:=prog) (w:=w) (A:=A.in1) (by exact hh) s.heap.objs.size l nI vs.toArray;have gS:(h1.push {cls:=.type "list",data:=.seq ([]:List Value).toArray}).get? h1.objs.size=some {cls:=.type "list",dict:=none,data:=.seq #[] 0,slots:= #[]}:=cc _ rfl;have nf:h1.objs.size∉[s.heap.objs.size,l]:=by
  rw[z1];simp only[bw,jz,or_false,not_or];exact⟨kg (ji _),kg (dv lS)⟩
 have nw:h1.objs.size∉[s.heap.objs.size]:=fun z=>nf (by simp at z⊢;exact .inl z)
 have st0:(h1.push {cls:=.type "list",data:=.seq ([]:List Value).toArray}).IsTupleIter s.heap.objs.size l 0/\(h1.push {cls:=.type "list",data:=.seq ([]:List Value).toArray}).IsTuple l vs.toArray:=by
  refine⟨⟨_,ao _ e1,rfl,rfl⟩,?_⟩;obtain⟨o,e,r⟩:=hl;exact⟨o,ao _ (k1 _ _ e),r⟩
 refine ax ⟨jb gn _,?_⟩;refine gy F.entry_min_loop ?_;rw[fw gn _];refine ae (m:=seqItems? (.ref h1.objs.size)) (wpAny_seqItems gS rfl ?_);refine ae (m:=tryCatch (pyNext (.ref s.heap.objs.size)) _) (wpAny_tryCatch (W.item 0 {s with heap:=h1.push {cls:=.type "list",data:=.seq ([]:List Value).toArray}} _ _ (by simpa using hn) st0 fun v h' tk hP st' kp=>?_));have gS':=kp h1.objs.size _ nw gS;refine ae (m:=updateSeq h1.objs.size (fun _=> #[v,v])) (wpAny_updateSeq gS' rfl ?_);rw[rX];have ne:∀{b:Addr} {o:Obj},b≠h1.objs.size->h'.get? b=some o->(h'.update h1.objs.size (Obj.mapSeq fun _=> #[v,v])).get? b=some o:=fun h q=>(jt _ _ (Ne.symm h)).trans q
 have ltS:∀{b:Addr} {o:Obj},s.heap.get? b=some o->b∉[s.heap.objs.size]/\b≠h1.objs.size:=fun e=>by
  have:=cf e;rw[z1];exact⟨by simp;exact cm this,cm (dv this)⟩
 have kq:∀b o,s.heap.get? b=some o->(h'.update h1.objs.size (Obj.mapSeq fun _=> #[v,v])).get? b=some o:=fun b o e=>ne (ltS e).2 (kp b o (ltS e).1 (ao _ (k1 b o e)))
 refine ax ⟨jb gn _,BE (ok:=ok) W bt (fun i j vi vj s Q E h1 h2 h3 h4=>hcmp i j vi vj s Q E h1 (by simpa using h2) (by simpa using h3) h4) h1.objs.size nf (fun h h2 o k=>okk h h2 o fun b u hb q=>k b u (by simp;exact cm (lt_trans hb hsz)) (by rw[z1];exact cm (dv (lt_trans hb hsz))) q) _ 0 _ v _ rfl (by simp;omega) (bQ _ fun b o e=>kq b o (k0 b o e)) (W.frame _ _ _ st' fun b hbf o q=>ne (fun z=>nf (by rw[<-z];exact hbf)) q) (by simpa [argBest]using hP) (get?_update_self _ gS' rfl) fun v' h2 tk2 hP' kp2=>?_⟩;exact hq v' h2 tk2 (by have h9:vs[argBest bt (vs.length - 1)]? =some v':=(by simpa using hP');exact h9) fun b o e=>kp2 b o (ltS (k0 b o e)).1 (ltS (k0 b o e)).2 (kq b o (k0 b o e))
end
section
variable {X:Cx} {k:Nat}
open Mr
def MC (K:Frag):List V->Hp->VK->Prop:=fun xs H Q=>∃x y p q,xs=[x,y]/\bH K cT H [p,q] [x,y]/\dA 3 [p,q]=true/\Q (if vW [p,q] 1 0=true then y else x) H
theorem Z0 (K:Frag) (hr:dG k X.A) (hK:X.K=K:=by rfl) (hc:X.calm=true:=by rfl):cN X (.builtin "min") (MC K):=by
 subst hK;intro pins s σ H xs us Q I r ⟨x,y,p,q,e,rp,cmp,qq⟩;subst e;obtain⟨u,v,rfl,rx,ry⟩:=vals2 r;have rv:Vals [x,y] [u,v]:=.cons rx (.cons ry .nil);have ok:∀z∈[p,q],gX 3 z=true:=fun z hz=>by
  have:=bg.mp cmp z hz;rw[bz]at this;exact zL this.1
 refine KI (ok:=fun h=>∀b o,s.heap.get? b=some o->h.get? b=some o) (vW [p,q]) (by exact I.ok.hd hc) (fun h' kp=>kp) (fun h h' o kk b u e=>kk b u (cf e) (o b u e)) (fun i j vi vj s' Q E bQ h1 h2 hQ=>?_) fun w h' tk hv kp=>?_
 .have hL:bR s'.heap [p,q] [u,v]:=bH.lies (I.kept (t':=s.toks) bQ) (n:=3) (bg.mpr ok) rp rv;obtain⟨p1,e1,l1⟩:=hL.get h1;obtain⟨p2,e2,l2⟩:=hL.get h2;have m1:=bh e1;have m2:=bh e2;refine DW (s:=s') 3 X.A.in1 (by have:=hr.un;show X.A.units+1+3<_;omega) (ok p1 m1) (ok p2 m2) l1 l2 (qP cmp m1 m2) _ _ _ _ ?_;have hQ:Q (.bool (fY (code 3 ([p,q].getD i .bD)) (code 3 ([p,q].getD j .bD)))) s':=hQ;rw[az,e1,az,e2]at hQ;exact hQ
 .have hv:[u,v][if vW [p,q] 1 0 then 1 else 0]? =some w:=hv;refine⟨if vW [p,q] 1 0=true then y else x,H,I.kept (t':=tk) kp,?_,qq⟩
  by_cases hb:vW [p,q] 1 0=true
  .rw[aj hb]at hv⊢
   cases hv;exact ry
  .rw[ai hb]at hv⊢
   cases hv;exact rx
end
end L2
namespace Mr
open PySem L2
section
variable {K:Frag}
noncomputable def zT:List PV->Option Bv
 |[p,q]=>bC (dA 3 [p,q]) (some (.val (if vW [p,q] 1 0=true then q else p)))
 |_=>none
theorem AZ:jG K (MC K) zT:=by
 intro Z H vs qs b Q hp h kk;unfold zT at h;split at h
 .rename_i p q;obtain⟨c,h⟩:=aM h;cases h;cases hp with
  | cons h1 hp=>
   cases hp with
   | cons h2 hp=>
    cases hp;have pl:∀z∈[p,q],o8 3 z=true:=fun z hz=>by
     have:=bg.mp c z hz;rw[bz]at this;exact this.1
    have rep:∀{z:PV} {v:V},o8 3 z=true->Red K Z H z v->Rep K Z H z v:=fun{z v} hz h=>by
     cases h with
     |rep h=>exact h
     |lst _ _=>cases hz
     |bA _ _ _=>cases hz
    have r1:=rep (pl p (by simp)) h1;have r2:=rep (pl q (by simp)) h2;refine⟨_,_,p,q,rfl,.cons (r1.aK (.less fun _ z=>z.elim)) (.cons (r2.aK (.less fun _ z=>z.elim)) .nil),c,?_⟩
    by_cases hb:vW [p,q] 1 0=true
    .rw[aj hb]at*;exact kk _ H (aX.refl _) r2
    .rw[ai hb]at*;exact kk _ H (aX.refl _) r1
 .cases h
end
end Mr
namespace Mr
open PySem PySem.Spec L2 PyProof.Rows
variable {f:Addr} {K:Frag} {a b c:Str}
structure rQ (K:Frag) (x:Str) (st:Stmt) (f:Addr):Prop where
 a:nsIn K mainGlobals x=some (some (.ref f))
 F:∃fd,UJ K x x st f fd
theorem cH {x:Str} {st:Stmt} {oc:Value} {od an:Option Addr} {osl:Array (Option Value)} {kV doc pm cdv ct:Value} (a:nsIn K mainGlobals x=some (some (.ref f)))
  (l:K.lookup f=some ⟨oc,od,.func (fnOf x x (gB st) (eJ st) (bF st) .none kV doc pm an cdv ct),osl⟩) (c:codeIn K cdv x=true) (k:keepIn K (.ref f)=true):rQ K x st f:=⟨a,_,WG l c k⟩
section
variable {P:Program} {w:World} {K:Frag} {mg:Str->Option Value} {base h:Heap} {x:Str} {st:Stmt} {ps N:List Str} {k nl:Nat} {ks:List Kd} {fr:Bool} {g:FS}
def YE (x:Str) (st:Stmt) (ps:List Str):Prop:=∀(kV doc pm:Value) (an:Option Addr) (cdv ct:Value) (us:List Value),us.length=ps.length->bindArgs (fnOf x x (gB st) (eJ st) (bF st) .none kV doc pm an cdv ct) ⟨us,[]⟩=pure (ps.zip us)
def Dx (K:Frag) (mg:Str->Option Value) (x:Str) (st:Stmt) (ps:List Str):Prop:=∃f fd,Def K mg x st ps f fd
theorem rQ.dx (H:rQ K x st f) (X:K.In h) (G:h.Ns mainGlobals mg) (b:YE x st ps):Dx K mg x st ps:=let⟨fd,F⟩:=H.F;⟨f,fd,F,mg_of X G H.a,F.binds b⟩
structure Cn (P:Program) (w:World) (K:Frag) (mg:Str->Option Value) (base:Heap) (x:Str) (st:Stmt) (ps:List Str) (k:Nat) (ks:List Kd) (fr:Bool) (fn:FN):Prop where
 e:∃f fd,Def K mg x st ps f fd/\rJ P w K mg base O0 k f fd ps (T7 K ks fr fn)
theorem c9 (D:Dx K mg x st ps) (S:qM N ps (bF st)) (hN:N.length=ks.length+nl) (hp:ks.length=ps.length)
  (hb:qM N ps (bF st)->∀(f:Addr) (cdv:Value) (A:Around) (outer:List Env) (s:Shared) (H:Hp) (E:XK),dG k (A.deeper (envOfC x (bF st) s.heap.objs.size f cdv))->∃t,FU (DO O0 P w K mg base N x (bF st) f cdv A outer s H E).nox (eJ st) t/\fR K t g):Cn P w K mg base x st ps (k+1) ks fr (qJ ks nl fr g):=by
 obtain⟨f,fd,D⟩:=D;refine⟨f,fd,D,D.F.ok S (fun vs H Q E h=>?_) (fun cdv A outer s H vs Q E hr h=>?_)⟩
 .obtain⟨_,_,_,_,_,hl,_⟩:=h;exact hl.trans hp
 .obtain⟨t,h1,h2⟩:=hb S f cdv A outer s H E hr;exact⟨t,h1,UZ h2 hN h⟩
theorem yM {x:Str} {st:Stmt} (h:∀(kV doc pm:Value) (an:Option Addr) (cdv ct v:Value),bindArgs (fnOf x x (gB st) (eJ st) (bF st) .none kV doc pm an cdv ct) ⟨[v],[]⟩=pure [(a,v)]):YE x st [a]:=fun _ _ _ _ _ _ us hl=>match us,hl with|[_],_=>h _ _ _ _ _ _ _
theorem A8 {x:Str} {st:Stmt} (h:∀(kV doc pm:Value) (an:Option Addr) (cdv ct v1 v2:Value),bindArgs (fnOf x x (gB st) (eJ st) (bF st) .none kV doc pm an cdv ct) ⟨[v1,v2],[]⟩=pure [(a,v1),(b,v2)]):YE x st [a,b]:=fun _ _ _ _ _ _ us hl=>match us,hl with|[_,_],_=>h _ _ _ _ _ _ _ _
theorem DN {x:Str} {st:Stmt} (h:∀(kV doc pm:Value) (an:Option Addr) (cdv ct v1 v2 v3:Value),bindArgs (fnOf x x (gB st) (eJ st) (bF st) .none kV doc pm an cdv ct) ⟨[v1,v2,v3],[]⟩=pure [(a,v1),(b,v2),(c,v3)]):YE x st [a,b,c]:=fun _ _ _ _ _ _ us hl=>match us,hl with|[_,_,_],_=>h _ _ _ _ _ _ _ _ _
theorem aaM {d:Str} {x:Str} {st:Stmt} (h:∀(kV doc pm:Value) (an:Option Addr) (cdv ct v1 v2 v3 v4:Value),bindArgs (fnOf x x (gB st) (eJ st) (bF st) .none kV doc pm an cdv ct) ⟨[v1,v2,v3,v4],[]⟩=pure [(a,v1),(b,v2),(c,v3),(d,v4)]):YE x st [a,b,c,d]:=fun _ _ _ _ _ _ us hl=>match us,hl with|[_,_,_,_],_=>h _ _ _ _ _ _ _ _ _ _
end
section
variable {X:Cx} {x:Str} {st:Stmt} {ps:List Str} {j k:Nat} {ks:List Kd} {fr:Bool} {fn:FN} {e:Expr} {es:List Expr} {t:TA} {p pos:Pos}
theorem aZ (C:Cn X.prog X.w K X.mg X.base x st ps j ks fr fn) (hr:dG k X.A) (hjk:j<=k) (hg:Gl X x) (ha:PA X (e::es) t) (hK:X.K=K:=by rfl) (hdb:(x==("__debug__":Str))=false:=by decide)
  (he:starEach (e::es) X.env=(false,eval e X.env)::starEach es X.env:=by rfl) (hpl:(backTo pos (starEach es X.env)).any (·.1)=false:=by rfl):PE X (.Call (.Name x p) (e::es) [] pos) (BV (T7 K ks fr fn) [] E0 t):=by
 subst hK;obtain⟨f,fd,D,G⟩:=C.e;exact Z3 D G hr hjk hg ha hdb he hpl
end
theorem WD {P:Program} {w:World} {mg:Str->Option Value} {st:Stmt} {k:Nat} {fn:FN} {fa:Addr} (hm:mg "law"=some (.ref fa)) (D:Dx K mg "law" st [a]) (hb:YE "law" st [a])
  (C:∀base,Cn P w K mg base "law" st [a] k [.b] false fn) (hl:∀ns:List Int,ns.length<=63->fn [.lst (ns.map PV.int)]=some (.bl true,[])):
  ∃fd:FuncData,(∀(s:Shared) (v:Value),BindsTo s fd ⟨[v],[]⟩ [(a,v)])/\∀base:Heap,K.In base->base.Ns mainGlobals mg->rJ P w K mg base O0 k fa fd [a] (CG K):=by
 obtain⟨f,fd,D⟩:=D;have e1:=D.m;rw[hm]at e1;cases e1;refine⟨fd,fun s v=>?_,fun base _ _=>?_⟩
 .obtain⟨oc,od,kV,doc,pm,an,cdv,ct,osl,rfl,lk,hcd⟩:=D.F.ex;exact .of_eq (hb kV doc pm an cdv ct [v] rfl)
 .obtain⟨f',fd',D',ok⟩:=(C base).e;have e2:=D'.m;rw[hm]at e2;cases e2;obtain⟨oc,od,kV,doc,pm,an,cdv,ct,osl,h1,lk,hcd⟩:=D.F.ex;obtain⟨oc',od',kV',doc',pm',an',cdv',ct',osl',h1',lk',hcd'⟩:=D'.F.ex;rw[lk]at lk';have e3:fd=fd':=by
   have:=cw Obj.data (Option.some.inj lk');exact Data.func.inj this
  subst e3;exact ok.imp fun vs H Q E h=>QF hl h
end Mr
namespace Mr
open PySem L2
variable {e:En} {f:FE}
theorem Q9 {st:Nat->Bool}:LL f st e=bO (xV f st e) fun z=>some (z.1.map fun kv=>wM kv.1,z.2):=rfl
theorem J7 {st:Nat->Bool}:DE f st e=bO (xV f st e) fun z=>some (bM z.1,z.2):=rfl
section
variable {K:Frag}
noncomputable def G2:PV->PV->Option Bv:=S0 fun a b=>.int (a+b)
theorem RK:dB K (GX fun a b=>.int (a+b)) G2:=yB fun _ _ _ _=>.int _
theorem M8 {i:Nat} {t:TE} (h:Ref K t f):fR K (Z7 i t (ipI fun a b=>a+b)) (b9 i (bI G2 (aC i) f)):=F0 (NF RK (E9 i) h)
end
end Mr
namespace L2
open PySem PySem.Spec PyProof.Rows PySem.W
section
variable {X:Cx}
def MY:List V->Hp->VK->Prop:=fun xs H Q=>∃(a:Addr) (kvs:List (Key×V)) (ss:List Str),xs=[.ref a]/\x3 H a kvs/\kvs.map (·.1)=ss.map Sum.inr/\∀l,H l=none->Q (.ref l) (upd H l (.lst (ss.map V.str)))
theorem ZO (hc:X.calm=true:=by rfl):cN X (.type "list") MY:=by
 intro pins s σ H xs us Q I r ⟨a,kvs,ss,e,ha,hk,q⟩;subst e;obtain⟨u,rfl,rx⟩:=vals1 r;cases rx;obtain⟨hz,hd,vs,rel,dd⟩:=gU I.bQ ha;obtain⟨ep,dd⟩:=dd.dictAt;have hn:ss.length=kvs.length:=by have:=cw List.length hk;simpa using this.symm
 rw[rel.keys]at hk;refine kdl_call (kdl_dict (knd:=bS X.prog X.w) (d:=a) (kvs:=vs) (ep:=ep) hd) (by exact I.ok.hd hc) dd (by rw[<-rel.len];exact hz) fun h' tk acc c kp hS hacc=>?_
 have st:=sJ (us:=acc.toList) hk (by rw[length_toList];exact hacc.1) fun j x e=>hacc.2 j x (by rw[<-lg];exact e)
 refine⟨.ref s.heap.objs.size,_,I.laid (t':=tk) (o:=.lst (ss.map V.str)) kp (bf _) ⟨by rw[ah,hn];exact hz,_,c,g8 st,?_⟩,rfl,q _ (I.bQ.fresh (bf _))⟩;rw[hS,toArray_toList]
end
end L2
namespace Mr
open PySem L2
section
variable {K:Frag}
noncomputable def zH:List PV->Option Bv
 |[.bA kvs]=>bO (oY kvs) fun ss=>some (.new (.lst (ss.map PV.str)))
 |_=>none
theorem B9:jG K MY zH:=by
 intro Z H vs ps b Q hp h k;unfold zH at h;split at h
 .obtain⟨ss,g,h⟩:=aF h;cases h;obtain⟨v,rfl,hv⟩:=hp.one;obtain⟨a,ys,rfl,ha,ek,ra⟩:=hv.tS;exact⟨a,ys,ss,rfl,ha,ek.trans (u6 g),fun l hl=>k _ _ (aX.upd hl) (ET hl (bH.ofStrs ss))⟩
 .cases h
end
end Mr
namespace My
open PySem L2 Mr
variable {hs ks:Hl} {a at' b c d k m:Int} {claimed held rows:List (Key×PV)} {ls qs:List Let} {xs:List PV} {L N ns ss:List Str} {ts:List jH} {i j n:Nat} {o:Option Str} {p:PV} {Q:PV×List PV->Prop} {l:PySem.W.OpenLaw} {x y:Str} {f v v':Str->PV} {N0 N1:Str->Prop} {α β:Type} {t:jH}
noncomputable def pQ:FS:=(c8 (qA sZ (aB (iO (GA (aB (aC 2) aO)) 2 [1,2] [] (jQ 2 (cB (aS 0) (cB (aS 1) jL))) (EN (bW (bI W5 (aC 1) (aC 2))) (bW (bI (AK true) (aC 1) (TL SO (aC 3) (sY (bI iW (aC 0) (fC (.int 1)))) jJ)))) (aC 1)) aO)))
noncomputable def pE:FS:=(a8 (b9 2 (bI eA (aC 0) (fC (.int 3)))) pQ)
noncomputable def vI:FS:=(a8 (b9 1 (bI eA (aC 0) (fC (.int 0)))) pE)
noncomputable def iA:FN:=qJ [.b] 2 false vI
noncomputable def mL:FS:=(uM (bW (bI (AK true) (bI eA (aC 2) (fC (.int 0))) (aC 1))) (eW 1 (bI eA (aC 2) (fC (.int 0))) (aC 2)) dE)
noncomputable def lX:FS:=(a8 (iS (xA (aC 0)) (aS 2) mL) (c8 (DV (aC 1))))
noncomputable def pP:FS:=(a8 (jA 1 qH) lX)
noncomputable def eS:FN:=qJ [.b] 2 false pP
noncomputable def pH:FS:=(c8 (T5 (V7 (aC 4)) (dQ (aB (bI eA (aC 4) (fUn R7 (fC (.int 1)))) (aB (dQ (aB (fC (.str "own")) aO)) aO))) (dQ (aB (fC .bD) (aB (dQ (aB (fC (.str "first")) aO)) aO)))))
noncomputable def p8:FS:=(a8 (b9 4 (bI eA (aC 1) (aC 3))) pH)
noncomputable def pJ:FS:=(c8 (dQ (aB (bI eA (bI eA (aC 1) (aC 6)) (bI Mr.y7 (aC 7) (fC (.int 1)))) (aB (dQ (aB (fC (.str "told")) (aB (aC 6) (aB (aC 7) aO)))) aO))))
noncomputable def pW:FS:=(a8 (WH (qA GR (aB (bI eA (aC 2) (aC 3)) aO)) (jQ 3 (cB (aS 5) (cB (aS 6) (cB (aS 7) jL))))) pJ)
noncomputable def pD:FS:=(a8 (uM (bW (bI (AK false) (aC 3) (aC 2))) pW dE) (c8 (dQ (aB (fC .bD) (aB (dQ (aB (fC (.str "first")) aO)) aO)))))
noncomputable def pV:FS:=(a8 (uM (bW (bI (AK false) (aC 3) (aC 1))) p8 dE) pD)
noncomputable def lD:FS:=(a8 (uM (bW (bI (AK false) (aC 3) (aC 0))) (c8 (dQ (aB (bI eA (aC 0) (aC 3)) (aB (dQ (aB (fC (.str "hand")) aO)) aO)))) dE) pV)
noncomputable def cQ:FN:=qJ [.b,.b,.b,.b] 4 false lD
noncomputable def nG:FS:=(a8 (eW 2 (aC 1) (fC (.bl true))) (b9 1 (G0 (aC 0) (aC 1))))
noncomputable def mX:FS:=(a8 (mW (EN (bW (bI (OX true) (aC 1) (fC .bD))) (bW (bI (AK true) (aC 1) (aC 2)))) nG 1000) (c8 (qA zH (aB (aC 2) aO))))
noncomputable def rZ:FS:=(a8 (jA 2 qH) mX)
noncomputable def lY:FN:=qJ [.b,.b] 1 false rZ
noncomputable def fO:FS:=(a8 (mW (bW (bI (AK false) (qA u4 (aB (aC 1) aO)) (aC 0))) (b9 1 (bI G2 (aC 1) (fC (.int 1)))) 1000) (c8 (qA u4 (aB (aC 1) aO))))
noncomputable def iV:FS:=(a8 (b9 1 (fC (.int 0))) fO)
noncomputable def eK:FN:=qJ [.b] 1 false iV
noncomputable def l0:FS:=(c8 (lG (aB (aC 3) (aB (bI m7 (bI qV (bI iW (bI iW (bI m7 (aC 2) (fC (.int 2305843009213693951))) (bI qV (bI qV (fC (.int 7919)) (aC 1)) (aC 1))) (fC (.int 3))) (fC (.int 48271))) (fC (.int 2305843009213693921))) (aB (fC (.int 0)) aO)))))
noncomputable def mE:FS:=(a8 (b9 3 (T5 (bW (bI gGe (aC 2) (bI tT (fC (.int 10)) (fC (.int 18))))) (bI m7 (aC 2) (bI tE (bI tE (bI tE (bI tT (fC (.int 10)) (fC (.int 60))) (bI tT (fC (.int 10)) (fC (.int 60)))) (bI tT (fC (.int 10)) (fC (.int 60)))) (bI tT (fC (.int 10)) (fC (.int 60))))) (fC (.int 0)))) l0)
noncomputable def pR:FS:=(a8 (b9 2 (T5 (bW (bI gLt (aC 1) (qA t9 (aB (aC 0) aO)))) (bI eA (aC 0) (aC 1)) (fC (.int 0)))) mE)
noncomputable def gG:FN:=qJ [.b,.b] 2 true pR
noncomputable def lT:FS:=(a8 (zA 0 (fC (.int 0)) (bI ON (bI eA (aC 0) (fC (.int 0))) (aC 1))) (c8 (aC 2)))
noncomputable def l6:FS:=(a8 (b9 2 (bI m7 (bI eA (aC 0) (fC (.int 0))) (aC 1))) lT)
noncomputable def mH:FS:=(a8 (b9 3 (bI m7 (bI qV (aC 3) (bI iW (bI m7 (aC 3) (fC (.int 1000003))) (bI qV (fC (.int 99991)) (bI eA (aC 0) (fC (.int 2)))))) (fC (.int 2305843009213693907)))) (c8 (bI m7 (bI iW (bI ON (aC 3) (fC (.int 97))) (bI ON (aC 3) (fC (.int 1000033)))) (aC 1))))
noncomputable def lR:FS:=(a8 (b9 3 (bI m7 (bI qV (bI iW (bI iW (bI eA (aC 0) (fC (.int 1))) (bI qV (bI qV (fC (.int 65537)) (bI eA (aC 0) (fC (.int 2)))) (bI eA (aC 0) (fC (.int 2))))) (fC (.int 11))) (fC (.int 48271))) (fC (.int 2305843009213693921)))) mH)
noncomputable def lZ:FS:=(a8 (zA 0 (fC (.int 2)) (bI iW (bI eA (aC 0) (fC (.int 2))) (fC (.int 1)))) lR)
noncomputable def pX:FS:=(a8 (uM (bW (bI gGt (bI eA (aC 0) (fC (.int 0))) (fC (.int 0)))) l6 dE) lZ)
noncomputable def aQ:FN:=qJ [.m,.b] 2 false pX
noncomputable def mC:FS:=(a8 (b9 7 (dQ (aB (bI eA (aC 1) (aC 3)) (aB (aC 4) (aB (aC 5) (aB (qA sZ (aB (iO (xA (aC 6)) 1 [1] [] (aS 0) fE (bI eA (aC 1) (aC 0))) aO)) aO)))))) (uM (bW (bI (AK true) (aC 7) (aC 2))) (JD 2 (aC 7)) dE))
noncomputable def mJ:FS:=(a8 (iS (xA (aC 0)) (jQ 4 (cB (aS 3) (cB (aS 4) (cB (aS 5) (cB (aS 6) jL))))) mC) (c8 (qA sZ (aB (qA kA (aB (aC 2) aO)) aO))))
noncomputable def pT:FS:=(a8 (jA 2 (lG aO)) mJ)
noncomputable def jP:FN:=qJ [.b,.b] 6 false pT
noncomputable def i6:FS:=(a8 (uM (fOr (bW (bI (OX false) (aC 1) (fC .bD))) (bW (bI RS (aC 1) (aC 2)))) (c8 (bI RS (aC 1) (aC 2))) dE) (b9 1 (G0 (aC 0) (aC 1))))
noncomputable def lO:FS:=(a8 (iS (qL (aB (bI iW (qA EZ (aB (aC 0) aO)) (fC (.int 1))) aO)) (aS 3) i6) (c8 (fC (.bl false))))
noncomputable def gA:FN:=qJ [.b,.b,.b] 1 false lO
noncomputable def nR:FS:=(c8 (iO (qL (aB (qA t9 (aB (aC 1) aO)) aO)) 1 [1,0] [] (aS 0) (EN (bW (bI W5 (bI eA (aC 1) (aC 0)) (bI eA (aC 2) (fC (.int 0))))) (bW (bI (AK true) (bI eA (aC 1) (aC 0)) (TL SO (aC 1) (sY (bI iW (aC 0) (fC (.int 1)))) jJ)))) (bI eA (aC 1) (aC 0))))
noncomputable def r6:FS:=(a8 (b9 1 (bI eA (aC 0) (fC (.int 3)))) nR)
noncomputable def iB:FN:=qJ [.b] 1 false r6
noncomputable def fS:FS:=(uM (bW (bI (AK true) (bI eA (aC 2) (fC (.int 0))) (aC 1))) (eW 1 (bI eA (aC 2) (fC (.int 0))) (aC 2)) dE)
noncomputable def fW:FS:=(a8 (iS (xA (aC 0)) (aS 2) fS) (c8 (EU (aC 1))))
noncomputable def iE:FS:=(a8 (jA 1 qH) fW)
noncomputable def cZ:FN:=qJ [.b] 2 false iE
noncomputable def gQ:FS:=(a8 (uM (bW (bI (AK true) (aC 3) (aC 1))) (c8 (fC (.bl false))) dE) (b9 3 (bI eA (bI eA (aC 0) (aC 3)) (fC (.int 0)))))
noncomputable def gN:FS:=(a8 (uM (bW (bI (OX false) (aC 3) (fC .bD))) (c8 (fC (.bl true))) dE) gQ)
noncomputable def gR:FS:=(a8 (iS (qL (aB (qA EZ (aB (aC 0) aO)) aO)) (aS 4) gN) (c8 (fC (.bl true))))
noncomputable def jS:FS:=(a8 (b9 3 (aC 2)) gR)
noncomputable def e8:FN:=qJ [.b,.b,.v] 2 false jS
noncomputable def sC:FS:=(c8 (oA (xA (a9 [.b] false eS (aB (aC 0) aO))) 1 [] [] (aS 0) fE (bI eA (aC 0) (fC (.int 0))) (a9 [.b] false iA (aB (aC 0) aO))))
noncomputable def iK:FN:=qJ [.b] 0 true sC
noncomputable def nS:FS:=(sX 1 (LP (xIt (a9 [.b] false eS (aB (aC 0) aO))) (aS 2) (LP (UM (aB (a9 [.b] false iA (aB (aC 2) aO)) aO)) (jQ 2 (cB (aS 3) (cB (aS 4) jL))) (xIf (bW (bI gGt (aC 3) (fC (.int 0)))) (W7 (aC 4) (dQ (aB (bI eA (aC 2) (fC (.int 1))) (aB (bI eA (aC 2) (fC (.int 0))) (aB (aC 3) aO))))) LG))))
noncomputable def gY:FN:=qJ [.b] 4 false nS
noncomputable def pB:FS:=(a8 (eW 2 (bI eA (aC 3) (fC (.int 0))) (fC (.bl true))) (iS (xA (a9 [.b] false iA (aB (aC 3) aO))) (aS 4) (eW 2 (aC 4) (fC (.bl true)))))
noncomputable def pL:FS:=(a8 (eW 2 (aC 4) (fC (.bl true))) (uM (bW (bI (OX true) (aC 5) (fC .bD))) (eW 2 (aC 5) (fC (.bl true))) dE))
noncomputable def pY:FS:=(a8 (iS (xA (aC 1)) (jQ 2 (cB (aS 4) (cB (aS 5) jL))) pL) (c8 (qA sZ (aB (qA kA (aB (aC 2) aO)) aO))))
noncomputable def pA:FS:=(a8 (iS (xA (a9 [.b] false eS (aB (aC 0) aO))) (aS 3) pB) pY)
noncomputable def vE:FS:=(a8 (jA 2 qH) pA)
noncomputable def oG:FN:=qJ [.b,.b] 4 false vE
noncomputable def j5:FS:=(b9 5 (bI eA (iO (qL (aB (bI iW (qA t9 (aB (aC 2) aO)) (fC (.int 1))) aO)) 1 [2] [] (aS 0) (bW (bI (AK true) (qA u4 (aB (aC 0) aO)) (aC 1))) (qA u4 (aB (aC 0) aO))) (fC (.int 0))))
noncomputable def kF:FS:=(a8 (uM (bW (bI (AK false) (aC 5) (aC 2))) j5 dE) (JD 2 (aC 5)))
noncomputable def jX:FS:=(a8 (b9 5 (fBM BA (fC (.str "")) (aB (iO (qL (aB (aC 4) aO)) 1 [0] [(0,1)] (aS 0) fE (bI eA (fC (.str "abcdefghijklmnopqrstuvwxyz0123456789")) (a9 [.m,.b] false aQ (aB (aC 1) (aB (fC (.int 36)) aO))))) aO))) kF)
noncomputable def kP:FS:=(a8 (b9 4 (bI eA (lG (aB (fC (.int 1)) (aB (fC (.int 1)) (aB (fC (.int 2)) (aB (fC (.int 3)) (aB (fC (.int 12)) (aB (bI iW (fC (.int 1)) (bI m7 (aC 3) (fC (.int 12)))) aO))))))) (a9 [.m,.b] false aQ (aB (aC 0) (aB (fC (.int 6)) aO))))) jX)
noncomputable def jZ:FS:=(a8 (iS (qL (aB (aC 1) aO)) (aS 3) kP) (c8 (aC 2)))
noncomputable def nJ:FS:=(a8 (jA 2 (lG aO)) jZ)
noncomputable def gW:FN:=qJ [.m,.b] 4 false nJ
noncomputable def iN:FS:=(b9 5 (bI iW (TL SO (aC 5) jJ (sY (fC (.int 8)))) (lG (aB (bI m7 (bI iW (aC 2) (fC (.int 1))) (aC 1)) aO))))
noncomputable def i0:FS:=(c8 (dQ (aB (aC 2) (aB (bI eA (lG (aB (aC 4) (aB (bI Mr.y7 (fC (.int 99999999)) (aC 4)) aO))) (qA AR (aB (bI RS (aC 3) (fC (.int 2))) aO))) (aB (bI eA (lG (aB (fC (.str "")) (aB (fC (.str "walls")) (aB (fC (.str "Re: walls")) aO)))) (a9 [.m,.b] false aQ (aB (aC 0) (aB (fC (.int 3)) aO)))) (aB (aC 5) aO))))))
noncomputable def jB:FS:=(a8 (uM (bW (bI RS (a9 [.m,.b] false aQ (aB (aC 0) (aB (fC (.int 4)) aO))) (fC (.int 0)))) iN dE) i0)
noncomputable def iX:FS:=(a8 (b9 5 (iO (qL (aB (bI eA (lG (aB (fC (.int 0)) (aB (fC (.int 1)) (aB (fC (.int 1)) (aB (fC (.int 2)) (aB (fC (.int 3)) (aB (fC (.int 9)) aO))))))) (a9 [.m,.b] false aQ (aB (aC 0) (aB (fC (.int 6)) aO)))) aO)) 1 [0,1] [(0,1)] (aS 0) fE (a9 [.m,.b] false aQ (aB (aC 1) (aB (aC 2) aO))))) jB)
noncomputable def i8:FS:=(a8 (b9 4 (a9 [.m,.b] false aQ (aB (aC 0) (aB (bI eA (lG (aB (fC (.int 1)) (aB (fC (.int 3)) (aB (fC (.int 2)) (aB (fC (.int 100000000)) aO))))) (aC 3)) aO)))) iX)
noncomputable def jC:FS:=(a8 (b9 3 (a9 [.m,.b] false aQ (aB (aC 0) (aB (fC (.int 4)) aO)))) i8)
noncomputable def mO:FS:=(a8 (b9 2 (a9 [.m,.b] false aQ (aB (aC 0) (aB (aC 1) aO)))) jC)
noncomputable def cR:FN:=qJ [.m,.b] 4 false mO
noncomputable def kI:FS:=(uM (EN (bW (bI (AK true) (aC 5) (aC 3))) (XU (bW (a9 [.b,.b,.b] false gA (aB (aC 3) (aB (aC 6) (aB (aC 5) aO))))))) (eW 3 (aC 5) (aC 6)) dE)
noncomputable def jY:FS:=(a8 (uM (bW (bI RS (a9 [.m,.b] false aQ (aB (aC 0) (aB (fC (.int 3)) aO))) (fC (.int 0)))) (b9 6 (fC .bD)) dE) kI)
noncomputable def kM:FS:=(a8 (b9 6 (bI eA (aC 1) (a9 [.m,.b] false aQ (aB (aC 0) (aB (qA t9 (aB (aC 1) aO)) aO))))) jY)
noncomputable def j9:FS:=(a8 (b9 5 (bI eA (aC 1) (a9 [.m,.b] false aQ (aB (aC 0) (aB (qA t9 (aB (aC 1) aO)) aO))))) kM)
noncomputable def kN:FS:=(a8 (iS (qL (aB (aC 2) aO)) (aS 4) j9) (c8 (qA sZ (aB (EF (aC 3)) aO))))
noncomputable def nX:FS:=(a8 (jA 3 qH) kN)
noncomputable def hW:FN:=qJ [.m,.b,.b] 4 false nX
noncomputable def jU:FS:=(a8 (b9 9 (dQ (aB (bI eA (aC 5) (fC (.int 1))) (aB (bI eA (aC 5) (fC (.int 0))) (aB (aC 7) (aB (bI eA (aC 6) (bI Mr.y7 (aC 7) (fC (.int 1)))) aO)))))) (eW 2 (aC 8) (qA zT (aB (J2 (aC 2) (aC 8) (aC 9)) (aB (aC 9) aO)))))
noncomputable def kK:FS:=(a8 (eW 3 (aC 8) (dQ (aB (fC .bD) (aB (dQ (aB (fC (.str "first")) aO)) aO)))) (uM (bW (bI gGt (aC 7) (fC (.int 0)))) jU dE))
noncomputable def jV:FS:=(a8 (b9 6 (a9 [.b] false iB (aB (aC 5) aO))) (iS (GA (aB (aC 6) aO)) (jQ 2 (cB (aS 7) (cB (aS 8) jL))) kK))
noncomputable def kC:FS:=(eW 3 (aC 8) (dQ (aB (bI eA (aC 9) (fC (.int 3))) (aB (dQ (aB (fC (.str "told")) (aB (bI eA (aC 9) (fC (.int 1))) (aB (bI eA (aC 9) (fC (.int 2))) aO)))) aO))))
noncomputable def kD:FS:=(eW 3 (bI eA (aC 5) (fC (.int 0))) (T5 (bW (bI W5 (aC 6) (lG aO))) (dQ (aB (bI eA (aC 6) (fUn R7 (fC (.int 1)))) (aB (dQ (aB (fC (.str "own")) aO)) aO))) (dQ (aB (fC .bD) (aB (dQ (aB (fC (.str "first")) aO)) aO)))))
noncomputable def jT:FS:=(a8 (b9 6 (a9 [.b] false iB (aB (aC 5) aO))) kD)
noncomputable def j0:FS:=(uM (EN (bW (bI (OX true) (aC 10) (fC .bD))) (bW (bI (AK true) (aC 10) (aC 3)))) (eW 3 (aC 10) (dQ (aB (fC .bD) (aB (dQ (aB (fC (.str "first")) aO)) aO)))) dE)
noncomputable def kB:FS:=(a8 (eW 3 (aC 8) (dQ (aB (aC 10) (aB (dQ (aB (fC (.str "hand")) aO)) aO)))) j0)
noncomputable def kE:FS:=(a8 (iS (xA (aC 1)) (jQ 2 (cB (aS 8) (cB (aS 10) jL))) kB) (c8 (aC 3)))
noncomputable def iR:FS:=(a8 (iS (xA (aC 4)) (aS 5) jT) kE)
noncomputable def iT:FS:=(a8 (UN 2 (iS (DE (aC 2)) (jQ 2 (cB (aS 8) (cB (aS 9) jL))) kC)) iR)
noncomputable def iG:FS:=(a8 (iS (xA (aC 4)) (aS 5) jV) iT)
noncomputable def iQ:FS:=(a8 (b9 4 (a9 [.b] false cZ (aB (aC 0) aO))) iG)
noncomputable def mV:FS:=(a8 (a8 (jA 2 qH) (jA 3 qH)) iQ)
noncomputable def gZ:FN:=qJ [.b,.b] 9 false mV
noncomputable def nP:FS:=(c8 (oA (xA (aC 2)) 1 [3,4,5] [] (aS 0) fE (aC 0) (a9 [.b,.b,.b,.b] false cQ (aB (aC 1) (aB (aC 2) (aB (aC 3) (aB (aC 0) aO)))))))
noncomputable def nU:FS:=(a8 (b9 5 (a9 [.b] false gY (aB (aC 0) aO))) nP)
noncomputable def m5:FS:=(a8 (b9 4 (a9 [.b] true iK (aB (aC 0) aO))) nU)
noncomputable def rW:FS:=(a8 (b9 3 (oA (xA (aC 1)) 2 [] [] (jQ 2 (cB (aS 0) (cB (aS 1) jL))) fE (aC 0) (aC 1))) m5)
noncomputable def mI:FN:=qJ [.b,.b,.b] 3 false rW
noncomputable def gT:FS:=(a8 (iS (VX (aB (fC (.int 1)) (aB (qA GW (aB (qA t9 (aB (aC 0) aO)) (aB (fC (.int 40)) aO))) aO))) (aS 4) (JD 3 (DB cR (a9 [.b,.b] true gG (aB (aC 0) (aB (aC 4) aO))) 2))) (c8 (aC 3)))
noncomputable def kG:FS:=(a8 (jA 3 (iO (qL (aB (a9 [.m,.b] false aQ (aB (aC 1) (aB (fC (.int 13)) aO))) aO)) 1 [1,2] [(1,1)] (aS 0) fE (a9 [.m,.b] false cR (aB (aC 1) (aB (aC 2) aO))))) gT)
noncomputable def eX:FN:=qJ [.b,.m,.b] 2 true kG
noncomputable def iZ:FS:=(a8 (iS (xA (a9 [.b,.b] false lY (aB (oA (LL (aC 4)) 1 [4] [] (aS 0) fE (aC 0) (bI eA (bI eA (aC 1) (aC 0)) (fC (.int 0)))) (aB (aC 3) aO)))) (aS 8) (uM (bW (bI (AK true) (aC 8) (aC 5))) (c8 (aC 8)) dE)) (c8 (fC .bD)))
noncomputable def i4:FS:=(a8 (iS (xA (aC 1)) (jQ 2 (cB (aS 6) (cB (aS 7) jL))) (eW 5 (aC 6) (dQ aO))) iZ)
noncomputable def iU:FS:=(a8 (jA 5 (a9 [.b] true iK (aB (aC 0) aO))) i4)
noncomputable def mG:FS:=(a8 (b9 4 (a9 [.b,.b,.b] false mI (aB (aC 0) (aB (aC 1) (aB (aC 2) aO))))) iU)
noncomputable def fZ:FN:=qJ [.b,.b,.b,.b] 5 false mG
noncomputable def pU:FS:=(c8 (dQ (aB (aC 4) (aB (fC (.int 0)) (aB (fC (.str "")) (aB (dQ (aB (a9 [.b] false eK (aB (aC 3) aO)) aO)) aO))))))
noncomputable def o7:FS:=(a8 (uM (bW (bI (OX false) (aC 4) (fC .bD))) (c8 (fC .bD)) dE) pU)
noncomputable def o9:FS:=(a8 (b9 4 (a9 [.b,.b,.b,.b] false fZ (aB (aC 0) (aB (aC 1) (aB (aC 3) (aB (aC 2) aO)))))) o7)
noncomputable def vT:FS:=(a8 (b9 3 (a9 [.b,.b] false oG (aB (aC 0) (aB (aC 1) aO)))) o9)
noncomputable def oD:FN:=qJ [.b,.b,.b] 2 false vT
noncomputable def j6:FS:=(uM (bW (bI W5 (bI (OX false) (a9 [.b,.b,.b] false oD (aB (aC 0) (aB (aC 1) (aB (aC 7) aO)))) (fC .bD)) (a9 [.b,.b,.v] false e8 (aB (aC 3) (aB (aC 4) (aB (aC 7) aO)))))) (c8 (fC (.bl false))) dE)
noncomputable def j8:FS:=(a8 (b9 7 (bI eA (aC 5) (bI m7 (aC 6) (qA t9 (aB (aC 5) aO))))) j6)
noncomputable def kJ:FS:=(a8 (iS (xA (aC 2)) (aS 6) (uM (bW (bI W5 (aC 5) (lG aO))) j8 dE)) (c8 (fC (.bl true))))
noncomputable def j4:FS:=(a8 (b9 5 (qA kA (aB (aC 3) aO))) kJ)
noncomputable def jW:FS:=(a8 (b9 4 (bI iW (iO (xA (a9 [.b] false cZ (aB (aC 0) aO))) 1 [] [] (aS 0) fE (bI eA (aC 0) (fC (.int 0)))) (iO (xA (aC 1)) 2 [] [] (jQ 2 (cB (aS 0) (cB (aS 1) jL))) fE (aC 0)))) j4)
noncomputable def nQ:FS:=(a8 (b9 3 (a9 [.b,.b] false gZ (aB (aC 0) (aB (aC 1) aO)))) jW)
noncomputable def dR:FN:=qJ [.b,.b,.b] 5 false nQ
noncomputable def AA:FS:=(JD 6 (bI iW (dQ (aB (aC 7) aO)) (TL SO (a9 [.m,.b] false cR (aB (aC 1) (aB (aC 2) aO))) (sY (fC (.int 1))) jJ)))
noncomputable def zV:FS:=(c8 (E4 (a9 [.b,.b,.b] false dR (aB (aC 9) (aB (aC 10) (aB (aC 4) aO)))) (E4 (a9 [.b,.b,.b] false dR (aB (aC 9) (aB (dQ aO) (aB (aC 4) aO)))) (a9 [.b,.b,.b] false dR (aB (aC 9) (aB (aC 10) (aB (TL SO (aC 4) jJ (sY (fC (.int 1)))) aO)))))))
noncomputable def zE:FS:=(a8 (b9 10 (a9 [.m,.b,.b] false hW (aB (aC 1) (aB (aC 8) (aB (aC 5) aO))))) zV)
noncomputable def z4:FS:=(a8 (b9 9 (a9 [.b,.b] false jP (aB (aC 6) (aB (aC 8) aO)))) zE)
noncomputable def yN:FS:=(a8 (b9 8 (a9 [.m,.b] false gW (aB (aC 1) (aB (aC 2) aO)))) z4)
noncomputable def zP:FS:=(a8 (iS (qL (aB (bI qV (aC 3) (aC 2)) aO)) (aS 7) AA) yN)
noncomputable def zQ:FS:=(a8 (jA 6 (a9 [.b,.m,.b] true eX (aB (aC 0) (aB (aC 1) (aB (aC 2) aO))))) zP)
noncomputable def zC:FS:=(a8 (b9 5 (a9 [.m,.b] false aQ (aB (aC 1) (aB (fC (.int 9)) aO)))) zQ)
noncomputable def AJ:FS:=(a8 (b9 4 (iO (qL (aB (fC (.int 4)) aO)) 1 [1] [(1,1)] (aS 0) fE (a9 [.m,.b] false aQ (aB (aC 1) (aB (fC (.int 100)) aO))))) zC)
noncomputable def uT:FS:=(a8 (b9 3 (a9 [.m,.b] false aQ (aB (aC 1) (aB (fC (.int 2)) aO)))) AJ)
noncomputable def vC:FS:=(a8 (b9 2 (bI iW (fC (.int 1)) (a9 [.m,.b] false aQ (aB (aC 1) (aB (bI eA (lG (aB (fC (.int 4)) (aB (fC (.int 12)) (aB (fC (.int 40)) aO)))) (a9 [.m,.b] false aQ (aB (aC 1) (aB (fC (.int 3)) aO)))) aO))))) uT)
noncomputable def KC:FS:=(a8 (jA 1 (a9 [.b,.b] true gG (aB (aC 0) (aB (fC (.int 0)) aO)))) vC)
noncomputable def AI:FN:=qJ [.b] 10 false KC
noncomputable def top (i:Nat):Stmt:=PySem.Challenge.pw_answertrees_k26_just_where.main.body.getD i (.Pass ⟨0,0,0,0⟩)
noncomputable abbrev m6:Stmt:=top 1
noncomputable abbrev l7:Stmt:=top 2
noncomputable abbrev lE:Stmt:=top 4
noncomputable abbrev jM:Stmt:=top 5
noncomputable abbrev rE:Stmt:=top 6
noncomputable abbrev hZ:Stmt:=top 7
noncomputable abbrev oF:Stmt:=top 9
noncomputable abbrev qR:Stmt:=top 11
noncomputable abbrev e9:Stmt:=top 13
noncomputable abbrev fF:Stmt:=top 14
noncomputable abbrev qW:Stmt:=top 15
noncomputable abbrev lU:Stmt:=top 17
noncomputable abbrev mF:Stmt:=top 18
noncomputable abbrev eV:Stmt:=top 19
noncomputable abbrev fH:Stmt:=top 20
noncomputable abbrev eB:Stmt:=top 21
noncomputable abbrev i5:Stmt:=top 22
noncomputable abbrev hJ:Stmt:=top 23
noncomputable abbrev jK:Stmt:=top 24
noncomputable abbrev lB:Stmt:=top 25
noncomputable abbrev fB:Stmt:=top 26
noncomputable abbrev jO:Stmt:=top 27
noncomputable abbrev gC:Stmt:=top 28
noncomputable abbrev eU:Stmt:=top 29
noncomputable abbrev BC:Stmt:=top 30
structure Txt (K:Frag) (mg:Str->Option Value):Prop where
 dM:mg "enumerate"=none
 gD:mg "tuple"=none
 vX:mg "min"=none
 sF:mg "list"=none
 tL:mg "str"=none
 lK:mg "len"=none
 gK:mg "sorted"=none
 cU:mg "range"=none
 A1:mg "int"=none
section
variable (P:Program) (w:World) (K:Frag) (mg:Str->Option Value) (base:Heap)
abbrev qE:Prop:=Cn P w K mg base "elders" m6 ["letter"] 1 [.b] false iA
abbrev mB:Prop:=Cn P w K mg base "standing" l7 ["pack"] 1 [.b] false eS
abbrev AW:Prop:=Cn P w K mg base "choice" rE ["held","rows","claimed","name"] 1 [.b,.b,.b,.b] false cQ
abbrev xJ:Prop:=Cn P w K mg base "climbed" oF ["above","name"] 1 [.b,.b] false lY
abbrev nE:Prop:=Cn P w K mg base "unknown_name" e9 ["known"] 1 [.b] false eK
abbrev pZ:Prop:=Cn P w K mg base "_law_hand" lU ["_law_script","_law_k"] 1 [.b,.b] true gG
abbrev fT:Prop:=Cn P w K mg base "_law_take" mF ["_law_hand_here","_law_many"] 1 [.m,.b] false aQ
abbrev uW:Prop:=Cn P w K mg base "_law_pack" i5 ["_law_letters_here","_law_names_here"] 1 [.b,.b] false jP
abbrev qK:Prop:=Cn P w K mg base "_law_climbs" hJ ["_law_held","_law_here","_law_name"] 1 [.b,.b,.b] false gA
abbrev xR:Prop:=Cn P w K mg base "_law_row" lB ["_law_letter_here"] 1 [.b] false iB
abbrev iF:Prop:=Cn P w K mg base "_law_standing" fB ["_law_pack_here"] 1 [.b] false cZ
abbrev o6:Prop:=Cn P w K mg base "_law_settled" gC ["_law_table_here","_law_sure","_law_name"] 1 [.b,.b,.v] false e8
abbrev sL:Prop:=Cn P w K mg base "rows_of" lE ["pack"] 2 [.b] true iK
abbrev sV:Prop:=Cn P w K mg base "claims_of" jM ["pack"] 2 [.b] false gY
abbrev B0:Prop:=Cn P w K mg base "places" qR ["pack","marks"] 2 [.b,.b] false oG
abbrev sO:Prop:=Cn P w K mg base "_law_names" eV ["_law_hand_here","_law_many"] 2 [.m,.b] false gW
abbrev lW:Prop:=Cn P w K mg base "_law_letter" fH ["_law_hand_here","_law_m"] 2 [.m,.b] false cR
abbrev sR:Prop:=Cn P w K mg base "_law_marks" jK ["_law_hand_here","_law_names_here","_law_many"] 2 [.m,.b,.b] false hW
abbrev tK:Prop:=Cn P w K mg base "_law_table" jO ["_law_pack_here","_law_marks_here"] 2 [.b,.b] false gZ
abbrev x9:Prop:=Cn P w K mg base "choices" hZ ["pack","marks","names"] 3 [.b,.b,.b] false mI
abbrev oX:Prop:=Cn P w K mg base "_law_letters" eB ["_law_script","_law_hand_here","_law_m"] 3 [.b,.m,.b] true eX
abbrev qN:Prop:=Cn P w K mg base "first_open" fF ["pack","marks","known","name"] 4 [.b,.b,.b,.b] false fZ
abbrev AU:Prop:=Cn P w K mg base "shaker" qW ["pack","marks","name"] 5 [.b,.b,.b] false oD
abbrev sQ:Prop:=Cn P w K mg base "_law_right" eU ["_law_pack_here","_law_marks_here","_law_asks"] 6 [.b,.b,.b] false dR
abbrev aaI:Prop:=Cn P w K mg base "law" BC ["_law_script"] 7 [.b] false AI
end
section
variable {P:Program} {w:World} {K:Frag} {mg:Str->Option Value} {base:Heap}
local macro_rules | `(tactic| walk_at "rf") => `(tactic| repeat' (first | with_reducible first | apply FK | apply F0 | apply NF | apply E9 | apply R4 | apply Q7 | apply UT | apply OA | apply HS | apply NR | apply O9 | apply OC | apply HI | apply IY | apply M3 | apply Q8 | apply BH | apply VQ | apply MV | apply DU | apply MS | apply KO | apply QE | apply UB | apply RY | apply K0 | apply NL | apply IW | apply RO | apply QN | apply XH | apply PD | apply X6 | apply SG | apply P1 | apply JI | apply XB | apply LM | apply M8 | apply P7 | apply ID | apply L3 | apply RW | apply RP | apply V4 | apply HN | apply D4 | apply L9 | apply D3 | apply N7 | apply Q1 | apply DZ | apply J5 | apply IQ | apply C1 | apply JX | apply MQ | apply OK | apply HL | apply UR | apply QD | apply US | apply HV | apply N2 | apply LD | apply RC | apply HF | apply RQ | apply HJ | apply NY | apply NM | apply TN | apply GY | apply TZ | apply SX | apply TX | apply NJ | apply M5 | apply G8 | apply K2 | apply CN | apply B9 | apply FJ | apply TH | apply DJ | apply S4 | apply NA | apply N6 | apply E7 | apply LY | apply T2 | apply MT | apply CQ | apply FC | apply TB | apply TK | apply GO | apply FH | apply BL | apply AZ | apply F4 | first | exact TN | exact GY | exact TZ | exact SX | exact TX | exact NJ | exact M5 | exact G8 | exact K2 | exact CN | exact B9 | exact FJ | exact TH | exact DJ | exact S4 | exact NA | exact N6 | exact E7 | exact LY | exact T2 | exact MT | exact CQ | exact FC | exact TB | exact TK | exact GO | exact FH | exact BL | exact AZ | exact F4 | rfl | decide))
theorem JW (T:Txt K mg) (D:Dx K mg "elders" m6 ["letter"]):qE P w K mg base:=c9 D (N:=["letter","own","row"]) ⟨rfl,rfl,rfl,by decide+kernel,rfl,by decide+kernel,by decide+kernel⟩ rfl rfl fun S f cdv A outer s H E hr=>
 ⟨_,(aE (aW (i:=1) S.nd rfl (Or.inr rfl) (bL (fM K hr) (pv 0) aG (fun _ _=>rfl)))
   (aE (aW (i:=2) S.nd rfl (Or.inr rfl) (bL (fM K hr) (pv 0) aG (fun _ _=>rfl)))
   (aL (bU (cK (OF K) (by rfl) T.gD kW (aA (uN ["at","name","own","row"] 2 [1,2] ["letter","own","row"] (bF m6) rfl rfl rfl (y6 K rfl T.dM (aA (pv 2) aD)) (by decide+kernel) (fun _=>(eY (n:=2) K rfl (bP (aR (i:=0) (show(["at","name","own","row"]:List Str).Nodup by decide+kernel) rfl (Or.inl rfl)) (bP (aR (i:=1) (show(["at","name","own","row"]:List Str).Nodup by decide+kernel) rfl (Or.inl rfl)) eZ)))) (fun _=>(AG (PW.pt (vJ (bK (OL K hr) (pv 1) (pv 2) (cO _)) (q5 (bK (iI K hr) (pv 1) (nN (ZQ K) (pv 3) (rK (bN (nM K) (pv 0) aG)) qY) (by rfl))))))) (fun _=>(pv 1))) aD)))))),by unfold vI pE pQ;walk_at "rf"⟩
theorem CP (T:Txt K mg) (D:Dx K mg "standing" l7 ["pack"]):mB P w K mg base:=c9 D (N:=["pack","first","letter"]) ⟨rfl,rfl,rfl,by decide+kernel,rfl,by decide+kernel,by decide+kernel⟩ rfl rfl fun S f cdv A outer s H E hr=>
 ⟨_,(aE (aW (i:=1) S.nd rfl (Or.inl rfl) gJ)
   (aE (cP cv rfl (cY K (pv 0)) (aR (i:=2) S.nd rfl (Or.inl rfl)) (aL (dU (bK (iI K hr) (bL (fM K hr) (pv 2) aG (fun _ _=>rfl)) (pv 1) (by rfl)) (aL (cX (fN hr) (pv 1) (bL (fM K hr) (pv 2) aG (fun _ _=>rfl)) (pv 2) rfl)) cD)))
   (aL (bU (cK acD (by rfl) T.gD kW (aA (F5 (pv 1)) aD)))))),by unfold pP lX mL;walk_at "rf"⟩
theorem IJ (T:Txt K mg) (D:Dx K mg "choice" rE ["held","rows","claimed","name"]):AW P w K mg base:=c9 D (N:=["held","rows","claimed","name","row","day","one","at"]) ⟨rfl,rfl,rfl,by decide+kernel,rfl,by decide+kernel,by decide+kernel⟩ rfl rfl fun S f cdv A outer s H E hr=>
 ⟨_,(aE (dU (bK (ZD K hr) (pv 3) (pv 0) (by rfl)) (aL (bU (bX (aA (bL (fM K hr) (pv 0) (pv 3) (fun _ _=>rfl)) (aA (bX (aA dN aD)) aD))))) cD)
   (aE (dU (bK (ZD K hr) (pv 3) (pv 1) (by rfl)) (aE (aW (i:=4) S.nd rfl (Or.inl rfl) (bL (fM K hr) (pv 1) (pv 3) (fun _ _=>rfl)))
   (aL (bU (rN (IH K (pv 4) (fun _=>rfl)) (bX (aA (bL (fM K hr) (pv 4) (TR K9 aG) (fun _ _=>rfl)) (aA (bX (aA dN aD)) aD))) (bX (aA eM (aA (bX (aA dN aD)) aD))))))) cD)
   (aE (dU (bK (ZD K hr) (pv 3) (pv 2) (by rfl)) (aE (DT (cJ (abG K hr) (by rfl) T.vX DR (aA (bL (fM K hr) (pv 2) (pv 3) (fun _ _=>rfl)) aD)) (eY (n:=3) K rfl (bP (aR (i:=5) S.nd rfl (Or.inl rfl)) (bP (aR (i:=6) S.nd rfl (Or.inl rfl)) (bP (aR (i:=7) S.nd rfl (Or.inl rfl)) eZ)))))
   (aL (bU (bX (aA (bL (fM K hr) (bL (fM K hr) (pv 1) (pv 6) (fun _ _=>rfl)) (bN EA (pv 7) aG) (fun _ _=>rfl)) (aA (bX (aA dN (aA (pv 6) (aA (pv 7) aD)))) aD)))))) cD)
   (aL (bU (bX (aA eM (aA (bX (aA dN aD)) aD)))))))),by unfold lD pV pD pW pJ p8 pH;walk_at "rf"⟩
theorem EC (T:Txt K mg) (D:Dx K mg "climbed" oF ["above","name"]):xJ P w K mg base:=c9 D (N:=["above","name","found"]) ⟨rfl,rfl,rfl,by decide+kernel,rfl,by decide+kernel,by decide+kernel⟩ rfl rfl fun S f cdv A outer s H E hr=>
 ⟨_,(aE (aW (i:=2) S.nd rfl (Or.inl rfl) gJ)
   (aE (CC cv (PW.pt (vJ (bK z8 (pv 1) eM (cO _)) (q5 (bK (iI K hr) (pv 1) (pv 2) (by rfl))))) (aE (cX (fN hr) (pv 2) (pv 1) nH rfl)
   (aL (aW (i:=1) S.nd rfl (Or.inl rfl) (CU (fN hr) (pv 0) (pv 1) ⟨rfl,by rfl,rfl,rfl⟩)))))
   (aL (bU (cK ZO (by rfl) T.sF GP (aA (pv 2) aD)))))),by unfold rZ mX nG;walk_at "rf"⟩
theorem tU (T:Txt K mg) (D:Dx K mg "unknown_name" e9 ["known"]):nE P w K mg base:=c9 D (N:=["known","number"]) ⟨rfl,rfl,rfl,by decide+kernel,rfl,by decide+kernel,by decide+kernel⟩ rfl rfl fun S f cdv A outer s H E hr=>
 ⟨_,(aE (aW (i:=1) S.nd rfl (Or.inl rfl) aG)
   (aE (CC cv (bK (ZD K hr) (cK hV (by rfl) T.tL zW (aA (pv 1) aD)) (pv 0) (by rfl)) (aL (WY (i:=1) S.nd rfl (Or.inl rfl) aG VG)))
   (aL (bU (cK hV (by rfl) T.tL zW (aA (pv 1) aD)))))),by unfold iV fO;walk_at "rf"⟩
theorem BG (T:Txt K mg) (D:Dx K mg "_law_hand" lU ["_law_script","_law_k"]):pZ P w K mg base:=c9 D (N:=["_law_script","_law_k","_law_cell","_law_great"]) ⟨rfl,rfl,rfl,by decide+kernel,rfl,by decide+kernel,by decide+kernel⟩ rfl rfl fun S f cdv A outer s H E hr=>
 ⟨_,(aE (aW (i:=2) S.nd rfl (Or.inl rfl) (rN (bK ltX (pv 1) (cJ (BP K) (by rfl) T.lK lV (aA (pv 0) aD)) (cO _)) (bL (fM K hr) (pv 0) (pv 1) (fun _ _=>rfl)) aG))
   (aE (aW (i:=3) S.nd rfl (Or.inl rfl) (rN (bK aaH (pv 2) (bN qD aG aG) (cO _)) (bN iP (pv 2) (bN y4 (bN y4 (bN y4 (bN qD aG aG) (bN qD aG aG)) (bN qD aG aG)) (bN qD aG aG))) aG))
   (aL (bU (QR.h (abP (VT (ew (pv 3)) (acO (ew (bN iP (bN mN (bN (nM K) (bN (nM K) (bN iP (pv 2) aG) (bN mN (bN mN aG (pv 1)) (pv 1))) aG) aG) aG)) (abZ (ew aG) K8))))))))),by unfold pR mE l0;walk_at "rf"⟩
theorem BF (T:Txt K mg) (D:Dx K mg "_law_take" mF ["_law_hand_here","_law_many"]):fT P w K mg base:=c9 D (N:=["_law_hand_here","_law_many","_law_digit","_law_blent"]) ⟨rfl,rfl,rfl,by decide+kernel,rfl,by decide+kernel,by decide+kernel⟩ rfl rfl fun S f cdv A outer s H E hr=>
 ⟨_,(aE (dU (bK MA (bL (fM K hr) (pv 0) aG (fun _ _=>rfl)) aG (cO _)) (aE (aW (i:=2) S.nd rfl (Or.inl rfl) (bN iP (bL (fM K hr) (pv 0) aG (fun _ _=>rfl)) (pv 1)))
   (aE (DT (bN uS (bL (fM K hr) (pv 0) aG (fun _ _=>rfl)) (pv 1)) (NU (pv 0) aG set_list))
   (aL (bU (pv 2))))) cD)
   (aE (DT (bN (nM K) (bL (fM K hr) (pv 0) aG (fun _ _=>rfl)) aG) (NU (pv 0) aG set_list))
   (aE (aW (i:=3) S.nd rfl (Or.inl rfl) (bN iP (bN mN (bN (nM K) (bN (nM K) (bL (fM K hr) (pv 0) aG (fun _ _=>rfl)) (bN mN (bN mN aG (bL (fM K hr) (pv 0) aG (fun _ _=>rfl))) (bL (fM K hr) (pv 0) aG (fun _ _=>rfl)))) aG) aG) aG))
   (aE (aW (i:=3) S.nd rfl (Or.inl rfl) (bN iP (bN mN (pv 3) (bN (nM K) (bN iP (pv 3) aG) (bN mN aG (bL (fM K hr) (pv 0) aG (fun _ _=>rfl))))) aG))
   (aL (bU (bN iP (bN (nM K) (bN uS (pv 3) aG) (bN uS (pv 3) aG)) (pv 1)))))))),by unfold pX lZ lR mH l6 lT;walk_at "rf"⟩
theorem BR (T:Txt K mg) (D:Dx K mg "_law_pack" i5 ["_law_letters_here","_law_names_here"]):uW P w K mg base:=c9 D (N:=["_law_letters_here","_law_names_here","_law_pack_here","_law_at","_law_day","_law_head","_law_row_here","_law_letter_here"]) ⟨rfl,rfl,rfl,by decide+kernel,rfl,by decide+kernel,by decide+kernel⟩ rfl rfl fun S f cdv A outer s H E hr=>
 ⟨_,(aE (aW (i:=2) S.nd rfl (Or.inl rfl) (fU aD))
   (aE (cP cv rfl (cY K (pv 0)) (eY (n:=4) K rfl (bP (aR (i:=3) S.nd rfl (Or.inl rfl)) (bP (aR (i:=4) S.nd rfl (Or.inl rfl)) (bP (aR (i:=5) S.nd rfl (Or.inl rfl)) (bP (aR (i:=6) S.nd rfl (Or.inl rfl)) eZ))))) (aE (aW (i:=7) S.nd rfl (Or.inl rfl) (bX (aA (bL (fM K hr) (pv 1) (pv 3) (fun _ _=>rfl)) (aA (pv 4) (aA (pv 5) (aA (cK (OF K) (by rfl) T.gD kW (aA (uN ["_law_n","_law_names_here"] 1 [1] ["_law_letters_here","_law_names_here","_law_pack_here","_law_at","_law_day","_law_head","_law_row_here","_law_letter_here"] (bF i5) rfl rfl rfl (cY K (pv 6)) (by decide+kernel) (fun _=>(aR (i:=0) (show(["_law_n","_law_names_here"]:List Str).Nodup by decide+kernel) rfl (Or.inl rfl))) (fun _=>fJ) (fun _=>(bL (fM K hr) (pv 1) (pv 0) (fun _ _=>rfl)))) aD)) aD))))))
   (aL (dU (bK (iI K hr) (pv 7) (pv 2) (by rfl)) (aL (qT (sD K plainAttrs_list iu iw fX (pv 2) (aA (pv 7) aD)))) cD))))
   (aL (bU (cK (OF K) (by rfl) T.gD kW (aA (cJ (J8 K hr) (by rfl) T.gK oM (aA (pv 2) aD)) aD)))))),by unfold pT mJ mC;walk_at "rf"⟩
theorem wZ (T:Txt K mg) (D:Dx K mg "_law_climbs" hJ ["_law_held","_law_here","_law_name"]):qK P w K mg base:=c9 D (N:=["_law_held","_law_here","_law_name","_law_n"]) ⟨rfl,rfl,rfl,by decide+kernel,rfl,by decide+kernel,by decide+kernel⟩ rfl rfl fun S f cdv A outer s H E hr=>
 ⟨_,(aE (cP cv rfl (cV rfl T.cU (aA (bN (nM K) (cJ (ZA K) (by rfl) T.lK lV (aA (pv 0) aD)) aG) aD)) (aR (i:=3) S.nd rfl (Or.inl rfl)) (aE (dU (PW.pt (Z6 (bK yZ (pv 1) eM (cO _)) (VI (bK (K3 K hr) (pv 1) (pv 2) (cO _))))) (aL (bU (z7 (K3 K hr) (pv 1) (pv 2) (cO _)))) cD)
   (aL (aW (i:=1) S.nd rfl (Or.inl rfl) (CU (fN hr) (pv 0) (pv 1) ⟨rfl,by rfl,rfl,rfl⟩)))))
   (aL (bU nH))),by unfold lO i6;walk_at "rf"⟩
theorem D8 (T:Txt K mg) (D:Dx K mg "_law_row" lB ["_law_letter_here"]):xR P w K mg base:=c9 D (N:=["_law_letter_here","_law_row_here"]) ⟨rfl,rfl,rfl,by decide+kernel,rfl,by decide+kernel,by decide+kernel⟩ rfl rfl fun S f cdv A outer s H E hr=>
 ⟨_,(aE (aW (i:=1) S.nd rfl (Or.inr rfl) (bL (fM K hr) (pv 0) aG (fun _ _=>rfl)))
   (aL (bU (uN ["_law_n","_law_row_here","_law_letter_here"] 1 [1,0] ["_law_letter_here","_law_row_here"] (bF lB) rfl rfl rfl (cV rfl T.cU (aA (cJ (BP K) (by rfl) T.lK lV (aA (pv 1) aD)) aD)) (by decide+kernel) (fun _=>(aR (i:=0) (show(["_law_n","_law_row_here","_law_letter_here"]:List Str).Nodup by decide+kernel) rfl (Or.inl rfl))) (fun _=>(AG (PW.pt (vJ (bK (OL K hr) (bL (fM K hr) (pv 1) (pv 0) (fun _ _=>rfl)) (bL (fM K hr) (pv 2) aG (fun _ _=>rfl)) (cO _)) (q5 (bK (iI K hr) (bL (fM K hr) (pv 1) (pv 0) (fun _ _=>rfl)) (nN (ZQ K) (pv 1) (rK (bN (nM K) (pv 0) aG)) qY) (by rfl))))))) (fun _=>(bL (fM K hr) (pv 1) (pv 0) (fun _ _=>rfl))))))),by unfold r6 nR;walk_at "rf"⟩
theorem tY (T:Txt K mg) (D:Dx K mg "_law_standing" fB ["_law_pack_here"]):iF P w K mg base:=c9 D (N:=["_law_pack_here","_law_found","_law_letter_here"]) ⟨rfl,rfl,rfl,by decide+kernel,rfl,by decide+kernel,by decide+kernel⟩ rfl rfl fun S f cdv A outer s H E hr=>
 ⟨_,(aE (aW (i:=1) S.nd rfl (Or.inl rfl) gJ)
   (aE (cP cv rfl (cY K (pv 0)) (aR (i:=2) S.nd rfl (Or.inl rfl)) (aL (dU (bK (iI K hr) (bL (fM K hr) (pv 2) aG (fun _ _=>rfl)) (pv 1) (by rfl)) (aL (cX (fN hr) (pv 1) (bL (fM K hr) (pv 2) aG (fun _ _=>rfl)) (pv 2) rfl)) cD)))
   (aL (bU (cK acM (by rfl) T.sF GP (aA (F5 (pv 1)) aD)))))),by unfold iE fW fS;walk_at "rf"⟩
theorem vP (T:Txt K mg) (D:Dx K mg "_law_settled" gC ["_law_table_here","_law_sure","_law_name"]):o6 P w K mg base:=c9 D (N:=["_law_table_here","_law_sure","_law_name","_law_here","_law_n"]) ⟨rfl,rfl,rfl,by decide+kernel,rfl,by decide+kernel,by decide+kernel⟩ rfl rfl fun S f cdv A outer s H E hr=>
 ⟨_,(aE (aW (i:=3) S.nd rfl (Or.inl rfl) (pv 2))
   (aE (cP cv rfl (cV rfl T.cU (aA (cJ (ZA K) (by rfl) T.lK lV (aA (pv 0) aD)) aD)) (aR (i:=4) S.nd rfl (Or.inl rfl)) (aE (dU (bK yZ (pv 3) eM (cO _)) (aL (bU nH)) cD)
   (aE (dU (bK (iI K hr) (pv 3) (pv 1) (by rfl)) (aL (bU nH)) cD)
   (aL (aW (i:=3) S.nd rfl (Or.inl rfl) (bL (fM K hr) (bL (fM K hr) (pv 0) (pv 3) (fun _ _=>rfl)) aG (fun _ _=>rfl)))))))
   (aL (bU nH)))),by unfold jS gR gN gQ;walk_at "rf"⟩
theorem C6 (T:Txt K mg) (D:Dx K mg "rows_of" lE ["pack"]) (G_elders:qE P w K mg base) (G_standing:mB P w K mg base):sL P w K mg base:=c9 D (N:=["pack"]) ⟨rfl,rfl,rfl,by decide+kernel,rfl,by decide+kernel,by decide+kernel⟩ rfl rfl fun S f cdv A outer s H E hr=>
 ⟨_,(aL (bU (G7 ["letter"] 1 [] ["pack"] (bF lE) rfl rfl rfl (cY K (aZ G_standing hr (by decide) rfl (aA (pv 0) aD))) (by decide+kernel) (fun _=>(aR (i:=0) (show(["letter"]:List Str).Nodup by decide+kernel) rfl (Or.inl rfl))) (fun _=>fJ) (fun _=>(bL (fM K hr) (pv 0) aG (fun _ _=>rfl))) (fun _=>(aZ G_elders hr (by decide) rfl (aA (pv 0) aD)))))),by unfold sC;walk_at "rf"⟩
theorem zK (T:Txt K mg) (D:Dx K mg "claims_of" jM ["pack"]) (G_standing:mB P w K mg base) (G_elders:qE P w K mg base):sV P w K mg base:=c9 D (N:=["pack","found","letter","at","name"]) ⟨rfl,rfl,rfl,by decide+kernel,rfl,by decide+kernel,by decide+kernel⟩ rfl rfl fun S f cdv A outer s H E hr=>
 ⟨_,(aE (aW (i:=1) S.nd rfl (Or.inl rfl) gJ)
   (aE (cP cv rfl (cY K (aZ G_standing hr (by decide) rfl (aA (pv 0) aD))) (aR (i:=2) S.nd rfl (Or.inl rfl)) (aL (cP cv rfl (y6 K rfl T.dM (aA (aZ G_elders hr (by decide) rfl (aA (pv 2) aD)) aD)) (eY (n:=2) K rfl (bP (aR (i:=3) S.nd rfl (Or.inl rfl)) (bP (aR (i:=4) S.nd rfl (Or.inl rfl)) eZ))) (aL (dU (bK MA (pv 3) aG (cO _)) (aL (qT (sD K plainAttrs_list iu iw fX (D6 (pv 1) (pv 4) (fU aD) ⟨rfl,by rfl,rfl,rfl⟩) (aA (bX (aA (bL (fM K hr) (pv 2) aG (fun _ _=>rfl)) (aA (bL (fM K hr) (pv 2) aG (fun _ _=>rfl)) (aA (pv 3) aD)))) aD)))) cD)))))
   (aL (bU (pv 1))))),by unfold nS;walk_at "rf"⟩
theorem HX (T:Txt K mg) (D:Dx K mg "places" qR ["pack","marks"]) (G_standing:mB P w K mg base) (G_elders:qE P w K mg base):B0 P w K mg base:=c9 D (N:=["pack","marks","known","letter","name","elder"]) ⟨rfl,rfl,rfl,by decide+kernel,rfl,by decide+kernel,by decide+kernel⟩ rfl rfl fun S f cdv A outer s H E hr=>
 ⟨_,(aE (aW (i:=2) S.nd rfl (Or.inl rfl) gJ)
   (aE (cP cv rfl (cY K (aZ G_standing hr (by decide) rfl (aA (pv 0) aD))) (aR (i:=3) S.nd rfl (Or.inl rfl)) (aE (cX (fN hr) (pv 2) (bL (fM K hr) (pv 3) aG (fun _ _=>rfl)) nH rfl)
   (aL (cP cv rfl (cY K (aZ G_elders hr (by decide) rfl (aA (pv 3) aD))) (aR (i:=4) S.nd rfl (Or.inl rfl)) (aL (cX (fN hr) (pv 2) (pv 4) nH rfl))))))
   (aE (cP cv rfl (cY K (pv 1)) (eY (n:=2) K rfl (bP (aR (i:=4) S.nd rfl (Or.inl rfl)) (bP (aR (i:=5) S.nd rfl (Or.inl rfl)) eZ))) (aE (cX (fN hr) (pv 2) (pv 4) nH rfl)
   (aL (dU (bK z8 (pv 5) eM (cO _)) (aL (cX (fN hr) (pv 2) (pv 5) nH rfl)) cD))))
   (aL (bU (cK (OF K) (by rfl) T.gD kW (aA (cJ (J8 K hr) (by rfl) T.gK oM (aA (pv 2) aD)) aD))))))),by unfold vE pA pY pL pB;walk_at "rf"⟩
theorem yS (T:Txt K mg) (D:Dx K mg "_law_names" eV ["_law_hand_here","_law_many"]) (G_law_take:fT P w K mg base):sO P w K mg base:=c9 D (N:=["_law_hand_here","_law_many","_law_found","_law_k","_law_size","_law_name"]) ⟨rfl,rfl,rfl,by decide+kernel,rfl,by decide+kernel,by decide+kernel⟩ rfl rfl fun S f cdv A outer s H E hr=>
 ⟨_,(aE (aW (i:=2) S.nd rfl (Or.inr rfl) (fU aD))
   (aE (cP cv rfl (cV rfl T.cU (aA (pv 1) aD)) (aR (i:=3) S.nd rfl (Or.inl rfl)) (aE (aW (i:=4) S.nd rfl (Or.inl rfl) (bL (fM K hr) (fU (aA aG (aA aG (aA aG (aA aG (aA aG (aA (bN (nM K) aG (bN iP (pv 3) aG)) aD))))))) (aZ G_law_take hr (by decide) rfl (aA (pv 0) (aA aG aD))) (fun _ _=>rfl)))
   (aE (aW (i:=5) S.nd rfl (Or.inl rfl) (sD K PySem.F.plainAttrs_str PySem.F.slot_str_join PySem.F.type_str_join (Y1 K) dN (aA (uN ["_law_n","_law_hand_here"] 1 [0] ["_law_hand_here","_law_many","_law_found","_law_k","_law_size","_law_name"] (bF eV) rfl rfl rfl (cV rfl T.cU (aA (pv 4) aD)) (by decide+kernel) (fun _=>(aR (i:=0) (show(["_law_n","_law_hand_here"]:List Str).Nodup by decide+kernel) rfl (Or.inl rfl))) (fun _=>fJ) (fun _=>(bL (fM K hr) dN (aZ G_law_take hr (by decide) rfl (aA (pv 1) (aA aG aD))) (fun _ _=>rfl)))) aD)))
   (aE (dU (bK (ZD K hr) (pv 5) (pv 2) (by rfl)) (aL (aW (i:=5) S.nd rfl (Or.inl rfl) (bL (fM K hr) (uN ["_law_n","_law_found"] 1 [2] ["_law_hand_here","_law_many","_law_found","_law_k","_law_size","_law_name"] (bF eV) rfl rfl rfl (cV rfl T.cU (aA (bN (nM K) (cJ (BP K) (by rfl) T.lK lV (aA (pv 2) aD)) aG) aD)) (by decide+kernel) (fun _=>(aR (i:=0) (show(["_law_n","_law_found"]:List Str).Nodup by decide+kernel) rfl (Or.inl rfl))) (fun _=>(AG (bK (iI K hr) (cK hV (by rfl) T.tL zW (aA (pv 0) aD)) (pv 1) (by rfl)))) (fun _=>(cK hV (by rfl) T.tL zW (aA (pv 0) aD)))) aG (fun _ _=>rfl)))) cD)
   (aL (qT (sD K plainAttrs_list iu iw fX (pv 2) (aA (pv 5) aD))))))))
   (aL (bU (pv 2))))),by unfold nJ jZ kP jX kF j5;walk_at "rf"⟩
theorem w5 (T:Txt K mg) (D:Dx K mg "_law_letter" fH ["_law_hand_here","_law_m"]) (G_law_take:fT P w K mg base):lW P w K mg base:=c9 D (N:=["_law_hand_here","_law_m","_law_at","_law_kind","_law_day","_law_row_here"]) ⟨rfl,rfl,rfl,by decide+kernel,rfl,by decide+kernel,by decide+kernel⟩ rfl rfl fun S f cdv A outer s H E hr=>
 ⟨_,(aE (aW (i:=2) S.nd rfl (Or.inl rfl) (aZ G_law_take hr (by decide) rfl (aA (pv 0) (aA (pv 1) aD))))
   (aE (aW (i:=3) S.nd rfl (Or.inl rfl) (aZ G_law_take hr (by decide) rfl (aA (pv 0) (aA aG aD))))
   (aE (aW (i:=4) S.nd rfl (Or.inl rfl) (aZ G_law_take hr (by decide) rfl (aA (pv 0) (aA (bL (fM K hr) (fU (aA aG (aA aG (aA aG (aA aG aD))))) (pv 3) (fun _ _=>rfl)) aD))))
   (aE (vB (i:=5) ["_law_n","_law_hand_here","_law_m"] 1 [0,1] ["_law_hand_here","_law_m","_law_at","_law_kind","_law_day","_law_row_here"] (bF fH) rfl rfl rfl S.nd rfl rfl (cV rfl T.cU (aA (bL (fM K hr) (fU (aA aG (aA aG (aA aG (aA aG (aA aG (aA aG aD))))))) (aZ G_law_take hr (by decide) rfl (aA (pv 0) (aA aG aD))) (fun _ _=>rfl)) aD)) (by decide+kernel) (fun _=>(aR (i:=0) (show(["_law_n","_law_hand_here","_law_m"]:List Str).Nodup by decide+kernel) rfl (Or.inl rfl))) (fun _=>fJ) (fun _=>(aZ G_law_take hr (by decide) rfl (aA (pv 1) (aA (pv 2) aD)))))
   (aE (dU (bK (K3 K hr) (aZ G_law_take hr (by decide) rfl (aA (pv 0) (aA aG aD))) aG (cO _)) (aL (aW (i:=5) S.nd rfl (Or.inl rfl) (bN (nM K) (nN (ZQ K) (pv 5) qY (rK aG)) (fU (aA (bN iP (bN (nM K) (pv 2) aG) (pv 1)) aD))))) cD)
   (aL (bU (QR.h (abK (VT (ew (pv 2)) (ZX (ew (bL (fM K hr) (fU (aA (pv 4) (aA (bN EA aG (pv 4)) aD))) (cK HZ (by rfl) T.A1 UQ (aA (z7 (K3 K hr) (pv 3) aG (cO _)) aD)) (fun _ _=>rfl))) (ZX (ew (bL (fM K hr) (fU (aA dN (aA dN (aA dN aD)))) (aZ G_law_take hr (by decide) rfl (aA (pv 0) (aA aG aD))) (fun _ _=>rfl))) (VT (ew (pv 5)) K8))))))))))))),by unfold mO jC i8 iX jB i0 iN;walk_at "rf"⟩
theorem zM (T:Txt K mg) (D:Dx K mg "_law_marks" jK ["_law_hand_here","_law_names_here","_law_many"]) (G_law_take:fT P w K mg base) (G_law_climbs:qK P w K mg base):sR P w K mg base:=c9 D (N:=["_law_hand_here","_law_names_here","_law_many","_law_held","_law_n","_law_name","_law_elder"]) ⟨rfl,rfl,rfl,by decide+kernel,rfl,by decide+kernel,by decide+kernel⟩ rfl rfl fun S f cdv A outer s H E hr=>
 ⟨_,(aE (aW (i:=3) S.nd rfl (Or.inl rfl) gJ)
   (aE (cP cv rfl (cV rfl T.cU (aA (pv 2) aD)) (aR (i:=4) S.nd rfl (Or.inl rfl)) (aE (aW (i:=5) S.nd rfl (Or.inl rfl) (bL (fM K hr) (pv 1) (aZ G_law_take hr (by decide) rfl (aA (pv 0) (aA (cJ (BP K) (by rfl) T.lK lV (aA (pv 1) aD)) aD))) (fun _ _=>rfl)))
   (aE (aW (i:=6) S.nd rfl (Or.inl rfl) (bL (fM K hr) (pv 1) (aZ G_law_take hr (by decide) rfl (aA (pv 0) (aA (cJ (BP K) (by rfl) T.lK lV (aA (pv 1) aD)) aD))) (fun _ _=>rfl)))
   (aE (dU (bK (K3 K hr) (aZ G_law_take hr (by decide) rfl (aA (pv 0) (aA aG aD))) aG (cO _)) (aL (aW (i:=6) S.nd rfl (Or.inl rfl) eM)) cD)
   (aL (dU (PW.pt (vJ (bK (iI K hr) (pv 5) (pv 3) (by rfl)) (q5 (WK (WT (aZ G_law_climbs hr (by decide) rfl (aA (pv 3) (aA (pv 6) (aA (pv 5) aD))))))))) (aL (cX (fN hr) (pv 3) (pv 5) (pv 6) rfl)) cD))))))
   (aL (bU (cK (OF K) (by rfl) T.gD kW (aA (cJ (sortI K hr) (by rfl) T.gK oM (aA (AY (pv 3)) aD)) aD)))))),by unfold nX kN j9 kM jY kI;walk_at "rf"⟩
theorem yK (T:Txt K mg) (D:Dx K mg "_law_table" jO ["_law_pack_here","_law_marks_here"]) (G_law_standing:iF P w K mg base) (G_law_row:xR P w K mg base):tK P w K mg base:=c9 D (N:=["_law_pack_here","_law_marks_here","_law_told","_law_found","_law_letters_here","_law_letter_here","_law_row_here","_law_at","_law_name","_law_claim","_law_elder"]) ⟨rfl,rfl,rfl,by decide+kernel,rfl,by decide+kernel,by decide+kernel⟩ rfl rfl fun S f cdv A outer s H E hr=>
 ⟨_,(aE (XE (i:=2) (j:=3) rfl S.nd rfl rfl (by decide) rfl rfl (aA gJ (aA gJ aD)) rfl)
   (aE (aW (i:=4) S.nd rfl (Or.inl rfl) (aZ G_law_standing hr (by decide) rfl (aA (pv 0) aD)))
   (aE (cP cv rfl (cY K (pv 4)) (aR (i:=5) S.nd rfl (Or.inl rfl)) (aE (aW (i:=6) S.nd rfl (Or.inl rfl) (aZ G_law_row hr (by decide) rfl (aA (pv 5) aD)))
   (aL (cP cv rfl (y6 K rfl T.dM (aA (pv 6) aD)) (eY (n:=2) K rfl (bP (aR (i:=7) S.nd rfl (Or.inl rfl)) (bP (aR (i:=8) S.nd rfl (Or.inl rfl)) eZ))) (aE (cX (fN hr) (pv 3) (pv 8) (bX (aA eM (aA (bX (aA dN aD)) aD))) rfl)
   (aL (dU (bK MA (pv 7) aG (cO _)) (aE (aW (i:=9) S.nd rfl (Or.inl rfl) (bX (aA (bL (fM K hr) (pv 5) aG (fun _ _=>rfl)) (aA (bL (fM K hr) (pv 5) aG (fun _ _=>rfl)) (aA (pv 7) (aA (bL (fM K hr) (pv 6) (bN EA (pv 7) aG) (fun _ _=>rfl)) aD))))))
   (aL (cX (fN hr) (pv 2) (pv 8) (cJ (Z0 K hr) (by rfl) T.vX DR (aA (N3 (fN hr) (pv 2) (pv 8) (pv 9) ⟨rfl,by rfl,rfl,rfl⟩) (aA (pv 9) aD))) rfl))) cD)))))))
   (aE (cP cv rfl (MG (AY (pv 2))) (eY (n:=2) K rfl (bP (aR (i:=8) S.nd rfl (Or.inl rfl)) (bP (aR (i:=9) S.nd rfl (Or.inl rfl)) eZ))) (aL (cX (fN hr) (pv 3) (pv 8) (bX (aA (bL (fM K hr) (pv 9) aG (fun _ _=>rfl)) (aA (bX (aA dN (aA (bL (fM K hr) (pv 9) aG (fun _ _=>rfl)) (aA (bL (fM K hr) (pv 9) aG (fun _ _=>rfl)) aD)))) aD))) rfl)))
   (aE (cP cv rfl (cY K (pv 4)) (aR (i:=5) S.nd rfl (Or.inl rfl)) (aE (aW (i:=6) S.nd rfl (Or.inl rfl) (aZ G_law_row hr (by decide) rfl (aA (pv 5) aD)))
   (aL (cX (fN hr) (pv 3) (bL (fM K hr) (pv 5) aG (fun _ _=>rfl)) (rN (bK (OL K hr) (pv 6) (fU aD) (cO _)) (bX (aA (bL (fM K hr) (pv 6) (TR K9 aG) (fun _ _=>rfl)) (aA (bX (aA dN aD)) aD))) (bX (aA eM (aA (bX (aA dN aD)) aD)))) rfl))))
   (aE (cP cv rfl (cY K (pv 1)) (eY (n:=2) K rfl (bP (aR (i:=8) S.nd rfl (Or.inl rfl)) (bP (aR (i:=10) S.nd rfl (Or.inl rfl)) eZ))) (aE (cX (fN hr) (pv 3) (pv 8) (bX (aA (pv 10) (aA (bX (aA dN aD)) aD))) rfl)
   (aL (dU (PW.pt (vJ (bK z8 (pv 10) eM (cO _)) (q5 (bK (iI K hr) (pv 10) (pv 3) (by rfl))))) (aL (cX (fN hr) (pv 3) (pv 10) (bX (aA eM (aA (bX (aA dN aD)) aD))) rfl)) cD))))
   (aL (bU (pv 3))))))))),by unfold mV iQ iG iT iR kE kB j0 jT kD kC jV kK jU;walk_at "rf"⟩
theorem C2 (T:Txt K mg) (D:Dx K mg "choices" hZ ["pack","marks","names"]) (G_rows_of:sL P w K mg base) (G_claims_of:sV P w K mg base) (G_choice:AW P w K mg base):x9 P w K mg base:=c9 D (N:=["pack","marks","names","held","rows","claimed"]) ⟨rfl,rfl,rfl,by decide+kernel,rfl,by decide+kernel,by decide+kernel⟩ rfl rfl fun S f cdv A outer s H E hr=>
 ⟨_,(aE (aW (i:=3) S.nd rfl (Or.inr rfl) (G7 ["name","elder"] 2 [] ["pack","marks","names","held","rows","claimed"] (bF hZ) rfl rfl rfl (cY K (pv 1)) (by decide+kernel) (fun _=>(eY (n:=2) K rfl (bP (aR (i:=0) (show(["name","elder"]:List Str).Nodup by decide+kernel) rfl (Or.inl rfl)) (bP (aR (i:=1) (show(["name","elder"]:List Str).Nodup by decide+kernel) rfl (Or.inl rfl)) eZ)))) (fun _=>fJ) (fun _=>(pv 0)) (fun _=>(pv 1))))
   (aE (aW (i:=4) S.nd rfl (Or.inr rfl) (aZ G_rows_of hr (by decide) rfl (aA (pv 0) aD)))
   (aE (aW (i:=5) S.nd rfl (Or.inr rfl) (aZ G_claims_of hr (by decide) rfl (aA (pv 0) aD)))
   (aL (bU (G7 ["name","held","rows","claimed"] 1 [3,4,5] ["pack","marks","names","held","rows","claimed"] (bF hZ) rfl rfl rfl (cY K (pv 2)) (by decide+kernel) (fun _=>(aR (i:=0) (show(["name","held","rows","claimed"]:List Str).Nodup by decide+kernel) rfl (Or.inl rfl))) (fun _=>fJ) (fun _=>(pv 0)) (fun _=>(aZ G_choice hr (by decide) rfl (aA (pv 1) (aA (pv 2) (aA (pv 3) (aA (pv 0) aD)))))))))))),by unfold rW m5 nU nP;walk_at "rf"⟩
theorem vF (T:Txt K mg) (D:Dx K mg "_law_letters" eB ["_law_script","_law_hand_here","_law_m"]) (G_law_letter:lW P w K mg base) (G_law_take:fT P w K mg base) (G_law_hand:pZ P w K mg base):oX P w K mg base:=c9 D (N:=["_law_script","_law_hand_here","_law_m","_law_found","_law_k"]) ⟨rfl,rfl,rfl,by decide+kernel,rfl,by decide+kernel,by decide+kernel⟩ rfl rfl fun S f cdv A outer s H E hr=>
 ⟨_,(aE (vB (i:=3) ["_law_n","_law_hand_here","_law_m"] 1 [1,2] ["_law_script","_law_hand_here","_law_m","_law_found","_law_k"] (bF eB) rfl rfl rfl S.nd rfl rfl (cV rfl T.cU (aA (aZ G_law_take hr (by decide) rfl (aA (pv 1) (aA aG aD))) aD)) (by decide+kernel) (fun _=>(aR (i:=0) (show(["_law_n","_law_hand_here","_law_m"]:List Str).Nodup by decide+kernel) rfl (Or.inl rfl))) (fun _=>fJ) (fun _=>(aZ G_law_letter hr (by decide) rfl (aA (pv 1) (aA (pv 2) aD)))))
   (aE (cP cv rfl (JQ rfl T.cU (aA aG (aA (cJ (HR rfl) (by rfl) T.vX DR (aA (cJ (BP K) (by rfl) T.lK lV (aA (pv 0) aD)) (aA aG aD))) aD))) (aR (i:=4) S.nd rfl (Or.inl rfl)) (aL (qT (sD K plainAttrs_list iu iw fX (pv 3) (aA (aZ G_law_letter hr (by decide) rfl (aA (aZ G_law_hand hr (by decide) rfl (aA (pv 0) (aA (pv 4) aD))) (aA (pv 2) aD))) aD)))))
   (aL (bU (pv 3))))),by unfold kG gT;walk_at "rf"⟩
theorem wQ (T:Txt K mg) (D:Dx K mg "first_open" fF ["pack","marks","known","name"]) (G_choices:x9 P w K mg base) (G_rows_of:sL P w K mg base) (G_climbed:xJ P w K mg base):qN P w K mg base:=c9 D (N:=["pack","marks","known","name","ties","fixed","marked","elder","one"]) ⟨rfl,rfl,rfl,by decide+kernel,rfl,by decide+kernel,by decide+kernel⟩ rfl rfl fun S f cdv A outer s H E hr=>
 ⟨_,(aE (aW (i:=4) S.nd rfl (Or.inr rfl) (aZ G_choices hr (by decide) rfl (aA (pv 0) (aA (pv 1) (aA (pv 2) aD)))))
   (aE (aW (i:=5) S.nd rfl (Or.inl rfl) (aZ G_rows_of hr (by decide) rfl (aA (pv 0) aD)))
   (aE (cP cv rfl (cY K (pv 1)) (eY (n:=2) K rfl (bP (aR (i:=6) S.nd rfl (Or.inl rfl)) (bP (aR (i:=7) S.nd rfl (Or.inl rfl)) eZ))) (aL (cX (fN hr) (pv 5) (pv 6) (bX aD) rfl)))
   (aE (cP cv rfl (cY K (aZ G_climbed hr (by decide) rfl (aA (G7 ["place","ties"] 1 [4] ["pack","marks","known","name","ties","fixed","marked","elder","one"] (bF fF) rfl rfl rfl (SJ (pv 4)) (by decide+kernel) (fun _=>(aR (i:=0) (show(["place","ties"]:List Str).Nodup by decide+kernel) rfl (Or.inl rfl))) (fun _=>fJ) (fun _=>(pv 0)) (fun _=>(bL (fM K hr) (bL (fM K hr) (pv 1) (pv 0) (fun _ _=>rfl)) aG (fun _ _=>rfl)))) (aA (pv 3) aD)))) (aR (i:=8) S.nd rfl (Or.inl rfl)) (aL (dU (bK (iI K hr) (pv 8) (pv 5) (by rfl)) (aL (bU (pv 8))) cD)))
   (aL (bU eM)))))),by unfold mG iU i4 iZ;walk_at "rf"⟩
theorem I0 (T:Txt K mg) (D:Dx K mg "shaker" qW ["pack","marks","name"]) (G_places:B0 P w K mg base) (G_first_open:qN P w K mg base) (G_unknown_name:nE P w K mg base):AU P w K mg base:=c9 D (N:=["pack","marks","name","known","empty"]) ⟨rfl,rfl,rfl,by decide+kernel,rfl,by decide+kernel,by decide+kernel⟩ rfl rfl fun S f cdv A outer s H E hr=>
 ⟨_,(aE (aW (i:=3) S.nd rfl (Or.inl rfl) (aZ G_places hr (by decide) rfl (aA (pv 0) (aA (pv 1) aD))))
   (aE (aW (i:=4) S.nd rfl (Or.inl rfl) (aZ G_first_open hr (by decide) rfl (aA (pv 0) (aA (pv 1) (aA (pv 3) (aA (pv 2) aD))))))
   (aE (dU (bK yZ (pv 4) eM (cO _)) (aL (bU eM)) cD)
   (aL (bU (bX (aA (pv 4) (aA aG (aA dN (aA (bX (aA (aZ G_unknown_name hr (by decide) rfl (aA (pv 3) aD)) aD)) aD)))))))))),by unfold vT o9 o7 pU;walk_at "rf"⟩
theorem zF (T:Txt K mg) (D:Dx K mg "_law_right" eU ["_law_pack_here","_law_marks_here","_law_asks"]) (G_law_table:tK P w K mg base) (G_law_standing:iF P w K mg base) (G_law_settled:o6 P w K mg base) (G_shaker:AU P w K mg base):sQ P w K mg base:=c9 D (N:=["_law_pack_here","_law_marks_here","_law_asks","_law_table_here","_law_sure","_law_known","_law_ask","_law_name"]) ⟨rfl,rfl,rfl,by decide+kernel,rfl,by decide+kernel,by decide+kernel⟩ rfl rfl fun S f cdv A outer s H E hr=>
 ⟨_,(aE (aW (i:=3) S.nd rfl (Or.inl rfl) (aZ G_law_table hr (by decide) rfl (aA (pv 0) (aA (pv 1) aD))))
   (aE (aW (i:=4) S.nd rfl (Or.inl rfl) (bN (nM K) (uN ["_law_letter_here"] 1 [] ["_law_pack_here","_law_marks_here","_law_asks","_law_table_here","_law_sure","_law_known","_law_ask","_law_name"] (bF eU) rfl rfl rfl (cY K (aZ G_law_standing hr (by decide) rfl (aA (pv 0) aD))) (by decide+kernel) (fun _=>(aR (i:=0) (show(["_law_letter_here"]:List Str).Nodup by decide+kernel) rfl (Or.inl rfl))) (fun _=>fJ) (fun _=>(bL (fM K hr) (pv 0) aG (fun _ _=>rfl)))) (uN ["_law_name","_law_elder"] 2 [] ["_law_pack_here","_law_marks_here","_law_asks","_law_table_here","_law_sure","_law_known","_law_ask","_law_name"] (bF eU) rfl rfl rfl (cY K (pv 1)) (by decide+kernel) (fun _=>(eY (n:=2) K rfl (bP (aR (i:=0) (show(["_law_name","_law_elder"]:List Str).Nodup by decide+kernel) rfl (Or.inl rfl)) (bP (aR (i:=1) (show(["_law_name","_law_elder"]:List Str).Nodup by decide+kernel) rfl (Or.inl rfl)) eZ)))) (fun _=>fJ) (fun _=>(pv 0)))))
   (aE (aW (i:=5) S.nd rfl (Or.inl rfl) (cJ (J8 K hr) (by rfl) T.gK oM (aA (pv 3) aD)))
   (aE (cP cv rfl (cY K (pv 2)) (aR (i:=6) S.nd rfl (Or.inl rfl)) (aL (dU (bK (OL K hr) (pv 5) (fU aD) (cO _)) (aE (aW (i:=7) S.nd rfl (Or.inl rfl) (bL (fM K hr) (pv 5) (bN iP (pv 6) (cJ (BP K) (by rfl) T.lK lV (aA (pv 5) aD))) (fun _ _=>rfl)))
   (aL (dU (bK (OL K hr) (z7 yZ (aZ G_shaker hr (by decide) rfl (aA (pv 0) (aA (pv 1) (aA (pv 7) aD)))) eM (cO _)) (aZ G_law_settled hr (by decide) rfl (aA (pv 3) (aA (pv 4) (aA (pv 7) aD)))) (cO _)) (aL (bU nH)) cD))) cD)))
   (aL (bU nH)))))),by unfold nQ jW j4 kJ j8 j6;walk_at "rf"⟩
theorem WV (T:Txt K mg) (D:Dx K mg "law" BC ["_law_script"]) (G_law_hand:pZ P w K mg base) (G_law_take:fT P w K mg base) (G_law_letters:oX P w K mg base) (G_law_names:sO P w K mg base) (G_law_pack:uW P w K mg base) (G_law_marks:sR P w K mg base) (G_law_right:sQ P w K mg base) (G_law_letter:lW P w K mg base):aaI P w K mg base:=c9 D (N:=["_law_script","_law_hand_here","_law_m","_law_each","_law_asks","_law_many","_law_letters_here","_law_at","_law_names_here","_law_pack_here","_law_marks_here"]) ⟨rfl,rfl,rfl,by decide+kernel,rfl,by decide+kernel,by decide+kernel⟩ rfl rfl fun S f cdv A outer s H E hr=>
 ⟨_,(aE (aW (i:=1) S.nd rfl (Or.inr rfl) (aZ G_law_hand hr (by decide) rfl (aA (pv 0) (aA aG aD))))
   (aE (aW (i:=2) S.nd rfl (Or.inl rfl) (bN (nM K) aG (aZ G_law_take hr (by decide) rfl (aA (pv 1) (aA (bL (fM K hr) (fU (aA aG (aA aG (aA aG aD)))) (aZ G_law_take hr (by decide) rfl (aA (pv 1) (aA aG aD))) (fun _ _=>rfl)) aD)))))
   (aE (aW (i:=3) S.nd rfl (Or.inl rfl) (aZ G_law_take hr (by decide) rfl (aA (pv 1) (aA aG aD))))
   (aE (vB (i:=4) ["_law_n","_law_hand_here"] 1 [1] ["_law_script","_law_hand_here","_law_m","_law_each","_law_asks","_law_many","_law_letters_here","_law_at","_law_names_here","_law_pack_here","_law_marks_here"] (bF BC) rfl rfl rfl S.nd rfl rfl (cV rfl T.cU (aA aG aD)) (by decide+kernel) (fun _=>(aR (i:=0) (show(["_law_n","_law_hand_here"]:List Str).Nodup by decide+kernel) rfl (Or.inl rfl))) (fun _=>fJ) (fun _=>(aZ G_law_take hr (by decide) rfl (aA (pv 1) (aA aG aD)))))
   (aE (aW (i:=5) S.nd rfl (Or.inl rfl) (aZ G_law_take hr (by decide) rfl (aA (pv 1) (aA aG aD))))
   (aE (aW (i:=6) S.nd rfl (Or.inl rfl) (aZ G_law_letters hr (by decide) rfl (aA (pv 0) (aA (pv 1) (aA (pv 2) aD)))))
   (aE (cP cv rfl (cV rfl T.cU (aA (bN mN (pv 3) (pv 2)) aD)) (aR (i:=7) S.nd rfl (Or.inl rfl)) (aL (qT (sD K plainAttrs_list iu iw fX (pv 6) (aA (bN (nM K) (bX (aA (pv 7) aD)) (nN (ZQ K) (aZ G_law_letter hr (by decide) rfl (aA (pv 1) (aA (pv 2) aD))) (rK aG) qY)) aD)))))
   (aE (aW (i:=8) S.nd rfl (Or.inl rfl) (aZ G_law_names hr (by decide) rfl (aA (pv 1) (aA (pv 2) aD))))
   (aE (aW (i:=9) S.nd rfl (Or.inl rfl) (aZ G_law_pack hr (by decide) rfl (aA (pv 6) (aA (pv 8) aD))))
   (aE (aW (i:=10) S.nd rfl (Or.inl rfl) (aZ G_law_marks hr (by decide) rfl (aA (pv 1) (aA (pv 8) (aA (pv 5) aD)))))
   (aL (bU (LX (aZ G_law_right hr (by decide) rfl (aA (pv 9) (aA (pv 10) (aA (pv 4) aD)))) (LX (aZ G_law_right hr (by decide) rfl (aA (pv 9) (aA (bX aD) (aA (pv 4) aD)))) (WB (aZ G_law_right hr (by decide) rfl (aA (pv 9) (aA (pv 10) (aA (nN (ZQ K) (pv 4) qY (rK aG)) aD))))))))))))))))))),by unfold KC vC uT AJ zC zQ zP yN z4 zE zV AA;walk_at "rf"⟩
end
namespace Rg
variable {α:Type}
noncomputable def eO (up:α->Option α):Nat->α->Option α
 |0,x=>some x
 |n+1,x=>(up x).bind (eO up n)
def YF (up:α->Option α) (x:α):Prop:=∃n,eO up (n+1) x=some x
def Path (up:α->Option α):List α->Option α->Prop
 |[],_=>True
 |[x],e=>up x=e
 |x::y::l,e=>up x=some y/\Path up (y::l) e
variable {up:α->Option α}
theorem mM:∀(m n:Nat) (x:α),eO up (m+n) x=(eO up m x).bind (eO up n)
 |0,n,x=>by rw[gw];rfl
 |m+1,n,x=>by
  rw[Nat.add_right_comm];show(up x).bind (eO up (m+n))=((up x).bind (eO up m)).bind (eO up n);cases up x with
  |none=>rfl
  |some y=>exact mM m n y
theorem FF {x:α} (h:eO up n x=some x):∀k,eO up (k*n) x=some x
 |0=>by rw[Nat.zero_mul];rfl
 |k+1=>by rw[Nat.succ_mul,mM,FF h k];exact h
theorem YF.back {x:α} (h:YF up x) (m:Nat):∃y j,eO up m x=some y/\eO up j y=some x:=by
 obtain⟨n,h⟩:=h;have k:=FF h m;have e:m*(n+1)=m+m*n:=by rw[Nat.mul_succ,Nat.add_comm]
 rw[e,mM]at k;cases c:eO up m x with
 |none=>rw[c]at k;cases k
 |some y=>rw[c]at k;exact⟨y,_,rfl,k⟩
theorem Path.YR:∀{l:List α} {e:Option α} {i:Nat} {x:α},Path up l e->l[i]? =some x->eO up (l.length - i) x=e
 |[],_,_,_,_,h=>by simp at h
 |[a],e,0,x,p,h=>by
  cases h;show(up a).bind (eO up 0)=e;rw[show up a=e from p];cases e<;>rfl
 |[a],e,i+1,x,p,h=>by simp at h
 |a::b::l,e,0,x,p,h=>by
  cases h;show(up a).bind (eO up (b::l).length)=e;rw[p.1];exact Path.YR (l:=b::l) (i:=0) p.2 rfl
 |a::b::l,e,i+1,x,p,h=>by
  have:=Path.YR (l:=b::l) (i:=i) p.2 (by simpa using h);simpa using this
theorem Path.snoc:∀{l:List α} {x:α} {e:Option α},Path up l (some x)->up x=e->Path up (l++[x]) e
 |[],x,e,_,h=>h
 |[a],x,e,p,h=>⟨p,h⟩
 |a::b::l,x,e,p,h=>⟨p.1,Path.snoc (l:=b::l) p.2 h⟩
theorem Path.step:∀{l:List α} {e:Option α} {x:α},Path up l e->x∈l->(∃y∈l,up x=some y)\/ up x=e
 |[],_,_,_,h=>by simp at h
 |[a],e,x,p,h=>by
  rw[bu.mp h];exact .inr p
 | a::b::l,e,x,p,h=>by
  rcases bw.mp h with rfl|h
  .exact .inl ⟨b,by simp,p.1⟩
  .rcases Path.step (l:=b::l) p.2 h with⟨y,hy,e⟩|e
   .exact .inl ⟨y,ay _ hy,e⟩
   .exact .inr e
end Rg
namespace Rg
variable {α:Type} {up:α->Option α}
theorem sub_len [DecidableEq α]:∀{l m:List α},l.Nodup->(∀x∈l,x∈m)->l.length<=m.length
 |[],m,_,_=>dj _
 |x::l,m,hn,h=>by
  have hx:=h x ba;obtain⟨h1,h2⟩:=fq.mp hn;have:=sub_len (l:=l) (m:=m.erase x) h2 fun y hy=>(List.mem_erase_of_ne (fun(e:y=x)=>h1 (by rw[<-e];exact hy))).mpr (h y (ay _ hy))
  rw[List.length_erase_of_mem hx]at this;have h0:0<m.length:=List.length_pos_of_mem hx;rw[length_cons];omega
theorem pK {y x:α} (h:eO up j y=some x):∀i,i<=j->∃z,eO up i y=some z/\eO up (j - i) z=some x:=fun i hi=>by
 have e:j=i+(j - i):=by omega
 rw[e,mM]at h;cases c:eO up i y with
 |none=>rw[c]at h;cases h
 |some z=>rw[c]at h;exact⟨z,rfl,h⟩
theorem R1 {K:List α} (hK:∀z w,up z=some w->z∈K) {y x:α} (h:eO up j y=some x) {i:Nat} (hi:i<j) {z:α} (hz:eO up i y=some z):z∈K:=by
 obtain⟨z',h1,h2⟩:=pK h i (by omega);rw[hz]at h1;cases h1;rw[show j - i=(j - i - 1)+1 by omega,eO]at h2;cases c:up z with
 |none=>rw[c]at h2;cases h2
 |some w=>exact hK z w c
theorem AV [DecidableEq α] {K:List α} (hK:∀z w,up z=some w->z∈K) {y x:α}:∀(j:Nat),eO up j y=some x->∃i,i<=K.length/\eO up i y=some x:=by
 intro j
 induction j using Nat.strongRecOn with
 | _ j ih=>
  intro h
  by_cases hj:j<=K.length
  .exact⟨j,hj,h⟩
  .have hex:∃a b,a<b/\b<j/\eO up a y=eO up b y:=by
    apply eu;intro hno;have nd:((List.range j).map fun i=>(eO up i y).getD y).Nodup:=by
     unfold List.Nodup;rw[ip];intro a b ha hb hab e;rw[ah,cu]at ha hb;rw[getElem_map,getElem_map,getElem_range,getElem_range]at e;obtain⟨za,h1,_⟩:=pK h a (by omega);obtain⟨zb,h2,_⟩:=pK h b (by omega);rw[h1,h2]at e;exact hno ⟨a,b,hab,hb,by rw[h1,h2];exact cw some e⟩
    have:=sub_len nd (m:=K) fun z hz=>by
     obtain⟨i,hi,rfl⟩:=bp.mp hz;have hi:=jy.mp hi;obtain⟨zi,h1,_⟩:=pK h i (by omega);rw[h1];exact R1 hK h hi h1
    rw[ah,cu]at this;omega
   obtain⟨a,b,hab,hb,e⟩:=hex;obtain⟨zb,h1,h2⟩:=pK h b (by omega);refine ih (a+(j - b)) (by omega) ?_;rw[mM,e,h1];exact h2
theorem BS {up':α->Option α} {x:α} (hs:∀z,z≠x->up' z=up z) {y:α}:∀(j:Nat) {w:α},(∀i,i<j->eO up' i y≠some x)->eO up' j y=some w->eO up j y=some w:=by
 intro j
 induction j with
 |zero=>intro w _ h;exact h
 | succ j ih=>
  intro w hn h;obtain⟨z,h1,h2⟩:=pK h j (by omega);have hz:=ih (fun i hi=>hn i (by omega)) h1;have hzx:z≠x:=fun e=>hn j (by omega) (by rw[h1,e])
  rw[show j+1 - j=1 by omega]at h2;rw[mM j 1,hz];show eO up 1 z=some w;have e2:eO up' 1 z=eO up 1 z:=by
   show(up' z).bind (eO up' 0)=(up z).bind (eO up 0);rw[hs z hzx];cases up z<;>rfl
  rw[<-e2];exact h2
theorem MX {up':α->Option α} {x:α} (hs:∀z,z≠x->up' z=up z) (hx:up x=none) (hno:∀y,¬YF up y) (o:Option α) (ho:up' x=o) (hr:∀y,o=some y->∀j,eO up j y≠some x):∀y,¬YF up' y:=by
 have hxn:¬YF up' x:=fun⟨n,h⟩=>by
  rw[eO,ho]at h;cases o with
  |none=>cases h
  | some y=>
   have h:eO up' n y=some x:=h;have hex:∃m,eO up' m y=some x/\∀i,i<m->eO up' i y≠some x:=by
    clear hr ho
    induction n using Nat.strongRecOn with
    | _ n ih=>
     by_cases hc:∃i,i<n/\eO up' i y=some x
     .obtain⟨i,hi,e⟩:=hc;exact ih i hi e e
     .exact⟨n,h,fun i hi e=>hc ⟨i,hi,e⟩⟩
   obtain⟨m,h1,h2⟩:=hex;exact hr y rfl m (BS hs m h2 h1)
 intro y hc
 by_cases hp:∃i,eO up' i y=some x
 .obtain⟨i,hi⟩:=hp;obtain⟨z,j,h1,h2⟩:=hc.back i;rw[hi]at h1;cases h1;refine hxn ?_;obtain⟨n,hn⟩:=hc;have h3:eO up' (j+(n+1)+i) x=some x:=by
   rw[mM,mM,h2];show((eO up' (n+1) y).bind (eO up' i))=some x;rw[hn];exact hi
  exact⟨j+n+i,by rw[show j+n+i+1=j+(n+1)+i by omega];exact h3⟩
 .obtain⟨n,hn⟩:=hc;exact hno y ⟨n,BS hs (n+1) (fun i _ e=>hp ⟨i,e⟩) hn⟩
end Rg
namespace Rg
variable {α:Type} {up up':α->Option α}
theorem Path.next:∀{l:List α} {e:Option α} {i:Nat} {x y:α},Path up l e->l[i]? =some x->l[i+1]? =some y->up x=some y
 |[],_,_,_,_,_,h,_=>by simp at h
 |[a],_,0,_,_,_,_,h=>by simp at h
 |[a],_,i+1,_,_,_,h,_=>by simp at h
 |a::b::l,e,0,x,y,p,h,k=>by cases h;cases k;exact p.1
 |a::b::l,e,i+1,x,y,p,h,k=>Path.next (l:=b::l) (i:=i) p.2 (by simpa using h) (by simpa using k)
end Rg
local macro_rules | `(tactic| walk_at "wp") => `(tactic| simp only [VA, lL, kY, b8, rO, eE, wp_seq, wp_call, NH, PJ, abS, acT, QG, UX, abX, YX, ZL, UP, PB, aaB, Y7, XS, X5, SH, WI, aaE, X1, QL, PX, ZY, HU, O7, Z1, P0, V8, aaK, W6, QB, U6, VF, KW, P8, LR, RF, K4, QS, XY, aaF, WA, UW, SK, XQ, P9, B6, uA, NX, oR, DG, List.replicate, cons_append, List.nil_append, rel, gP, putL, getL, IP, DY, bZ, p7, Mr.resB, mZ, tX, yH, C3, Bv.weak, Bv.get, Bv.put, rd, Sl.pv, ownAt, cG, WO, YY, tD, acC, ab9, abT, ab0, ab1, acF, acE, acH, ab6, ab2, at0, at1, at2, at3, eA, Mr.y7, qV, ON, m7, tT, R7, iW, M9, LI, KD, gI, S0, RS, W5, AK, U4, WQ, gLt, gGt, gGe, OP, OX, isNone, SO, t9, sZ, GW, AR, u4, kdOf, abW, UL, gX, UY, W3, WM, zN, UH, R5, RX, DS, List.getElem?_cons_zero, List.getElem?_cons_succ, List.set_cons_zero, List.set_cons_succ, List.zipIdx_cons, List.zipIdx_nil, cz, map_nil, all_nil, all_cons, List.contains_nil, List.contains_cons, List.any_nil, any_cons, fq, nodup_nil, jz, bw, not_false_eq_true, and_true, true_and, decide_true, decide_false, Bool.and_self, Bool.and_true, Bool.true_and, Bool.not_true, Bool.not_false, if_true, if_false, ite_true, ite_false, Option.or_some, none_or, Option.some_or, or_none, ju, decide_eq_false_iff_not, bz, reduceCtorEq, false_eq_true, length_cons, length_nil, Nat.reduceAdd, Nat.reduceLT, Int.reduceLT, Int.reduceLE, PV.int.injEq, PV.str.injEq, PV.bl.injEq, Option.some.injEq, OI, fy, Bool.or_false, Bool.or_true, Bool.true_or, Bool.false_or, Bool.false_and, Bool.and_false, Nat.reduceBEq, ah, cu, Int.reduceToNat, and_self, true_implies, forall_const, Int.reduceAdd, Int.reduceNeg, K6, LK, tE, WZ, keyOf, NW, getD_none, getD_some, QK, RG, MK, PQ, NP, EZ, FL, GR, O4, SD, YQ, Q3, ZU, aaD, XW, X0, RU, LU, HG, Q9, xV, AN, J7, zT, zH, G2, pQ, pE, mL, lX, pH, p8, pJ, pW, pD, pV, nG, mX, fO, l0, mE, lT, l6, mH, lR, lZ, mC, mJ, i6, nR, fS, fW, gQ, gN, gR, pB, pL, pY, pA, j5, kF, jX, kP, jZ, iN, i0, jB, iX, i8, jC, kI, jY, kM, j9, kN, jU, kK, jV, kC, kD, jT, j0, kB, kE, iR, iT, iG, iQ, nP, nU, m5, gT, iZ, i4, iU, pU, o7, o9, j6, j8, kJ, j4, jW, AA, zV, zE, z4, yN, zP, zQ, zC, AJ, uT, vC])
section
open PySem L2 Mr
noncomputable abbrev hd (a b c:Int):PV:=.lst [.int a,.int b,.int c]
structure Hand (a b c:Int) (n:Nat):Prop where
 a0:0<=a
 b0:0<=b
 b1:b<2305843009213693921
 c0:0<=c
 c1:c<=n
theorem Hand.mono {m:Nat} (h:Hand a b c n) (l:n<=m):Hand a b c m:=⟨h.a0,h.b0,h.b1,h.c0,by have:=h.c1;omega⟩
theorem PF {i j:Int} (h0:0<=i) (h1:i<18446744073709551616):x8 i j=true:=decide_eq_true (.inl ⟨by omega,h1⟩)
theorem mulR {i j:Int} (h0:0<=j) (h1:j<18446744073709551616):x8 i j=true:=decide_eq_true (.inr ⟨by omega,h1⟩)
theorem cM (h:Hand a b c n) (hn:n<1000000) (m0:0<m) (m1:m<1073741824) (q:∀d a' b' c',0<=d->d<m->Hand a' b' c' (n+1)->Q (.int d,[hd a' b' c'])):Wp (aQ [hd a b c,.int m]) Q:=by
 unfold aQ pX;have a0:=h.a0;have b0:=h.b0;have b1:=h.b1;have c0:=h.c0;have c1:=h.c1;walk_at "wp";refine⟨fun ha=>⟨m0,⟨m0,by omega⟩,q _ _ _ _ (ka _ (by omega)) (jd _ m0) ⟨Int.ediv_nonneg a0 (by omega),b0,b1,c0,by omega⟩⟩,fun ha=>⟨PF (by decide) (by decide),mulR (by omega) (by omega),mulR (by decide) (by decide),PF (by decide) (by decide),PF (ka _ (by decide)) ?_,m0,q _ _ _ _ (ka _ (by omega)) (jd _ m0) ⟨a0,b0,b1,by omega,by omega⟩⟩⟩;have:=jd ((b+65537*(c+1)*(c+1)+11)*48271) (show(0:Int)<2305843009213693921 by decide);omega
theorem eG {Q:PV->Prop} (h0:0<=k) (h1:k<(xs.length:Int)) (q:∀x∈xs,Q x):Wp (p9 xs k) Q:=by
 obtain⟨c,hc,e⟩:=PZ h0 h1;exact⟨c,e,q c hc⟩
noncomputable def l3:FS:=(a8 (b9 3 (T5 (bW (bI gGe (aC 2) (bI tT (fC (.int 10)) (fC (.int 18))))) (bI m7 (aC 2) (bI tE (bI tE (bI tE (bI tT (fC (.int 10)) (fC (.int 60))) (bI tT (fC (.int 10)) (fC (.int 60)))) (bI tT (fC (.int 10)) (fC (.int 60)))) (bI tT (fC (.int 10)) (fC (.int 60))))) (fC (.int 0))))
  (c8 (lG (aB (aC 3) (aB (bI m7 (bI qV (bI iW (bI iW (bI m7 (aC 2) (fC (.int 2305843009213693951))) (bI qV (bI qV (fC (.int 7919)) (aC 1)) (aC 1))) (fC (.int 3))) (fC (.int 48271))) (fC (.int 2305843009213693921))) (aB (fC (.int 0)) aO))))))
theorem yP:pR=(a8 (b9 2 (T5 (bW (bI gLt (aC 1) (qA t9 (aB (aC 0) aO)))) (bI eA (aC 0) (aC 1)) (fC (.int 0))))
  l3):=rfl
theorem xY {x:Int} {v0 v3:Option Sl} {Q:Out->Prop} (k0:0<=k) (k1:k<1000) (q:∀a b v0 v1 v2 v3,Hand a b 0 0->Q (.rt (.new (hd a b 0)) [v0,v1,v2,v3])):Wp (l3 [v0,some (.val (.int k)),some (.val (.int x)),v3]) Q:=by
 unfold l3;walk_at "wp";have r0:0<=x % 2305843009213693951:=ka _ (by decide);have r1:x % 2305843009213693951<2305843009213693951:=jd _ (by decide);have kk:0<=7919*k*k:=Int.mul_nonneg (by omega) k0;have m1:x8 7919 k=true:=PF (by decide) (by decide);have m2:x8 (7919*k) k=true:=mulR k0 (by omega);have m3:x8 (x % 2305843009213693951+7919*k*k+3) 48271=true:=mulR (by decide) (by decide);have b0:0<=(x % 2305843009213693951+7919*k*k+3)*48271 % 2305843009213693921:=ka _ (by decide);have b1:(x % 2305843009213693951+7919*k*k+3)*48271 % 2305843009213693921<2305843009213693921:=jd _ (by decide);refine⟨by decide+kernel,fun hx=>⟨by decide+kernel,by decide+kernel,by decide+kernel,by decide+kernel,by decide+kernel,by decide+kernel,by decide+kernel,by decide+kernel,m1,m2,m3,q _ _ _ _ _ _ ⟨ka _ (by decide+kernel),b0,b1,by decide,by decide⟩⟩,fun hx=>⟨m1,m2,m3,q _ _ _ _ _ _ ⟨by decide,b0,b1,by decide,by decide⟩⟩⟩
theorem F1 {ns:List Int} (k0:0<=k) (k1:k<1000) (hn:ns.length<=63) (q:∀a b,Hand a b 0 0->Q (hd a b 0,[])):Wp (gG [.lst (ns.map PV.int),.int k]) Q:=by
 unfold gG;rw[yP];walk_at "wp";refine⟨fun g=>?_,fun g=>?_⟩
 .refine eG k0 (by rw[ah];exact g) fun p hp=>?_
  obtain⟨c,_,rfl⟩:=bp.mp hp;walk_at "wp";refine xY k0 k1 fun a b v0 v1 v2 v3 h=>?_
  walk_at "wp";exact q a b h
 .refine xY k0 k1 fun a b v0 v1 v2 v3 h=>?_
  walk_at "wp";exact q a b h
end
section
open PySem L2 Mr
noncomputable def sg:Str:="abcdefghijklmnopqrstuvwxyz0123456789"
theorem atS {Z:Str} {Q:Nat->Prop} (h0:0<=d) (h:d<(Z.length:Int)) (q:∀c∈Z.cps.toList,Q c):Wp (p9 Z.cps.toList d) Q:=by
 obtain⟨c,hc,e⟩:=NS h0 h;exact⟨c,e,q c hc⟩
theorem OB {a b c:Int} {s:Option Sl} {Q:List PV×En->Prop} (hp:Hand a b c n) (hn:n+xs.length<1000000)
  (q:∀(zs:List Str) s' a' b' c',zs.length=xs.length->(∀z∈zs,∃k∈sg.cps.toList,z=⟨#[k]⟩)->Hand a' b' c' (n+xs.length)->Q (zs.map PV.str,[s',some (.own (hd a' b' c'))])):
  Wp (k9 (aS 0) fE (bI eA (fC (.str "abcdefghijklmnopqrstuvwxyz0123456789")) (a9 [.m,.b] false aQ (aB (aC 1) (aB (fC (.int 36)) aO)))) xs [s,some (.own (hd a b c))]) Q:=by
 refine gE (fun i acc e=>∃(zs:List Str) (s:Option Sl) (a b c:Int),acc=zs.map PV.str/\zs.length=i/\(∀z∈zs,∃k∈sg.cps.toList,z=⟨#[k]⟩)/\e=[s,some (.own (hd a b c))]/\Hand a b c (n+i)) ?_ ?_ ⟨[],s,a,b,c,rfl,rfl,fun _ h=>(nomatch h),rfl,hp⟩
 .rintro i x e acc hx ⟨zs,s,a,b,c,rfl,hl',hz,rfl,hp⟩;have hi:=(af.mp hx).1;walk_at "wp";refine cM hp (by omega) (by decide) (by decide) fun d a' b' c' d0 d1 hp'=>?_
  walk_at "wp";refine⟨by decide+kernel,?_⟩;refine atS d0 (Int.lt_of_lt_of_le d1 (by decide+kernel)) fun k hk=>?_
  walk_at "wp";exact⟨zs++[⟨#[k]⟩],_,a',b',c',by rw[cx];rfl,by rw[bq,hl'];rfl,fun z hz'=>(bj.mp hz').elim (hz z) fun h=>⟨k,hk,bu.mp h⟩,rfl,hp'⟩
 .rintro acc e ⟨zs,s,a,b,c,rfl,hl',hz,rfl,hp⟩;exact q zs s a b c hl' hz hp
theorem PR {zs:List Str} (h:∀z∈zs,∃k∈sg.cps.toList,z=⟨#[k]⟩):(zs.map (·.length)).sum=zs.length:=by
 induction zs with
 |nil=>rfl
 |cons z zs ih=>
  obtain⟨k,_,rfl⟩:=h z ba;rw[cz,List.sum_cons,length_cons,ih fun w hw=>h w (ay _ hw)];show 1+_=_;omega
theorem e0:(Str.ofString "").length=0:=by decide+kernel
def Nm (x:Str):Prop:=1<=x.length/\x.length<=12/\∀c∈x.cps.toList,c∈sg.cps.toList
theorem O8:∀{zs:List Str},(∀z∈zs,∃k∈sg.cps.toList,z=⟨#[k]⟩)->∀c∈(Txt.join (Str.ofString "") zs).cps.toList,c∈sg.cps.toList:=by
 intro zs;rw[eq_of_beq (PyProof.Rows.join_closes (sep:=Str.ofString "") (ys:=zs) rfl)]
 induction zs with
 |nil=>intro _ c hc;cases hc
 | cons z zs ih=>
  intro h c hc;obtain⟨k,hk,rfl⟩:=h z ba;cases zs with
  |nil=>
   have:c=k:=by simpa using(show c∈[k]from hc)
   rw[this];exact hk
  | cons y ys=>
   have hc:c∈((⟨#[k]⟩:Str)++Str.ofString ""++Str.join (Str.ofString "") (y::ys)).cps.toList:=hc;rw[Str.cps_append,Str.cps_append,Array.toList_append,Array.toList_append]at hc;rcases bj.mp hc with hc|hc
   .rcases bj.mp hc with hc|hc
    .have:c=k:=by simpa using hc
     rw[this];exact hk
    .rw[show(Str.ofString "").cps.toList=[] by decide+kernel]at hc;cases hc
   .exact ih (fun w hw=>h w (ay _ hw)) c hc
theorem B4 {zs:List Str} (h:∀z∈zs,∃k∈sg.cps.toList,z=⟨#[k]⟩):(Txt.join (Str.ofString "") zs).length=zs.length:=by
 rw[eq_of_beq (PyProof.Rows.join_closes (sep:=Str.ofString "") (ys:=zs) rfl)]
 induction zs with
 |nil=>decide+kernel
 | cons z zs ih=>
  obtain⟨k,hk,rfl⟩:=h z ba;have ih:=ih fun w hw=>h w (ay _ hw)
  cases zs with
  |nil=>rfl
  |cons y ys=>
   show((⟨#[k]⟩:Str)++Str.ofString ""++Str.join (Str.ofString "") (y::ys)).length=_;have e:∀a b:Str,(a++b).length=a.length+b.length:=fun a b=>by show(a++b).cps.size=_;rw[Str.cps_append,Array.size_append];rfl
   rw[e,e,ih,e0];show 1+0+(y::ys).length=(y::ys).length+1;omega
theorem QW {zs:List Str} {Q:Bv->Prop} (h:∀z∈zs,∃k∈sg.cps.toList,z=⟨#[k]⟩) (h1:1<=zs.length) (hs:zs.length<=12) (q:∀x:Str,Nm x->Q (.val (.str x))):
  Wp (BA (.str (Str.ofString "")) [.lst (zs.map PV.str)]) Q:=by
 have l1:=PR h;unfold BA;simp only[JG,kY,b8,eE,ju,e0];refine⟨by omega,q _ ⟨?_,?_,O8 h⟩⟩
 .rw[B4 h];exact h1
 .rw[B4 h];exact hs
theorem nK [DecidableEq α]:∀{l m:List α},l.Nodup->(∀x∈l,x∈m)->l.length<=m.length
 |[],m,_,_=>dj _
 |x::l,m,hn,h=>by
  have hx:=h x ba;rw[fq]at hn;have:=nK (l:=l) (m:=m.erase x) hn.2 fun y hy=>(List.mem_erase_of_ne (fun e:y=x=>hn.1 (by rw[<-e];exact hy))).mpr (h y (ay _ hy))
  rw[List.length_erase_of_mem hx]at this;have:0<m.length:=List.length_pos_of_mem hx;rw[length_cons];omega
noncomputable abbrev sN (k:Nat):Str:=toString (0+(k:Int))
theorem NV:((List.range 64).map sN).Nodup:=by decide+kernel
theorem G6 (h:ss.length<63):∃k∈List.range (ss.length+1),sN k∉ss:=by
 refine eu fun no=>?_
 have all:∀x∈(List.range (ss.length+1)).map sN,x∈ss:=fun x hx=>by
  obtain⟨k,hk,rfl⟩:=bp.mp hx;exact eu fun z=>no ⟨k,hk,z⟩
 have nd:((List.range (ss.length+1)).map sN).Nodup:=by
  have e:List.range (ss.length+1)=(List.range 64).take (ss.length+1):=by rw[List.take_range];congr 1;omega
  rw[e,map_take];exact NV.sublist (List.take_sublist _ _)
 have:=nK nd all;rw[ah,cu]at this;omega
theorem aaA:∀k∈List.range 64,Nm (sN k):=by unfold Nm;decide+kernel
end
section
open PySem L2 Mr
theorem oI:((ss.map PV.str).any fun z=>cI z (PV.str x))=decide (x∈ss):=by
 rw[Bool.eq_iff_iff,ic,ju];constructor
 .rintro⟨p,hp,e⟩;obtain⟨y,hy,rfl⟩:=bp.mp hp;rw[zN]at e;rw[<-eq_of_beq e];exact hy
 .intro h;exact⟨.str x,bp.mpr ⟨x,h,rfl⟩,by rw[zN];exact fy x⟩
theorem oO (h:j<64):(0+(j:Int)).natAbs.log2<1920:=by
 rw[Int.zero_add,Int.natAbs_natCast];exact Nat.lt_of_le_of_lt (Nat.log2_le_self j) (by omega)
theorem OO {a b c:Int} (h:Hand a b c n) (m0:0<=m) (m1:m<=60) (hn:n<100000)
  (q:∀(ss:List Str) a' b' c',(ss.length:Int)=m->(∀x∈ss,Nm x)->Hand a' b' c' (n+13*60)->Q (.lst (ss.map PV.str),[hd a' b' c'])):Wp (gW [hd a b c,.int m]) Q:=by
 unfold gW nJ;walk_at "wp";refine⟨fQ (by omega) (by omega),?_⟩;refine cF (fun i e=>∃(ss:List Str) (a b c:Int) (v3 v4 v5:Option Sl),ss.length=i/\(∀x∈ss,Nm x)/\Hand a b c (n+13*i)/\e=[some (.own (hd a b c)),some (.val (.int m)),some (.loc (.lst (ss.map PV.str))),v3,v4,v5]) ?_ ?_ ⟨[],a,b,c,_,_,_,rfl,fun _ h=>(nomatch h),h,rfl⟩
 .rintro i x e hx ⟨ss,a,b,c,v3,v4,v5,hl,hs,hp,rfl⟩;rw[aq]at hx;obtain⟨k,hk,rfl⟩:=br.mp hx;have hi:=(af.mp hk).1;rw[cu]at hi;walk_at "wp";refine cM hp (by omega) (by decide) (by decide) fun d a1 b1 c1 d0 d1 hp=>?_
  walk_at "wp";refine eG d0 d1 fun p hp'=>?_
  obtain⟨z,rfl,z0,z1⟩:∃z:Int,p= .int z/\1<=z/\z<=12:=by
   have r0:=ka (0+(k:Int)) (show(12:Int)≠0 by decide);have r1:=jd (0+(k:Int)) (show(0:Int)<12 by decide);simp only[bw,jz,or_false]at hp';rcases hp' with rfl|rfl|rfl|rfl|rfl|rfl
   .exact⟨_,rfl,by decide,by decide⟩
   .exact⟨_,rfl,by decide,by decide⟩
   .exact⟨_,rfl,by decide,by decide⟩
   .exact⟨_,rfl,by decide,by decide⟩
   .exact⟨_,rfl,by decide,by decide⟩
   .exact⟨_,rfl,by omega,by omega⟩
  clear d0 d1 hp';walk_at "wp";refine⟨fQ (by omega) (by omega),by omega,?_⟩;refine OB hp (by rw[ah,cu];omega) fun zs s' a2 b2 c2 zl hz hp=>?_
  rw[ah,cu]at zl hp;walk_at "wp";refine QW hz (by omega) (by omega) fun x hx=>?_
  clear zl hz;replace hp:=hp.mono (show _<=n+13*(i+1) by omega);clear z0 z1;walk_at "wp";have ok8:(ss.map PV.str).all (gX 8)=true:=bg.mpr fun p hp=>by obtain⟨y,_,rfl⟩:=bp.mp hp;rfl
  have done:∀y:Str,Nm y->∃(ss':List Str) (a b c:Int) (v3 v4 v5:Option Sl),ss'.length=i+1/\(∀x∈ss',Nm x)/\Hand a b c (n+13*(i+1))/\[some (Sl.own (hd a2 b2 c2)),some (Sl.val (PV.int m)),some (Sl.loc (PV.lst (ss.map PV.str++[PV.str y]))),some (Sl.val (PV.int (0+(k:Int)))),some (Sl.val (PV.int z)),some (Sl.val (PV.str y))]=[some (.own (hd a b c)),some (.val (.int m)),some (.loc (.lst (ss'.map PV.str))),v3,v4,v5]:=fun y hy=>
   ⟨ss++[y],a2,b2,c2,_,_,_,by rw[bq,hl];rfl,fun w hw=>(bj.mp hw).elim (hs w) fun e=>by rw[bu.mp e];exact hy,hp,by rw[cx];rfl⟩
  refine⟨ok8,fun g=>⟨fQ (by omega) (by omega),by omega,?_⟩,fun g=>⟨by omega,done x hx⟩⟩;rw[show((ss.length:Int)+1).toNat=ss.length+1 by omega];refine gE (fun j acc e=>acc=(((List.range j).filter fun k=>decide (sN k∉ss)).map fun k=>PV.str (sN k))/\∃s,e=[s,some (Sl.bor (PV.lst (ss.map PV.str)))]) ?_ ?_ ⟨rfl,_,rfl⟩
  .rintro j y e acc hy ⟨rfl,s1,rfl⟩;rw[aq]at hy;obtain⟨k',hk',rfl⟩:=br.mp hy;have hj:=(af.mp hk').1;have ej:=(af.mp hk').2;rw[cu]at hj;rw[getElem_range]at ej;subst ej;walk_at "wp";refine⟨oO (by omega),ok8,?_⟩;rw[oI];have er:(List.range (j+1)).filter (fun k=>decide (sN k∉ss))=(List.range j).filter (fun k=>decide (sN k∉ss))++(if sN j∉ss then [j]else []):=by
    rw[List.range_succ,List.filter_append];congr 1
    by_cases hm:sN j∉ss
    .rw[aj hm];simp[hm]
    .rw[ai hm];simp at hm;simp[hm]
   by_cases hm:sN j∈ss
   .rw[show decide (Str.ofString (toString (0+(j:Int)))∈ss)=true from decide_eq_true hm];refine⟨?_,_,rfl⟩;rw[er,ai (fun z=>z hm),dq]
   .rw[show decide (Str.ofString (toString (0+(j:Int)))∈ss)=false from decide_eq_false hm];refine⟨oO (by omega),?_,_,rfl⟩;rw[er,aj hm,cx];rfl
  .rintro acc e ⟨rfl,s1,rfl⟩;rw[ah,cu];obtain⟨k0,hk0,hf⟩:=G6 (ss:=ss) (by omega);have hm:k0∈(List.range (ss.length+1)).filter fun k=>decide (sN k∉ss):=mem_filter.mpr ⟨hk0,decide_eq_true hf⟩
   have sub:∀k∈(List.range (ss.length+1)).filter fun k=>decide (sN k∉ss),Nm (sN k):=fun k hk=>by
    have:=jy.mp (mem_filter.mp hk).1;exact aaA k (jy.mpr (by omega))
   cases ef:(List.range (ss.length+1)).filter fun k=>decide (sN k∉ss)with
   |nil=>rw[ef]at hm;cases hm
   |cons k1 r=>
    have:=sub k1 (by rw[ef];exact ba);walk_at "wp";exact⟨by omega,done _ this⟩
 .rintro e ⟨ss,a,b,c,v3,v4,v5,hl,hs,hp,rfl⟩;walk_at "wp";rw[ah,cu]at hl;rw[ah,cu]at hp;exact q ss a b c (by omega) hs (hp.mono (by omega))
end
section
open PySem L2 Mr
structure AM where
 at':Int
 day:Int
 head:Str
 row:List Int
noncomputable def NO (l:AM):PV:=.tup [.int l.at',.int l.day,.str l.head,.lst (l.row.map PV.int)]
structure T3 (m:Int) (l:AM):Prop where
 a0:0<=l.at'
 a1:l.at'<m
 r:∀x∈l.row,0<=x/\x<m
 n:l.row.length<=9
theorem SI {a b c:Int} {s:Option Sl} {Q:List PV×En->Prop} (hp:Hand a b c n) (m0:0<m) (m1:m<=64) (hn:n+xs.length<1000000)
  (q:∀(zs:List Int) s' a' b' c',zs.length=xs.length->(∀z∈zs,0<=z/\z<m)->Hand a' b' c' (n+xs.length)->Q (zs.map PV.int,[s',some (.own (hd a' b' c')),some (.val (.int m))])):
  Wp (k9 (aS 0) fE (a9 [.m,.b] false aQ (aB (aC 1) (aB (aC 2) aO))) xs [s,some (.own (hd a b c)),some (.val (.int m))]) Q:=by
 refine gE (fun i acc e=>∃(zs:List Int) (s:Option Sl) (a b c:Int),acc=zs.map PV.int/\zs.length=i/\(∀z∈zs,0<=z/\z<m)/\e=[s,some (.own (hd a b c)),some (.val (.int m))]/\Hand a b c (n+i)) ?_ ?_ ⟨[],s,a,b,c,rfl,rfl,fun _ h=>(nomatch h),rfl,hp⟩
 .rintro i x e acc hx ⟨zs,s,a,b,c,rfl,hl',hz,rfl,hp⟩;have hi:=(af.mp hx).1;walk_at "wp";refine cM hp (by omega) m0 (by omega) fun d a' b' c' d0 d1 hp'=>?_
  walk_at "wp";exact⟨zs++[d],_,a',b',c',by rw[cx];rfl,by rw[bq,hl'];rfl,fun z hz'=>(bj.mp hz').elim (hz z) fun h=>by rw[bu.mp h];exact⟨d0,d1⟩,rfl,hp'⟩
 .rintro acc e ⟨zs,s,a,b,c,rfl,hl',hz,rfl,hp⟩;exact q zs s a b c hl' hz hp
noncomputable def iH:FS:=(c8 (dQ (aB (aC 2) (aB (bI eA (lG (aB (aC 4) (aB (bI Mr.y7 (fC (.int 99999999)) (aC 4)) aO))) (qA AR (aB (bI RS (aC 3) (fC (.int 2))) aO))) (aB (bI eA (lG (aB (fC (.str "")) (aB (fC (.str "walls")) (aB (fC (.str "Re: walls")) aO)))) (a9 [.m,.b] false aQ (aB (aC 0) (aB (fC (.int 3)) aO)))) (aB (aC 5) aO))))))
theorem vO:mO=(a8 (b9 2 (a9 [.m,.b] false aQ (aB (aC 0) (aB (aC 1) aO))))
  (a8 (b9 3 (a9 [.m,.b] false aQ (aB (aC 0) (aB (fC (.int 4)) aO))))
  (a8 (b9 4 (a9 [.m,.b] false aQ (aB (aC 0) (aB (bI eA (lG (aB (fC (.int 1)) (aB (fC (.int 3)) (aB (fC (.int 2)) (aB (fC (.int 100000000)) aO))))) (aC 3)) aO))))
  (a8 (b9 5 (iO (qL (aB (bI eA (lG (aB (fC (.int 0)) (aB (fC (.int 1)) (aB (fC (.int 1)) (aB (fC (.int 2)) (aB (fC (.int 3)) (aB (fC (.int 9)) aO))))))) (a9 [.m,.b] false aQ (aB (aC 0) (aB (fC (.int 6)) aO)))) aO)) 1 [0,1] [(0,1)] (aS 0) fE (a9 [.m,.b] false aQ (aB (aC 1) (aB (aC 2) aO)))))
  (a8 (uM (bW (bI RS (a9 [.m,.b] false aQ (aB (aC 0) (aB (fC (.int 4)) aO))) (fC (.int 0)))) (b9 5 (bI iW (TL SO (aC 5) jJ (sY (fC (.int 8)))) (lG (aB (bI m7 (bI iW (aC 2) (fC (.int 1))) (aC 1)) aO)))) dE)
  iH))))):=rfl
theorem CB (xs:List PV) (k:Nat):wN xs none (some (k:Int))=xs.take k:=by
 unfold wN;rw[HT.CI,HT.FV,gd,sub_zero]
 by_cases h:k<=xs.length
 .rw[min_eq_left h]
 .rw[Nat.min_eq_right (by omega),eh (bf _),eh (by omega)]
theorem AQ (xs:List PV) (k:Nat):wN xs (some (k:Int)) none=xs.drop k:=by
 unfold wN;rw[HT.CI,HT.FV]
 by_cases h:k<=xs.length
 .rw[min_eq_left h,eh (by rw[ff];exact bf _)]
 .rw[Nat.min_eq_right (by omega),List.drop_of_length_le (bf _),List.drop_of_length_le (by omega),List.take_nil]
theorem acL (zs:List Int):wN (zs.map PV.int) none (some 8)=(zs.take 8).map PV.int:=by
 have:=CB (zs.map PV.int) 8;rw[map_take];exact this
theorem sU {kind day:Int} {zs:List Int} {Q:Out->Prop} (h:Hand a b c n) (hn:n<100100) (a0:0<=at') (a1:at'<m) (hz:∀z∈zs,0<=z/\z<m) (zl:zs.length<=9)
  (q:∀l a' b' c' v1 v2 v3 v4 v5,T3 m l->Hand a' b' c' (n+1)->Q (.rt (.val (NO l)) [some (.own (hd a' b' c')),v1,v2,v3,v4,v5])):
  Wp (iH [some (.own (hd a b c)),some (.val (.int m)),some (.val (.int at')),some (.val (.int kind)),some (.val (.int day)),some (.val (.lst (zs.map PV.int)))]) Q:=by
 unfold iH;walk_at "wp";refine eG (by split<;>decide) (by simp only[length_cons,length_nil];split<;>decide) fun p hp'=>?_
 obtain⟨z,rfl⟩:∃z:Int,p= .int z:=by
  simp only[bw,jz,or_false]at hp';rcases hp' with rfl|rfl<;>exact⟨_,rfl⟩
 walk_at "wp";refine cM h (by omega) (by decide) (by decide) fun e a6 b6 c6 e0 e1 hp=>?_
 walk_at "wp";refine eG e0 e1 fun p hp'=>?_
 obtain⟨x,rfl⟩:∃z:Str,p= .str z:=by
  simp only[bw,jz,or_false]at hp';rcases hp' with rfl|rfl|rfl<;>exact⟨_,rfl⟩
 walk_at "wp";exact q ⟨at',z,x,zs⟩ _ _ _ _ _ _ _ _ ⟨a0,a1,hz,zl⟩ hp
theorem rV (h:Hand a b c n) (m0:0<m) (m1:m<=64) (hn:n<100000)
  (q:∀l a' b' c',T3 m l->Hand a' b' c' (n+20)->Q (NO l,[hd a' b' c'])):Wp (cR [hd a b c,.int m]) Q:=by
 unfold cR;rw[vO];walk_at "wp";refine cM h (by omega) m0 (by omega) fun at' a1 b1 c1 at0 at1 hp=>?_
 walk_at "wp";refine cM hp (by omega) (by decide) (by decide) fun kind a2 b2 c2 k0 k1 hp=>?_
 walk_at "wp";refine eG k0 k1 fun p hp'=>?_
 obtain⟨z,rfl,z0,z1⟩:∃z:Int,p= .int z/\0<z/\z<=100000000:=by
  simp only[bw,jz,or_false]at hp';rcases hp' with rfl|rfl|rfl|rfl<;>exact⟨_,rfl,by decide,by decide⟩
 clear k0 k1 hp';walk_at "wp";refine cM hp (by omega) z0 (by omega) fun day a3 b3 c3 dy0 dy1 hp=>?_
 clear z0 z1 dy0 dy1;walk_at "wp";refine cM hp (by omega) (by decide) (by decide) fun d a4 b4 c4 d0 d1 hp=>?_
 walk_at "wp";refine eG d0 d1 fun p hp'=>?_
 obtain⟨w,rfl,w0,w1⟩:∃z:Int,p= .int z/\0<=z/\z<=9:=by
  simp only[bw,jz,or_false]at hp';rcases hp' with rfl|rfl|rfl|rfl|rfl|rfl<;>exact⟨_,rfl,by decide,by decide⟩
 clear d0 d1 hp';walk_at "wp";refine⟨fQ (by omega) (by omega),by omega,?_⟩;refine SI hp m0 m1 (by rw[ah,cu];omega) fun zs s' a5 b5 c5 zl hz hp=>?_
 rw[ah,cu]at zl hp;replace hp:=hp.mono (show _<=n+13 by omega);replace zl:zs.length<=9:=by omega
 clear w0 w1;walk_at "wp";refine cM hp (by omega) (by decide) (by decide) fun e a6 b6 c6 e0 e1 hp=>?_
 clear e0 e1;walk_at "wp";have r0:=ka (at'+1) (show m≠0 by omega);have r1:=jd (at'+1) m0;rw[acL];have l8:(zs.take 8).length<=8:=by rw[fx];omega
 refine⟨fun _=>⟨m0,by rw[ah];omega,?_⟩,fun _=>?_⟩
 .have ee:(zs.take 8).map PV.int++[PV.int ((at'+1) % m)]=((zs.take 8)++[(at'+1) % m]).map PV.int:=by rw[cx];rfl
  rw[ee];refine sU hp (by omega) at0 at1 (fun z hz'=>?_) (by rw[bq];simp;omega) fun l a' b' c' v1 v2 v3 v4 v5 hl hp=>?_
  .rcases bj.mp hz' with g|g
   .exact hz z (dc g)
   .rw[bu.mp g];exact⟨r0,r1⟩
  .walk_at "wp";exact q l a' b' c' hl (hp.mono (by omega))
 .refine sU hp (by omega) at0 at1 hz (by omega) fun l a' b' c' v1 v2 v3 v4 v5 hl hp=>?_
  walk_at "wp";exact q l a' b' c' hl (hp.mono (by omega))
end
section
open PySem L2 Mr
theorem RR {a b c:Int} {s:Option Sl} {Q:List PV×En->Prop} (hp:Hand a b c n) (m0:0<m) (m1:m<=64) (hn:n+20*xs.length<100000)
  (q:∀(zs:List AM) s' a' b' c',zs.length=xs.length->(∀z∈zs,T3 m z)->Hand a' b' c' (n+20*xs.length)->Q (zs.map NO,[s',some (.own (hd a' b' c')),some (.val (.int m))])):
  Wp (k9 (aS 0) fE (a9 [.m,.b] false cR (aB (aC 1) (aB (aC 2) aO))) xs [s,some (.own (hd a b c)),some (.val (.int m))]) Q:=by
 refine gE (fun i acc e=>∃(zs:List AM) (s:Option Sl) (a b c:Int),acc=zs.map NO/\zs.length=i/\(∀z∈zs,T3 m z)/\e=[s,some (.own (hd a b c)),some (.val (.int m))]/\Hand a b c (n+20*i)) ?_ ?_ ⟨[],s,a,b,c,rfl,rfl,fun _ h=>(nomatch h),rfl,hp⟩
 .rintro i x e acc hx ⟨zs,s,a,b,c,rfl,hl',hz,rfl,hp⟩;have hi:=(af.mp hx).1;walk_at "wp";refine rV hp m0 m1 (by omega) fun l a' b' c' hl hp'=>?_
  walk_at "wp";exact⟨zs++[l],_,a',b',c',by rw[cx];rfl,by rw[bq,hl'];rfl,fun z hz'=>(bj.mp hz').elim (hz z) fun h=>by rw[bu.mp h];exact hl,rfl,hp'.mono (by omega)⟩
 .rintro acc e ⟨zs,s,a,b,c,rfl,hl',hz,rfl,hp⟩;exact q zs s a b c hl' hz hp
theorem D5 {ns:List Int} (hns:ns.length<=63) (h:Hand a b c n) (m0:0<m) (m1:m<=64) (hn:n<50000)
  (q:∀(zs:List AM) a' b' c',zs.length<=51->(∀z∈zs,T3 m z)->Hand a' b' c' (n+300)->Q (.lst (zs.map NO),[hd a' b' c'])):Wp (eX [.lst (ns.map PV.int),hd a b c,.int m]) Q:=by
 unfold eX kG;walk_at "wp";refine cM h (by omega) (by decide) (by decide) fun d a1 b1 c1 d0 d1 hp=>?_
 walk_at "wp";refine⟨fQ (by omega) (by omega),by omega,?_⟩;refine RR hp m0 m1 (by rw[ah,cu];omega) fun zs s' a2 b2 c2 zl hz hp=>?_
 rw[ah,cu]at zl hp;replace hp:=hp.mono (show _<=n+300 by omega);replace zl:zs.length<=12:=by omega
 clear d0 d1;walk_at "wp";have hm1:(if(40:Int)<(ns.length:Int)then(40:Int)else(ns.length:Int))<=40:=by split<;>omega
 have hm0:0<=(if(40:Int)<(ns.length:Int)then(40:Int)else(ns.length:Int)):=by split<;>omega
 refine⟨⟨fQ (by decide) (by decide),fQ (by omega) (by omega)⟩,?_⟩;generalize(if(40:Int)<(ns.length:Int)then(40:Int)else(ns.length:Int))=N at hm0 hm1;refine cF (fun i e=>∃(ys:List AM) (v4:Option Sl),ys.length=zs.length+i/\(∀z∈ys,T3 m z)/\e=[some (Sl.bor (PV.lst (ns.map PV.int))),some (Sl.own (hd a2 b2 c2)),some (Sl.val (PV.int m)),some (Sl.loc (PV.lst (ys.map NO))),v4]) ?_ ?_ ⟨zs,_,rfl,hz,rfl⟩
 .rintro i x e hx ⟨ys,v4,yl,hy,rfl⟩;rw[aq]at hx;obtain⟨k,hk,rfl⟩:=br.mp hx;have hi:=(af.mp hk).1;have ek:=(af.mp hk).2;rw[cu]at hi;rw[getElem_range]at ek;walk_at "wp";refine F1 (by omega) (by omega) hns fun a3 b3 hh=>?_
  walk_at "wp";refine rV hh m0 m1 (by omega) fun l a' b' c' hl _=>?_
  walk_at "wp";refine⟨by omega,ys++[l],_,by rw[bq,yl];simp;omega,fun z hz'=>(bj.mp hz').elim (hy z) fun h=>by rw[bu.mp h];exact hl,by rw[cx];rfl⟩
 .rintro e ⟨ys,v4,yl,hy,rfl⟩;rw[ah,cu]at yl;walk_at "wp";exact q ys _ _ _ (by omega) hy hp
end
section
open PySem L2 Mr
structure Let where
 name:Str
 day:Int
 head:Str
 row:List Str
 deriving DecidableEq
noncomputable def lP (l:Let):PV:=.tup [.str l.name,.int l.day,.str l.head,.tup (l.row.map PV.str)]
theorem fI (ss:List Str) (n:Nat):(ss.map PV.str).all (gX n)=true:=bg.mpr fun p hp=>by obtain⟨y,_,rfl⟩:=bp.mp hp;cases n<;>rfl
theorem O2 (ss:List Str) (n:Nat):(ss.map PV.str).all (o8 n)=true:=bg.mpr fun p hp=>by obtain⟨y,_,rfl⟩:=bp.mp hp;cases n<;>rfl
theorem aaL (l:Let):gX 8 (lP l)=true:=by
 show([PV.str l.name,PV.int l.day,PV.str l.head,PV.tup (l.row.map PV.str)].all (gX 7))=true;simp only[all_cons,all_nil,gX,fI,Bool.and_true]
theorem aaT (l:Let):o8 3 (lP l)=true:=by
 show([PV.str l.name,PV.int l.day,PV.str l.head,PV.tup (l.row.map PV.str)].all (o8 2))=true;simp only[all_cons,all_nil,o8,O2,Bool.and_true]
theorem oW (n:Nat):∀xs ys:List Str,(dO (rA n) (xs.map PV.str) (ys.map PV.str)).isSome=true
 |[],[]=>rfl
 |[],_::_=>rfl
 |_::_,[]=>rfl
 |x::xs,y::ys=>by
  rw[cz,cz];unfold dO;split
  .exact oW n xs ys
  .cases n<;>rfl
theorem aaS (l k:Let):(rA 3 (lP l) (lP k)).isSome=true:=by
 show(dO (rA 2) [PV.str l.name,PV.int l.day,PV.str l.head,PV.tup (l.row.map PV.str)] [PV.str k.name,PV.int k.day,PV.str k.head,PV.tup (k.row.map PV.str)]).isSome=true;unfold dO;split
 .unfold dO;split
  .unfold dO;split
   .unfold dO;split
    .rfl
    .exact oW 1 _ _
   .rfl
  .rfl
 .rfl
theorem KN (ls:List Let):dA 3 (ls.map lP)=true:=bg.mpr fun p hp=>by
 obtain⟨l,_,rfl⟩:=bp.mp hp;rw[bz];refine⟨aaT l,bg.mpr fun q hq=>?_⟩;obtain⟨k,_,rfl⟩:=bp.mp hq;exact aaS l k
theorem OG (ls:List Let):(ls.map lP).all (oU true)=true:=bg.mpr fun p hp=>by obtain⟨l,_,rfl⟩:=bp.mp hp;rfl
theorem CV {ps:List PV} (h:ps.Perm (ls.map lP)):∃ks:List Let,ks.Perm ls/\ps=ks.map lP:=by
 have key:∀(ps:List PV) (ls:List Let),ps.Perm (ls.map lP)->∃ks:List Let,ks.Perm ls/\ps=ks.map lP:=by
  intro ps
  induction ps with
  |nil=>intro ls h;have:=h.nil_eq;rw[List.eq_nil_of_map_eq_nil this.symm];exact⟨[],.refl _,rfl⟩
  |cons p ps ih=>
   intro ls h;obtain⟨l,hl,e⟩:=bp.mp (h.mem_iff.mp ba);subst e;have h2:(lP l::ps).Perm ((l::ls.erase l).map lP):=h.trans ((perm_cons_erase hl).map lP);obtain⟨ks,k1,k2⟩:=ih _ (h2.cons_inv);exact⟨l::ks,(k1.cons l).trans (perm_cons_erase hl).symm,by rw[k2];rfl⟩
 exact key ps ls h
theorem IF {ls:List Let} {Q:Bv->Prop} (h:ls.length<128) (q:∀ks:List Let,ks.Perm ls->(ks.map lP).Pairwise (fun a b=>oH 3 a b=true)->Q (.new (.lst (ks.map lP)))):Wp (kA [.lst (ls.map lP)]) Q:=by
 cases ls with
 |nil=>exact⟨_,rfl,by rw[show fG []=[] by unfold fG;simp];exact q [] (.refl _) .nil⟩
 | cons l ls=>
  have e1:zR [.lst ((l::ls).map lP)]=none:=rfl;have e2:rS [.lst ((l::ls).map lP)]=none:=rfl;unfold kA;rw[e1,e2,none_or,none_or];unfold yO;simp only[eE,b8];refine⟨?_,?_⟩
  .rw[OG,KN,ah,decide_eq_true h];rfl
  .obtain⟨ks,k1,k2⟩:=CV (dJ 3 ((l::ls).map lP));have:=l9 3 ((l::ls).map lP);rw[k2]at this⊢
   exact q ks k1 this
end
section
open PySem L2 Mr
theorem J9 {rs:List Int} {s:Option Sl} {Q:List PV×En->Prop} (hm:(ss.length:Int)=m) (hr:∀x∈rs,0<=x/\x<m)
  (q:∀(zs:List Str) s',zs.length=rs.length->(∀z∈zs,z∈ss)->Q (zs.map PV.str,[s',some (Sl.bor (PV.lst (ss.map PV.str)))])):
  Wp (k9 (aS 0) fE (bI eA (aC 1) (aC 0)) (rs.map PV.int) [s,some (Sl.bor (PV.lst (ss.map PV.str)))]) Q:=by
 refine gE (fun i acc e=>∃(zs:List Str) (s:Option Sl),acc=zs.map PV.str/\zs.length=i/\(∀z∈zs,z∈ss)/\e=[s,some (Sl.bor (PV.lst (ss.map PV.str)))]) ?_ ?_ ⟨[],s,rfl,rfl,fun _ h=>(nomatch h),rfl⟩
 .rintro i x e acc hx ⟨zs,s,rfl,hl,hz,rfl⟩;rw[aq]at hx;obtain⟨k,hk,rfl⟩:=br.mp hx;obtain⟨k0,k1⟩:=hr k (bh hk);walk_at "wp";refine eG k0 (by rw[ah];omega) fun p hp=>?_
  obtain⟨y,hy,rfl⟩:=bp.mp hp;walk_at "wp";exact⟨zs++[y],_,by rw[cx];rfl,by rw[bq,hl];rfl,fun z hz'=>(bj.mp hz').elim (hz z) fun h=>by rw[bu.mp h];exact hy,rfl⟩
 .rintro acc e ⟨zs,s,rfl,hl,hz,rfl⟩;rw[ah]at hl;exact q zs s hl hz
theorem Q4 {zs:List AM} (hm:(ss.length:Int)=m) (hz:∀z∈zs,T3 m z) (hl:zs.length<=120)
  (q:∀ls:List Let,ls.length<=zs.length->(ls.map lP).Pairwise (fun a b=>oH 3 a b=true)->(∀l∈ls,l.row.length<=9/\l.name∈ss/\∀x∈l.row,x∈ss)->Q (.tup (ls.map lP),[])):Wp (jP [.lst (zs.map NO),.lst (ss.map PV.str)]) Q:=by
 unfold jP pT;walk_at "wp";refine cF (fun i e=>∃(ls:List Let) (v3 v4 v5 v6 v7:Option Sl),ls.length<=i/\(∀l∈ls,l.row.length<=9/\l.name∈ss/\∀x∈l.row,x∈ss)/\e=[some (Sl.bor (PV.lst (zs.map NO))),some (Sl.bor (PV.lst (ss.map PV.str))),some (Sl.loc (PV.lst (ls.map lP))),v3,v4,v5,v6,v7]) ?_ ?_ ⟨[],_,_,_,_,_,bf _,fun _ h=>(nomatch h),rfl⟩
 .rintro i x e hx ⟨ls,v3,v4,v5,v6,v7,ll,hls,rfl⟩;rw[aq]at hx;obtain⟨z,hk,rfl⟩:=br.mp hx;have hi:=(af.mp hk).1;have ok:=hz z (bh hk);rw[show NO z=PV.tup [PV.int z.at',PV.int z.day,PV.str z.head,PV.lst (z.row.map PV.int)]from rfl];walk_at "wp";refine eG ok.a0 (by rw[ah,hm];exact ok.a1) fun p hp=>?_
  obtain⟨y,hy,rfl⟩:=bp.mp hp;walk_at "wp";have hn:=ok.n;refine⟨by omega,J9 hm ok.r fun xs s' xl hxs=>?_⟩;walk_at "wp";have hnew:Let:=⟨y,z.day,z.head,xs⟩;refine⟨⟨fI xs 6,bg.mpr fun p hp=>by obtain⟨l,_,rfl⟩:=bp.mp hp;exact aaL l⟩,fun _=>⟨by omega,ls++[⟨y,z.day,z.head,xs⟩],_,_,_,_,_,by rw[bq];simp;omega,fun l hl'=>?_,by rw[cx];rfl⟩,fun _=>⟨ls,_,_,_,_,_,by omega,hls,rfl⟩⟩;rcases bj.mp hl' with g|g
  .exact hls l g
  .rw[bu.mp g];exact⟨by rw[show(Let.mk y z.day z.head xs).row=xs from rfl,xl];exact hn,hy,hxs⟩
 .rintro e ⟨ls,v3,v4,v5,v6,v7,ll,hls,rfl⟩;rw[ah]at ll;walk_at "wp";refine IF (by omega) fun ks k1 k2=>?_
  walk_at "wp";exact q ks (by rw[k1.length_eq];exact ll) k2 fun l h=>hls l (k1.mem_iff.mp h)
end
section
open PySem L2 Mr
noncomputable def mQ (acc:List Let) (l:Let):List Let:=if(acc.any fun k=>decide (k.name=l.name))=true then acc else acc++[l]
noncomputable def st (qs:List Let):List Let:=qs.foldl mQ []
noncomputable def JJ (acc:List Let):List (Key×PV):=acc.map fun l=>(Sum.inr l.name,lP l)
theorem FQ (acc:List Let) (x:Str):(cE (JJ acc) (Sum.inr x)).isSome=acc.any fun k=>decide (k.name=x):=by
 unfold cE JJ
 induction acc with
 |nil=>rfl
 | cons l acc ih=>
  rw[cz,find?_cons,any_cons]
  by_cases h:l.name=x
  .subst h;simp
  .have h':¬(Sum.inr l.name:Key)=Sum.inr x:=fun z=>h (Sum.inr.inj z)
   rw[decide_eq_false h',decide_eq_false h,Bool.false_or];exact ih
theorem GF {acc:List Let} {l:Let} (h:(acc.any fun k=>decide (k.name=l.name))=false):dZ (JJ acc) (Sum.inr l.name) (lP l)=JJ (acc++[l]):=by
 unfold dZ;have e:((JJ acc).any fun kv=>decide (kv.1=Sum.inr l.name))=false:=by
  rw[<-h];unfold JJ;rw[any_map];congr 1;funext k;simp
 rw[e,ai au];unfold JJ;rw[cx];rfl
theorem GN (qs:List Let) (i:Nat) (l:Let) (h:qs[i]? =some l):st (qs.take (i+1))=mQ (st (qs.take i)) l:=by
 unfold st;rw[take_succ,h,toList_some,foldl_append];rfl
theorem pC (qs:List Let):(st qs).length<=qs.length:=by
 have key:∀(l k:List Let),(l.foldl mQ k).length<=k.length+l.length:=by
  intro l
  induction l with
  |nil=>intro k;exact bf _
  | cons x l ih=>
   intro k;have:=ih (mQ k x);have h:(mQ k x).length<=k.length+1:=by
    unfold mQ;split
    .omega
    .rw[bq];exact bf _
   rw[foldl_cons,length_cons];omega
 have:=key qs [];simpa [st]using this
theorem pI {l:Let} (h:l∈st qs):l∈qs:=by
 have key:∀(xs k:List Let),l∈xs.foldl mQ k->l∈k\/ l∈xs:=by
  intro xs
  induction xs with
  |nil=>intro k h;exact .inl h
  | cons x xs ih=>
   intro k h;rcases ih _ h with g|g
   .unfold mQ at g;split at g
    .exact .inl g
    .rcases bj.mp g with g|g
     .exact .inl g
     .exact .inr (by rw[bu.mp g];exact ba)
   .exact .inr (ay _ g)
 exact(key qs [] h).resolve_left (fun z=>nomatch z)
theorem A0 (acc:List Let):(JJ acc).map (·.2)=acc.map lP:=by unfold JJ;rw[jc];rfl
theorem mY {qs:List Let} (hl:qs.length<=100) (q:Q (.tup ((st qs).map lP),[])):Wp (eS [.tup (qs.map lP)]) Q:=by
 unfold eS pP;walk_at "wp";refine cF (fun i e=>∃v2,e=[some (Sl.val (PV.tup (qs.map lP))),some (Sl.loc (PV.bA (JJ (st (qs.take i))))),v2]) ?_ ?_ ⟨_,rfl⟩
 .rintro i x e hx ⟨v2,rfl⟩;rw[aq]at hx;obtain⟨l,hk,rfl⟩:=br.mp hx;have hi:=(af.mp hk).1;have hs:=GN qs i l hk;have hlen:=pC (qs.take i);rw[fx]at hlen;rw[show lP l=PV.tup [PV.str l.name,PV.int l.day,PV.str l.head,PV.tup (l.row.map PV.str)]from rfl];walk_at "wp";rw[FQ];rw[hs];unfold mQ;cases g:(st (qs.take i)).any fun k=>decide (k.name=l.name)with
  |true=>exact⟨fun z=>(by cases z),fun _=>⟨_,by rw[aj rfl]⟩⟩
  |false=>
   refine⟨fun _=>⟨by unfold JJ;rw[ah];omega,some (Sl.val (lP l)),?_⟩,fun z=>(by cases z)⟩;rw[ai au];have:=GF g;rw[<-this];rfl
 .rintro e ⟨v2,rfl⟩;rw[ah,dk];walk_at "wp";rw[A0];exact q
theorem qS {qs:List Let} (hl:qs.length<=100) (q:Q (.lst ((st qs).map lP),[])):Wp (cZ [.tup (qs.map lP)]) Q:=by
 unfold cZ iE;walk_at "wp";refine cF (fun i e=>∃v2,e=[some (Sl.val (PV.tup (qs.map lP))),some (Sl.loc (PV.bA (JJ (st (qs.take i))))),v2]) ?_ ?_ ⟨_,rfl⟩
 .rintro i x e hx ⟨v2,rfl⟩;rw[aq]at hx;obtain⟨l,hk,rfl⟩:=br.mp hx;have hi:=(af.mp hk).1;have hs:=GN qs i l hk;have hlen:=pC (qs.take i);rw[fx]at hlen;rw[show lP l=PV.tup [PV.str l.name,PV.int l.day,PV.str l.head,PV.tup (l.row.map PV.str)]from rfl];walk_at "wp";rw[FQ];rw[hs];unfold mQ;cases g:(st (qs.take i)).any fun k=>decide (k.name=l.name)with
  |true=>exact⟨fun z=>(by cases z),fun _=>⟨_,by rw[aj rfl]⟩⟩
  |false=>
   refine⟨fun _=>⟨by unfold JJ;rw[ah];omega,some (Sl.val (lP l)),?_⟩,fun z=>(by cases z)⟩;rw[ai au];have:=GF g;rw[<-this];rfl
 .rintro e ⟨v2,rfl⟩;rw[ah,dk];walk_at "wp";rw[A0];exact q
noncomputable def HD (own:Str) (row:List Str) (k:Nat):List Str:=(List.range k).filterMap fun i=>(row[i]?).bind fun x=>if x≠own/\x∉row.drop (i+1)then some x else none
noncomputable def el (l:Let):List Str:=HD l.name l.row l.row.length
theorem wF {own:Str} {row:List Str} (h:row[i]? =some x):HD own row (i+1)=HD own row i++(if x≠own/\x∉row.drop (i+1)then [x]else []):=by
 unfold HD;rw[List.range_succ,List.filterMap_append];congr 1;rw[filterMap_cons,h,bind_some];split
 .rename_i e;split at e
  .cases e
  .rename_i g;rw[ai g];rfl
 .rename_i e;split at e
  .rename_i g;cases e;rw[aj g];rfl
  .cases e
theorem sH {l:Let} (hl:l.row.length<=9) (q:Q (.tup ((el l).map PV.str),[])):Wp (iA [lP l]) Q:=by
 unfold iA vI;rw[show lP l=PV.tup [PV.str l.name,PV.int l.day,PV.str l.head,PV.tup (l.row.map PV.str)]from rfl];walk_at "wp";refine⟨by rw[ja,ah];omega,?_⟩;refine gE (fun i acc e=>acc=(HD l.name l.row i).map PV.str/\∃v0 v1,e=[v0,v1,some (Sl.val (PV.str l.name)),some (Sl.val (PV.tup (l.row.map PV.str)))]) ?_ ?_ ⟨rfl,_,_,rfl⟩
 .rintro i x e acc hx ⟨rfl,v0,v1,rfl⟩;rw[aq,gx,aq,Option.map_map,Option.map_map]at hx;obtain⟨y,hy,rfl⟩:=br.mp hx;have hi:=(af.mp hy).1;have hs:=wF (own:=l.name) hy;simp only[Function.comp_apply];walk_at "wp";rw[show(((0+i:Nat):Int)+1)=((i+1:Nat):Int) by omega,AQ,<-map_drop,oI,hs];have ok8:=fI (l.row.drop (i+1)) 8
  by_cases h1:y=l.name
  .refine⟨fun z=>absurd z (by simp[h1]),fun _=>⟨?_,_,_,rfl⟩⟩;rw[ai (fun z=>z.1 h1),dq]
  .refine⟨fun _=>⟨ok8,?_⟩,fun z=>absurd z (by simp[h1])⟩
   by_cases h2:y∈l.row.drop (i+1)
   .rw[decide_eq_true h2];refine⟨?_,_,_,rfl⟩;rw[ai (fun z=>z.2 h2),dq]
   .rw[decide_eq_false h2];refine⟨?_,_,_,rfl⟩;rw[aj ⟨h1,h2⟩,cx];rfl
 .rintro acc e ⟨rfl,v0,v1,rfl⟩;rw[ah,ja,ah];walk_at "wp";exact q
theorem GD {l:Let} (hl:l.row.length<=9) (q:Q (.lst ((el l).map PV.str),[])):Wp (iB [lP l]) Q:=by
 unfold iB r6;rw[show lP l=PV.tup [PV.str l.name,PV.int l.day,PV.str l.head,PV.tup (l.row.map PV.str)]from rfl];walk_at "wp";refine⟨fQ (by omega) (by omega),by omega,?_⟩;rw[toNat_natCast];refine gE (fun i acc e=>acc=(HD l.name l.row i).map PV.str/\∃v0,e=[v0,some (Sl.val (PV.tup (l.row.map PV.str))),some (Sl.val (PV.tup [PV.str l.name,PV.int l.day,PV.str l.head,PV.tup (l.row.map PV.str)]))]) ?_ ?_ ⟨rfl,_,rfl⟩
 .rintro i x e acc hx ⟨rfl,v0,rfl⟩;rw[aq]at hx;obtain⟨k,hk,rfl⟩:=br.mp hx;have hi:=(af.mp hk).1;have ek:=(af.mp hk).2;rw[cu]at hi;rw[getElem_range]at ek;subst ek;have hy:l.row[i]? =some l.row[i]:=ag hi;have hs:=wF (own:=l.name) hy;generalize l.row[i]=y at hy hs;have ea:p9 (l.row.map PV.str) (0+(i:Int))=some (.str y):=by rw[Int.zero_add];exact hB (by rw[aq,hy];rfl)
  walk_at "wp";rw[ea];walk_at "wp";have ok8:=fI (l.row.drop (i+1)) 8
  by_cases h1:y=l.name
  .refine⟨fun z=>absurd z (by simp[h1]),fun _=>⟨?_,_,rfl⟩⟩;rw[hs,ai (fun z=>z.1 h1),dq]
  .refine⟨fun _=>?_,fun z=>absurd z (by simp[h1])⟩;rw[ea];walk_at "wp";rw[show(0+(i:Int)+1)=((i+1:Nat):Int) by omega,AQ,<-map_drop,oI,hs];refine⟨ok8,?_⟩
   by_cases h2:y∈l.row.drop (i+1)
   .rw[decide_eq_true h2];refine⟨?_,_,rfl⟩;rw[ai (fun z=>z.2 h2),dq]
   .rw[decide_eq_false h2];simp only[Bool.not_false];rw[ea];walk_at "wp";refine⟨?_,_,rfl⟩;rw[aj ⟨h1,h2⟩,cx];rfl
 .rintro acc e ⟨rfl,v0,rfl⟩;rw[ah,cu];walk_at "wp";exact q
end
section
open PySem L2 Mr
noncomputable def oP:Option Str->PV
 |none=>.bD
 |some x=>.str x
abbrev Hl:=List (Str×Option Str)
noncomputable def sW (hs:Hl):List (Key×PV):=hs.map fun z=>(Sum.inr z.1,oP z.2)
theorem QU (hs:Hl) (x:Str):(cE (sW hs) (Sum.inr x)=none/\x∉hs.map (·.1))\/ ∃o,cE (sW hs) (Sum.inr x)=some (oP o)/\(x,o)∈hs:=by
 unfold cE sW
 induction hs with
 |nil=>exact .inl ⟨rfl,fun h=>nomatch h⟩
 | cons z hs ih=>
  rw[cz,find?_cons]
  by_cases h:z.1=x
  .right;subst h;exact⟨z.2,by simp,ba⟩
  .have h':¬(Sum.inr z.1:Key)=Sum.inr x:=fun e=>h (Sum.inr.inj e)
   rw[decide_eq_false h'];rcases ih with⟨a,b⟩|⟨o,a,b⟩
   .exact .inl ⟨a,fun e=>by rcases bw.mp e with e|e;exact h e.symm;exact b e⟩
   .exact .inr ⟨o,a,ay _ b⟩
theorem RZ (h:x∉hs.map (·.1)):dZ (sW hs) (Sum.inr x) (oP o)=sW (hs++[(x,o)]):=by
 unfold dZ;have e:((sW hs).any fun kv=>decide (kv.1=Sum.inr x))=false:=by
  unfold sW;rw[any_map,jk];intro z hz;have:z.1≠x:=fun e=>h (bp.mpr ⟨z,hz,e⟩)
  simp[this]
 rw[e,ai au];unfold sW;rw[cx];rfl
structure MOk (ss:List Str) (hs:Hl):Prop where
 nd:(hs.map (·.1)).Nodup
 nm:∀z∈hs,z.1∈ss/\∀y,z.2=some y->y∈ss
noncomputable def mP (hs:Hl):List PV:=hs.map fun z=>.tup [.str z.1,oP z.2]
theorem JB (hs:Hl):bM (sW hs)=mP hs:=by unfold bM sW mP;rw[jc];rfl
theorem ZJ (z:Str×Option Str):o8 3 (.tup [.str z.1,oP z.2])=true:=by
 show([PV.str z.1,oP z.2].all (o8 2))=true;cases z.2<;>rfl
theorem U7 (h:(hs.map (·.1)).Nodup):dA 3 (mP hs)=true:=bg.mpr fun p hp=>by
 obtain⟨z,hz,rfl⟩:=bp.mp hp;rw[bz];refine⟨ZJ z,bg.mpr fun q hq=>?_⟩;obtain⟨w,hw,rfl⟩:=bp.mp hq;show(dO (rA 2) [PV.str z.1,oP z.2] [PV.str w.1,oP w.2]).isSome=true;unfold dO;split
 .rename_i e;rw[zN]at e;have e1:z.1=w.1:=eq_of_beq e;have e2:z=w:=by
   have key:∀(l:Hl),(l.map (·.1)).Nodup->∀a∈l,∀b∈l,a.1=b.1->a=b:=by
    intro l
    induction l with
    |nil=>intro _ a ha;cases ha
    | cons c l ih=>
     intro hn a ha b hb hab;rw[cz,fq]at hn;rcases bw.mp ha with rfl|ha
     .rcases bw.mp hb with rfl|hb
      .rfl
      .exact absurd (bp.mpr ⟨b,hb,hab.symm⟩) hn.1
     .rcases bw.mp hb with e|hb
      .exact absurd (bp.mpr ⟨a,ha,by rw[hab,e]⟩) hn.1
      .exact ih hn.2 a ha b hb hab
   exact key hs h z hz w hw e1
  subst e2;unfold dO;rw[aj (BJ (n:=0) (by cases z.2<;>rfl))];rfl
 .rfl
theorem UK (hs:Hl):(mP hs).all (oU true)=true:=bg.mpr fun p hp=>by obtain⟨z,_,rfl⟩:=bp.mp hp;rfl
theorem P5 {ps:List PV} (h:ps.Perm (mP hs)):∃ks:Hl,ks.Perm hs/\ps=mP ks:=by
 have key:∀(ps:List PV) (ls:Hl),ps.Perm (mP ls)->∃ks:Hl,ks.Perm ls/\ps=mP ks:=by
  intro ps
  induction ps with
  |nil=>intro ls h;have:=h.nil_eq;unfold mP at this;rw[List.eq_nil_of_map_eq_nil this.symm];exact⟨[],.refl _,rfl⟩
  |cons p ps ih=>
   intro ls h;obtain⟨l,hl,e⟩:=bp.mp (h.mem_iff.mp ba);subst e;have h2:(PV.tup [.str l.1,oP l.2]::ps).Perm (mP (l::ls.erase l)):=h.trans ((perm_cons_erase hl).map _);obtain⟨ks,k1,k2⟩:=ih _ (h2.cons_inv);exact⟨l::ks,(k1.cons l).trans (perm_cons_erase hl).symm,by rw[k2];rfl⟩
 exact key ps hs h
end
section
open PySem L2 Mr
structure jH where
 key:Str
 day:Int
 name:Str
 at':Int
noncomputable def tP (t:jH):PV:=.tup [.int t.day,.str t.name,.int t.at']
noncomputable def Z9 (l:Let) (z:Str×Nat):Option jH:=if 0<z.2 then some ⟨z.1,l.day,l.name,(z.2:Int)⟩else none
noncomputable def oV (l:Let) (j:Nat):List jH:=((el l).zipIdx.take j).filterMap (Z9 l)
noncomputable def CM (l:Let):List jH:=(el l).zipIdx.filterMap (Z9 l)
noncomputable def jF (qs:List Let):List jH:=(st qs).flatMap CM
noncomputable def oB (x:Str) (ts:List jH):List jH:=ts.filter fun t=>decide (t.key=x)
noncomputable def G4 (ts:List jH):DD:=ts.foldl (fun d t=>oS d (Sum.inr t.key) (tP t)) []
theorem M6 (ts:List jH) (t:jH):G4 (ts++[t])=oS (G4 ts) (Sum.inr t.key) (tP t):=by unfold G4;rw[foldl_append];rfl
theorem xF {l:Let} {n:Str} (h:(el l)[j]? =some n):oV l (j+1)=oV l j++(if 0<j then [⟨n,l.day,l.name,(j:Int)⟩]else []):=by
 unfold oV;have e:(el l).zipIdx[j]? =some (n,j):=by rw[gx,h];simp
 rw[take_succ,e,toList_some,List.filterMap_append];congr 1;rw[filterMap_cons,show Z9 l (n,j)=if 0<j then some ⟨n,l.day,l.name,(j:Int)⟩else none from rfl]
 by_cases g:0<j
 .rw[aj g,aj g];rfl
 .rw[ai g,ai g];rfl
theorem wC (l:Let):oV l (el l).length=CM l:=by
 unfold oV CM;rw[eh (by rw[ja];exact bf _)]
theorem uY {f:α->List β} {xs:List α} {x:α} (h:xs[i]? =some x):(xs.take (i+1)).flatMap f=(xs.take i).flatMap f++f x:=by
 rw[take_succ,h,toList_some,List.flatMap_append];simp
theorem GL {f:α->List β} {k:Nat}:∀{xs:List α},(∀x∈xs,(f x).length<=k)->(xs.flatMap f).length<=k*xs.length
 |[],_=>by simp
 |x::xs,h=>by
  have:=GL (f:=f) (k:=k) (xs:=xs) fun y hy=>h y (ay _ hy)
  have:=h x ba;rw[List.flatMap_cons,bq,length_cons,Nat.mul_succ];omega
theorem NZ (l:Let):(el l).length<=l.row.length:=by
 unfold el HD;have:=List.length_filterMap_le (fun i=>(l.row[i]?).bind fun x=>if x≠l.name/\x∉l.row.drop (i+1)then some x else none) (List.range l.row.length);rw[cu]at this;exact this
theorem BB (l:Let) (j:Nat):(oV l j).length<=(el l).length:=by
 unfold oV;refine fj (List.length_filterMap_le _ _) ?_;rw[fx,ja];omega
theorem SA (l:Let):(CM l).length<=(el l).length:=by rw[<-wC];exact BB l _
noncomputable def lk (d:DD) (k:Key):List PV:=((d.find? fun kp=>decide (kp.1=k)).map (·.2)).getD []
theorem V3 (d:DD) (k k':Key) (p:PV):lk (oS d k p) k'=if k=k' then lk d k'++[p]else lk d k':=by
 unfold oS;cases c:d.any fun kp=>decide (kp.1=k)with
 | true=>
  rw[aj rfl];have key:∀d:DD,(d.map fun kp=>if kp.1=k then(kp.1,kp.2++[p])else kp).find? (fun kp=>decide (kp.1=k'))=(d.find? fun kp=>decide (kp.1=k')).map fun kp=>if kp.1=k then(kp.1,kp.2++[p])else kp:=by
   intro d
   induction d with
   |nil=>rfl
   |cons z d ih=>
    have e1:(if z.1=k then(z.1,z.2++[p])else z).1=z.1:=by split<;>rfl
    rw[cz,find?_cons,find?_cons,e1];cases decide (z.1=k')with
    |true=>rfl
    |false=>exact ih
  unfold lk;rw[key]
  by_cases hk:k=k'
  .subst hk;rw[aj rfl];cases f:d.find? fun kp=>decide (kp.1=k)with
   |none=>
    have:=gh.mp f;obtain⟨z,hz,e⟩:=ic.mp c;exact absurd e (by simpa using this z hz)
   |some z=>
    have hz:z.1=k:=by have:=find?_some f;simpa using this
    simp[hz]
  .rw[ai hk];cases f:d.find? fun kp=>decide (kp.1=k')with
   |none=>rfl
   |some z=>
    have hz:z.1=k':=by have:=find?_some f;simpa using this
    have:¬z.1=k:=fun e=>hk (e.symm.trans hz)
    simp[this]
 | false=>
  rw[ai au];unfold lk;rw[find?_append]
  by_cases hk:k=k'
  .subst hk;rw[aj rfl];have f:(d.find? fun kp=>decide (kp.1=k))=none:=gh.mpr fun z hz=>by
    have:=jk.mp c z hz;simpa using this
   rw[f];simp
  .rw[ai hk];have f:([(k,[p])]:DD).find? (fun kp=>decide (kp.1=k'))=none:=by simp[hk]
   rw[f,or_none]
theorem LF (ts:List jH) (x:Str):lk (G4 ts) (Sum.inr x)=(oB x ts).map tP:=by
 have key:∀(ts:List jH) (d:DD),lk (ts.foldl (fun d t=>oS d (Sum.inr t.key) (tP t)) d) (Sum.inr x)=lk d (Sum.inr x)++(oB x ts).map tP:=by
  intro ts
  induction ts with
  |nil=>intro d;simp[oB]
  |cons t ts ih=>
   intro d;rw[foldl_cons,ih,V3];unfold oB
   by_cases h:t.key=x
   .rw[aj (by rw[h]),List.filter_cons_of_pos (by simpa using h),cz,de];rfl
   .rw[ai (fun e=>h (Sum.inr.inj e)),List.filter_cons_of_neg (by simpa using h)]
 have:=key ts [];simpa [G4,lk]using this
theorem LO (d:DD) (k:Key):(cE (d.map fun kp=>(kp.1,PV.lst kp.2)) k).getD (.lst [])= .lst (lk d k):=by
 unfold cE lk
 induction d with
 |nil=>rfl
 |cons z d ih=>
  rw[cz,find?_cons,find?_cons];cases decide (z.1=k)with
  |true=>rfl
  |false=>exact ih
theorem Q2 (d:DD) (k:Key) (p:PV) {m:Nat} (h1:d.length<=m) (h2:∀kp∈d,kp.2.length<=m):(oS d k p).length<=m+1/\∀kp∈oS d k p,kp.2.length<=m+1:=by
 unfold oS;split
 .refine⟨by rw[ah];omega,fun kp hk=>?_⟩;obtain⟨z,hz,rfl⟩:=bp.mp hk;have:=h2 z hz;split
  .rw[bq];simp only[length_cons,length_nil];omega
  .omega
 .refine⟨by rw[bq];simp only[length_cons,length_nil];omega,fun kp hk=>?_⟩;rcases bj.mp hk with h|h
  .have:=h2 kp h;omega
  .rw[bu.mp h];simp
theorem O3 (ts:List jH):(G4 ts).length<=ts.length/\∀kp∈G4 ts,kp.2.length<=ts.length:=by
 have key:∀(ts:List jH) (d:DD) (m:Nat),d.length<=m->(∀kp∈d,kp.2.length<=m)->(ts.foldl (fun d t=>oS d (Sum.inr t.key) (tP t)) d).length<=m+ts.length/\∀kp∈ts.foldl (fun d t=>oS d (Sum.inr t.key) (tP t)) d,kp.2.length<=m+ts.length:=by
  intro ts
  induction ts with
  |nil=>intro d m h1 h2;exact⟨h1,h2⟩
  |cons t ts ih=>
   intro d m h1 h2;obtain⟨g1,g2⟩:=Q2 d (Sum.inr t.key) (tP t) h1 h2;have:=ih _ (m+1) g1 g2;rw[foldl_cons,length_cons];rw[show m+(ts.length+1)=m+1+ts.length by omega];exact this
 have:=key ts [] 0 (bf _) (fun _ h=>(nomatch h));rw[gw]at this;exact this
theorem yD {own:Str} {row:List Str}:∀k,k<=row.length->(HD own row k).Nodup/\∀x∈HD own row k,∃i,i<k/\row[i]? =some x/\x∉row.drop (i+1)
 |0,_=>⟨by unfold HD;simp,fun x h=>by unfold HD at h;simp at h⟩
 | k+1,hk=>by
  obtain⟨h1,h2⟩:=yD (own:=own) (row:=row) k (by omega);have hx:row[k]? =some row[k]:=ag (by omega);rw[wF hx];split
  .rename_i g;refine⟨nodup_append.mpr ⟨h1,by simp,fun u hu v hv e=>?_⟩,fun x h=>?_⟩
   .have hv':v=row[k]:=by simpa using hv
    obtain⟨i,i1,i2,i3⟩:=h2 u hu;refine i3 ?_;rw[e,hv'];have:row[k]? =(row.drop (i+1))[k - (i+1)]?:=by rw[getElem?_drop];congr 1;omega
    exact bh (this.symm.trans hx)
   .rcases bj.mp h with h|h
    .obtain⟨i,i1,i2,i3⟩:=h2 x h;exact⟨i,by omega,i2,i3⟩
    .have:x=row[k]:=by simpa using h
     exact⟨k,by omega,by rw[this];exact hx,by rw[this];exact g.2⟩
  .refine⟨by rw[dq];exact h1,fun x h=>?_⟩;rw[dq]at h;obtain⟨i,i1,i2,i3⟩:=h2 x h;exact⟨i,by omega,i2,i3⟩
theorem A3 (l:Let):(el l).Nodup:=(yD _ (bf _)).1
end
section
open PySem L2 Mr
theorem ZE (t:jH):o8 3 (tP t)=true:=rfl
theorem Y5 (l k:jH):(rA 3 (tP l) (tP k)).isSome=true:=by
 show(dO (rA 2) [PV.int l.day,PV.str l.name,PV.int l.at'] [PV.int k.day,PV.str k.name,PV.int k.at']).isSome=true;unfold dO;split
 .unfold dO;split
  .unfold dO;split
   .rfl
   .rfl
  .rfl
 .rfl
theorem GV (ls:List jH):dA 3 (ls.map tP)=true:=bg.mpr fun p hp=>by
 obtain⟨l,_,rfl⟩:=bp.mp hp;rw[bz];refine⟨ZE l,bg.mpr fun q hq=>?_⟩;obtain⟨k,_,rfl⟩:=bp.mp hq;exact Y5 l k
noncomputable abbrev S7 (ts:List jH):List PV:=tH 3 (ts.map tP)
theorem OT (hr:∀l∈qs,l.row.length<=9) (hl:qs.length<=100) (i:Nat):(((st qs).take i).flatMap CM).length<=900:=by
 have:=GL (f:=CM) (k:=9) (xs:=(st qs).take i) fun l h=>by
  have:=hr l (pI (dc h));have:=NZ l;have:=SA l;omega
 rw[fx]at this;have:=pC qs;omega
theorem zD (hr:∀l∈qs,l.row.length<=9) (hl:qs.length<=100) (q:Q (.bA ((G4 (jF qs)).map fun kp=>(kp.1,PV.lst kp.2)),[])):Wp (gY [.tup (qs.map lP)]) Q:=by
 unfold gY nS;walk_at "wp";refine mY hl ?_;walk_at "wp";refine A4 (fun i e d=>d=G4 (((st qs).take i).flatMap CM)/\∃v2 v3 v4,e=[some (Sl.val (PV.tup (qs.map lP))),none,v2,v3,v4]) ?_ ?_ ⟨rfl,_,_,_,rfl⟩
 .rintro i p e d hx ⟨rfl,v2,v3,v4,rfl⟩;rw[aq]at hx;obtain⟨l,hk,rfl⟩:=br.mp hx;have hrow:=hr l (pI (bh hk));have b1:=OT hr hl i;walk_at "wp";refine sH (l:=l) hrow ?_;walk_at "wp";refine A4 (fun j e d=>d=G4 (((st qs).take i).flatMap CM++oV l j)/\∃v3 v4,e=[some (Sl.val (PV.tup (qs.map lP))),none,some (Sl.val (lP l)),v3,v4]) ?_ ?_ ⟨by rw[show oV l 0=[]from rfl,dq],_,_,rfl⟩
  .rintro j p e d hx ⟨rfl,v3,v4,rfl⟩;rw[aq,gx,aq]at hx;cases hn:(el l)[j]? with
   |none=>rw[hn]at hx;cases hx
   | some n=>
    rw[hn]at hx;cases hx;have hs:=xF hn;have b2:=BB l j;have b3:=NZ l;have g:=O3 (((st qs).take i).flatMap CM++oV l j);rw[bq]at g;rw[show lP l=PV.tup [PV.str l.name,PV.int l.day,PV.str l.head,PV.tup (l.row.map PV.str)]from rfl];walk_at "wp";rw[hs,gw];refine⟨fun hj=>?_,fun hj=>?_⟩
    .have hj':0<j:=by omega
     refine⟨⟨by omega,bg.mpr fun kp hkp=>decide_eq_true (by have:=g.2 kp hkp;omega)⟩,?_,_,_,rfl⟩;rw[aj hj',<-de,M6];rfl
    .have hj':¬0<j:=by omega
     refine⟨?_,_,_,rfl⟩;rw[ai hj',dq]
  .rintro e d ⟨rfl,v3,v4,rfl⟩;walk_at "wp";rw[ja,ah,wC,uY hk];exact⟨rfl,_,_,_,rfl⟩
 .rintro e d ⟨rfl,v2,v3,v4,rfl⟩;rw[ah,dk];walk_at "wp";exact q
end
section
open PySem L2 Mr
theorem nZ {ks:List Str}:y∈iC ks x↔y∈ks\/ y=x:=by
 unfold iC;split
 .rename_i h;exact⟨.inl,fun z=>z.elim id fun e=>by rw[e];exact h⟩
 .rw[bj,bu]
theorem vU {xs:List Str}:y∈cW xs↔y∈xs:=by
 have key:∀(l k:List Str),y∈l.foldl iC k↔y∈k\/ y∈l:=by
  intro l
  induction l with
  |nil=>intro k;simp
  |cons x l ih=>
   intro k;rw[foldl_cons,ih,nZ,bw,or_assoc]
 have:=key xs [];simpa [cW]using this
theorem sI (xs:List Str):(cW xs).Nodup:=by
 have key:∀(l k:List Str),k.Nodup->(l.foldl iC k).Nodup:=by
  intro l
  induction l with
  |nil=>intro k h;exact h
  | cons x l ih=>
   intro k h;rw[foldl_cons];refine ih _ ?_;unfold iC;split
   .exact h
   .rename_i hx;refine nodup_append.mpr ⟨h,by simp,fun u hu v hv e=>?_⟩;have:v=x:=by simpa using hv
    rw[e,this]at hu;exact hx hu
 exact key xs [] nodup_nil
theorem NG (qs:List Let):(st qs).map (·.name)=cW (qs.map (·.name)):=by
 have key:∀(xs k:List Let),(xs.foldl mQ k).map (·.name)=(xs.map (·.name)).foldl iC (k.map (·.name)):=by
  intro xs
  induction xs with
  |nil=>intro k;rfl
  | cons x xs ih=>
   intro k;rw[foldl_cons,ih,cz,foldl_cons];congr 1;unfold mQ iC
   by_cases h:x.name∈k.map (·.name)
   .have:(k.any fun y=>decide (y.name=x.name))=true:=by
     obtain⟨y,hy,e⟩:=bp.mp h;exact ic.mpr ⟨y,hy,decide_eq_true e⟩
    rw[aj this,aj h]
   .have:¬(k.any fun y=>decide (y.name=x.name))=true:=fun z=>by
     obtain⟨y,hy,e⟩:=ic.mp z;exact h (bp.mpr ⟨y,hy,av e⟩)
    rw[ai this,ai h,cx];rfl
 exact key qs []
theorem ND (qs:List Let):((st qs).map (·.name)).Nodup:=by rw[NG];exact sI _
noncomputable def DF (ls:List Let):List (Key×PV):=ls.map fun l=>(Sum.inr l.name,PV.tup ((el l).map PV.str))
theorem P4 {l:Let} (h:l.name∉ls.map (·.name)):dZ (DF ls) (Sum.inr l.name) (PV.tup ((el l).map PV.str))=DF (ls++[l]):=by
 unfold dZ;have e:((DF ls).any fun kv=>decide (kv.1=Sum.inr l.name))=false:=by
  unfold DF;rw[any_map,jk];intro k hk;have:k.name≠l.name:=fun z=>h (bp.mpr ⟨k,hk,z⟩)
  simp[this]
 rw[e,ai au];unfold DF;rw[cx];rfl
theorem uD (ls:List Let) (x:Str):cE (DF ls) (Sum.inr x)=(ls.find? fun l=>decide (l.name=x)).map fun l=>PV.tup ((el l).map PV.str):=by
 unfold cE DF
 induction ls with
 |nil=>rfl
 | cons l ls ih=>
  rw[cz,find?_cons,find?_cons]
  by_cases h:l.name=x
  .subst h;simp
  .have h':¬(Sum.inr l.name:Key)=Sum.inr x:=fun z=>h (Sum.inr.inj z)
   rw[decide_eq_false h',decide_eq_false h];exact ih
theorem FW (hr:∀l∈qs,l.row.length<=9) (hl:qs.length<=100) (q:Q (.bA (DF (st qs)),[])):Wp (iK [.tup (qs.map lP)]) Q:=by
 unfold iK sC;walk_at "wp";refine mY hl ?_;walk_at "wp";have sl:=pC qs;refine⟨by omega,?_⟩;refine qG (fun i d e=>d=DF ((st qs).take i)/\∃s,e=[s]) ?_ ?_ ⟨rfl,_,rfl⟩
 .rintro i x e d hx ⟨rfl,s,rfl⟩;rw[aq]at hx;obtain⟨l,hk,rfl⟩:=br.mp hx;have hrow:=hr l (pI (bh hk));have ok:=sH (l:=l) (Q:=fun w=>w=(PV.tup ((el l).map PV.str),[])) hrow rfl;rw[show lP l=PV.tup [PV.str l.name,PV.int l.day,PV.str l.head,PV.tup (l.row.map PV.str)]from rfl]at ok⊢
  walk_at "wp";refine ok.mono fun w hw=>?_
  subst hw;walk_at "wp";refine⟨?_,_,rfl⟩;have nd:=ND qs;have hn:l.name∉((st qs).take i).map (·.name):=fun z=>by
   obtain⟨k,hk2,e⟩:=bp.mp z;obtain⟨j,hj⟩:=List.mem_iff_getElem?.mp hk2;rw[iz]at hj;have hji:j<i:=eu fun z=>by rw[ai z]at hj;cases hj
   rw[aj hji]at hj;have e1:((st qs).map (·.name))[j]? =some l.name:=by rw[aq,hj];simp[e]
   have e2:((st qs).map (·.name))[i]? =some l.name:=by rw[aq,hk];rfl
   have hlt:j<((st qs).map (·.name)).length:=(af.mp e1).1;have:=(getElem?_inj hlt nd).mp (e1.trans e2.symm);omega
  rw[P4 hn,take_succ,hk];rfl
 .rintro d e ⟨rfl,s,rfl⟩;rw[ah,dk];walk_at "wp";exact q
end
section
open PySem L2 Mr
theorem BI {v:PV} (h:cE held (Sum.inr x)=some v) (q:Q (.tup [v,.tup [.str (Str.ofString "hand")]],[])):Wp (cQ [.bA held,.bA rows,.bA claimed,.str x]) Q:=by
 unfold cQ lD;walk_at "wp";rw[h];walk_at "wp";exact⟨fun _=>q,fun z=>(by cases z)⟩
noncomputable def VB (ps:List PV):PV:=match ps.getLast? with
 |some p=>.tup [p,.tup [.str (Str.ofString "own")]]
 |none=>.tup [.bD,.tup [.str (Str.ofString "first")]]
theorem E5 {ps:List PV} (h:ps.getLast? =some p):p9 ps (-1)=some p:=by
 have hne:ps≠[]:=fun z=>by rw[z]at h;cases h
 have hl:0<ps.length:=List.length_pos_iff.mpr hne;rw[List.getLast?_eq_getElem?]at h;unfold p9;have e:wJ ps.length (-1)=some (ps.length - 1):=by
  unfold wJ;rw[ai (by decide),aj (by omega)];congr 1;omega
 rw[e];exact h
theorem DC {ps:List PV} (h:cE held (Sum.inr x)=none) (hr:cE rows (Sum.inr x)=some (.tup ps)) (q:Q (VB ps,[])):Wp (cQ [.bA held,.bA rows,.bA claimed,.str x]) Q:=by
 unfold cQ lD;walk_at "wp";rw[h,hr];refine⟨fun z=>(by cases z),fun _=>⟨fun _=>?_,fun z=>(by cases z)⟩⟩;walk_at "wp";cases e:ps.getLast? with
 |none=>
  have hn:ps=[]:=List.getLast?_eq_none_iff.mp e;subst hn;exact⟨fun z=>(by cases z),fun _=>q⟩
 |some p=>
  have hn:ps.isEmpty=false:=by cases ps with|nil=>cases e|cons a r=>rfl
  unfold VB at q;rw[e]at q;refine⟨fun _=>?_,fun z=>by rw[hn]at z;cases z⟩;rw[E5 e];walk_at "wp";exact q
theorem BQ {one:Str} {ts r:List PV} {e:PV} (h:cE held (Sum.inr x)=none) (hr:cE rows (Sum.inr x)=none) (hc:cE claimed (Sum.inr x)=some (.lst ts)) (h0:0<ts.length) (ok:dA 3 ts=true)
  (hm:C9 ts= .tup [.int d,.str one,.int at']) (ho:cE rows (Sum.inr one)=some (.tup r)) (he:p9 r (at' - 1)=some e) (q:Q (.tup [e,.tup [.str (Str.ofString "told"),.str one,.int at']],[])):Wp (cQ [.bA held,.bA rows,.bA claimed,.str x]) Q:=by
 unfold cQ lD;walk_at "wp";rw[h,hr,hc];refine⟨fun z=>(by cases z),fun _=>⟨fun z=>(by cases z),fun _=>⟨fun _=>?_,fun z=>(by cases z)⟩⟩⟩;walk_at "wp";rw[hm];refine⟨⟨h0,ok⟩,?_⟩;walk_at "wp";rw[ho];walk_at "wp";rw[he];walk_at "wp";exact q
end
section
open PySem L2 Mr
theorem zY (d:List (Key×PV)) (k k':Key) (v:PV):cE (dZ d k v) k'=if k=k' then some v else cE d k':=by
 unfold dZ;cases c:d.any fun kv=>decide (kv.1=k)with
 | true=>
  rw[aj rfl];have key:∀d:List (Key×PV),(d.map fun kv=>if kv.1=k then(kv.1,v)else kv).find? (fun kp=>decide (kp.1=k'))=(d.find? fun kp=>decide (kp.1=k')).map fun kv=>if kv.1=k then(kv.1,v)else kv:=by
   intro d
   induction d with
   |nil=>rfl
   |cons z d ih=>
    have e1:(if z.1=k then(z.1,v)else z).1=z.1:=by split<;>rfl
    rw[cz,find?_cons,find?_cons,e1];cases decide (z.1=k')with
    |true=>rfl
    |false=>exact ih
  unfold cE;rw[key]
  by_cases hk:k=k'
  .subst hk;rw[aj rfl];cases f:d.find? fun kp=>decide (kp.1=k)with
   |none=>
    have:=gh.mp f;obtain⟨z,hz,e⟩:=ic.mp c;exact absurd e (by simpa using this z hz)
   |some z=>
    have hz:z.1=k:=by have:=find?_some f;simpa using this
    simp[hz]
  .rw[ai hk];cases f:d.find? fun kp=>decide (kp.1=k')with
   |none=>rfl
   |some z=>
    have hz:z.1=k':=by have:=find?_some f;simpa using this
    have:¬z.1=k:=fun e=>hk (e.symm.trans hz)
    simp[this]
 | false=>
  rw[ai au];unfold cE;rw[find?_append]
  by_cases hk:k=k'
  .subst hk;rw[aj rfl];have f:(d.find? fun kp=>decide (kp.1=k))=none:=gh.mpr fun z hz=>by
    have:=jk.mp c z hz;simpa using this
   rw[f];simp
  .rw[ai hk];have f:([(k,v)]:List (Key×PV)).find? (fun kp=>decide (kp.1=k'))=none:=by simp[hk]
   rw[f,or_none]
noncomputable def heldOf (ks:Hl):List (Key×PV):=ks.foldl (fun d z=>dZ d (Sum.inr z.1) (oP z.2)) []
theorem yJ:∀(ks:Hl) (d:List (Key×PV)),(∀z∈ks,z.1≠x)->cE (ks.foldl (fun d z=>dZ d (Sum.inr z.1) (oP z.2)) d) (Sum.inr x)=cE d (Sum.inr x)
 |[],d,_=>rfl
 |z::ks,d,h=>by
  rw[foldl_cons,yJ ks _ fun y hy=>h y (ay _ hy),zY,ai fun e=>h z ba (Sum.inr.inj e)]
theorem JS (h:∀z∈ks,z.1≠x):cE (heldOf ks) (Sum.inr x)=none:=yJ ks [] h
theorem G1:∀(ks:Hl) (d:List (Key×PV)),(∀z∈ks,z.1=x->z.2=o)->(x,o)∈ks->cE (ks.foldl (fun d z=>dZ d (Sum.inr z.1) (oP z.2)) d) (Sum.inr x)=some (oP o)
 | z::ks,d,h,hm=>by
  rw[foldl_cons]
  by_cases hin:(x,o)∈ks
  .exact G1 ks _ (fun y hy=>h y (ay _ hy)) hin
  .have hz:z=(x,o):=((bw.mp hm).resolve_right hin).symm;rw[yJ ks _ fun y hy e=>hin (by have:=h y (ay _ hy) e;rw[<-e,<-this];exact hy),zY,hz,aj rfl]
theorem IM (h:∀z∈ks,z.1=x->z.2=o) (hm:(x,o)∈ks):cE (heldOf ks) (Sum.inr x)=some (oP o):=G1 ks [] h hm
end
section
open PySem L2 Mr
noncomputable def kR (ab:Hl) (x:Str):Option Str:=(ab.find? fun z=>decide (z.1=x)).bind (·.2)
theorem R9 (ab:Hl) (x:Str):(cE (sW ab) (Sum.inr x)).getD .bD=oP (kR ab x):=by
 unfold cE sW kR
 induction ab with
 |nil=>rfl
 | cons z ab ih=>
  rw[cz,find?_cons,find?_cons]
  by_cases h:z.1=x
  .have e1:decide ((Sum.inr z.1:Key)=Sum.inr x)=true:=decide_eq_true (by rw[h]);have e2:decide (z.1=x)=true:=decide_eq_true h;simp only[e1,e2];rfl
  .have e1:decide ((Sum.inr z.1:Key)=Sum.inr x)=false:=decide_eq_false fun e=>h (Sum.inr.inj e)
   have e2:decide (z.1=x)=false:=decide_eq_false h;simp only[e1,e2];exact ih
end
section
open PySem L2 Mr
noncomputable abbrev SQ (qs:List Let):List (Key×PV):=(G4 (jF qs)).map fun kp=>(kp.1,PV.lst kp.2)
noncomputable def gO (f:Str->PV) (ns:List Str):List (Key×PV):=ns.map fun x=>(Sum.inr x,f x)
theorem HC (h:x∉ns):dZ (gO f ns) (Sum.inr x) (f x)=gO f (ns++[x]):=by
 unfold dZ;have e:((gO f ns).any fun kv=>decide (kv.1=Sum.inr x))=false:=by
  unfold gO;rw[any_map,jk];intro z hz;simp only[Function.comp,ju];intro e;rw[Sum.inr.inj e]at hz;exact h hz
 rw[ai (by rw[e];exact au)];unfold gO;rw[cx];rfl
theorem DI (hr:∀l∈qs,l.row.length<=9) (hl:qs.length<=100) (hk:ks.length<=100) (hn:ns.Nodup) (hnl:ns.length<=200)
  (hc:∀x∈ns,∀R:PV×List PV->Prop,R (f x,[])->Wp (cQ [.bA (heldOf ks),.bA (DF (st qs)),.bA (SQ qs),.str x]) R) (q:Q (.bA (gO f ns),[])):Wp (mI [.tup (qs.map lP),.tup (mP ks),.tup (ns.map PV.str)]) Q:=by
 unfold mI rW;walk_at "wp";refine⟨by unfold mP;rw[ah];omega,?_⟩;refine qG (fun i d e=>d=heldOf (ks.take i)/\∃s t,e=[s,t]) ?_ ?_ ⟨rfl,_,_,rfl⟩
 .rintro i p e d hx ⟨rfl,s,t,rfl⟩;unfold mP at hx;rw[aq]at hx;obtain⟨z,hz,rfl⟩:=br.mp hx;walk_at "wp";refine⟨?_,_,_,rfl⟩;unfold heldOf;rw[take_succ,hz,toList_some,foldl_append];rfl
 .rintro d e ⟨rfl,s,t,rfl⟩;rw[show(mP ks).length=ks.length by unfold mP;rw[ah],dk];walk_at "wp";refine FW hr hl ?_;walk_at "wp";refine zD hr hl ?_;walk_at "wp";refine⟨by omega,?_⟩;refine qG (fun i d e=>d=gO f (ns.take i)/\∃s,e=[s,some (Sl.val (.bA (heldOf ks))),some (Sl.val (.bA (DF (st qs)))),some (Sl.val (.bA (SQ qs)))]) ?_ ?_ ⟨rfl,_,rfl⟩
  .rintro i p e d hx ⟨rfl,s,rfl⟩;rw[aq]at hx;obtain⟨x,hxe,rfl⟩:=br.mp hx;have hi:=(af.mp hxe).1;have nx:x∉ns.take i:=fun h=>by
    obtain⟨j,hj⟩:=iq h;rw[iz]at hj;split at hj
    .have:=(getElem?_inj (by omega) hn).mp (hj.trans hxe.symm);omega
    .cases hj
   walk_at "wp";refine hc x (bh hxe) _ ?_;walk_at "wp";exact⟨by rw[HC nx,fm,hxe];rfl,_,rfl⟩
  .rintro d e ⟨rfl,s,rfl⟩;rw[ah,dk];walk_at "wp";exact q
end
section
open PySem L2 Mr
structure Ch where
 e:Option Str
 r:PV
noncomputable def DL (ts:List jH):Option jH:=ts[argBest (vW (ts.map tP)) (ts.length - 1)]?
noncomputable def tW (qs:List Let) (t:jH):Option Str:=((st qs).find? fun l=>decide (l.name=t.name)).bind fun l=>(el l)[(t.at' - 1).toNat]?
noncomputable abbrev GB:PV:=.tup [.str (Str.ofString "hand")]
noncomputable abbrev XI:PV:=.tup [.str (Str.ofString "own")]
noncomputable abbrev wD:PV:=.tup [.str (Str.ofString "first")]
noncomputable def II (qs:List Let) (ks:Hl) (x:Str):Ch:=match ks.find? fun z=>decide (z.1=x)with
 |some z=>⟨z.2,GB⟩
 | none=>match(st qs).find? fun l=>decide (l.name=x)with
  |some l=>(match(el l).getLast? with
   |some y=>⟨some y,XI⟩
   |none=>⟨none,wD⟩)
  |none=>match DL (oB x (jF qs))with
   |some t=>⟨tW qs t,.tup [.str (Str.ofString "told"),.str t.name,.int t.at']⟩
   |none=>⟨none,wD⟩
noncomputable def wO (qs:List Let) (ks:Hl) (x:Str):PV:=.tup [oP (II qs ks x).e,(II qs ks x).r]
theorem z6 {l:Let} (h:t∈CM l):t.name=l.name/\t.day=l.day/\∃i:Nat,t.at'=(i:Int)/\0<i/\(el l)[i]? =some t.key:=by
 unfold CM at h;obtain⟨z,hz,e⟩:=jo.mp h;unfold Z9 at e;split at e
 .rename_i h0;cases e;obtain⟨i,hi⟩:=iq hz;rw[gx]at hi;cases c:(el l)[i]? with
  |none=>rw[c]at hi;cases hi
  |some y=>
   rw[c]at hi;cases hi;exact⟨rfl,rfl,0+i,rfl,h0,by rw[gw];exact c⟩
 .cases e
theorem sM (h:t∈oB x (jF qs)):t.key=x/\∃l∈st qs,t∈CM l:=by
 unfold oB at h;obtain⟨h1,h2⟩:=mem_filter.mp h;unfold jF at h1;obtain⟨l,hl,ht⟩:=df.mp h1;exact⟨av h2,l,hl,ht⟩
theorem uH {l:Let} (h:l∈st qs):(st qs).find? (fun k=>decide (k.name=l.name))=some l:=by
 have nd:=ND qs
 revert h nd
 generalize st qs=ls;intro h nd
 induction ls with
 |nil=>cases h
 | cons k ls ih=>
  rw[cz,fq]at nd;rw[find?_cons];rcases bw.mp h with rfl|h
  .rw[decide_eq_true rfl]
  .have hne:k.name≠l.name:=fun e=>nd.1 (bp.mpr ⟨l,h,e.symm⟩)
   rw[decide_eq_false hne];exact ih h nd.2
theorem x5 (h:ts≠[]):∃t∈ts,DL ts=some t/\C9 (ts.map tP)=tP t:=by
 have h0:0<ts.length:=List.length_pos_iff.mpr h;have hlt:argBest (vW (ts.map tP)) (ts.length - 1)<ts.length:=by have:=pS (vW (ts.map tP)) (ts.length - 1);omega
 refine⟨ts[argBest (vW (ts.map tP)) (ts.length - 1)],je hlt,ag hlt,?_⟩;unfold C9;rw[ah,az,aq,ag hlt];rfl
theorem VS (ts:List jH):∀kp∈G4 ts,kp.2≠[]:=by
 have key:∀(ts:List jH) (d:DD),(∀kp∈d,kp.2≠[])->∀kp∈ts.foldl (fun d t=>oS d (Sum.inr t.key) (tP t)) d,kp.2≠[]:=by
  intro ts
  induction ts with
  |nil=>intro d h;exact h
  | cons t ts ih=>
   intro d h;rw[foldl_cons];refine ih _ fun kp hkp=>?_
   unfold oS at hkp;split at hkp
   .obtain⟨k,hk,rfl⟩:=bp.mp hkp;split
    .simp
    .exact h k hk
   .rcases bj.mp hkp with h1|h1
    .exact h kp h1
    .rw[bu.mp h1];simp
 exact key ts [] (fun _ h=>nomatch h)
theorem P6 {qs:List Let} {x:Str} (h:oB x (jF qs)≠[]):cE (SQ qs) (Sum.inr x)=some (.lst ((oB x (jF qs)).map tP)):=by
 have v:=LO (G4 (jF qs)) (Sum.inr x);rw[LF]at v;cases c:cE (SQ qs) (Sum.inr x)with
 |none=>
  rw[c]at v;have e:=PV.lst.inj v;exact absurd (List.eq_nil_of_map_eq_nil e.symm) h
 |some p=>rw[c]at v;exact cw some v
theorem RM {qs:List Let} {x:Str} (h:oB x (jF qs)=[]):cE (SQ qs) (Sum.inr x)=none:=by
 have v:=LO (G4 (jF qs)) (Sum.inr x);rw[LF,h]at v;cases c:cE (SQ qs) (Sum.inr x)with
 |none=>rfl
 |some p=>
  rw[c]at v;have e:p= .lst []:=v;unfold cE SQ at c;obtain⟨kv,h1,h2⟩:=br.mp c;have h3:=jx h1;obtain⟨kp,h4,rfl⟩:=bp.mp h3;rw[e]at h2;exact absurd (PV.lst.inj h2) (VS _ kp h4)
theorem AE (h:cE held (Sum.inr x)=none) (hr:cE rows (Sum.inr x)=none) (hc:cE claimed (Sum.inr x)=none) (q:Q (.tup [.bD,wD],[])):Wp (cQ [.bA held,.bA rows,.bA claimed,.str x]) Q:=by
 unfold cQ lD;walk_at "wp";rw[h,hr,hc];refine⟨fun z=>(by cases z),fun _=>⟨fun z=>(by cases z),fun _=>⟨fun z=>(by cases z),fun _=>?_⟩⟩⟩;exact q
theorem DK {qs:List Let} {ks:Hl} {x:Str} {R:PV×List PV->Prop} (hk:(ks.map (·.1)).Nodup) (r:R (wO qs ks x,[])):Wp (cQ [.bA (heldOf ks),.bA (DF (st qs)),.bA (SQ qs),.str x]) R:=by
 unfold wO II at r;cases e1:ks.find? fun z=>decide (z.1=x)with
 | some z=>
  rw[e1]at r;have hz:=jx e1;have hzx:z.1=x:=av (by have:=find?_some e1;exact this);refine BI (IM (o:=z.2) (fun w hw ew=>?_) (by rw[<-hzx];exact hz)) r;have key:∀(l:Hl),(l.map (·.1)).Nodup->∀a∈l,∀b∈l,a.1=b.1->a=b:=by
   intro l
   induction l with
   |nil=>intro _ a ha;cases ha
   | cons c l ih=>
    intro hn a ha b hb hab;rw[cz,fq]at hn;rcases bw.mp ha with rfl|ha
    .rcases bw.mp hb with rfl|hb
     .rfl
     .exact absurd (bp.mpr ⟨b,hb,hab.symm⟩) hn.1
    .rcases bw.mp hb with e|hb
     .exact absurd (bp.mpr ⟨a,ha,by rw[hab,e]⟩) hn.1
     .exact ih hn.2 a ha b hb hab
  rw[key ks hk w hw z hz (ew.trans hzx.symm)]
 | none=>
  rw[e1]at r;have hnone:∀z∈ks,z.1≠x:=fun z hz e=>by
   have:=gh.mp e1 z hz;exact this (decide_eq_true e)
  have hh:=JS hnone;cases e2:(st qs).find? fun l=>decide (l.name=x)with
  |some l=>
   rw[e2]at r;refine DC (ps:=(el l).map PV.str) hh (by rw[uD,e2];rfl) ?_;unfold VB;rw[List.getLast?_map];dsimp only at r;cases e3:(el l).getLast? with
   |none=>rw[e3]at r;exact r
   |some y=>rw[e3]at r;exact r
  | none=>
   rw[e2]at r;have hrow:cE (DF (st qs)) (Sum.inr x)=none:=by rw[uD,e2];rfl
   by_cases hf:oB x (jF qs)=[]
   .refine AE hh hrow (RM hf) ?_;rw[hf]at r;exact r
   .obtain⟨t,ht,em,emP⟩:=x5 hf;rw[em]at r;obtain⟨hkey,l,hl,htl⟩:=sM ht;obtain⟨hn1,_,i,hi,hi0,hel⟩:=z6 htl;have hil:i<(el l).length:=(af.mp hel).1;have hfind:(st qs).find? (fun k=>decide (k.name=t.name))=some l:=by rw[hn1];exact uH hl
    have hat:(t.at' - 1).toNat=i - 1:=by rw[hi];omega
    have hpre:(el l)[i - 1]? =some (el l)[i - 1]:=ag (by omega);have hE:tW qs t=some (el l)[i - 1]:=by unfold tW;rw[hfind,hat];exact hpre
    dsimp only at r;rw[hE]at r;refine BQ (one:=t.name) (at':=t.at') (d:=t.day) (r:=(el l).map PV.str) (e:=.str (el l)[i - 1]) hh hrow (P6 hf) (by rw[ah];exact List.length_pos_iff.mpr hf) (GV _) emP (by rw[uD,hfind];rfl) ?_ r;rw[hi,show((i:Int) - 1)=((i - 1:Nat):Int) by omega];refine hB ?_;rw[aq,hpre];rfl
end
section
open PySem L2 Mr
theorem k6 {xs:List Str} (h:∀x∈xs,x∈ss):(cW xs).length<=ss.length:=nK (sI xs) fun x hx=>h x (vU.mp hx)
noncomputable def kT (ks:List Str):List (Key×PV):=ks.map fun x=>(Sum.inr x,PV.bl true)
theorem m9 (ks:List Str):(kT ks).length=ks.length:=by unfold kT;rw[ah]
theorem sE (ks:List Str) (x:Str):dZ (kT ks) (Sum.inr x) (.bl true)=kT (iC ks x):=by
 unfold dZ iC
 by_cases h:x∈ks
 .have e:((kT ks).any fun kv=>decide (kv.1=Sum.inr x))=true:=by
   unfold kT;rw[any_map,ic];exact⟨x,h,by simp⟩
  rw[e,aj rfl,aj h];unfold kT;rw[jc];refine ig fun y hy=>?_
  simp only[Function.comp_apply];split<;>rfl
 .have e:((kT ks).any fun kv=>decide (kv.1=Sum.inr x))=false:=by
   unfold kT;rw[any_map,jk];intro y hy;have:y≠x:=fun e=>h (e▸hy)
   simp[this]
  rw[e,ai au,ai h];unfold kT;rw[cx];rfl
theorem qF:∀ks:List Str,oY (kT ks)=some ks
 |[]=>rfl
 |x::ks=>by
  show bO (oY (kT ks)) (fun ss=>some (x::ss))=_;rw[qF ks];rfl
noncomputable def uK (l:Let):List Str:=l.name::el l
noncomputable def rR (z:Str×Option Str):List Str:=z.1::z.2.toList
theorem yT {f:α->List Str} {xs:List α} {x:α} (h:xs[i]? =some x):(xs.take (i+1)).flatMap f=(xs.take i).flatMap f++f x:=by
 rw[take_succ,h,toList_some,List.flatMap_append];simp
theorem QC {own:Str} {row:List Str} {k:Nat} (h:x∈HD own row k):x∈row:=by
 unfold HD at h;obtain⟨i,_,hi⟩:=jo.mp h;cases c:row[i]? with
 |none=>rw[c]at hi;cases hi
 |some y=>
  rw[c,bind_some]at hi;split at hi
  .cases hi;exact bh c
  .cases hi
def Good (ss:List Str) (qs:List Let) (hs:Hl):Prop:=(∀l∈qs,l.row.length<=9/\l.name∈ss/\∀x∈l.row,x∈ss)/\∀z∈hs,z.1∈ss/\∀y,z.2=some y->y∈ss
theorem nD (g:Good ss qs hs) {l:Let} (h:l∈st qs):∀x∈uK l,x∈ss:=fun x hx=>by
 obtain⟨_,h2,h3⟩:=g.1 l (pI h);rcases bw.mp hx with rfl|hx
 .exact h2
 .exact h3 x (QC hx)
theorem zZ (g:Good ss qs hs) {z:Str×Option Str} (h:z∈hs):∀x∈rR z,x∈ss:=fun x hx=>by
  obtain⟨h2,h3⟩:=g.2 z h;rcases bw.mp hx with rfl|hx
  .exact h2
  . cases e:z.2 with
    |none=>rw[e]at hx;cases hx
    | some y => rw[e]at hx;have:x=y:=by simpa using hx
                rw[this];exact h3 y e
noncomputable def iY (qs:List Let) (hs:Hl):List Str:=(st qs).flatMap uK++hs.flatMap rR
theorem IA (g:Good ss qs hs) (hl:qs.length<=100) (h60:ss.length<=62) (q:Q (.tup ((fG (cW (iY qs hs))).map PV.str),[])):Wp (oG [.tup (qs.map lP),.tup (mP hs)]) Q:=by
 unfold oG vE;walk_at "wp";refine mY hl ?_;walk_at "wp";refine cF (fun i e=>∃v3 v4 v5,e=[some (Sl.val (PV.tup (qs.map lP))),some (Sl.val (PV.tup (mP hs))),some (Sl.loc (PV.bA (kT (cW (((st qs).take i).flatMap uK))))),v3,v4,v5]) ?_ ?_ ⟨_,_,_,rfl⟩
 .rintro i p e hx ⟨v3,v4,v5,rfl⟩;rw[aq]at hx;obtain⟨l,hk,rfl⟩:=br.mp hx;have hm:=bh hk;have hrow:=(g.1 l (pI hm)).1;have sub:∀k,∀x∈((st qs).take k).flatMap uK,x∈ss:=fun k x hx=>by
   obtain⟨l',h1,h2⟩:=df.mp hx;exact nD g (dc h1) x h2
  have b1:=k6 (sub i);rw[show lP l=PV.tup [PV.str l.name,PV.int l.day,PV.str l.head,PV.tup (l.row.map PV.str)]from rfl];walk_at "wp";rw[sE,m9];refine⟨by omega,sH (l:=l) hrow ?_⟩;walk_at "wp";rw[<-gL];refine cF (fun j e=>∃v4,e=[some (Sl.val (PV.tup (qs.map lP))),some (Sl.val (PV.tup (mP hs))),some (Sl.loc (PV.bA (kT (cW (((st qs).take i).flatMap uK++l.name::(el l).take j))))),some (Sl.val (PV.tup [PV.str l.name,PV.int l.day,PV.str l.head,PV.tup (l.row.map PV.str)])),v4,v5]) ?_ ?_ ⟨_,rfl⟩
  .rintro j p e hx ⟨v4,rfl⟩;rw[aq]at hx;obtain⟨x,hk2,rfl⟩:=br.mp hx;walk_at "wp";rw[sE,m9,<-gL];refine⟨?_,some (.val (.str x)),?_⟩
   .have:=k6 (ss:=ss) (xs:=((st qs).take i).flatMap uK++l.name::(el l).take j) fun x hx=>by
     rcases bj.mp hx with z|z
     .exact sub i x z
     .refine nD g hm x ?_;rcases bw.mp z with z|z
      .exact bw.mpr (.inl z)
      .exact ay _ (dc z)
    omega
   .rw[take_succ,hk2,toList_some];simp only[de,cons_append]
  .rintro e ⟨v4,rfl⟩;rw[ah,dk];have ee:((st qs).take (i+1)).flatMap uK=((st qs).take i).flatMap uK++l.name::el l:=by rw[yT hk];rfl
   exact⟨_,_,_,by rw[ee]⟩
 .rintro e ⟨v3,v4,v5,rfl⟩;rw[ah,dk];walk_at "wp";refine cF (fun i e=>∃v3 v4 v5,e=[some (Sl.val (PV.tup (qs.map lP))),some (Sl.val (PV.tup (mP hs))),some (Sl.loc (PV.bA (kT (cW ((st qs).flatMap uK++(hs.take i).flatMap rR))))),v3,v4,v5]) ?_ ?_ ⟨v3,v4,v5,by rw[take_zero,List.flatMap_nil,dq]⟩
  .rintro i p e hx ⟨v3,v4,v5,rfl⟩;unfold mP at hx;rw[aq]at hx;obtain⟨z,hk,rfl⟩:=br.mp hx;have hm:=bh hk;have sub:∀x∈(st qs).flatMap uK++(hs.take i).flatMap rR,x∈ss:=fun x hx=>by
    rcases bj.mp hx with w|w
    .obtain⟨l',h1,h2⟩:=df.mp w;exact nD g h1 x h2
    .obtain⟨l',h1,h2⟩:=df.mp w;exact zZ g (dc h1) x h2
   have b1:=k6 sub;have hz:=(g.2 z hm).1;have b2:=k6 (ss:=ss) (xs:=((st qs).flatMap uK++(hs.take i).flatMap rR)++[z.1]) fun x hx=>by
    rcases bj.mp hx with w|w
    .exact sub x w
    .rw[bu.mp w];exact hz
   have es:=yT (f:=rR) hk;cases eo:z.2 with
   |none=>
    rw[show oP none=PV.bD from rfl];walk_at "wp";rw[sE,m9,<-gL];have ee:(st qs).flatMap uK++(hs.take (i+1)).flatMap rR=(st qs).flatMap uK++(hs.take i).flatMap rR++[z.1]:=by rw[es,show rR z=[z.1] by unfold rR;rw[eo];rfl,de]
    exact⟨by omega,_,_,_,by rw[ee]⟩
   | some y=>
    rw[show oP (some y)=PV.str y from rfl];walk_at "wp";rw[sE,sE,m9,m9,<-gL,<-gL];have ee:(st qs).flatMap uK++(hs.take (i+1)).flatMap rR=(st qs).flatMap uK++(hs.take i).flatMap rR++[z.1]++[y]:=by
     rw[es,show rR z=[z.1,y] by unfold rR;rw[eo];rfl];simp only[de,cons_append,List.nil_append]
    exact⟨by omega,by omega,_,_,_,by rw[ee]⟩
  .rintro e ⟨v3,v4,v5,rfl⟩;have b1:(cW (iY qs hs)).length<=ss.length:=k6 fun x hx=>by
    rcases bj.mp hx with w|w
    .obtain⟨l',h1,h2⟩:=df.mp w;exact nD g h1 x h2
    .obtain⟨l',h1,h2⟩:=df.mp w;exact zZ g h1 x h2
   rw[show(mP hs).length=hs.length by unfold mP;rw[ah],dk];rw[show(st qs).flatMap uK++hs.flatMap rR=iY qs hs from rfl];walk_at "wp";have eg:kA [.bA (kT (cW (iY qs hs)))]=some (.new (.lst ((fG (cW (iY qs hs))).map PV.str))):=by
    have e1:rS [.bA (kT (cW (iY qs hs)))]=some (.new (.lst ((fG (cW (iY qs hs))).map PV.str))):=by
     show bO (oY (kT (cW (iY qs hs)))) _=_;rw[qF,uA,decide_eq_true (show(cW (iY qs hs)).length<64 by omega)];rfl
    unfold kA;rw[e1];rfl
   rw[eg];walk_at "wp";exact q
end
section
open PySem L2 Mr
theorem zX {hs:Hl} {x:Str} (e:kR hs x=some y):x∈hs.map (·.1):=by
 unfold kR at e;cases e2:hs.find? fun z=>decide (z.1=x)with
 |none=>rw[e2]at e;cases e
 |some z=>
  have h1:=jx e2;have h2:=find?_some e2;exact bp.mpr ⟨z,h1,av h2⟩
theorem xH {ks:Hl} {o:Option Str} (hl:ks.length<=100) (q:∀b,(b=true↔∃y j,o=some y/\Rg.eO (kR ks) j y=some x)->Q (.bl b,[])):Wp (gA [.bA (sW ks),oP o,.str x]) Q:=by
 unfold gA lO;have kl:(sW ks).length=ks.length:=by unfold sW;rw[ah]
 walk_at "wp";refine⟨fQ (by omega) (by omega),?_⟩;refine cF (fun i e=>∃(v3:Option Sl),e=[some (Sl.bor (PV.bA (sW ks))),some (Sl.val (oP (o.bind (Rg.eO (kR ks) i)))),some (Sl.val (PV.str x)),v3]/\∀k,k<i->∃y,o.bind (Rg.eO (kR ks) k)=some y/\y≠x) ?_ ?_ ⟨none,by cases o<;>rfl,fun k h=>absurd h (Nat.not_lt_zero _)⟩
 .rintro i p e hx ⟨v3,rfl,hne⟩;cases e:o.bind (Rg.eO (kR ks) i)with
  | none=>
   rw[show oP none=PV.bD from rfl];walk_at "wp";refine q _ ⟨fun h=>(by cases h),fun⟨y,j,h1,h2⟩=>?_⟩;exfalso;subst h1
   by_cases hj:j<i
   .obtain⟨z,h3,h4⟩:=hne j hj;rw[show(some y).bind (Rg.eO (kR ks) j)=Rg.eO (kR ks) j y from rfl,h2]at h3;cases h3;exact h4 rfl
   .obtain⟨z,h3,_⟩:=Rg.pK h2 i (by omega);rw[show(some y).bind (Rg.eO (kR ks) i)=Rg.eO (kR ks) i y from rfl,h3]at e;cases e
  | some y=>
   rw[show oP (some y)=PV.str y from rfl];walk_at "wp";refine⟨fun h=>?_,fun h=>⟨some (Sl.val p),?_,fun k hk=>?_⟩⟩
   .have hy:=eq_of_beq h;subst hy;rw[fy];refine q _ ⟨fun _=>?_,fun _=>rfl⟩;cases o with
    |none=>cases e
    |some y0=>exact⟨y0,i,rfl,e⟩
   .have nx:o.bind (Rg.eO (kR ks) (i+1))=kR ks y:=by
     cases o with
     |none=>cases e
     |some y0=>
      have e:Rg.eO (kR ks) i y0=some y:=e;show Rg.eO (kR ks) (i+1) y0=_;rw[Rg.mM i 1,e];show(kR ks y).bind (Rg.eO (kR ks) 0)=_;cases kR ks y<;>rfl
    rw[nx,R9]
   .by_cases hki:k=i
    .rw[hki];exact⟨y,e,fun z=>by rw[z,fy]at h;cases h⟩
    .exact hne k (by omega)
 .rintro e ⟨v3,rfl,hne⟩;rw[ah,cu]at hne;walk_at "wp";refine q _ ⟨fun h=>(by cases h),fun⟨y,j,h1,h2⟩=>?_⟩;exfalso;subst h1;obtain⟨i,hi,h3⟩:=Rg.AV (K:=ks.map (·.1)) (fun z w h=>zX h) j h2;rw[ah]at hi;obtain⟨z,h4,h5⟩:=hne i (by omega);rw[show(some y).bind (Rg.eO (kR ks) i)=Rg.eO (kR ks) i y from rfl,h3]at h4;cases h4;exact h5 rfl
end
section
open PySem L2 Mr
def w8 (hs:Hl):Prop:=∀y,¬Rg.YF (kR hs) y
theorem w8.nil:w8 []:=fun y ⟨n,h⟩=>by cases h
theorem EX {hs:Hl} (hx:x∉hs.map (·.1)) (z:Str):kR (hs++[(x,o)]) z=if z=x then o else kR hs z:=by
 unfold kR;rw[find?_append]
 by_cases h:z=x
 .subst h;rw[aj rfl];have:hs.find? (fun w=>decide (w.1=z))=none:=gh.mpr fun w hw e=>hx (bp.mpr ⟨w,hw,av e⟩)
  rw[this,find?_cons,decide_eq_true rfl];rfl
 .rw[ai h];cases c:hs.find? fun w=>decide (w.1=z)with
  |some w=>rfl
  |none=>
   rw[find?_cons,decide_eq_false (fun e=>h e.symm)];rfl
theorem w8.add {hs:Hl} (h:w8 hs) {x:Str} (hx:x∉hs.map (·.1)) (hr:∀y,o=some y->∀j,Rg.eO (kR hs) j y≠some x):w8 (hs++[(x,o)]):=by
 have hn:kR hs x=none:=by
  cases e:kR hs x with
  |none=>rfl
  |some y=>exact absurd (zX e) hx
 exact Rg.MX (up:=kR hs) (fun z hz=>by rw[EX hx,ai hz]) hn h o (by rw[EX hx,aj rfl]) hr
theorem z5 {hs:Hl} (hn:(hs.map (·.1)).Nodup) (h:(x,o)∈hs):kR hs x=o:=by
 induction hs with
 |nil=>cases h
 | cons z hs ih=>
  rw[cz,fq]at hn;unfold kR;rw[find?_cons];rcases bw.mp h with e|h
  .rw[<-e,decide_eq_true rfl];rfl
  .have hne:z.1≠x:=fun e=>hn.1 (bp.mpr ⟨_,h,e.symm⟩)
   rw[decide_eq_false hne];exact ih hn.2 h
theorem OS {hs ks:Hl} (hn:(hs.map (·.1)).Nodup) (p:ks.Perm hs):kR ks=kR hs:=by
 funext x;have hn2:(ks.map (·.1)).Nodup:=(p.map _).nodup_iff.mpr hn
 by_cases hx:x∈hs.map (·.1)
 .obtain⟨z,hz,rfl⟩:=bp.mp hx;rw[z5 hn (o:=z.2) hz,z5 hn2 (o:=z.2) (p.mem_iff.mpr hz)]
 .have h1:kR hs x=none:=by cases e:kR hs x with|none=>rfl|some y=>exact absurd (zX e) hx
  have h2:kR ks x=none:=by cases e:kR ks x with|none=>rfl|some y=>exact absurd ((p.map _).mem_iff.mp (zX e)) hx
  rw[h1,h2]
theorem w8.perm (h:w8 hs) (hn:(hs.map (·.1)).Nodup) (p:ks.Perm hs):w8 ks:=by unfold w8;rw[OS hn p];exact h
theorem K1 {a b c many:Int} (h:Hand a b c n) (hs0:0<ss.length) (hs1:ss.length<=60) (m0:0<=many) (m1:many<=40) (hn:n<100000)
  (q:∀(hs:Hl) a' b' c',hs.length<=many.toNat->MOk ss hs->w8 hs->Hand a' b' c' (n+130)->Q (.tup (mP hs),[hd a' b' c'])):Wp (hW [hd a b c,.lst (ss.map PV.str),.int many]) Q:=by
 unfold hW nX;walk_at "wp";refine⟨fQ (by omega) (by omega),?_⟩;refine cF (fun i e=>∃(hs:Hl) (a b c:Int) (v4 v5 v6:Option Sl),hs.length<=i/\(MOk ss hs/\w8 hs)/\Hand a b c (n+3*i)/\e=[some (.own (hd a b c)),some (.bor (.lst (ss.map PV.str))),some (.val (.int many)),some (.loc (.bA (sW hs))),v4,v5,v6]) ?_ ?_ ⟨[],a,b,c,_,_,_,bf _,⟨⟨nodup_nil,fun _ h=>(nomatch h)⟩,w8.nil⟩,h,rfl⟩
 .rintro i x e hx ⟨hs,a,b,c,v4,v5,v6,hl,⟨ok,nr⟩,hp,rfl⟩;rw[aq]at hx;obtain⟨k,hk,rfl⟩:=br.mp hx;have hi:=(af.mp hk).1;rw[cu]at hi;walk_at "wp";refine cM hp (by omega) (by omega) (by omega) fun d a1 b1 c1 d0 d1 hp=>?_
  walk_at "wp";refine eG d0 (by rw[ah];exact d1) fun p hp'=>?_
  obtain⟨x,hx,rfl⟩:=bp.mp hp';clear d0 d1 hp';walk_at "wp";refine cM hp (by omega) (by omega) (by omega) fun d a1 b1 c1 d0 d1 hp=>?_
  walk_at "wp";refine eG d0 (by rw[ah];exact d1) fun p hp'=>?_
  obtain⟨y,hy,rfl⟩:=bp.mp hp';clear d0 d1 hp';walk_at "wp";refine cM hp (by omega) (by decide) (by decide) fun d a1 b1 c1 d0 d1 hp=>?_
  clear d0 d1;replace hp:=hp.mono (show _<=n+3*(i+1) by omega);walk_at "wp";have aK:∀p6:PV,∃(hs':Hl) (a b c:Int) (v4 v5 v6:Option Sl),hs'.length<=i+1/\(MOk ss hs'/\w8 hs')/\Hand a b c (n+3*(i+1))/\[some (Sl.own (hd a1 b1 c1)),some (Sl.bor (PV.lst (ss.map PV.str))),some (Sl.val (PV.int many)),some (Sl.loc (PV.bA (sW hs))),some (Sl.val (PV.int (0+(k:Int)))),some (Sl.val (PV.str x)),some (Sl.val p6)]=[some (.own (hd a b c)),some (.bor (.lst (ss.map PV.str))),some (.val (.int many)),some (.loc (.bA (sW hs'))),v4,v5,v6]:=fun p6=>
   ⟨hs,a1,b1,c1,_,_,_,by omega,⟨ok,nr⟩,hp,rfl⟩
  have put:∀o:Option Str,(∀y,o=some y->y∈ss)->(¬∃y j,o=some y/\Rg.eO (kR hs) j y=some x)->(!(cE (sW hs) (Sum.inr x)).isSome)=true->∃(hs':Hl) (a b c:Int) (v4 v5 v6:Option Sl),hs'.length<=i+1/\(MOk ss hs'/\w8 hs')/\Hand a b c (n+3*(i+1))/\[some (Sl.own (hd a1 b1 c1)),some (Sl.bor (PV.lst (ss.map PV.str))),some (Sl.val (PV.int many)),some (Sl.loc (PV.bA (dZ (sW hs) (Sum.inr x) (oP o)))),some (Sl.val (PV.int (0+(k:Int)))),some (Sl.val (PV.str x)),some (Sl.val (oP o))]=[some (.own (hd a b c)),some (.bor (.lst (ss.map PV.str))),some (.val (.int many)),some (.loc (.bA (sW hs'))),v4,v5,v6]:=fun o ho hcl g=>by
   have hxn:x∉hs.map (·.1):=by
    rcases QU hs x with⟨_,e⟩|⟨o,e,_⟩
    .exact e
    .rw[e]at g;cases g
   refine⟨hs++[(x,o)],a1,b1,c1,_,_,_,by rw[bq];simp;omega,⟨⟨?_,fun z hz=>?_⟩,nr.add hxn fun y hy j hj=>hcl ⟨y,j,hy,hj⟩⟩,hp,by rw[RZ hxn]⟩
   .rw[cx];refine nodup_append.mpr ⟨ok.nd,by simp,fun u hu v hv e=>?_⟩;have:v=x:=by simpa using hv
    rw[e,this]at hu;exact hxn hu
   .rcases bj.mp hz with g|g
    .exact ok.nm z g
    .rw[bu.mp g];exact⟨hx,ho⟩
  have hkl:(sW hs).length<1000000:=by unfold sW;rw[ah];omega
  refine⟨fun _=>⟨fun g=>xH (o:=none) (by omega) fun b hb=>?_,fun g=>aK _⟩,fun _=>⟨fun g=>xH (o:=some y) (by omega) fun b hb=>?_,fun g=>aK _⟩⟩
  .cases b with
   |true=>walk_at "wp";exact aK _
   |false=>walk_at "wp";exact⟨hkl,put none (fun y e=>by cases e) (fun h=>absurd (hb.mpr h) au) g⟩
  .cases b with
   |true=>walk_at "wp";exact aK _
   |false=>walk_at "wp";exact⟨hkl,put (some y) (fun z e=>by cases e;exact hy) (fun h=>absurd (hb.mpr h) au) g⟩
 .rintro e ⟨hs,a,b,c,v4,v5,v6,hl,⟨ok,nr⟩,hp,rfl⟩;rw[ah,cu]at hl hp;walk_at "wp";rw[JB,UK,U7 ok.nd];obtain⟨ks,k1,k2⟩:=P5 (dJ 3 (mP hs));rw[k2];have hk:(sW hs).length=hs.length:=by unfold sW;rw[ah]
  walk_at "wp";refine⟨by omega,q ks a b c (by rw[k1.length_eq];exact hl) ⟨(k1.map _).nodup_iff.mpr ok.nd,fun z hz=>ok.nm z (k1.mem_iff.mp hz)⟩ (nr.perm ok.nd k1) (hp.mono (by omega))⟩
end
section
open PySem L2 Mr
theorem lN (f:Str->PV) (ns:List Str) (x:Str):cE (gO f ns) (Sum.inr x)=if x∈ns then some (f x)else none:=by
 unfold cE gO
 induction ns with
 |nil=>rfl
 | cons y ns ih=>
  rw[cz,find?_cons]
  by_cases h:y=x
  .subst h;rw[decide_eq_true rfl,aj ba];rfl
  .rw[decide_eq_false (fun e=>h (Sum.inr.inj e))];rw[ih];have:(x∈y::ns)↔(x∈ns):=by simp[Ne.symm h]
   simp only[this]
theorem JH {g:Str->PV} (h:∀x∈ns,f x=g x):gO f ns=gO g ns:=ig fun x hx=>by rw[h x hx]
noncomputable def qC (f:Str->PV) (x:Str) (v:PV) (y:Str):PV:=if y=x then v else f y
theorem g9 (f:Str->PV) (ns:List Str) (x:Str) (v:PV):dZ (gO f ns) (Sum.inr x) v=gO (qC f x v) (iC ns x):=by
 unfold dZ iC
 by_cases h:x∈ns
 .have e:((gO f ns).any fun kv=>decide (kv.1=Sum.inr x))=true:=by
   unfold gO;rw[any_map,ic];exact⟨x,h,by simp⟩
  rw[e,aj rfl,aj h];unfold gO;rw[jc];refine ig fun y hy=>?_
  simp only[Function.comp_apply,qC]
  by_cases hyx:y=x
  .subst hyx;simp
  .rw[ai (by simpa using hyx),ai hyx]
 .have e:((gO f ns).any fun kv=>decide (kv.1=Sum.inr x))=false:=by
   unfold gO;rw[any_map,jk];intro y hy;have:y≠x:=fun e=>h (e▸hy)
   simp[this]
  rw[e,ai au,ai h];unfold gO;rw[cx];congr 1
  .refine ig fun y hy=>?_
   have:y≠x:=fun e=>h (e▸hy)
   unfold qC;rw[ai this]
  .simp[qC]
theorem fA (f:Str->PV) (ns:List Str):(gO f ns).length=ns.length:=by unfold gO;rw[ah]
theorem EW (h:ns.Nodup):(iC ns x).Nodup:=by
 unfold iC;split
 .exact h
 .rename_i hx;refine nodup_append.mpr ⟨h,by simp,fun a ha b hb e=>?_⟩;rw[bu.mp hb]at e;exact hx (e▸ha)
theorem L5 (f:Str->PV) (ns:List Str):((gO f ns).map fun kv=>wM kv.1)=ns.map PV.str:=by
 unfold gO;rw[jc];rfl
theorem KG {ks:Hl} (h:x∈ks.map (·.1)) (hn:(ks.map (·.1)).Nodup):(II qs ks x).e=kR ks x/\(II qs ks x).r=GB:=by
 unfold II kR;obtain⟨z,hz,rfl⟩:=bp.mp h;cases e:ks.find? fun w=>decide (w.1=z.1)with
 |none=>exact absurd (decide_eq_true rfl) (gh.mp e z hz)
 |some w=>exact⟨rfl,rfl⟩
theorem QJ (h:t∈oB x (jF qs)):∃l∈st qs,∃i:Nat,t.name=l.name/\t.day=l.day/\t.at'=(i:Int)/\0<i/\(el l)[i]? =some x/\∃y,(el l)[i - 1]? =some y/\tW qs t=some y:=by
 obtain⟨hkey,l,hl,htl⟩:=sM h;obtain⟨hn1,hd,i,hi,hi0,hel⟩:=z6 htl;have hil:i<(el l).length:=(af.mp hel).1;have hfind:(st qs).find? (fun k=>decide (k.name=t.name))=some l:=by rw[hn1];exact uH hl
 have hat:(t.at' - 1).toNat=i - 1:=by rw[hi];omega
 have hpre:(el l)[i - 1]? =some (el l)[i - 1]:=ag (by omega);exact⟨l,hl,i,hn1,hd,hi,hi0,by rw[<-hkey];exact hel,_,hpre,by unfold tW;rw[hfind,hat];exact hpre⟩
theorem MD (h:DL ts=some t):t∈ts:=bh h
theorem VU {l:Let} (h:x∈el l):x≠l.name:=by
 unfold el HD at h;obtain⟨i,_,hi⟩:=jo.mp h;cases c:l.row[i]? with
 |none=>rw[c]at hi;cases hi
 |some y=>
  rw[c,bind_some]at hi;split at hi
  .rename_i hh;cases hi;exact hh.1
  .cases hi
theorem JT {qs:List Let} {ks:Hl} {x:Str} (hk:(ks.map (·.1)).Nodup) (nr:w8 ks) (h:(II qs ks x).e=some y):y≠x/\y∈iY qs ks:=by
 unfold II at h;cases e1:ks.find? fun z=>decide (z.1=x)with
 | some z=>
  rw[e1]at h;have hz:=jx e1;have hzx:z.1=x:=av (by have:=find?_some e1;exact this);have h:z.2=some y:=h;refine⟨fun e=>nr x ⟨0,?_⟩,cp _ (df.mpr ⟨z,hz,?_⟩)⟩
  .have:kR ks x=some x:=by unfold kR;rw[e1,<-e];exact h
   unfold Rg.eO;rw[this];rfl
  .unfold rR;rw[h];simp
 | none=>
  rw[e1]at h;cases e2:(st qs).find? fun l=>decide (l.name=x)with
  | some l=>
   rw[e2]at h;have hl:=jx e2;have hlx:l.name=x:=av (by have:=find?_some e2;exact this);dsimp only at h;cases e3:(el l).getLast? with
   |none=>rw[e3]at h;cases h
   |some w=>
    rw[e3]at h;cases h;have hw:=List.mem_of_getLast? e3;exact⟨by rw[<-hlx];exact VU hw,il _ (df.mpr ⟨l,hl,ay _ hw⟩)⟩
  | none=>
   rw[e2]at h;dsimp only at h;cases e3:DL (oB x (jF qs))with
   |none=>rw[e3]at h;cases h
   |some t=>
    rw[e3]at h;obtain⟨l,hl,i,_,_,_,hi0,hx,w,hw,he⟩:=QJ (MD e3);have h:tW qs t=some y:=h;rw[he]at h;cases h;refine⟨fun e=>?_,il _ (df.mpr ⟨l,hl,ay _ (bh hw)⟩)⟩;rw[e]at hw;have:=(getElem?_inj (af.mp hw).1 (A3 l)).mp (hw.trans hx.symm);omega
end
section
open PySem L2 Mr
noncomputable abbrev O1 (qs:List Let) (ks:Hl) (x:Str):Option Str:=(II qs ks x).e
theorem find_none {p:α->Bool} {l:List α} (h:∀a∈l,p a=false):l.find? p=none:=gh.mpr fun a ha e=>by rw[h a ha]at e;cases e
theorem uF {l:Let} (h:t∈CM l):t.key∈el l:=by
 obtain⟨_,_,i,_,_,hi⟩:=z6 h;exact bh hi
theorem G3 (h:x∉iY qs ks):II qs ks x=⟨none,wD⟩:=by
 have h1:ks.find? (fun z=>decide (z.1=x))=none:=find_none fun z hz=>decide_eq_false fun e=>h (cp _ (df.mpr ⟨z,hz,by unfold rR;rw[e];exact ba⟩))
 have h2:(st qs).find? (fun l=>decide (l.name=x))=none:=find_none fun z hz=>decide_eq_false fun e=>h (il _ (df.mpr ⟨z,hz,by unfold uK;rw[e];exact ba⟩))
 have h3:oB x (jF qs)=[]:=List.eq_nil_iff_forall_not_mem.mpr fun t ht=>by
  obtain⟨hk,l,hl,htl⟩:=sM ht;exact h (il _ (df.mpr ⟨l,hl,by rw[<-hk];exact ay _ (uF htl)⟩))
 unfold II;rw[h1,h2,h3];rfl
theorem F7 {l:List α} (nd:l.Nodup) {x:α} (h:l[i]? =some x):x∉l.take i:=fun hx=>by
 obtain⟨j,hj⟩:=iq hx;rw[iz]at hj;split at hj
 .have:=(getElem?_inj (af.mp hj).1 nd).mp (hj.trans h.symm);omega
 .cases hj
theorem V5 (ks:List Str) (x:Str):(cE (kT ks) (Sum.inr x)).isSome=decide (x∈ks):=by
 have:kT ks=gO (fun _=>.bl true) ks:=rfl;rw[this,lN]
 by_cases h:x∈ks
 .rw[aj h,decide_eq_true h];rfl
 .rw[ai h,decide_eq_false h];rfl
theorem QM (f:Str->PV) (ks:List Str) (x:Str):(cE (gO f ks) (Sum.inr x)).isSome=decide (x∈ks):=by
 rw[lN]
 by_cases h:x∈ks
 .rw[aj h,decide_eq_true h];rfl
 .rw[ai h,decide_eq_false h];rfl
end
section
open PySem L2 Mr
noncomputable abbrev IX (qs:List Let) (ks:Hl):List Str:=fG (cW (iY qs ks))
theorem uV (qs:List Let) (ks:Hl) (x:Str):x∈IX qs ks↔x∈iY qs ks:=(qZ _).mem_iff.trans vU
theorem NQ (qs:List Let) (ks:Hl):(IX qs ks).Nodup:=(qZ _).nodup_iff.mpr (sI _)
theorem LB (g:Good ss qs ks):∀x∈iY qs ks,x∈ss:=fun x hx=>by
 rcases bj.mp hx with w|w
 .obtain⟨l',h1,h2⟩:=df.mp w;exact nD g h1 x h2
 .obtain⟨l',h1,h2⟩:=df.mp w;exact zZ g h1 x h2
theorem EL (g:Good ss qs ks):(IX qs ks).length<=ss.length:=nK (NQ qs ks) fun x hx=>LB g x ((uV qs ks x).mp hx)
end
section
open PySem L2 Mr
noncomputable abbrev eD (E:Str->Option Str) (ns:List Str):List (Key×PV):=gO (fun x=>oP (E x)) ns
theorem VW (E:Str->Option Str) (h:∀z,z∉L->E z=none) (x:Str):(cE (eD E L) (Sum.inr x)).getD .bD=oP (E x):=by
 rw[lN]
 by_cases hx:x∈L
 .rw[aj hx];rfl
 .rw[ai hx,h x hx];rfl
noncomputable def YZ:En->Nat
 |[_,_,some (.loc (.bA kvs))]=>kvs.length
 |_=>0
structure Clb (E:Str->Option Str) (x:Str) (l:List Str) (e:Option Str):Prop where
 path:Rg.Path E l e
 nd:l.Nodup
 hd:l.head? =some x
 back:∀y,e=some y->y∈l
theorem DA {E:Str->Option Str} (hL:L.length<=100) (hx:x∈L) (hE:∀z,z∉L->E z=none) (hcl:∀x y,E x=some y->y∈L) (q:∀l e,Clb E x l e->(∀y∈l,y∈L)->Q (.lst (l.map PV.str),[])):Wp (lY [.bA (eD E L),.str x]) Q:=by
 unfold lY rZ;walk_at "wp";refine qU (fun e=>∃(l:List Str) (nm:Option Str),Rg.Path E l nm/\l.Nodup/\(l=[]->nm=some x)/\(l≠[]->l.head? =some x)/\(∀y∈l,y∈L)/\(∀y,nm=some y->y∈L)/\e=[some (Sl.bor (.bA (eD E L))),some (Sl.val (oP nm)),some (Sl.loc (.bA (kT l)))]) (fun e=>L.length - YZ e) ?_ ?_ ⟨[],some x,trivial,nodup_nil,fun _=>rfl,fun h=>absurd rfl h,fun _ h=>(nomatch h),fun y e=>by cases e;exact hx,rfl⟩
 .rintro e ⟨l,nm,pa,nd,h0,hh,sub,hnm,rfl⟩;have ll:=nK nd sub;cases nm with
  |none=>
   have hne:l≠[]:=fun h=>by have:=h0 h;cases this
   rw[show oP none=PV.bD from rfl];walk_at "wp";rw[qF];walk_at "wp";exact q l none ⟨pa,nd,hh hne,fun _ h=>(nomatch h)⟩ sub
  | some y=>
   rw[show oP (some y)=PV.str y from rfl];walk_at "wp";rw[V5]
   by_cases hy:y∈l
   .rw[decide_eq_true hy];have hne:l≠[]:=fun h=>by rw[h]at hy;cases hy
    walk_at "wp";rw[qF];walk_at "wp";exact q l (some y) ⟨pa,nd,hh hne,fun z e=>by cases e;exact hy⟩ sub
   .rw[decide_eq_false hy];walk_at "wp";have pt:dZ (kT l) (Sum.inr y) (.bl true)=kT (l++[y]):=by rw[sE];unfold iC;rw[ai hy]
    have nd':(l++[y]).Nodup:=nodup_append.mpr ⟨nd,by simp,fun a ha b hb e=>by rw[bu.mp hb]at e;exact hy (e▸ha)⟩;have sub':∀z∈l++[y],z∈L:=fun z hz=>(bj.mp hz).elim (sub z) fun h=>by rw[bu.mp h];exact hnm y rfl
    have ll':=nK nd' sub';rw[bq,length_singleton]at ll';rw[VW E hE,m9,pt];refine⟨by omega,⟨l++[y],E y,pa.snoc rfl,nd',fun h=>absurd h (by simp),fun _=>?_,sub',fun z e=>hcl y z e,rfl⟩,?_⟩
    .cases l with
     |nil=>have:=h0 rfl;cases this;rfl
     |cons a l=>exact hh (by simp)
    .show L.length - (kT (l++[y])).length<L.length - (kT l).length;rw[m9,m9,bq,length_singleton];omega
 .show L.length - 0<1000;omega
theorem O5 (h:x∉iY qs ks):O1 qs ks x=none:=by unfold O1;rw[G3 h]
end
section
open PySem L2 Mr
theorem KZ (d:List (Key×PV)) (k:Key) (v:PV):(dZ d k v).length<=d.length+1:=by
 unfold dZ;split
 .rw[ah];omega
 .rw[bq];exact bf _
noncomputable def n6 (qs:List Let) (ks:Hl):List Str:=(st qs).map (·.name)++ks.map (·.1)
theorem wR {qs:List Let} (g:Good ss qs ks) (hss:ss.length<=60) (hl:qs.length<=100) (hk:ks.length<=100) (hkn:(ks.map (·.1)).Nodup) (nr:w8 ks) (hx:x∈iY qs ks)
  (q:∀l e,Clb (O1 qs ks) x l e->(∀y∈l,y∈iY qs ks)->Q (oP (l.find? fun y=>!decide (y∈n6 qs ks)),[])):Wp (fZ [.tup (qs.map lP),.tup (mP ks),.tup ((IX qs ks).map PV.str),.str x]) Q:=by
 have nl:=EL g;unfold fZ mG;walk_at "wp";refine DI (fun l h=>(g.1 l h).1) hl hk (NQ qs ks) (by omega) (fun x hx R r=>DK hkn r) ?_;walk_at "wp";refine FW (fun l h=>(g.1 l h).1) hl ?_;walk_at "wp";have sl:=pC qs;refine cF (fun i e=>∃(d:List (Key×PV)) (v6 v7 v8:Option Sl),d.length<=(st qs).length+i/\(∀y,(cE d (Sum.inr y)).isSome=decide (y∈(st qs).map (·.name)++(ks.take i).map (·.1)))/\e=[some (Sl.val (.tup (qs.map lP))),some (Sl.val (.tup (mP ks))),some (Sl.val (.tup ((IX qs ks).map PV.str))),some (Sl.val (.str x)),some (Sl.val (.bA (gO (wO qs ks) (IX qs ks)))),some (Sl.loc (.bA d)),v6,v7,v8]) ?_ ?_ ⟨DF (st qs),_,_,_,by unfold DF;rw[ah];exact bf _,fun y=>?_,rfl⟩
 .rintro i p e hp ⟨d,v6,v7,v8,hd,hv,rfl⟩;unfold mP at hp;rw[aq]at hp;obtain⟨z,hz,rfl⟩:=br.mp hp;have hi:=(af.mp hz).1;have hp1:=KZ d (Sum.inr z.1) (.tup []);walk_at "wp";refine⟨by omega,_,_,_,_,by omega,fun y=>?_,rfl⟩;rw[zY,fm,hz,cx]
  by_cases h:(Sum.inr z.1:Key)=Sum.inr y
  .have h':=Sum.inr.inj h;rw[aj h,<-h',decide_eq_true (by simp)];rfl
  .have h':¬y=z.1:=fun e=>h (by rw[e])
   rw[ai h,hv];congr 1;simp[h']
 .rintro e ⟨d,v6,v7,v8,hd,hv,rfl⟩;rw[show(mP ks).length=ks.length by unfold mP;rw[ah],dk]at hv;walk_at "wp";rw[L5];refine⟨by rw[fA];omega,?_⟩;refine qG (fun i d e=>d=eD (O1 qs ks) ((IX qs ks).take i)/\∃s,e=[s,some (Sl.val (.bA (gO (wO qs ks) (IX qs ks))))]) ?_ ?_ ⟨rfl,_,rfl⟩
  .rintro i p e d hx ⟨rfl,s,rfl⟩;rw[aq]at hx;obtain⟨y,hy,rfl⟩:=br.mp hx;walk_at "wp";rw[lN,aj (bh hy)];unfold wO;walk_at "wp";refine⟨?_,_,rfl⟩;rw[show dZ (eD (O1 qs ks) ((IX qs ks).take i)) (Sum.inr y) (oP (O1 qs ks y))=eD (O1 qs ks) ((IX qs ks).take i++[y])from HC (F7 (NQ qs ks) hy),fm,hy];rfl
  .rintro d' e ⟨rfl,s,rfl⟩;rw[ah,dk];walk_at "wp";refine DA (by omega) ((uV qs ks x).mpr hx) (fun z hz=>O5 fun h=>hz ((uV qs ks z).mpr h)) (fun a b h=>(uV qs ks b).mpr (JT hkn nr h).2) fun l e cb sub=>?_
   walk_at "wp";have qq:=q l e cb fun y hy=>(uV qs ks y).mp (sub y hy)
   refine cF (fun i e=>(∀y∈l.take i,y∈n6 qs ks)/\∃(v8:Option Sl),e=[some (Sl.val (.tup (qs.map lP))),some (Sl.val (.tup (mP ks))),some (Sl.val (.tup ((IX qs ks).map PV.str))),some (Sl.val (.str x)),some (Sl.val (.bA (gO (wO qs ks) (IX qs ks)))),some (Sl.loc (.bA d)),v6,v7,v8]) ?_ ?_ ⟨fun y h=>by simp at h,_,rfl⟩
   .rintro i p e hp ⟨hf,v8,rfl⟩;rw[aq]at hp;obtain⟨y,hy,rfl⟩:=br.mp hp;walk_at "wp";rw[hv]
    by_cases h:y∈n6 qs ks
    .rw[show decide (y∈(st qs).map (·.name)++ks.map (·.1))=true from decide_eq_true h];walk_at "wp";refine⟨fun h=>h.elim,fun z hz=>?_,_,rfl⟩;rw[fm,hy]at hz;rcases bj.mp hz with hz|hz
     .exact hf z hz
     .have:z=y:=by simpa using hz
      rw[this];exact h
    .rw[show decide (y∈(st qs).map (·.name)++ks.map (·.1))=false from decide_eq_false h];walk_at "wp";have e:l.find? (fun y=>!decide (y∈n6 qs ks))=some y:=by
      have hlt:=(af.mp hy).1;have e1:l=l.take i++y::l.drop (i+1):=by
       rw[<-(af.mp hy).2,List.getElem_cons_drop,dz]
      rw[e1,find?_append,gh.mpr fun z hz=>by simp[hf z hz],none_or,find?_cons,decide_eq_false h];rfl
     rw[e]at qq;exact⟨qq,fun h=>h.elim⟩
   .rintro e ⟨hf,v8,rfl⟩;rw[ah,dk]at hf;walk_at "wp";rw[gh.mpr fun z hz=>by simp[hf z hz]]at qq;exact qq
 .rw[uD,take_zero,map_nil,dq,isSome_map]
  by_cases h:y∈(st qs).map (·.name)
  .rw[decide_eq_true h];obtain⟨z,hz,rfl⟩:=bp.mp h;cases c:(st qs).find? fun l=>decide (l.name=z.name)with
   |none=>exact absurd (decide_eq_true rfl) (gh.mp c z hz)
   |some w=>rfl
  .rw[decide_eq_false h,gh.mpr fun z hz e=>h (bp.mpr ⟨z,hz,av e⟩)];rfl
theorem EG {ns:List Str} (hn:ns.length<=61) (q:∀k,k<64->sN k∉ns->Q (.str (sN k),[])):Wp (eK [.tup (ns.map PV.str)]) Q:=by
 obtain⟨k0,hk0,hf⟩:=G6 (ss:=ns) (by omega);have hk0:=jy.mp hk0;have ok8:(ns.map PV.str).all (gX 8)=true:=fI ns 8;unfold eK iV;walk_at "wp";refine qU (fun e=>∃n:Nat,n<=k0/\e=[some (Sl.val (.tup (ns.map PV.str))),some (Sl.val (.int (0+(n:Int))))]) (fun e=>match e with|[_,some (.val (.int i))]=>100 - i.toNat|_=>0) ?_ ?_ ⟨0,dj _,rfl⟩
 .rintro e ⟨n,hn',rfl⟩;walk_at "wp";refine⟨oO (by omega),ok8,?_⟩;rw[oI]
  by_cases h:sN n∈ns
  .rw[show decide (Str.ofString (toString (0+(n:Int)))∈ns)=true from decide_eq_true h];have hne:n≠k0:=fun e=>hf (e▸h)
   walk_at "wp";refine⟨⟨n+1,by omega,?_⟩,?_⟩
   .rw[show(0+(n:Int)+1)=0+((n+1:Nat):Int) by omega]
   .show 100 - (0+(n:Int)+1).toNat<100 - (0+(n:Int)).toNat;omega
  .rw[show decide (Str.ofString (toString (0+(n:Int)))∈ns)=false from decide_eq_false h];walk_at "wp";exact⟨oO (by omega),q n (by omega) h⟩
 .show 100 - (0:Int).toNat<1000
  decide
end
section
open PySem L2 Mr
noncomputable abbrev j7:PV:=.tup [.bD,wD]
noncomputable def c4 (t:jH) (y:Str):PV:=.tup [.int t.day,.str t.name,.int t.at',.str y]
theorem ZR {t u:jH} {z:Str} (h:t.name≠u.name):fY (code 3 (c4 t y)) (code 3 (c4 u z))=fY (code 3 (tP t)) (code 3 (tP u)):=by
 have hn:t.name.cps.toList≠u.name.cps.toList:=fun e=>h (by cases ht:t.name;cases hu:u.name;rw[ht,hu]at e;congr 1;exact toList_inj.mp e)
 have key:∀(r r':List Int),fY (1::t.day::1::(t.name.cps.toList.map (fun c:Nat=>(c:Int)+1)++[0]++r)) (1::u.day::1::(u.name.cps.toList.map (fun c:Nat=>(c:Int)+1)++[0]++r'))=if t.day=u.day then decide (t.name.cps.toList<u.name.cps.toList)else decide (t.day<u.day):=by
  intro r r';rw[dY,aj rfl,dY]
  by_cases hd:t.day=u.day
  .rw[aj hd,aj hd,dY,aj rfl,yU,ai hn]
  .rw[ai hd,ai hd]
 have e4:∀(t:jH) (y:Str),code 3 (c4 t y)=1::t.day::1::(t.name.cps.toList.map (fun c:Nat=>(c:Int)+1)++[0]++(1::t.at'::1::(y.cps.toList.map (fun c:Nat=>(c:Int)+1)++[0]++[0]))):=fun t y=>by
  unfold c4 Mr.code;simp[Mr.code]
 have e3:∀(t:jH),code 3 (tP t)=1::t.day::1::(t.name.cps.toList.map (fun c:Nat=>(c:Int)+1)++[0]++(1::t.at'::[0])):=fun t=>by
  unfold tP Mr.code;simp[Mr.code]
 rw[e4,e4,e3,e3,key,key]
theorem M4 (t u:jH) (y z:Str):dA 3 [c4 t y,c4 u z]=true:=by
 have pl:∀(t:jH) (y:Str),o8 3 (c4 t y)=true:=fun _ _=>rfl
 have lt:∀(t u:jH) (y z:Str),(rA 3 (c4 t y) (c4 u z)).isSome=true:=fun t u y z=>by
  unfold c4 rA dO;split
  .unfold dO;split
   .unfold dO;split
    .unfold dO;split
     .rfl
     .rfl
    .rfl
   .rfl
  .rfl
 simp only[dA,all_cons,all_nil,pl,lt,Bool.and_self]
def TF (ts:List jH) (x:Str) (t:jH):Prop:=t∈oB x ts/\∀u∈oB x ts,oH 3 (tP t) (tP u)=true
structure TI (qs:List Let) (ts:List jH) (G:Str->PV) (M:List Str):Prop where
 nd:M.Nodup
 mem:∀x,x∈M↔oB x ts≠[]
 val:∀x∈M,∃t y,TF ts x t/\tW qs t=some y/\G x=c4 t y
theorem vV (x:Str) (ts:List jH) (t:jH):oB x (ts++[t])=oB x ts++if t.key=x then [t]else []:=by
 unfold oB;rw[List.filter_append];congr 1;rw[List.filter_cons]
 by_cases h:t.key=x
 .rw[decide_eq_true h,aj rfl,aj h];rfl
 .rw[decide_eq_false h,ai au,ai h];rfl
theorem BU (p:PV):oH 3 p p=true:=by
 have:=sA (n:=3) p p;rw[Bool.or_self]at this;exact this
theorem TI.same {G:Str->PV} {M:List Str} (h:TI qs ts G M) {G':Str->PV} {M':List Str} {t:jH} {v:PV} (hy:tW qs t=some y) (hu:∀u∈oB t.key ts,u.name≠t.name)
  (hG:G'=qC G t.key v) (hM:M'=iC M t.key) (hv:v=if t.key∈M then(if fY (code 3 (c4 t y)) (code 3 (G t.key))=true then c4 t y else G t.key)else c4 t y):TI qs (ts++[t]) G' M':=by
 subst hG hM;refine⟨EW h.nd,fun x=>?_,fun x hx=>?_⟩
 .rw[nZ,vV,h.mem]
  by_cases e:t.key=x
  .rw[aj e];simp[e]
  .rw[ai e,dq];simp[Ne.symm e]
 .by_cases e:x=t.key
  .subst e;have hx':oB t.key (ts++[t])=oB t.key ts++[t]:=by rw[vV,aj rfl]
   have hval:qC G t.key v t.key=v:=by unfold qC;rw[aj rfl]
   rw[hval]
   by_cases hm:t.key∈M
   .obtain⟨t0,y0,m0,e0,g0⟩:=h.val _ hm;rw[aj hm,g0,ZR (hu t0 m0.1).symm]at hv
    by_cases hl:fY (code 3 (tP t)) (code 3 (tP t0))=true
    .rw[aj hl]at hv;have hle:oH 3 (tP t) (tP t0)=true:=by
      rcases or_eq_true _ _|>.mp (sA (n:=3) (tP t) (tP t0))with h|h
      .exact h
      .unfold oH at h;rw[hl]at h;cases h
     refine⟨t,y,⟨by rw[hx'];simp,fun u hu=>?_⟩,hy,hv⟩;rw[hx']at hu;rcases bj.mp hu with hu|hu
     .exact rY _ _ _ hle (m0.2 u hu)
     .rw[bu.mp hu];exact BU _
    .rw[ai hl]at hv;refine⟨t0,y0,⟨by rw[hx'];exact il _ m0.1,fun u hu=>?_⟩,e0,hv⟩;rw[hx']at hu;rcases bj.mp hu with hu|hu
     .exact m0.2 u hu
     .rw[bu.mp hu];unfold oH;rw[not_eq_true]at hl;rw[hl];rfl
   .rw[ai hm]at hv;have h0:oB t.key ts=[]:=eu fun c=>hm ((h.mem _).mpr c)
    refine⟨t,y,⟨by rw[hx'];simp,fun u hu=>?_⟩,hy,hv⟩;rw[hx',h0]at hu;rw[bu.mp hu];exact BU _
  .have hxM:x∈M:=(nZ.mp hx).resolve_right e;obtain⟨t0,y0,m0,e0,g0⟩:=h.val x hxM;have hx':oB x (ts++[t])=oB x ts:=by rw[vV,ai (Ne.symm e),dq]
   refine⟨t0,y0,⟨by rw[hx'];exact m0.1,by rw[hx'];exact m0.2⟩,e0,?_⟩;unfold qC;rw[ai e];exact g0
theorem OU {qs:List Let} {x:Str} {t:jH} (h:TF (jF qs) x t):DL (oB x (jF qs))=some t:=by
 obtain⟨t0,h0,e0,eP⟩:=x5 (ts:=oB x (jF qs)) (fun e=>by have:=h.1;rw[e]at this;cases this);rw[e0];have h1:oH 3 (tP t0) (tP t)=true:=by rw[<-eP];exact DQ (bp.mpr ⟨t,h.1,rfl⟩)
 have h2:=h.2 t0 h0;have:=vZ (GV (oB x (jF qs))) (bp.mpr ⟨t0,h0,rfl⟩) (bp.mpr ⟨t,h.1,rfl⟩) h1 h2;have hk:=(sM h0).1.trans (sM h.1).1.symm;have e1:t0=t:=by
  cases t0;cases t
  simp only[tP,PV.tup.injEq,List.cons.injEq,PV.int.injEq,PV.str.injEq,and_true]at this;simp only at hk;obtain⟨a,b,c⟩:=this;subst a b c hk;rfl
 rw[e1]
noncomputable def v2 (qs:List Let) (x:Str):PV:=match DL (oB x (jF qs))with
 |some t=>.tup [oP (tW qs t),.tup [.str (Str.ofString "told"),.str t.name,.int t.at']]
 |none=>j7
noncomputable def v3 (qs:List Let) (x:Str):PV:=match(st qs).find? fun l=>decide (l.name=x)with
 | some l=>(match(el l).getLast? with
   |some y=>.tup [.str y,XI]
   |none=>j7)
 |none=>v2 qs x
theorem GU {qs:List Let} {x:Str} (h:x∉ks.map (·.1)):wO qs ks x=v3 qs x:=by
 have h1:ks.find? (fun z=>decide (z.1=x))=none:=find_none fun z hz=>decide_eq_false fun e=>h (bp.mpr ⟨z,hz,e⟩)
 unfold wO v3 II;rw[h1];cases(st qs).find? fun l=>decide (l.name=x)with
 |some l=>
  dsimp only;cases(el l).getLast? with
  |none=>rfl
  |some y=>rfl
 |none=>
  dsimp only;unfold v2;cases DL (oB x (jF qs))with
  |none=>rfl
  |some t=>rfl
theorem MO {z:Str×Option Str} (h:z∈ks) (hn:(ks.map (·.1)).Nodup):wO qs ks z.1= .tup [oP z.2,GB]:=by
 have h1:=KG (qs:=qs) (bp.mpr ⟨z,h,rfl⟩) hn;unfold wO;rw[h1.1,h1.2,z5 hn (o:=z.2) h]
end
section
open PySem L2 Mr
structure FI (N0:Str->Prop) (v:Str->PV) (f:Str->PV) (N:List Str):Prop where
 nd:N.Nodup
 mem:∀x,x∈N↔N0 x
 val:∀x∈N,f x=v x
theorem FI.put (h:FI N0 v f N) (h1:∀y,N1 y↔N0 y\/ y=x) (h2:v' x=p) (h3:∀y,y≠x->v' y=v y):FI N1 v' (qC f x p) (iC N x):=
 ⟨EW h.nd,fun y=>by rw[nZ,h.mem,h1],fun y hy=>by
  unfold qC
  by_cases e:y=x
  .rw[aj e,e,h2]
  .rw[ai e,h3 y e];exact h.val y ((nZ.mp hy).resolve_right e)⟩
theorem FI.of (h:FI N0 v f N) (h1:∀y,N1 y↔N0 y) (h2:∀y,N0 y->v' y=v y):FI N1 v' f N:=⟨h.nd,fun y=>by rw[h.mem,h1],fun y hy=>by rw[h2 y ((h.mem y).mp hy)];exact h.val y hy⟩
theorem FI.len (h:FI N0 v f N) (hs:∀x,N0 x->x∈ss):N.length<=ss.length:=nK h.nd fun x hx=>hs x ((h.mem x).mp hx)
theorem JL (G:Str->PV) (M:List Str):bM (gO G M)=M.map fun x=>.tup [.str x,G x]:=by unfold bM gO;rw[jc];rfl
theorem aaN (p q:PV):vW [p,q] 1 0=fY (code 3 q) (code 3 p):=rfl
theorem atT {xs:List Str} (h0:0<i) (h:xs[i - 1]? =some y):p9 (xs.map PV.str) ((i:Int) - 1)=some (.str y):=by
 rw[show((i:Int) - 1)=((i - 1:Nat):Int) by omega];exact hB (by rw[aq,h];rfl)
theorem KJ (g:Good ss qs ks) (hss:ss.length<=62) (hl:qs.length<=100) (hkn:(ks.map (·.1)).Nodup)
  (q:∀N,N.Nodup->(∀x,x∈N↔x∈iY qs ks)->Q (.bA (gO (wO qs ks) N),[])):Wp (gZ [.tup (qs.map lP),.tup (mP ks)]) Q:=by
 have hel:∀l∈st qs,∀x∈el l,x∈ss:=fun l h x hx=>nD g h x (ay _ hx)
 unfold gZ mV;walk_at "wp";refine qS hl ?_;walk_at "wp";refine cF (fun i e=>∃(G f:Str->PV) (M N:List Str) (v5 v6 v7 v8 v9 v10:Option Sl),TI qs (((st qs).take i).flatMap CM) G M/\FI (fun x=>x∈((st qs).take i).flatMap el) (fun _=>j7) f N/\
  e=[some (Sl.val (PV.tup (qs.map lP))),some (Sl.val (PV.tup (mP ks))),some (Sl.loc (.bA (gO G M))),some (Sl.loc (.bA (gO f N))),some (Sl.val (.lst ((st qs).map lP))),v5,v6,v7,v8,v9,v10]) ?_ ?_
  ⟨fun _=>.bD,fun _=>.bD,[],[],_,_,_,_,_,_,⟨nodup_nil,fun x=>⟨fun h=>(nomatch h),fun h=>absurd rfl h⟩,fun _ h=>(nomatch h)⟩,⟨nodup_nil,fun x=>Iff.rfl,fun _ h=>(nomatch h)⟩,rfl⟩
 .rintro i p e hx ⟨G,f,M,N,v5,v6,v7,v8,v9,v10,ti,fi,rfl⟩;rw[aq]at hx;obtain⟨l,hk,rfl⟩:=br.mp hx;have hlm:=bh hk;have hrow:=(g.1 l (pI hlm)).1;walk_at "wp";refine GD (l:=l) hrow ?_;walk_at "wp";refine cF (fun j e=>∃(G f:Str->PV) (M N:List Str) (v7 v8 v9:Option Sl),TI qs (((st qs).take i).flatMap CM++oV l j) G M/\FI (fun x=>x∈((st qs).take i).flatMap el++(el l).take j) (fun _=>j7) f N/\
   e=[some (Sl.val (PV.tup (qs.map lP))),some (Sl.val (PV.tup (mP ks))),some (Sl.loc (.bA (gO G M))),some (Sl.loc (.bA (gO f N))),some (Sl.val (.lst ((st qs).map lP))),some (Sl.val (lP l)),some (Sl.val (.lst ((el l).map PV.str))),v7,v8,v9,v10]) ?_ ?_
   ⟨G,f,M,N,_,_,_,by rw[show oV l 0=[]from rfl,dq];exact ti,by rw[take_zero,dq];exact fi,rfl⟩
  .rintro j p e hx ⟨G,f,M,N,v7,v8,v9,ti,fi,rfl⟩;rw[aq,gx,aq]at hx;cases hn:(el l)[j]? with
   |none=>rw[hn]at hx;cases hx
   | some n=>
    rw[hn]at hx;cases hx;have hs:=xF hn;have Nl:=fi.len (ss:=ss) fun x hx=>by
     rcases bj.mp hx with hx|hx
     .obtain⟨k,h1,h2⟩:=df.mp hx;exact hel k (dc h1) x h2
     .exact hel l hlm x (dc hx)
    have Ml:M.length<=ss.length:=nK ti.nd fun x hx=>by
     obtain⟨t,y,m0,_⟩:=ti.val x hx;have h1:=m0.1;unfold oB at h1;obtain⟨h1,h2⟩:=mem_filter.mp h1;have h2:=av h2;rw[<-h2];rcases bj.mp h1 with h1|h1
     .obtain⟨k,h3,h4⟩:=df.mp h1;exact hel k (dc h3) _ (uF h4)
     .unfold oV at h1;obtain⟨z,h3,h4⟩:=jo.mp h1;exact hel l hlm _ (uF (jo.mpr ⟨z,dc h3,h4⟩))
    have fi':FI (fun x=>x∈((st qs).take i).flatMap el++(el l).take (j+1)) (fun _=>j7) (qC f n j7) (iC N n):=fi.put (fun y=>by
     rw[fm,hn,toList_some,<-de,bj,bu]) rfl fun _ _=>rfl
    rw[show lP l=PV.tup [PV.str l.name,PV.int l.day,PV.str l.head,PV.tup (l.row.map PV.str)]from rfl];walk_at "wp";rw[hs,gw,g9];refine⟨by rw[fA];omega,fun hj=>?_,fun hj=>?_⟩
    .have hj':0<j:=by omega
     have hjl:j<(el l).length:=(af.mp hn).1;have hpre:(el l)[j - 1]? =some (el l)[j - 1]:=ag (by omega);rw[atT hj' hpre,aj hj'];walk_at "wp";generalize hy:(el l)[j - 1]=y at hpre;have ht:tW qs ⟨n,l.day,l.name,(j:Int)⟩=some y:=by
      unfold tW;rw[uH hlm];show(el l)[((j:Int) - 1).toNat]? =_;rw[show((j:Int) - 1).toNat=j - 1 by omega];exact hpre
     have hu:∀u∈oB n (((st qs).take i).flatMap CM++oV l j),u.name≠l.name:=fun u hu e=>by
      unfold oB at hu;obtain⟨h1,h2⟩:=mem_filter.mp hu;have h2:=av h2;rcases bj.mp h1 with h1|h1
      .obtain⟨k,h3,h4⟩:=df.mp h1;have h5:=(z6 h4).1;have:=F7 (ND qs) (i:=i) (x:=l.name) (by rw[aq,hk];rfl);rw[<-map_take]at this;exact this (bp.mpr ⟨k,h3,by rw[<-e,h5]⟩)
      .unfold oV at h1;obtain⟨z,h3,h4⟩:=jo.mp h1;unfold Z9 at h4;split at h4
       .cases h4;obtain⟨k,hk2⟩:=iq h3;rw[iz]at hk2;split at hk2
        .rename_i hkj;rw[gx]at hk2;cases c:(el l)[k]? with
         |none=>rw[c]at hk2;cases hk2
         |some w=>
          rw[c]at hk2;cases hk2;have h2:w=n:=h2;rw[h2]at c;have:=(getElem?_inj (af.mp c).1 (A3 l)).mp (c.trans hn.symm);omega
        .cases hk2
       .cases h4
     have fin:∀v:PV,v=(if n∈M then(if fY (code 3 (c4 ⟨n,l.day,l.name,(j:Int)⟩ y)) (code 3 (G n))=true then c4 ⟨n,l.day,l.name,(j:Int)⟩ y else G n)else c4 ⟨n,l.day,l.name,(j:Int)⟩ y)->TI qs (((st qs).take i).flatMap CM++(oV l j++[⟨n,l.day,l.name,(j:Int)⟩])) (qC G n v) (iC M n):=fun v hv=>by
      rw[<-de];exact ti.same (t:=⟨n,l.day,l.name,(j:Int)⟩) ht hu rfl rfl hv
     rw[lN]
     by_cases hm:n∈M
     .rw[aj hm];obtain⟨t0,y0,m0,e0,g0⟩:=ti.val _ hm;walk_at "wp";rw[aaN,g0];refine⟨M4 _ ⟨n,l.day,l.name,(j:Int)⟩ _ y,?_,?_⟩
      .rw[fA];omega
      .rw[g9];refine⟨_,_,_,_,_,_,_,fin _ ?_,fi',rfl⟩;rw[aj hm,g0];rfl
     .rw[ai hm];walk_at "wp";rw[aaN];refine⟨M4 ⟨n,l.day,l.name,(j:Int)⟩ ⟨n,l.day,l.name,(j:Int)⟩ y y,?_,?_⟩
      .rw[fA];omega
      .rw[g9,ite_self];exact⟨_,_,_,_,_,_,_,fin _ (by rw[ai hm];rfl),fi',rfl⟩
    .have hj':¬0<j:=by omega
     rw[ai hj',dq];exact⟨_,_,_,_,_,_,_,ti,fi',rfl⟩
  .rintro e ⟨G,f,M,N,v7,v8,v9,ti,fi,rfl⟩;rw[ah,ja,ah]at ti fi;rw[wC]at ti;rw[dk]at fi;exact⟨G,f,M,N,_,_,_,_,_,_,by rw[uY hk];exact ti,by rw[uY hk];exact fi,rfl⟩
 .rintro e ⟨G,f,M,N,v5,v6,v7,v8,v9,v10,ti,fi,rfl⟩;rw[ah,dk]at ti fi;have ti:TI qs (jF qs) G M:=ti;walk_at "wp";rw[JL];have N1:∀x,x∈(st qs).flatMap el->x∈ss:=fun x hx=>by
   obtain⟨k,h1,h2⟩:=df.mp hx;exact hel k h1 x h2
  have MN:∀x∈M,x∈(st qs).flatMap el:=fun x hx=>by
   obtain⟨t,y,m0,_⟩:=ti.val x hx;obtain⟨hk,l,h1,h2⟩:=sM m0.1;exact df.mpr ⟨l,h1,by rw[<-hk];exact uF h2⟩
  have V2:∀x∈M,∃t y,tW qs t=some y/\G x=c4 t y/\v2 qs x= .tup [.str y,.tup [.str (Str.ofString "told"),.str t.name,.int t.at']]:=fun x hx=>by
   obtain⟨t,y,m0,e0,g0⟩:=ti.val x hx;refine⟨t,y,e0,g0,?_⟩;unfold v2;rw[OU m0];dsimp only;rw[e0];rfl
  have V2n:∀x,x∉M->v2 qs x=j7:=fun x hx=>by
   have h0:oB x (jF qs)=[]:=eu fun c=>hx ((ti.mem x).mpr c)
   unfold v2;rw[h0];rfl
  refine cF (fun i e=>∃(f:Str->PV) (N:List Str) (v8 v9:Option Sl),FI (fun x=>x∈(st qs).flatMap el) (fun x=>if x∈M.take i then v2 qs x else j7) f N/\
   e=[some (Sl.val (PV.tup (qs.map lP))),some (Sl.val (PV.tup (mP ks))),some (Sl.val (.bA (gO G M))),some (Sl.loc (.bA (gO f N))),some (Sl.val (.lst ((st qs).map lP))),v5,v6,v7,v8,v9,v10]) ?_ ?_
   ⟨f,N,_,_,fi,rfl⟩
  .rintro i p e hx ⟨f,N,v8,v9,fi,rfl⟩;rw[aq]at hx;obtain⟨x,hk,rfl⟩:=br.mp hx;have hxM:=bh hk;obtain⟨t,y,e0,g0,e2⟩:=V2 x hxM;have Nl:=fi.len N1;rw[g0,show c4 t y= .tup [.int t.day,.str t.name,.int t.at',.str y]from rfl];walk_at "wp";rw[g9];refine⟨by rw[fA];omega,_,_,_,_,fi.put (x:=x) (fun z=>⟨.inl,fun h=>h.elim id fun e=>by rw[e];exact MN x hxM⟩) ?_ fun z hz=>?_,rfl⟩
   .rw[aj (by rw[fm,hk];simp)];exact e2
   .have:z∈M.take (i+1)↔z∈M.take i:=by rw[fm,hk,toList_some,bj,bu];simp[hz]
    simp only[this]
  .rintro e ⟨f,N,v8,v9,fi,rfl⟩;rw[ah,dk]at fi;have fi:FI (fun x=>x∈(st qs).flatMap el) (v2 qs) f N:=fi.of (fun _=>Iff.rfl) fun y _=>by
    by_cases h:y∈M
    .rw[aj h]
    .rw[ai h,V2n y h]
   walk_at "wp";refine cF (fun i e=>∃(f:Str->PV) (N:List Str) (v5 v6:Option Sl),FI (fun x=>x∈(st qs).flatMap el\/ x∈((st qs).map (·.name)).take i) (fun x=>if x∈((st qs).map (·.name)).take i then v3 qs x else v2 qs x) f N/\
    e=[some (Sl.val (PV.tup (qs.map lP))),some (Sl.val (PV.tup (mP ks))),some (Sl.val (.bA (gO G M))),some (Sl.loc (.bA (gO f N))),some (Sl.val (.lst ((st qs).map lP))),v5,v6,v7,v8,v9,v10]) ?_ ?_
    ⟨f,N,_,_,fi.of (fun y=>by simp) fun _ _=>by simp,rfl⟩
   .rintro i p e hx ⟨f,N,v5,v6,fi,rfl⟩;rw[aq]at hx;obtain⟨l,hk,rfl⟩:=br.mp hx;have hlm:=bh hk;have hrow:=(g.1 l (pI hlm)).1;have hkn':((st qs).map (·.name))[i]? =some l.name:=by rw[aq,hk];rfl
    have Nl:=fi.len (ss:=ss) fun x hx=>by
     rcases hx with hx|hx
     .exact N1 x hx
     .obtain⟨k,h1,rfl⟩:=bp.mp (dc hx);exact nD g h1 _ ba
    have fin:∀p,v3 qs l.name=p->FI (fun x=>x∈(st qs).flatMap el\/ x∈((st qs).map (·.name)).take (i+1)) (fun x=>if x∈((st qs).map (·.name)).take (i+1)then v3 qs x else v2 qs x) (qC f l.name p) (iC N l.name):=fun p hp=>
     fi.put (x:=l.name) (fun z=>by rw[fm,hkn',toList_some,bj,bu,or_assoc]) (by rw[aj (by rw[fm,hkn'];simp)];exact hp) fun z hz=>by
      have:z∈((st qs).map (·.name)).take (i+1)↔z∈((st qs).map (·.name)).take i:=by rw[fm,hkn',toList_some,bj,bu];simp[hz]
      simp only[this]
    walk_at "wp";refine GD (l:=l) hrow ?_;have hv:v3 qs l.name=match(el l).getLast? with
      |some y=>.tup [.str y,XI]
      |none=>j7:=by
     have h0:=uH hlm;unfold v3;cases e3:(el l).getLast? with
     |none=>simp only[h0,e3]
     |some y=>simp only[h0,e3]
    rw[show lP l=PV.tup [PV.str l.name,PV.int l.day,PV.str l.head,PV.tup (l.row.map PV.str)]from rfl];cases e3:(el l).getLast? with
    |none=>
     have e4:=List.getLast?_eq_none_iff.mp e3;rw[e3]at hv;rw[e4];walk_at "wp";rw[g9];exact⟨by rw[fA];omega,_,_,_,_,fin _ hv,rfl⟩
    | some y=>
     rw[e3]at hv;have e5:p9 ((el l).map PV.str) (-1)=some (.str y):=E5 (by rw[List.getLast?_map,e3];rfl);have e6:∃z zs,el l=z::zs:=by
      cases h:el l with
      |nil=>rw[h]at e3;cases e3
      |cons z zs=>exact⟨z,zs,rfl⟩
     obtain⟨z,zs,e6⟩:=e6;rw[e6,cz]at e5⊢
     walk_at "wp";rw[e5];walk_at "wp";rw[g9];exact⟨fI zs 8,by rw[fA];omega,_,_,_,_,fin _ hv,rfl⟩
   .rintro e ⟨f,N,v5,v6,fi,rfl⟩;have fi:FI (fun x=>x∈(st qs).flatMap uK) (v3 qs) f N:=fi.of (fun y=>by
      rw[show((st qs).map lP).length=((st qs).map (·.name)).length by rw[ah,ah],dk];constructor
      .intro h;obtain⟨l,h1,h2⟩:=df.mp h;rcases bw.mp h2 with h2|h2
       .exact .inr (bp.mpr ⟨l,h1,h2.symm⟩)
       .exact .inl (df.mpr ⟨l,h1,h2⟩)
      .rintro(h|h)
       .obtain⟨l,h1,h2⟩:=df.mp h;exact df.mpr ⟨l,h1,ay _ h2⟩
       .obtain⟨l,h1,rfl⟩:=bp.mp h;exact df.mpr ⟨l,h1,ba⟩) fun y _=>by
     rw[show((st qs).map lP).length=((st qs).map (·.name)).length by rw[ah,ah],dk]
     by_cases h:y∈(st qs).map (·.name)
     .rw[aj h]
     .rw[ai h];unfold v3;rw[find_none fun z hz=>decide_eq_false fun e=>h (bp.mpr ⟨z,hz,e⟩)]
    have out:∀x,x∉(st qs).flatMap uK->v3 qs x=j7:=fun x hx=>by
     have h:=G3 (qs:=qs) (ks:=[]) (x:=x) fun h=>(bj.mp h).elim hx fun z=>nomatch z
     rw[<-GU (ks:=[]) (fun z=>nomatch z)];unfold wO;rw[h];rfl
    walk_at "wp";refine cF (fun i e=>∃(f:Str->PV) (N:List Str) (v8 v10:Option Sl),FI (fun x=>x∈(st qs).flatMap uK\/ x∈(ks.take i).flatMap rR) (fun x=>if x∈(ks.take i).map (·.1)then wO qs ks x else v3 qs x) f N/\
     e=[some (Sl.val (PV.tup (qs.map lP))),some (Sl.val (PV.tup (mP ks))),some (Sl.val (.bA (gO G M))),some (Sl.loc (.bA (gO f N))),some (Sl.val (.lst ((st qs).map lP))),v5,v6,v7,v8,v9,v10]) ?_ ?_
     ⟨f,N,_,_,fi.of (fun y=>by simp) fun _ _=>by simp,rfl⟩
    .rintro i p e hx ⟨f,N,v8,v10,fi,rfl⟩;unfold mP at hx;rw[aq]at hx;obtain⟨z,hk,rfl⟩:=br.mp hx;have hzm:=bh hk;have hin:∀x,(x∈(st qs).flatMap uK\/ x∈(ks.take i).flatMap rR)->x∈ss:=fun x hx=>by
      rcases hx with hx|hx
      .obtain⟨k,h1,h2⟩:=df.mp hx;exact nD g h1 x h2
      .obtain⟨k,h1,h2⟩:=df.mp hx;exact zZ g (dc h1) x h2
     have Nl:=fi.len hin;have ht:(ks.take (i+1)).map (·.1)=(ks.take i).map (·.1)++[z.1]:=by rw[fm,hk,cx];rfl
     have f1:FI (fun x=>(x∈(st qs).flatMap uK\/ x∈(ks.take i).flatMap rR)\/ x=z.1) (fun x=>if x∈(ks.take (i+1)).map (·.1)then wO qs ks x else v3 qs x) (qC f z.1 (.tup [oP z.2,GB])) (iC N z.1):=
      fi.put (fun y=>Iff.rfl) (by rw[ht,aj (by simp)];exact MO hzm hkn) fun y hy=>by
       have:y∈(ks.take (i+1)).map (·.1)↔y∈(ks.take i).map (·.1):=by rw[ht,bj,bu];simp[hy]
       simp only[this]
     have Nl1:=f1.len (ss:=ss) fun x hx=>hx.elim (hin x) fun e=>by rw[e];exact(g.2 z hzm).1
     have es:=yT (f:=rR) hk;cases eo:z.2 with
     |none=>
      rw[eo]at f1;rw[show oP none=PV.bD from rfl]at f1⊢
      walk_at "wp";rw[g9];refine⟨by rw[fA];omega,_,_,_,_,f1.of (fun y=>?_) fun _ _=>rfl,rfl⟩;rw[es,show rR z=[z.1] by unfold rR;rw[eo];rfl,bj,bu,or_assoc]
     | some y=>
      rw[eo]at f1;rw[show oP (some y)=PV.str y from rfl]at f1⊢
      walk_at "wp";rw[g9,QM];refine⟨by rw[fA];omega,?_⟩;have mem:∀w,(w∈(st qs).flatMap uK\/ w∈(ks.take (i+1)).flatMap rR)↔(((w∈(st qs).flatMap uK\/ w∈(ks.take i).flatMap rR)\/ w=z.1)\/ w=y):=fun w=>by
       rw[es,show rR z=[z.1,y] by unfold rR;rw[eo];rfl,bj];simp[or_assoc]
      by_cases hy:y∈iC N z.1
      .rw[decide_eq_true hy];refine⟨fun h=>(by cases h),fun _=>⟨_,_,_,_,f1.of (fun w=>?_) fun _ _=>rfl,rfl⟩⟩;rw[mem];exact⟨fun h=>h.elim id fun e=>by rw[e];exact(f1.mem y).mp hy,.inl⟩
      .rw[decide_eq_false hy];refine⟨fun _=>?_,fun h=>(by cases h)⟩;rw[g9];refine⟨by rw[fA];omega,_,_,_,_,f1.put mem ?_ fun _ _=>rfl,rfl⟩;have hy':=fun h=>hy ((f1.mem y).mpr h)
       rw[ai fun h=>hy' ?_]
       .exact out y fun h=>hy' (.inl (.inl h))
       .rw[ht]at h;rcases bj.mp h with h|h
        .obtain⟨w,h1,h2⟩:=bp.mp h;exact .inl (.inr (df.mpr ⟨w,h1,by unfold rR;rw[h2];exact ba⟩))
        .exact .inr (bu.mp h)
    .rintro e ⟨f,N,v8,v10,fi,rfl⟩;rw[show(mP ks).length=ks.length by unfold mP;rw[ah],dk]at fi;walk_at "wp";rw[JH (g:=wO qs ks) fun x hx=>?_]
     .exact q N fi.nd fun x=>by rw[fi.mem];unfold iY;rw[bj]
     .rw[fi.val x hx]
      by_cases h:x∈ks.map (·.1)
      .rw[aj h]
      .rw[ai h,GU h]
end
section
open PySem L2 Mr
theorem IE {ns:List Str} {Q:Bv->Prop} (h:ns.length<64) (q:Q (.new (.lst ((fG ns).map PV.str)))):Wp (kA [.bA (gO f ns)]) Q:=by
 have ks:∀ns:List Str,oY (gO f ns)=some ns:=by
  intro ns
  induction ns with
  |nil=>rfl
  |cons x ns ih=>
   show bO (oY (gO f ns)) (fun ss=>some (x::ss))=_;rw[ih];rfl
 have e1:rS [.bA (gO f ns)]=some (.new (.lst ((fG ns).map PV.str))):=by
  show bO (oY (gO f ns)) _=_;rw[ks,uA,decide_eq_true h];rfl
 unfold kA;rw[e1];exact⟨_,rfl,q⟩
theorem wA {qs:List Let} {ks:Hl} {l:List Str} {e:Option Str} (hN:∀x,x∈N↔x∈iY qs ks) (nl:N.length<=100) (hkn:(ks.map (·.1)).Nodup) (nr:w8 ks) (cb:Clb (O1 qs ks) x l e) (sub:∀y∈l,y∈iY qs ks)
  (q:Q (.bl (l.find? fun y=>!decide (y∈n6 qs ks)).isNone,[])):Wp (e8 [.bA (gO (wO qs ks) N),.lst ((n6 qs ks).map PV.str),.str x]) Q:=by
 have ll:l.length<=N.length:=Rg.sub_len cb.nd fun y hy=>(hN y).mpr (sub y hy)
 have up:∀y∈l,∃o,O1 qs ks y=o/\∀z,o=some z->z∈l:=fun y hy=>⟨_,rfl,fun z hz=>by
  rcases cb.path.step hy with⟨w,hw,e1⟩|e1
  .rw[hz]at e1;cases e1;exact hw
  .exact cb.back z (e1▸hz)⟩
 unfold e8 jS;walk_at "wp";rw[fA];refine⟨fQ (by omega) (by omega),?_⟩;cases c:l.find? fun y=>!decide (y∈n6 qs ks)with
 | none=>
  rw[c]at q;have all:∀y∈l,y∈n6 qs ks:=fun y hy=>by simpa using gh.mp c y hy
  refine cF (fun i en=>∃(nm:Option Str) (v:Option Sl),(∀y,nm=some y->y∈l)/\en=[some (Sl.bor (.bA (gO (wO qs ks) N))),some (Sl.bor (.lst ((n6 qs ks).map PV.str))),some (Sl.val (.str x)),some (Sl.val (oP nm)),v]) ?_ ?_ ⟨some x,_,fun y h=>by cases h;exact List.mem_of_mem_head? cb.hd,rfl⟩
  .rintro i p en hp ⟨nm,v,hm,rfl⟩;cases nm with
   |none=>
    rw[show oP none=PV.bD from rfl];walk_at "wp";exact q
   | some z=>
    rw[show oP (some z)=PV.str z from rfl];have hz:=hm z rfl;walk_at "wp";refine⟨fI _ 8,fun h=>?_,fun _=>?_⟩
    .rw[oI,decide_eq_true (all z hz)]at h;cases h
    .rw[lN,aj ((hN z).mpr (sub z hz))];obtain⟨o,ho,hm'⟩:=up z hz;unfold wO;walk_at "wp";exact⟨o,_,hm',by rw[<-ho]⟩
  .rintro en ⟨nm,v,hm,rfl⟩;walk_at "wp";exact q
 | some y=>
  rw[c]at q;obtain⟨h1,j,hj,e1,hb⟩:=List.find?_eq_some_iff_getElem.mp c;have yn:y∉n6 qs ks:=by simpa using h1
  have hb':∀i,i<j->∀z,l[i]? =some z->z∈n6 qs ks:=fun i hi z hz=>by
   have:=hb i hi;rw[(af.mp hz).2]at this;simpa using this
  refine cF (fun i en=>∃(z:Str) (v:Option Sl),i<=j/\l[i]? =some z/\en=[some (Sl.bor (.bA (gO (wO qs ks) N))),some (Sl.bor (.lst ((n6 qs ks).map PV.str))),some (Sl.val (.str x)),some (Sl.val (.str z)),v]) ?_ ?_ ⟨x,_,dj _,by rw[<-List.head?_eq_getElem?];exact cb.hd,rfl⟩
  .rintro i p en hp ⟨z,v,hi,hz,rfl⟩;have zl:=bh hz;walk_at "wp";refine⟨fI _ 8,fun h=>?_,fun h=>?_⟩
   .exact q
   .rw[oI,Bool.not_eq_false',ju]at h;have ne:i≠j:=fun e=>yn (by
     subst e;rw[ag hj]at hz;cases hz;exact e1▸h)
    have hi1:i+1<l.length:=by omega
    rw[lN,aj ((hN z).mpr (sub z zl))];have nx:=cb.path.next hz (ag hi1);unfold wO;have nx':(II qs ks z).e=some l[i+1]:=nx;rw[nx',show oP (some l[i+1])=PV.str l[i+1]from rfl];walk_at "wp";exact⟨_,_,by omega,ag hi1,rfl⟩
  .rintro en ⟨z,v,hi,hz,rfl⟩;rw[ah,cu]at hi;omega
end
section
open PySem L2 Mr
theorem IK {qs:List Let} {ks:Hl} {x:Str} {Q:PV×List PV->Prop} (g:Good ss qs ks) (hss:ss.length<=60) (hl:qs.length<=100) (hk:ks.length<=100) (hkn:(ks.map (·.1)).Nodup) (nr:w8 ks) (hx:x∈iY qs ks)
  (q:∀l e o,Clb (O1 qs ks) x l e->(∀y∈l,y∈iY qs ks)->l.find? (fun y=>!decide (y∈n6 qs ks))=o->∀y:Str,Q ((match o with|none=>.bD|some z=>.tup [.str z,.int 0,.str (Str.ofString ""),.tup [.str y]]),[])):Wp (oD [.tup (qs.map lP),.tup (mP ks),.str x]) Q:=by
 unfold oD vT;walk_at "wp";refine IA g hl (by omega) ?_;walk_at "wp";refine wR g hss hl hk hkn nr hx fun l e cb sub=>?_
 cases c:l.find? fun y=>!decide (y∈n6 qs ks)with
 |none=>
  rw[show oP none=PV.bD from rfl];walk_at "wp";exact q l e none cb sub c (Str.ofString "")
 |some y=>
  rw[show oP (some y)=PV.str y from rfl];walk_at "wp";refine EG (ns:=IX qs ks) (by have:=EL g;omega) fun k h1 h2=>?_
  walk_at "wp";exact q l e (some y) cb sub c _
theorem uR {asks:List Int} (g:Good ss qs ks) (hss:ss.length<=41) (hl:qs.length<=100) (hk:ks.length<=100) (hkn:(ks.map (·.1)).Nodup) (nr:w8 ks)
  (q:Q (.bl true,[])):Wp (dR [.tup (qs.map lP),.tup (mP ks),.lst (asks.map PV.int)]) Q:=by
 have nl:=EL g;unfold dR nQ;walk_at "wp";refine KJ g (by omega) hl hkn fun N hN hm=>?_
 walk_at "wp";refine qS hl ?_;walk_at "wp";refine⟨by have:=pC qs;omega,gE (fun i acc e=>∃s,acc=((st qs).map fun l=>PV.str l.name).take i/\e=[s]) ?_ ?_ ⟨_,rfl,rfl⟩⟩
 .rintro i p e acc hp ⟨s,rfl,rfl⟩;rw[aq]at hp;obtain⟨l,hl',rfl⟩:=br.mp hp;rw[show lP l=PV.tup [PV.str l.name,PV.int l.day,PV.str l.head,PV.tup (l.row.map PV.str)]from rfl];walk_at "wp";exact⟨_,by rw[fm,aq,hl'];rfl,rfl⟩
 rintro acc e ⟨s,rfl,rfl⟩;rw[eh (by simp)];walk_at "wp";refine⟨by unfold mP;rw[ah];omega,gE (fun i acc e=>∃s t,acc=(ks.map fun z=>PV.str z.1).take i/\e=[s,t]) ?_ ?_ ⟨_,_,rfl,rfl⟩⟩
 .rintro i p e acc hp ⟨s,t,rfl,rfl⟩;unfold mP at hp;rw[aq]at hp;obtain⟨z,hz,rfl⟩:=br.mp hp;walk_at "wp";exact⟨_,_,by rw[fm,aq,hz];rfl,rfl⟩
 rintro acc e ⟨s2,t2,rfl,rfl⟩;have sl:=pC qs;have fe:((st qs).map fun l=>PV.str l.name)++(ks.map fun z=>PV.str z.1).take (mP ks).length=(n6 qs ks).map PV.str:=by
  unfold n6 mP;rw[ah,eh (by simp),cx,jc,jc];rfl
 rw[fe];have Nl:N.length<=ss.length:=Rg.sub_len hN fun y hy=>LB g y ((hm y).mp hy)
 have Np:(fG N).Perm N:=qZ N;walk_at "wp";refine⟨by rw[fx,ah];omega,IE (by omega) ?_⟩;walk_at "wp";refine cF (fun i en=>∃v6 v7,en=[some (Sl.val (.tup (qs.map lP))),some (Sl.val (.tup (mP ks))),some (Sl.bor (.lst (asks.map PV.int))),some (Sl.val (.bA (gO (wO qs ks) N))),some (Sl.val (.lst ((n6 qs ks).map PV.str))),some (Sl.val (.lst ((fG N).map PV.str))),v6,v7]) ?_ ?_ ⟨_,_,rfl⟩
 .rintro i p en hp ⟨v6,v7,rfl⟩;rw[aq]at hp;obtain⟨ask,hk',rfl⟩:=br.mp hp;walk_at "wp";refine⟨fI _ 8,fun h=>?_,fun _=>⟨_,_,rfl⟩⟩;have h0:0<(fG N).length:=by
   cases hs:fG N with
   |nil=>rw[hs]at h;cases h
   |cons a t=>exact Nat.succ_pos _
  have r0:=ka ask (show((fG N).length:Int)≠0 by omega);have r1:=jd ask (show(0:Int)<((fG N).length:Int) by omega);refine⟨by omega,eG r0 (by rw[ah];exact r1) fun p hp'=>?_⟩;obtain⟨x,hxn,rfl⟩:=bp.mp hp';have hx:=(hm x).mp (Np.mem_iff.mp hxn);walk_at "wp";refine IK g (by omega) hl hk hkn nr hx fun l e o cb sub hf y=>?_
  cases o with
  |none=>
   walk_at "wp";refine wA hm (by omega) hkn nr cb sub ?_;rw[hf];walk_at "wp";exact⟨fun h=>(nomatch h),fun _=>⟨_,_,rfl⟩⟩
  |some z=>
   walk_at "wp";refine wA hm (by omega) hkn nr cb sub ?_;rw[hf];walk_at "wp";exact⟨fun h=>(nomatch h),fun _=>⟨_,_,rfl⟩⟩
 .rintro en ⟨v6,v7,rfl⟩;walk_at "wp";exact q
end
section
open PySem L2 Mr
theorem SF {a b c:Int} {s:Option Sl} {Q:List PV×En->Prop} (hp:Hand a b c n) (hn:n+xs.length<1000000)
  (q:∀(zs:List Int) s' a' b' c',Hand a' b' c' (n+xs.length)->Q (zs.map PV.int,[s',some (.own (hd a' b' c'))])):
  Wp (k9 (aS 0) fE (a9 [.m,.b] false aQ (aB (aC 1) (aB (fC (.int 100)) aO))) xs [s,some (.own (hd a b c))]) Q:=by
 refine gE (fun i acc e=>∃(zs:List Int) (s:Option Sl) (a b c:Int),acc=zs.map PV.int/\e=[s,some (.own (hd a b c))]/\Hand a b c (n+i)) ?_ ?_ ⟨[],s,a,b,c,rfl,rfl,hp⟩
 .rintro i x e acc hx ⟨zs,s,a,b,c,rfl,rfl,hp⟩;have hi:=(af.mp hx).1;walk_at "wp";refine cM hp (by omega) (by decide) (by decide) fun d a' b' c' d0 d1 hp'=>?_
  walk_at "wp";exact⟨zs++[d],_,a',b',c',by rw[cx];rfl,rfl,hp'⟩
 .rintro acc e ⟨zs,s,a,b,c,rfl,rfl,hp⟩;exact q zs s a b c hp
theorem VJ {ns:List Int} (hn:ns.length<=63):Wp (AI [.lst (ns.map PV.int)]) fun w=>w=(.bl true,[]):=by
 unfold AI KC;walk_at "wp";refine F1 (by decide) (by decide) hn fun a b h=>?_
 walk_at "wp";refine cM h (by decide) (by decide) (by decide) fun d a1 b1 c1 d0 d1 hp=>?_
 walk_at "wp";refine eG d0 d1 fun p hp'=>?_
 obtain⟨z,rfl,z0,z1⟩:∃z:Int,p= .int z/\0<z/\z<=40:=by
  simp only[bw,jz,or_false]at hp';rcases hp' with rfl|rfl|rfl<;>exact⟨_,rfl,by decide,by decide⟩
 clear d0 d1 hp';walk_at "wp";refine cM hp (by decide) z0 (by omega) fun e' a2 b2 c2 e0 e1 hp=>?_
 replace e1:e'<40:=by omega
 clear z0 z1;walk_at "wp";refine cM hp (by decide) (by decide) (by decide) fun each a4 b4 c4 f0 f1 hp=>?_
 walk_at "wp";refine⟨fQ (by decide) (by decide),SF hp (by simp) fun asks s' a3 b3 c3 hp=>?_⟩;rw[ah,cu]at hp;walk_at "wp";refine cM hp (by decide) (by decide) (by decide) fun many a3 b3 c3 m0 m1 hp=>?_
 walk_at "wp";refine D5 hn hp (by omega) (by omega) (by decide) fun zs a7 b7 c7 zl hz hp=>?_
 walk_at "wp";have k0:0<=each*(1+e'):=Int.mul_nonneg f0 (by omega);have k1:each*(1+e')<=1+e':=by
  have:each*(1+e')<=1*(1+e'):=Int.mul_le_mul_of_nonneg_right (by omega) (by omega);omega
 refine⟨decide_eq_true (.inl ⟨by omega,by omega⟩),fQ (by omega) (by omega),?_⟩;generalize each*(1+e')=K at k0 k1⊢
 generalize(some (Sl.bor (PV.lst (ns.map PV.int))):Option Sl)=v0;generalize(some (Sl.val (PV.int each)):Option Sl)=v3;refine cF (fun i en=>∃(ys:List AM) (v7:Option Sl) (a b c:Int),ys.length<=51+i/\(∀z∈ys,T3 (1+e') z)/\Hand a b c (308+20*i)/\en=[v0,some (Sl.loc (hd a b c)),some (Sl.val (.int (1+e'))),v3,some (Sl.val (.lst (asks.map PV.int))),some (Sl.val (.int many)),some (Sl.loc (.lst (ys.map NO))),v7,none,none,none]) ?_ ?_ ⟨zs,_,_,_,_,zl,hz,hp,rfl⟩
 .rintro i p en hx ⟨ys,v7,a,b,c,yl,hy,hp,rfl⟩;have hi:=(af.mp hx).1;rw[ah,cu]at hi;rw[aq,List.getElem?_range hi]at hx;cases hx;walk_at "wp";refine rV hp (by omega) (by omega) (by omega) fun l a' b' c' ol hp'=>?_
  rw[show NO l=PV.tup [PV.int l.at',PV.int l.day,PV.str l.head,PV.lst (l.row.map PV.int)]from rfl];walk_at "wp";rw[show wN [PV.int l.at',PV.int l.day,PV.str l.head,PV.lst (l.row.map PV.int)] (some 1) none=[PV.int l.day,PV.str l.head,PV.lst (l.row.map PV.int)]from rfl];walk_at "wp";refine⟨by omega,ys++[⟨0+i,l.day,l.head,l.row⟩],_,_,_,_,by rw[bq,length_singleton];omega,fun z hz'=>?_,hp',by rw[cx];rfl⟩;rcases bj.mp hz' with h|h
  .exact hy z h
  .rw[bu.mp h];exact⟨by show(0:Int)<=0+(i:Int);omega,by show 0+(i:Int)<_;omega,ol.r,ol.n⟩
 .rintro en ⟨ys,v7,a,b,c,yl,hy,hp,rfl⟩;rw[ah,cu]at yl hp;walk_at "wp";refine OO hp (by omega) (by omega) (by omega) fun ss a10 b10 c10 sl hss hp=>?_
  walk_at "wp";refine Q4 (m:=1+e') sl hy (by omega) fun qs ll s1 hq=>?_
  walk_at "wp";refine K1 hp (by omega) (by omega) m0 (by omega) (by omega) fun hs a11 b11 c11 hl mok nr hp=>?_
  have g:Good ss qs hs:=⟨hq,mok.nm⟩;have g0:Good ss qs []:=⟨hq,fun z hz=>(nomatch hz)⟩;walk_at "wp";refine uR g (by omega) (by omega) (by omega) mok.nd nr ?_;walk_at "wp";refine uR (ks:=[]) g0 (by omega) (by omega) (by decide) nodup_nil ?nr0 ?_
  case nr0=>exact w8.nil
  walk_at "wp";rw[show(1:Int)=((1:Nat):Int)from rfl,CB,<-map_take];refine uR g (by omega) (by omega) (by omega) mok.nd nr ?_;walk_at "wp"
theorem OH:∀ns:List Int,ns.length<=63->AI [.lst (ns.map PV.int)]=some (.bl true,[]):=fun ns hn=>(VJ hn).eq
end
theorem all_mk {w:World} {K:Frag} {h:Heap} {mg:Str->Option Value} {fa f0 f1 f2 f3 f4 f5 f6 f7 f8 f9 f10 f11 f12 f13 f14 f15 f16 f17 f18 f19 f20 f21 f22 f23 f24:Addr} (X:K.In h) (G:h.Ns mainGlobals mg) (hfa:mg "law"=some (.ref fa))
  (h0:rQ K "elders" m6 f0)
  (h1:rQ K "standing" l7 f1)
  (h2:rQ K "rows_of" lE f2)
  (h3:rQ K "claims_of" jM f3)
  (h4:rQ K "choice" rE f4)
  (h5:rQ K "choices" hZ f5)
  (h6:rQ K "climbed" oF f6)
  (h7:rQ K "places" qR f7)
  (h8:rQ K "unknown_name" e9 f8)
  (h9:rQ K "first_open" fF f9)
  (h10:rQ K "shaker" qW f10)
  (h11:rQ K "_law_hand" lU f11)
  (h12:rQ K "_law_take" mF f12)
  (h13:rQ K "_law_names" eV f13)
  (h14:rQ K "_law_letter" fH f14)
  (h15:rQ K "_law_letters" eB f15)
  (h16:rQ K "_law_pack" i5 f16)
  (h17:rQ K "_law_climbs" hJ f17)
  (h18:rQ K "_law_marks" jK f18)
  (h19:rQ K "_law_row" lB f19)
  (h20:rQ K "_law_standing" fB f20)
  (h21:rQ K "_law_table" jO f21)
  (h22:rQ K "_law_settled" gC f22)
  (h23:rQ K "_law_right" eU f23)
  (h24:rQ K "law" BC f24)
  (dM:nsIn K mainGlobals "enumerate"=some none)
  (gD:nsIn K mainGlobals "tuple"=some none)
  (vX:nsIn K mainGlobals "min"=some none)
  (sF:nsIn K mainGlobals "list"=some none)
  (tL:nsIn K mainGlobals "str"=some none)
  (lK:nsIn K mainGlobals "len"=some none)
  (gK:nsIn K mainGlobals "sorted"=some none)
  (cU:nsIn K mainGlobals "range"=some none)
  (A1:nsIn K mainGlobals "int"=some none)
  :∃fd:FuncData,(∀(s:Shared) (v:Value),BindsTo s fd ⟨[v],[]⟩ [("_law_script",v)])/\∀base:Heap,K.In base->base.Ns mainGlobals mg->rJ l.prog w K mg base O0 7 fa fd ["_law_script"] (CG K):=by
 have T:Txt K mg:=⟨lh X G dM,lh X G gD,lh X G vX,lh X G sF,lh X G tL,lh X G lK,lh X G gK,lh X G cU,lh X G A1⟩;have d0:Dx K mg "elders" m6 ["letter"]:=h0.dx X G (yM fun _ _ _ _ _ _ _=>rfl);have d1:Dx K mg "standing" l7 ["pack"]:=h1.dx X G (yM fun _ _ _ _ _ _ _=>rfl);have d2:Dx K mg "rows_of" lE ["pack"]:=h2.dx X G (yM fun _ _ _ _ _ _ _=>rfl);have d3:Dx K mg "claims_of" jM ["pack"]:=h3.dx X G (yM fun _ _ _ _ _ _ _=>rfl);have d4:Dx K mg "choice" rE ["held","rows","claimed","name"]:=h4.dx X G (aaM fun _ _ _ _ _ _ _ _ _ _=>rfl);have d5:Dx K mg "choices" hZ ["pack","marks","names"]:=h5.dx X G (DN fun _ _ _ _ _ _ _ _ _=>rfl);have d6:Dx K mg "climbed" oF ["above","name"]:=h6.dx X G (A8 fun _ _ _ _ _ _ _ _=>rfl);have d7:Dx K mg "places" qR ["pack","marks"]:=h7.dx X G (A8 fun _ _ _ _ _ _ _ _=>rfl);have d8:Dx K mg "unknown_name" e9 ["known"]:=h8.dx X G (yM fun _ _ _ _ _ _ _=>rfl);have d9:Dx K mg "first_open" fF ["pack","marks","known","name"]:=h9.dx X G (aaM fun _ _ _ _ _ _ _ _ _ _=>rfl);have d10:Dx K mg "shaker" qW ["pack","marks","name"]:=h10.dx X G (DN fun _ _ _ _ _ _ _ _ _=>rfl);have d11:Dx K mg "_law_hand" lU ["_law_script","_law_k"]:=h11.dx X G (A8 fun _ _ _ _ _ _ _ _=>rfl);have d12:Dx K mg "_law_take" mF ["_law_hand_here","_law_many"]:=h12.dx X G (A8 fun _ _ _ _ _ _ _ _=>rfl);have d13:Dx K mg "_law_names" eV ["_law_hand_here","_law_many"]:=h13.dx X G (A8 fun _ _ _ _ _ _ _ _=>rfl);have d14:Dx K mg "_law_letter" fH ["_law_hand_here","_law_m"]:=h14.dx X G (A8 fun _ _ _ _ _ _ _ _=>rfl);have d15:Dx K mg "_law_letters" eB ["_law_script","_law_hand_here","_law_m"]:=h15.dx X G (DN fun _ _ _ _ _ _ _ _ _=>rfl);have d16:Dx K mg "_law_pack" i5 ["_law_letters_here","_law_names_here"]:=h16.dx X G (A8 fun _ _ _ _ _ _ _ _=>rfl);have d17:Dx K mg "_law_climbs" hJ ["_law_held","_law_here","_law_name"]:=h17.dx X G (DN fun _ _ _ _ _ _ _ _ _=>rfl);have d18:Dx K mg "_law_marks" jK ["_law_hand_here","_law_names_here","_law_many"]:=h18.dx X G (DN fun _ _ _ _ _ _ _ _ _=>rfl);have d19:Dx K mg "_law_row" lB ["_law_letter_here"]:=h19.dx X G (yM fun _ _ _ _ _ _ _=>rfl);have d20:Dx K mg "_law_standing" fB ["_law_pack_here"]:=h20.dx X G (yM fun _ _ _ _ _ _ _=>rfl);have d21:Dx K mg "_law_table" jO ["_law_pack_here","_law_marks_here"]:=h21.dx X G (A8 fun _ _ _ _ _ _ _ _=>rfl);have d22:Dx K mg "_law_settled" gC ["_law_table_here","_law_sure","_law_name"]:=h22.dx X G (DN fun _ _ _ _ _ _ _ _ _=>rfl);have d23:Dx K mg "_law_right" eU ["_law_pack_here","_law_marks_here","_law_asks"]:=h23.dx X G (DN fun _ _ _ _ _ _ _ _ _=>rfl);have d24:Dx K mg "law" BC ["_law_script"]:=h24.dx X G (yM fun _ _ _ _ _ _ _=>rfl);refine WD hfa d24 (yM fun _ _ _ _ _ _ _=>rfl) (fun base=>?_) OH;have G_elders:=JW (P:=l.prog) (w:=w) (base:=base) T d0;have G_standing:=CP (P:=l.prog) (w:=w) (base:=base) T d1;have G_choice:=IJ (P:=l.prog) (w:=w) (base:=base) T d4;have G_climbed:=EC (P:=l.prog) (w:=w) (base:=base) T d6;have G_unknown_name:=tU (P:=l.prog) (w:=w) (base:=base) T d8;have G_law_hand:=BG (P:=l.prog) (w:=w) (base:=base) T d11;have G_law_take:=BF (P:=l.prog) (w:=w) (base:=base) T d12;have G_law_pack:=BR (P:=l.prog) (w:=w) (base:=base) T d16;have G_law_climbs:=wZ (P:=l.prog) (w:=w) (base:=base) T d17;have G_law_row:=D8 (P:=l.prog) (w:=w) (base:=base) T d19;have G_law_standing:=tY (P:=l.prog) (w:=w) (base:=base) T d20;have G_law_settled:=vP (P:=l.prog) (w:=w) (base:=base) T d22;have G_rows_of:=C6 (P:=l.prog) (w:=w) (base:=base) T d2 G_elders G_standing;have G_claims_of:=zK (P:=l.prog) (w:=w) (base:=base) T d3 G_standing G_elders;have G_places:=HX (P:=l.prog) (w:=w) (base:=base) T d7 G_standing G_elders;have G_law_names:=yS (P:=l.prog) (w:=w) (base:=base) T d13 G_law_take;have G_law_letter:=w5 (P:=l.prog) (w:=w) (base:=base) T d14 G_law_take;have G_law_marks:=zM (P:=l.prog) (w:=w) (base:=base) T d18 G_law_take G_law_climbs;have G_law_table:=yK (P:=l.prog) (w:=w) (base:=base) T d21 G_law_standing G_law_row;have G_choices:=C2 (P:=l.prog) (w:=w) (base:=base) T d5 G_rows_of G_claims_of G_choice;have G_law_letters:=vF (P:=l.prog) (w:=w) (base:=base) T d15 G_law_letter G_law_take G_law_hand;have G_first_open:=wQ (P:=l.prog) (w:=w) (base:=base) T d9 G_choices G_rows_of G_climbed;have G_shaker:=I0 (P:=l.prog) (w:=w) (base:=base) T d10 G_places G_first_open G_unknown_name;have G_law_right:=zF (P:=l.prog) (w:=w) (base:=base) T d23 G_law_table G_law_standing G_law_settled G_shaker;exact WV T d24 G_law_hand G_law_take G_law_letters G_law_names G_law_pack G_law_marks G_law_right G_law_letter
theorem walk {q:Program} {loose:List Str} {XP:(Str->Option Value)->Heap->Prop} {YP:World->Heap->Prop} {d:DefRec} {K:Params->Frag} (hn:l.most=some 63) (hdf:d.params.defaults=[])
  (hY:∀(w:World) (h:Heap),YP w h->(K w.params).In h)
  (F:∀(w:World) (mg:Str->Option Value) (fa:Addr) (h:Heap),(K w.params).In h->h.Ns mainGlobals mg->mg d.name=some (.ref fa)->
   ∃fd:FuncData,(∀(s:Shared) (u:Value),BindsTo s fd ⟨[u],[]⟩ [("_law_script",u)])/\∀base:Heap,(K w.params).In base->base.Ns mainGlobals mg->rJ l.prog w (K w.params) mg base O0 7 fa fd ["_law_script"] (CG (K w.params))):
  PySem.W.WalkO q loose XP YP l.row.toRowW d [] (fun f vs=>PySem.call f vs):=
 L2.P2 (n:=63) (k:=7) (x:="_law_script") (CX:=fun _=>O0) (sp:=fun w=>CG (K w.params)) hn (by decide) hdf ⟨rfl,by decide,by decide⟩ hY F (fun _ _ a ns hl _ hS=>⟨a,ns,rfl,hS,hl,fun _=>rfl⟩) fun _ _ _ _ _ z=>z
end My
namespace PySem.W.Fast
def tw6231923732766034813:=()
def tw12599995683346721629:=()
def tw7623852767768487528:=()
def tw10960234398190199110:=()
def tw8054708036245757095:=()
def tw14111096669603021362:=()
def tw18036947570300307720:=()
def tw758711024671028072:=()
def tw17095136568475547220:=()
def tw4799466069058444572:=()
def tw5577529441281427830:=()
def tw16724996265592813384:=()
def tw17672967038343476908:=()
def tw7943538322032802943:=()
def tw5503265999665911054:=()
def tw12459683304424008424:=()
def tw16283004598265912115:=()
def tw9832444618459541090:=()
def tw2823001525289910517:=()
def tw3139540476964507755:=()
def tw8748894677014032533:=()
def tw13162298751899245252:=()
def tw1245076321012795207:=()
def tw356942708796918586:=()
def tw7623283006411543202:=()
def tw17681992670908278117:=()
def tw59928601082627350:=()
def tw15699208193708326621:=()
def tw11929342957173683643:=()
def tw484388271233625439:=()
def tw16661568021390079615:=()
def tw11594472735688411965:=()
def tw13375598998056129106:=()
def tw2667483204370569502:=()
def tw10284596752037594176:=()
def tw14126130525363077620:=()
def tw1296748812589057507:=()
def tw4081183300832092112:=()
def tw3353049213924607786:=()
def tw10448191113870840469:=()
def tw14476574372944073267:=()
def tw9483420725119659336:=()
def tw15612626169559637639:=()
def tw17780802929255683535:=()
def tw11967117057063749457:=()
def tw17602052332322510541:=()
def tw4774538628597041705:=()
def tw17051881127456845377:=()
def tw8905726560984346089:=()
def tw5093441495624844103:=()
def tw17047265387982394036:=()
def tw3924192861609456288:=()
def tw445248533734816709:=()
def tw110012784810801257:=()
def tw7358987011379000919:=()
def tw4818747050819677346:=()
def tw9163501756496444758:=()
def tw8083769160343459135:=()
def tw3942419793719060560:=()
def tw13629078896492524745:=()
def tw4539250342975051843:=()
def tw9588947601444944554:=()
def tw13338311987028681637:=()
def tw18047680632509742692:=()
def tw16776175108013057217:=()
def tw14929264743222385066:=()
def tw14731022865845460061:=()
end PySem.W.Fast
open PySem PySem.W PyProof.Rows
set_option maxRecDepth 100000 in
set_option maxHeartbeats 0 in
theorem PySem.Challenge.cw_answertrees_k26_just_where_holds : PySem.Challenge.rw_answertrees_k26_just_where.Holds := by
 w_on;o_law;k_head;(case hw=>w_witness2)
 k_fill
 refine My.walk (l:=PySem.Challenge.rw_answertrees_k26_just_where) rfl rfl (fun w h Y=>PySem.W.kIn_of Y) ?F
 case F=>
  intro w mg fa h KX G hmg
  refine' My.all_mk KX G hmg ?h0 ?h1 ?h2 ?h3 ?h4 ?h5 ?h6 ?h7 ?h8 ?h9 ?h10 ?h11 ?h12 ?h13 ?h14 ?h15 ?h16 ?h17 ?h18 ?h19 ?h20 ?h21 ?h22 ?h23 ?h24 ?dM ?gD ?vX ?sF ?tL ?lK ?gK ?cU ?A1
  (case h0=>refine' Mr.cH ?a ?l ?c ?k;(case a=>k_is);(case l=>k_is);(case c=>k_is);(case k=>k_is))
  (case h1=>refine' Mr.cH ?a ?l ?c ?k;(case a=>k_is);(case l=>k_is);(case c=>k_is);(case k=>k_is))
  (case h2=>refine' Mr.cH ?a ?l ?c ?k;(case a=>k_is);(case l=>k_is);(case c=>k_is);(case k=>k_is))
  (case h3=>refine' Mr.cH ?a ?l ?c ?k;(case a=>k_is);(case l=>k_is);(case c=>k_is);(case k=>k_is))
  (case h4=>refine' Mr.cH ?a ?l ?c ?k;(case a=>k_is);(case l=>k_is);(case c=>k_is);(case k=>k_is))
  (case h5=>refine' Mr.cH ?a ?l ?c ?k;(case a=>k_is);(case l=>k_is);(case c=>k_is);(case k=>k_is))
  (case h6=>refine' Mr.cH ?a ?l ?c ?k;(case a=>k_is);(case l=>k_is);(case c=>k_is);(case k=>k_is))
  (case h7=>refine' Mr.cH ?a ?l ?c ?k;(case a=>k_is);(case l=>k_is);(case c=>k_is);(case k=>k_is))
  (case h8=>refine' Mr.cH ?a ?l ?c ?k;(case a=>k_is);(case l=>k_is);(case c=>k_is);(case k=>k_is))
  (case h9=>refine' Mr.cH ?a ?l ?c ?k;(case a=>k_is);(case l=>k_is);(case c=>k_is);(case k=>k_is))
  (case h10=>refine' Mr.cH ?a ?l ?c ?k;(case a=>k_is);(case l=>k_is);(case c=>k_is);(case k=>k_is))
  (case h11=>refine' Mr.cH ?a ?l ?c ?k;(case a=>k_is);(case l=>k_is);(case c=>k_is);(case k=>k_is))
  (case h12=>refine' Mr.cH ?a ?l ?c ?k;(case a=>k_is);(case l=>k_is);(case c=>k_is);(case k=>k_is))
  (case h13=>refine' Mr.cH ?a ?l ?c ?k;(case a=>k_is);(case l=>k_is);(case c=>k_is);(case k=>k_is))
  (case h14=>refine' Mr.cH ?a ?l ?c ?k;(case a=>k_is);(case l=>k_is);(case c=>k_is);(case k=>k_is))
  (case h15=>refine' Mr.cH ?a ?l ?c ?k;(case a=>k_is);(case l=>k_is);(case c=>k_is);(case k=>k_is))
  (case h16=>refine' Mr.cH ?a ?l ?c ?k;(case a=>k_is);(case l=>k_is);(case c=>k_is);(case k=>k_is))
  (case h17=>refine' Mr.cH ?a ?l ?c ?k;(case a=>k_is);(case l=>k_is);(case c=>k_is);(case k=>k_is))
  (case h18=>refine' Mr.cH ?a ?l ?c ?k;(case a=>k_is);(case l=>k_is);(case c=>k_is);(case k=>k_is))
  (case h19=>refine' Mr.cH ?a ?l ?c ?k;(case a=>k_is);(case l=>k_is);(case c=>k_is);(case k=>k_is))
  (case h20=>refine' Mr.cH ?a ?l ?c ?k;(case a=>k_is);(case l=>k_is);(case c=>k_is);(case k=>k_is))
  (case h21=>refine' Mr.cH ?a ?l ?c ?k;(case a=>k_is);(case l=>k_is);(case c=>k_is);(case k=>k_is))
  (case h22=>refine' Mr.cH ?a ?l ?c ?k;(case a=>k_is);(case l=>k_is);(case c=>k_is);(case k=>k_is))
  (case h23=>refine' Mr.cH ?a ?l ?c ?k;(case a=>k_is);(case l=>k_is);(case c=>k_is);(case k=>k_is))
  (case h24=>refine' Mr.cH ?a ?l ?c ?k;(case a=>k_is);(case l=>k_is);(case c=>k_is);(case k=>k_is))
  (case dM=>k_is)
  (case gD=>k_is)
  (case vX=>k_is)
  (case sF=>k_is)
  (case tL=>k_is)
  (case lK=>k_is)
  (case gK=>k_is)
  (case cU=>k_is)
  (case A1=>k_is)
#print axioms PySem.Challenge.cw_answertrees_k26_just_where_holds
