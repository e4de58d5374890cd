import PyProof.Rows.All
import Wide.All
import OpenK.AllK
import Wide.FinOn
import Lean
import PyProof.EqAt
import PyProof.EqKinds
import PyProof.TupleCall
import PySem.Challenge.RW_answertrees_k20_who_is_cut
open List (mem_range filterMap_cons of_mem_zip map_nil lookup_cons getElem_mem find?_cons any_cons length_cons length_nil nodup_nil ext_getElem perm_append_comm drop_drop append_assoc map_take map_drop drop_take drop_eq_nil_of_le take_take mem_reverse drop_length foldl_cons toList_toArray any_map contains_iff_mem all_cons getElem?_range not_lt getElem_map foldl_append not_mem_nil map_map cons_append map_id' nil_append all_nil perm_cons_erase take_succ length_pos_iff head?_drop flatten_cons mem_of_head?)
open Nat (lt_of_lt_of_le lt_irrefl le_trans le_of_lt ne_of_gt le_of_not_lt le_of_eq lt_succ_self lt_trans zero_lt_one le_add_right le_add_left zero_add sub_zero le_succ_of_le mod_lt mod_self)
open Bool (false_eq_true not_eq_true' not_eq_true)
open Option (getD_none isSome_map getD_some bind_some none_or or_none toList_some)
open Array (length_toList toList_inj getElem?_toList size_map)
open Int (toNat_natCast emod_nonneg emod_lt_of_pos)
open PySem.Heap (get?_update_self get?_update_other size_push)
open PySem.W (Frag methodObj keepIn fnOf codeIn nsIn mg_of)
open PySem.F (slot_tuple_add entry_tuple_add args_tuple_add_2 slot_dict_get entry_dict_get plainAttrs_dict type_dict_get slot_list_index type_list_index)
set_option compiler.extract_closed false
set_option Elab.async false
set_option linter.all false
set_option maxRecDepth 100000
abbrev ae:=@List.getElem?_eq_some_iff
abbrev af:=@PySem.wpAny_bind
abbrev ag:=@List.getElem?_eq_getElem
abbrev ah:=@if_neg
abbrev ai:=@if_pos
abbrev aj:=@List.length_map
abbrev ao:=@of_decide_eq_true
abbrev aq:=@List.getD_eq_getElem?_getD
abbrev au:=@PySem.Heap.get?_push_of_some
abbrev av:=@Bool.false_ne_true
abbrev ax:=@List.mem_cons_of_mem
abbrev ay:=@PySem.wpAny_pure
abbrev az:=@List.getElem?_map
abbrev ba:=@List.mem_of_getElem?
abbrev bb:=@List.all_eq_true
abbrev bf:=@List.mem_cons_self
abbrev bg:=@List.mem_append_right
abbrev bh:=@List.mem_map
abbrev bj:=@Nat.le_refl
abbrev bp:=@List.mem_append
abbrev bq:=@List.length_append
abbrev br:=@List.mem_cons
abbrev bu:=@List.map_append
abbrev bw:=@List.mem_append_left
abbrev bz:=@Bool.and_eq_true
abbrev cc:=@List.mem_singleton
abbrev cf:=@List.size_toArray
abbrev cm:=@Nat.lt_of_lt_of_le
abbrev cn:=@congrArg
abbrev cp:=@List.take_append_drop
abbrev cq:=@List.map_cons
abbrev cu:=@Option.map_eq_some_iff
abbrev cv:=@PySem.Heap.lt_size
abbrev cw:=@Nat.ne_of_lt
abbrev cz:=@Classical.byContradiction
abbrev dc:=@PySem.Heap.get?_push_size
abbrev de:=@List.append_assoc
abbrev df:=@List.getElem?_set_ne
abbrev dg:=@List.drop_eq_getElem_cons
abbrev dh:=@List.length_drop
abbrev di:=@List.length_take
abbrev dk:=@PySem.wpAny_mono
abbrev dm:=@beq_iff_eq
abbrev dq:=@List.take_length
abbrev du:=@List.getElem?_of_mem
abbrev dv:=@PySem.F.slot_list_append
abbrev dy:=@PySem.F.type_list_append
abbrev dz:=@List.getElem?_set_self
abbrev eh:=@Nat.zero_le
abbrev eu:=@List.length_range
abbrev ff:=@List.nodup_append
abbrev fj:=@List.pairwise_append
abbrev fm:=@PySem.PassesOwn.never
abbrev fq:=@PySem.wpAny_newObj_type
abbrev fu:=@List.mem_of_find?_eq_some
abbrev fw:=@List.nodup_cons
abbrev fx:=@List.mem_of_mem_take
abbrev fy:=@Nat.zero_add
abbrev fz:=@List.take_of_length_le
abbrev gc:=@Nat.le_trans
abbrev gd:=@of_decide_eq_false
abbrev gf:=@List.getElem?_take
abbrev gi:=@PySem.F.plainAttrs_list
abbrev gj:=@List.append_nil
abbrev gm:=@Nat.lt_succ_of_lt
abbrev gn:=@List.take_add_one
abbrev gp:=@PySem.mem_of_lookup
abbrev gq:=@List.drop_zero
abbrev gu:=@List.getElem?_append_right
abbrev gv:=@List.mem_flatMap
abbrev gw:=@List.getElem?_append_left
abbrev gx:=@List.length_replicate
abbrev gV:=@beq_self_eq_true
abbrev ie:=@Nat.lt_succ_iff_lt_or_eq
abbrev ig:=@PySem.wpAny_holding
abbrev ik:=@List.pairwise_cons
abbrev ip:=@List.find?_eq_none
abbrev iq:=@PyProof.Rows.KeyOrd.kle_refl
abbrev ir:=@Nat.le_of_lt
abbrev iu:=@List.getElem_mem
abbrev iw:=@List.any_eq_true
abbrev iz:=@PySem.wpAny_call_entry
abbrev ja:=@Array.getD_eq_getD_getElem?
abbrev jb:=@PyProof.Rows.slot_tuple_getitem
abbrev jc:=@List.mem_of_mem_drop
abbrev jd:=@PySem.Around.under_plainId
abbrev je:=@Option.isSome_iff_exists
abbrev jf:=@Nat.le_succ
abbrev jg:=@List.mem_filterMap
abbrev jh:=@List.getElem?_drop
abbrev ji:=@List.perm_append_comm
abbrev jj:=@PySem.F.plain_min_loop
abbrev jk:=@List.map_map
abbrev jm:=@List.map_congr_left
abbrev jn:=@List.length_set
abbrev jo:=@PySem.Calls.callWith_builtin
abbrev jq:=@Nat.min_eq_left
abbrev jr:=@List.mem_flatten
abbrev jt:=@List.find?_some
abbrev ju:=@PyProof.Rows.callWith_type1
abbrev jv:=@PySem.Calls.spliced_cons
abbrev jw:=@PySem.tupleKind_room_in1
abbrev jx:=@List.any_eq_false
abbrev jy:=@List.getElem?_inj
abbrev jz:=@PySem.wpAny_passesOwn
abbrev ka:=@List.Perm.append_left
abbrev ke:=@List.getElem?_zipIdx
abbrev kg:=@and_congr_right
abbrev kh:=@PySem.F.slot_tuple_iterator_next
abbrev km:=@List.length_zipIdx
abbrev kn:=@List.length_pos_of_mem
abbrev ko:=@List.head?_eq_getElem?
abbrev ku:=@Array.perm_iff_toList_perm
abbrev kz:=@List.pairwise_iff_getElem
abbrev lg:=@List.exists_mem_of_ne_nil
abbrev lh:=@PySem.W.mg_none_of
abbrev lj:=@Nat.lt_irrefl
abbrev lr:=@PySem.sizeLine_eq
abbrev lx:=@Nat.lt_of_le_of_ne
abbrev ly:=@List.take_sublist
abbrev lz:=@PyProof.Rows.KeyOrd.kle_trans
abbrev ma:=@List.filterMap_cons_some
abbrev md:=@List.getElem?_replicate
abbrev me:=@PySem.wpAny_callSpecial?_slot
abbrev mf:=@PySem.wpAny_getItem_str_slice
abbrev mh:=@List.mem_filter
abbrev mi:=@Nat.add_le_add_left
abbrev mj:=@PySem.codeAny_builtin
namespace L2
open PySem PySem.Spec PyProof.Rows
variable {a b it:Addr} {A:Around} {g':Array GenState} {op:CmpOp} {X:Cx} {d':Drawn} {c e tg:Expr} {fd:FuncData} {base h:Heap} {H:Hp} {g:Int->Int->Int} {CX:JL} {pins:List (Addr×Obj)} {ch fp:List Addr} {es:List Expr} {body:List Stmt} {N ps:List Str} {xs:List V} {us:List Value} {M:Model} {i j k n t':Nat} {o:Obj} {p pos:Pos} {P:Program} {K:Frag} {r:R2} {scope:Scope} {s:Shared} {sp:Sp} {σ:St} {qual x:Str} {kindOf:Str->Option NameKind} {mg:Str->Option Value} {ta:TA} {te:TE} {tb:TS} {tc:TT} {α κ:Type} {y:V} {u v:Value} {E Q:Value->Shared->Prop} {f:Value->Value->Sem Value} {w:World}
abbrev Key:=Sum Int Str
noncomputable def sO:Key->Value->Bool
 | .inl k,v=>Value.isInt k v
 | .inr x,v=>Value.isStrOf x v
noncomputable def abO (w:World):Key->Int
 | .inl k=>hashInt k
 | .inr x=>hashStr w x
theorem b6:∀{k:Key} {v:Value},sO k v=true->(∃i t,k=Sum.inl i/\v=Value.int i t)\/ (∃x t,k=Sum.inr x/\v=Value.str x t)
 | .inl i,v,h=>by
  obtain⟨t,e⟩:=Value.isInt_shape (k:=i) (v:=v) h;exact .inl ⟨i,t,rfl,e⟩
 | .inr x,v,h=>by
  obtain⟨t,e⟩:=Value.isStrOf_shape (x:=x) (v:=v) h;exact .inr ⟨x,t,rfl,e⟩
theorem IP (i:Int) (t:Tok):sO (.inl i) (.int i t)=true:=by simp[sO,Value.isInt]
theorem IA (x:Str) (t:Tok):sO (.inr x) (.str x t)=true:=by simp[sO,Value.isStrOf]
theorem VD (a b:Int):decide ((Sum.inl a:Key)=Sum.inl b)=(a==b):=by
 by_cases e:a=b
 .subst e;simp
 .have h:¬(Sum.inl a:Key)=Sum.inl b:=fun q=>e (Sum.inl.inj q)
  rw[decide_eq_false h];exact(beq_eq_false_iff_ne.mpr e).symm
theorem WW (a b:Str):decide ((Sum.inr a:Key)=Sum.inr b)=decide (a=b):=by
 by_cases e:a=b
 .subst e;simp
 .have h:¬(Sum.inr a:Key)=Sum.inr b:=fun q=>e (Sum.inr.inj q)
  rw[decide_eq_false h,decide_eq_false e]
theorem VO (a:Int) (b:Str):decide ((Sum.inl a:Key)=Sum.inr b)=false:=decide_eq_false (fun q=>nomatch q)
theorem X8 (a:Str) (b:Int):decide ((Sum.inr a:Key)=Sum.inl b)=false:=decide_eq_false (fun q=>nomatch q)
noncomputable def bU (prog:Program) (w:World):PySem.KeyKind prog w Key where
 is:=sO
 hash:=abO w
 inj:=fun v a b ha hb=>by
  rcases b6 ha with⟨i,t,rfl,rfl⟩|⟨x,t,rfl,rfl⟩
  .rcases b6 hb with⟨j,u,rfl,e⟩|⟨y,u,rfl,e⟩
   .injection e with e1 _;rw[e1]
   .exact nomatch e
  .rcases b6 hb with⟨j,u,rfl,e⟩|⟨y,u,rfl,e⟩
   .exact nomatch e
   .injection e with e1 _;rw[e1]
 byValue:=fun k v h=>by
  rcases b6 h with⟨i,t,rfl,rfl⟩|⟨x,t,rfl,rfl⟩<;>rfl
 pyHash:=fun hv h=>by
  rcases b6 hv with⟨i,t,rfl,rfl⟩|⟨x,t,rfl,rfl⟩
  .exact wpAny_pyHash_int h
  .exact wpAny_pyHash_str h
 eqBool:=fun hu hv h=>by
  rcases b6 hu with⟨i,t,rfl,rfl⟩|⟨x,t,rfl,rfl⟩
  .rcases b6 hv with⟨j,u,rfl,rfl⟩|⟨y,u,rfl,rfl⟩
   .rw[VD]at h;exact wpAny_eqBool_int h
   .rw[VO]at h;exact SeqAt.EqAt.int_str i t y u _ _ _ _ h
  .rcases b6 hv with⟨j,u,rfl,rfl⟩|⟨y,u,rfl,rfl⟩
   .rw[X8]at h;exact SeqAt.EqAt.str_int x t j u _ _ _ _ h
   .rw[WW]at h;exact wpAny_eqBool_str h
 «strs»:=fun k x t v h=>by
  rcases b6 h with⟨i,u,rfl,e⟩|⟨y,u,rfl,e⟩
  .exact nomatch e
  .injection e with e1 _
   subst e1;cases v<;>rfl
theorem BZ (prog:Program) (w:World) (i:Int) (t:Tok):(bU prog w).is (.inl i) (.int i t)=true:=IP i t
theorem BH (prog:Program) (w:World) (x:Str) (t:Tok):(bU prog w).is (.inr x) (.str x t)=true:=IA x t
inductive V where
 |bH|bl (b:Bool)|int (i:Int)|str (x:Str)|ZR (b:Array UInt8)|flt (b:UInt64)|ref (a:Addr)|ty (n:String)
 deriving DecidableEq
def RelV:V->Value->Prop
 | .bH,u=>u=Value.none
 | .bl b,u=>u=Value.bool b
 | .int i,u=>∃t,u=Value.int i t
 | .str x,u=>∃t,u=Value.str x t
 | .ZR b,u=>∃t,u=Value.bytes b t
 | .flt b,u=>∃t,u=Value.float b t
 | .ref a,u=>u=Value.ref a
 | .ty n,u=>u=Value.type n
abbrev Vals:List V->List Value->Prop:=Paired RelV
theorem Vals.length (r:Vals xs us):xs.length=us.length:=Paired.length r
theorem Vals.get:∀{xs:List V} {us:List Value} {i:Nat} {x:V},Vals xs us->xs[i]? =some x->∃u,us[i]? =some u/\RelV x u
 |_,_,_,_,.nil,e=>by simp at e
 |_,_,0,_,.cons r _,e=>by simp at e;subst e;exact⟨_,rfl,r⟩
 |_,_,i+1,x,.cons _ t,e=>by
  obtain⟨u,h1,h2⟩:=Vals.get (i:=i) (x:=x) t (by simpa using e);exact⟨u,by simpa using h1,h2⟩
theorem Vals.set {x:V} (r:RelV x u):∀{xs:List V} {us:List Value} (i:Nat),Vals xs us->Vals (xs.set i x) (us.set i u)
 |_,_,_,.nil=>.nil
 |_,_,0,.cons _ t=>.cons r t
 |_,_,i+1,.cons q t=>.cons q (Vals.set r i t)
theorem Vals.append:∀{xs ys:List V} {us ws:List Value},Vals xs us->Vals ys ws->Vals (xs++ys) (us++ws)
 |_,_,_,_,.nil,s=>s
 |_,_,_,_,.cons r t,s=>.cons r (Vals.append t s)
theorem Vals.take:∀{xs:List V} {us:List Value} (n:Nat),Vals xs us->Vals (xs.take n) (us.take n)
 |_,_,0,_=>.nil
 |_,_,_+1,.nil=>.nil
 |_,_,n+1,.cons r t=>.cons r (Vals.take n t)
theorem Vals.drop:∀{xs:List V} {us:List Value} (n:Nat),Vals xs us->Vals (xs.drop n) (us.drop n)
 |_,_,0,r=>r
 |_,_,_+1,.nil=>.nil
 |_,_,n+1,.cons _ t=>Vals.drop n t
def sZ:Option V->Option Value->Prop
 |some v,some u=>RelV v u
 |none,none=>True
 |_,_=>False
def KV:List (κ×V)->List (κ×Value)->Prop:=Paired fun(p:κ×V) (q:κ×Value)=>p.1=q.1/\RelV p.2 q.2
noncomputable def kV:Key->V
 | .inl i=>.int i
 | .inr x=>.str x
inductive HO where
 |lst (xs:List V)
 |tup (xs:List V)
 |dK (kvs:List (Key×V)) (ep:Nat)|dT (kvs:List (List Key×V))
 |set (S:Int->Bool) (n:Nat)
 |ins (C dx:Addr) (fs:List (Str×V))
 |own (x:Addr)
 |xd (fs:List (Str×V))
 |met (f x:Addr)
 |rng (lo hi:Int)
 |OF (o:Obj) (u:HO)
 |VR (ps:Array Value)
 |ext (φ:Heap->Prop)
abbrev Hp:=Addr->Option HO
noncomputable def upd (H:Hp) (a:Addr) (o:HO):Hp:=fun b=>if b=a then some o else H b
theorem aU {o:HO}:upd H a o a=some o:=by unfold upd;rw[ai rfl]
theorem aQ {o:HO} (h:b≠a):upd H a o b=H b:=by unfold upd;rw[ah h]
theorem J3 {o u:HO} (h:H a=some o) (h':H b=some u) (d:o≠u):a≠b:=by
 intro e;subst e;rw[h]at h';exact d (Option.some.inj h')
theorem bJ {o:HO} (h:H a=some o) (h':H b=none):a≠b:=by
 intro e;subst e;rw[h]at h';cases h'
def tE (h:Heap) (a:Addr) (items:Array Value):Prop:=IsTup h a items/\∀o,h.get? a=some o->o.dict=none
theorem tE.new (h:Heap) (items:Array Value):tE (h.push {cls:=.type "tuple",data:=.seq items}) h.objs.size items:=⟨IsTup.new _ _,fun o e=>by rw[dc _ rfl]at e;cases e;rfl⟩
theorem tE.of {items:Array Value} {sl:Array (Option Value)} (e:h.get? a=some {cls:=.type "tuple",dict:=none,data:=.seq items n,slots:=sl}):tE h a items:=⟨⟨_,e,rfl,_,rfl⟩,fun o q=>by rw[e]at q;cases q;rfl⟩
section
variable (P:Program) (w:World)
def dC (H:Hp) (h:Heap) (a:Addr):HO->Prop
 | .lst xs=>xs.length<=sizeLine/\∃(its:List Value) (n:Nat),Vals xs its/\h.get? a=some {cls:=.type "list",data:=.seq its.toArray n}
 | .tup xs=>xs.length<=sizeLine/\∃its:List Value,Vals xs its/\tE h a its.toArray
 | .dK kvs ep=>kvs.length<=sizeLine/\(a==sysModules)=false/\∃vs,KV kvs vs/\h.DictAt (bU P w) a vs ep
 | .dT kvs=>kvs.length<=sizeLine/\(a==sysModules)=false/\∃xs:List (List Key×Addr×Value),
   Paired (fun(p:List Key×V) (q:List Key×Addr×Value)=>p.1=q.1/\H q.2.1=some (.tup (p.1.map kV))/\RelV p.2 q.2.2) kvs xs/\
   ∃o es ep,h.get? a=some o/\o.ExactDict/\o.data= .dict es ep/\es.toList=xs.map (entryOfKey (tupleKind (bU P w)))/\(xs.map (·.1)).Nodup
 | .set S n=>h.SetOf (intKind P w) a S n
 | .ins C dx fs=>H dx=some (.own a)/\fs.length<=1000/\dx≠a/\h.get? a=some (PySem.W.instObj C dx)/\
   ∃mA,h.Ns1 dx mA/\(∀f,sZ (fs.lookup f) (mA f))/\PySem.Within mA (fs.map (·.1))
 | .own _=>∃o,h.get? a=some o
 | .xd fs=>∃mA,h.Ns1 a mA/\∀f,sZ (fs.lookup f) (mA f)
 | .rng lo hi=>∃t u v,h.get? a=some {cls:=.type "range",data:=.fields #[.int lo t,.int hi u,.int 1 v]}
 | .OF o u=>h.get? a=some o/\dC H h a u
 | .VR ps=>h.get? a=some {cls:=.none,data:=.fields ps}
 | .met f x=>h.get? a=some (methodObj (.ref f) (.ref x))
 | .ext φ=>φ h/\(∃o,h.get? a=some o)/\∀h1 h2:Heap,φ h1->(∀o,h1.get? a=some o->h2.get? a=some o)->φ h2
def nW (H:Hp) (h:Heap):Prop:=∀a o,H a=some o->dC P w H h a o
end
section
variable {P:Program} {w:World} {H H':Hp} {h h':Heap} {a:Addr} {o:HO}
theorem dC.lt (x:dC P w H h a o):a<h.objs.size:=by
 cases o with
 |lst xs=>obtain⟨_,_,_,_,e⟩:=x;exact cv e
 |tup xs=>obtain⟨_,_,_,p⟩:=x;exact p.1.lt
 |dK kvs ep=>obtain⟨_,_,_,_,o,_,e,_⟩:=x;exact cv e
 |dT kvs=>obtain⟨_,_,_,_,o,_,_,e,_⟩:=x;exact cv e
 |set S n=>obtain⟨o,_,_,_,e,_⟩:=x;exact cv e
 |ins C dx fs=>obtain⟨_,_,_,e,_⟩:=x;exact cv e
 |own y=>obtain⟨_,e⟩:=x;exact cv e
 |xd fs=>obtain⟨_,⟨_,_,_,e,_⟩,_⟩:=x;exact cv e
 |rng lo hi=>obtain⟨_,_,_,e⟩:=x;exact cv e
 |OF ob u=>obtain⟨e,_⟩:=x;exact cv e
 |VR ps=>exact cv (show h.get? a=some _ from x)
 |met f y=>exact cv (show h.get? a=some _ from x)
 |ext φ=>obtain⟨_,⟨_,e⟩,_⟩:=x;exact cv e
theorem Paired.VW {β:Type} {F G:α->β->Prop}:∀{l₁:List α} {l₂:List β},Paired F l₁ l₂->(∀a b,F a b->G a b)->Paired G l₁ l₂
 |_,_,.nil,_=>.nil
 |_,_,.cons r t,f=>.cons (f _ _ r) (Paired.VW t f)
theorem dC.aL (x:dC P w H h a o) (k:∀b u,(b=a\/ H b=some (.own a))->h.get? b=some u->h'.get? b=some u)
  (ho:∀b,H b=some (.own a)->H' b=some (.own a)) (ht:∀b xs,H b=some (.tup xs)->H' b=some (.tup xs)):dC P w H' h' a o:=by
 induction o with
 |lst xs=>obtain⟨z,its,n,r,e⟩:=x;exact⟨z,its,n,r,k _ _ (.inl rfl) e⟩
 |tup xs=>obtain⟨z,its,r,⟨ob,e,c⟩,nd⟩:=x;exact⟨z,its,r,⟨ob,k _ _ (.inl rfl) e,c⟩,fun o' e'=>by rw[k _ _ (.inl rfl) e]at e';cases e';exact nd _ e⟩
 |dK kvs ep=>obtain⟨z,y,vs,r,ob,es,e,c⟩:=x;exact⟨z,y,vs,r,ob,es,k _ _ (.inl rfl) e,c⟩
 |dT kvs=>
  obtain⟨z,y,xs,r,ob,es,ep,e,c⟩:=x;exact⟨z,y,xs,Paired.VW r fun p q z=>⟨z.1,ht _ _ z.2.1,z.2.2⟩,ob,es,ep,k _ _ (.inl rfl) e,c⟩
 |set S n=>obtain⟨ob,es,ep,t,e,c⟩:=x;exact⟨ob,es,ep,t,k _ _ (.inl rfl) e,c⟩
 |ins C dx fs=>
  obtain⟨d,z,ne,e,mA,⟨od,es,ep,e2,c⟩,r⟩:=x;exact⟨ho _ d,z,ne,k _ _ (.inl rfl) e,mA,⟨od,es,ep,k _ _ (.inr d) e2,c⟩,r⟩
 |own y=>obtain⟨ob,e⟩:=x;exact⟨ob,k _ _ (.inl rfl) e⟩
 |xd fs=>obtain⟨mA,⟨od,es,ep,e,c⟩,r⟩:=x;exact⟨mA,⟨od,es,ep,k _ _ (.inl rfl) e,c⟩,r⟩
 |rng lo hi=>obtain⟨t,u,v,e⟩:=x;exact⟨t,u,v,k _ _ (.inl rfl) e⟩
 |OF ob u ih=>obtain⟨e,q⟩:=x;exact⟨k _ _ (.inl rfl) e,ih q⟩
 |VR ps=>
  have e:h.get? a=some {cls:=.none,data:=.fields ps}:=x;show h'.get? a=some {cls:=.none,data:=.fields ps};exact k a _ (.inl rfl) e
 |met f y=>
  have e:h.get? a=some (methodObj (.ref f) (.ref y)):=x;show h'.get? a=some (methodObj (.ref f) (.ref y));exact k a _ (.inl rfl) e
 |ext φ=>obtain⟨p,⟨o,e⟩,st⟩:=x;exact⟨st _ _ p fun o q=>k _ _ (.inl rfl) q,⟨o,k _ _ (.inl rfl) e⟩,st⟩
theorem nW.lt (x:nW P w H h) (e:H a=some o):a<h.objs.size:=(x a o e).lt
theorem nW.fresh (x:nW P w H h) (e:h.objs.size<=a):H a=none:=by
 cases q:H a with
 |none=>rfl
 |some u=>exact absurd (cm (x.lt q) e) (lj _)
theorem nW.kept (x:nW P w H h) (k:∀b u,h.get? b=some u->h'.get? b=some u):nW P w H h':=fun a o e=>
 (x a o e).aL (fun b u _ q=>k b u q) (fun _ q=>q) fun _ _ q=>q
theorem nW.laid (x:nW P w H h) (k:∀b u,h.get? b=some u->h'.get? b=some u) (hp:h.objs.size<=a) (new:dC P w (upd H a o) h' a o):nW P w (upd H a o) h':=fun b u e=>by
 have hn:=x.fresh hp
 by_cases hb:b=a
 .subst hb;rw[aU]at e;cases e;exact new
 .rw[aQ hb]at e;exact(x b u e).aL (fun c v _ q=>k c v q) (fun c q=>by rw[aQ (bJ q hn)];exact q) fun c xs q=>by rw[aQ (bJ q hn)];exact q
end
def Rd (H:Hp) (a:Addr) (u:HO):Prop:=H a=some u\/ ∃o,H a=some (.OF o u)
theorem Rd.ok {a:Addr} {u:HO} (r:Rd H a u) (x:nW P w H h):dC P w H h a u:=by
 rcases r with r|⟨o,r⟩
 .exact x a u r
 .obtain⟨_,q⟩:=x a _ r;exact q
def YC:Option HO->Prop
 |some (.lst _)=>True
 |some (.dK _ _)=>True
 |some (.dT _)=>True
 |some (.set _ _)=>True
 |some (.ins _ _ _)=>True
 |some (.ext _)=>True
 |_=>False
section
variable {P:Program} {w:World} {H:Hp} {h h':Heap} {x e:Addr} {o':HO}
theorem nW.write (ok:nW P w H h) (mu:YC (H x)) (he:e=x\/ H e=some (.own x)) (k:∀b u,b≠e->h.get? b=some u->h'.get? b=some u) (heo:∃u,h'.get? e=some u)
  (new:dC P w (upd H x o') h' x o'):nW P w (upd H x o') h':=fun b u q=>by
 have nown:∀c y,H c=some (.own y)->c≠x:=fun c y r z=>by subst z;rw[r]at mu;exact mu
 have ntup:∀c xs,H c=some (.tup xs)->c≠x:=fun c xs r z=>by subst z;rw[r]at mu;exact mu
 by_cases hb:b=x
 .subst hb;rw[aU]at q;cases q;exact new
 .rw[aQ hb]at q
  by_cases hbe:b=e
  .have q':H b=some (.own x):=by
    rcases he with z|z
    .exact absurd (hbe.trans z) hb
    .rw[hbe];exact z
   rw[q]at q';cases q'
   obtain⟨v,hv⟩:=heo;exact⟨v,by rw[hbe];exact hv⟩
  .refine(ok b u q).aL (fun c v hc r=>k c v ?_ r) (fun c r=>by rw[aQ (nown c b r)];exact r) fun c xs r=>by rw[aQ (ntup c xs r)];exact r
   rcases hc with rfl|hc
   .exact hbe
   .rintro rfl;rcases he with z|z
    .exact nown c b hc z
    .rw[hc]at z;cases z;exact hb rfl
end
structure Un (fs ex:List Addr) (H H':Hp) (h h':Heap):Prop where
 keep:∀b o,h.get? b=some o->H b=none->b∉fs->b∉ex->h'.get? b=some o
 slot:∀b o,h.get? b=some o->H b=none->b∈fs->b∉ex->∃sl,h'.get? b=some {o with slots:=sl}
 free:∀b o,h.get? b=some o->H b=none->b∉ex->H' b=none
 there:∀b o,h.get? b=some o->b∉ex->∃o',h'.get? b=some o'
 vZ:∀b xs,H b=some (.tup xs)->H' b=some (.tup xs)
 vS:∀b o u,H b=some (.OF o u)->H' b=some (.OF o u)
 wF:∀b ps,H b=some (.VR ps)->∃more,H' b=some (.VR (ps++more))
section
variable {fs fs' ex ex':List Addr} {H H1 H2:Hp} {h h1 h2 h':Heap} {a x e:Addr} {o:HO}
theorem Un.any (u:Un fs ex H H1 h h1) {ob:Obj} (q:h.get? b=some ob) (n:H b=none) (hx:b∉ex):∃sl,h1.get? b=some {ob with slots:=sl}:=by
 by_cases hb:b∈fs
 .exact u.slot b ob q n hb hx
 .exact⟨ob.slots,u.keep b ob q n hb hx⟩
theorem Un.kept (k:∀b u,h.get? b=some u->h'.get? b=some u):Un fs ex H H h h':=
 ⟨fun b ob q _ _ _=>k b ob q,fun b ob q _ _ _=>⟨ob.slots,k b ob q⟩,fun _ _ _ n _=>n,fun b ob q _=>⟨ob,k b ob q⟩,fun _ _ q=>q,fun _ _ _ q=>q,fun _ ps q=>⟨#[],by rw[q];simp⟩⟩
theorem Un.refl:Un fs ex H H h h:=Un.kept fun _ _ q=>q
theorem Un.laid (k:∀b u,h.get? b=some u->h'.get? b=some u) (hp:h.objs.size<=a) (hn:H a=none):Un fs ex H (upd H a o) h h' where
 keep:=fun b u q _ _ _=>k b u q
 slot:=fun b u q _ _ _=>⟨u.slots,k b u q⟩
 free:=fun b u q n _=>by rw[aQ (cw (cm (cv q) hp))];exact n
 there:=fun b u q _=>⟨u,k b u q⟩
 vZ:=fun b xs q=>by rw[aQ (bJ q hn)];exact q
 vS:=fun b u xs q=>by rw[aQ (bJ q hn)];exact q
 wF:=fun b ps q=>⟨#[],by rw[aQ (bJ q hn),q];simp⟩
theorem Un.write (mu:YC (H x)) (he:e=x\/ H e=some (.own x)) (k:∀b u,b≠e->h.get? b=some u->h'.get? b=some u) (heo:∃u,h'.get? e=some u):Un fs ex H (upd H x o) h h':=by
 have hx:∀b,H b=none->b≠x:=fun b n z=>by subst z;rw[n]at mu;exact mu
 have hb:∀b,H b=none->b≠e:=fun b n z=>by
  subst z;rcases he with r|r
  .exact hx b n r
  .rw[n]at r;cases r
 have hm:∀b u,H b=some u->¬YC (some u)->b≠x:=fun b u q nm z=>by subst z;rw[q]at mu;exact nm mu
 refine⟨fun b u q n _ _=>k b u (hb b n) q,fun b u q n _ _=>⟨u.slots,k b u (hb b n) q⟩,fun b u q n _=>by rw[aQ (hx b n)];exact n,fun b u q _=>?_,
  fun b xs q=>by rw[aQ (hm b _ q fun z=>z)];exact q,fun b u xs q=>by rw[aQ (hm b _ q fun z=>z)];exact q,fun b ps q=>⟨#[],by rw[aQ (hm b _ q fun z=>z),q];simp⟩⟩
 by_cases hbe:b=e
 .subst hbe;exact heo
 .exact⟨u,k b u hbe q⟩
end
noncomputable def trk (h:Heap) (H:Hp):List Addr:=(List.range h.objs.size).filter fun a=>(H a).isSome
noncomputable def zT (h:Heap) (H:Hp):Heap:=PySem.W.hideAll h (trk h H)
theorem ID (h:Heap) (H:Hp):(zT h H).objs.size=h.objs.size:=PySem.W.hideAll_size _ _
theorem KD (e:h.get? b=some o) (n:H b=none):(zT h H).get? b=some o:=
 PySem.W.hideAll_get _ e fun hm=>by
  have q:(H b).isSome=true:=(mh.mp hm).2;rw[n]at q;simp at q
theorem P4 {H:Hp} {b:Addr} (e:(zT h H).get? b=some o):h.get? b=some o/\H b=none:=by
 have e':h.get? b=some o:=PySem.W.of_hideAll (trk h H) e;refine⟨e',?_⟩;cases q:H b with
 |none=>rfl
 |some x=>
  have hm:b∈trk h H:=mh.mpr ⟨mem_range.mpr (cv e'),by simp[q]⟩;have z:(zT h H).get? b=none:=PySem.W.hideAll_none (trk h H) hm;rw[z]at e;cases e
structure Mod (K:Frag) (mg:Str->Option Value) (base:Heap):Prop where
 kin:K.In base
 glob:base.Ns mainGlobals mg
 blt:∃mb,base.Ns builtinsNs mb/\∀x:Str,x≠"__name__"->mb x=bootBuiltins x
 nolimit:base.NoLimit
structure Cx where
 prog:Program
 w:World
 K:Frag
 mg:Str->Option Value
 base:Heap
 A:Around
 N:List Str
 gP:Shared
 M5:Hp
 env:Env
 outer:List Env
 stack:List Env
 ex:List Addr
 fn:Str->Bool
 calm:Bool
 pn:List (Addr×Obj)
 xe:Value->Shared->Prop
noncomputable def HV (l:List Env):List Addr:=l.filterMap (·.frame)
noncomputable abbrev Cx.fs (X:Cx):List Addr:=HV X.outer
def Vis (sc:Scope) (x:Str):Prop:=sc.names.lookup x=some .local\/ sc.names.lookup x=some .cell\/ sc.names.lookup x=some .free
def Loc (sc:Scope) (x:Str):Prop:=sc.names.lookup x=some .local\/ sc.names.lookup x=some .cell
def Look (env:Env) (h:Heap) (m:Str->Option Value) (x:Str) (u:Value):Prop:=
 (env.kindOf x=some .local/\m x=some u)\/ ((env.kindOf x=some .cell\/ env.kindOf x=some .free)/\∃c,env.cells.lookup x=some c/\h.IsCell c (some u))
structure Cx.Ok (X:Cx):Prop where
 mod:Mod X.K X.mg X.base
 kind:X.env.scope.kind= .function
 glob:X.env.globals=mainGlobals
 blt:X.env.builtins=builtinsNs
 above:X.gP.heap.objs.size<=X.env.locals
 inj:∀x y c,X.env.cells.lookup x=some c->X.env.cells.lookup y=some c->x=y
 has:∀x,(X.env.kindOf x=some .cell\/ X.env.kindOf x=some .free)->∃c,X.env.cells.lookup x=some c
 YB:∀x c,X.fn x=true->X.env.cells.lookup x=some c->X.gP.heap.objs.size<=c
 hd:X.calm=true->X.A.handled=none
 frames:X.A.frames=some X.stack
 stk:X.stack=X.outer\/ (X.stack=X.env::X.outer/\X.env.frame=some X.env.locals)
 exf:∀b∈X.ex,b≠X.env.locals/\∀x c,X.env.cells.lookup x=some c->c≠b
 bs:∀b o,X.base.get? b=some o->X.gP.heap.get? b=some o/\X.M5 b=none
 QU:X.base.objs.size<=X.gP.heap.objs.size
 IF:∀b o,X.base.get? b=some o->b∉X.ex
 A0:∀b∈X.ex,b∉X.fs
 sR:X.gP.heap.FunFrames X.base X.outer
 T6:∀b∈X.fs,X.M5 b=none
structure Inv (X:Cx) (pins:List (Addr×Obj)) (σ:List (Option V)) (H:Hp) (s:Shared):Prop where
 ok:X.Ok
 os:s.os=X.gP.os
 bare:AllBare s.gens
 base:Un X.fs X.ex X.M5 H X.gP.heap s.heap
 loc:∃m,s.heap.Ns X.env.locals m/\∀(i:Nat) (x:Str) (v:V),X.N[i]? =some x->σ[i]? =some (some v)->Vis X.env.scope x->∃u,RelV v u/\Look X.env s.heap m x u
 cell:∀x c,X.env.cells.lookup x=some c->∃v,s.heap.IsCell c v
 free:H X.env.locals=none
 m8:∀x c,X.env.cells.lookup x=some c->H c=none
 pin:∀p∈X.pn++pins,s.heap.get? p.1=some p.2/\H p.1=none/\p.1≠X.env.locals/\p.1∉X.fs/\∀v,p.2.data≠ .cell v
 bS:nW X.prog X.w H s.heap
 len:σ.length=X.N.length
section
variable {X:Cx} {pins:List (Addr×Obj)} {σ:List (Option V)} {H H':Hp} {s:Shared} {h':Heap}
theorem Cx.Ok.acP (ok:X.Ok) (e:X.base.get? b=some o):b∉X.fs:=fun hb=>by
 have:=(ok.sR.mem hb).1;rw[e]at this;cases this
theorem Inv.bs (I:Inv X pins σ H s):∀b o,X.base.get? b=some o->s.heap.get? b=some o/\H b=none:=fun b o e=>
 ⟨I.base.keep b o (I.ok.bs b o e).1 (I.ok.bs b o e).2 (I.ok.acP e) (I.ok.IF b o e),I.base.free b o (I.ok.bs b o e).1 (I.ok.bs b o e).2 (I.ok.IF b o e)⟩
theorem Inv.bk (I:Inv X pins σ H s):∀b o,X.base.get? b=some o->s.heap.get? b=some o:=fun b o e=>(I.bs b o e).1
theorem Inv.mod (I:Inv X pins σ H s):Mod X.K X.mg X.base:=I.ok.mod
theorem Inv.YJ (I:Inv X pins σ H s):X.K.In s.heap:=I.ok.mod.kin.keeps I.bk
theorem Inv.lt (I:Inv X pins σ H s):X.env.locals<s.heap.objs.size:=let⟨_,hn,_⟩:=I.loc;hn.lt
theorem Inv.sz (I:Inv X pins σ H s):X.gP.heap.objs.size<=s.heap.objs.size:=gc I.ok.above (ir I.lt)
theorem Inv.Y1 (I:Inv X pins σ H s) (h:s.heap.objs.size<=a):a∉X.fs:=fun hb=>by
 obtain⟨_,o,ho,_⟩:=I.ok.sR.mem hb;exact absurd (cm (cv ho) (gc I.sz h)) (lj _)
theorem Inv.WZ (I:Inv X pins σ H s):∀x c,X.env.cells.lookup x=some c->c≠X.env.locals:=fun x c e z=>by
 obtain⟨v,o,ho,hd⟩:=I.cell x c e;obtain⟨m,⟨o',es,ep,ho',hd',_⟩,_⟩:=I.loc;rw[z,ho']at ho;cases ho;rw[hd']at hd;cases hd
theorem Inv.sR (I:Inv X pins σ H s):s.heap.FunFrames X.base X.outer:=by
 have all:∀(l:List Env),(∀b∈HV l,b∈X.fs)->X.gP.heap.FunFrames X.base l->s.heap.FunFrames X.base l:=by
  intro l
  induction l with
  |nil=>intro _ _;trivial
  |cons env r ih=>
   intro hs hl;obtain⟨hk,⟨L,o,hf,hn,ho,hd⟩,hr⟩:=hl;have hL:L∈X.fs:=hs L (by unfold HV;rw[filterMap_cons,hf];exact bf);obtain⟨sl,e⟩:=I.base.slot L o ho (I.ok.T6 L hL) hL fun z=>I.ok.A0 L z hL
   exact⟨hk,⟨L,_,hf,hn,e,hd⟩,ih (fun b hb=>hs b (by unfold HV;rw[filterMap_cons,hf];exact ax _ hb)) hr⟩
 exact all X.outer (fun _ hb=>hb) I.ok.sR
theorem Inv.stack (I:Inv X pins σ H s):s.heap.FunFrames X.base X.stack:=by
 rcases I.ok.stk with e|⟨e,hf⟩
 .rw[e];exact I.sR
 .rw[e];obtain⟨m,hn,_⟩:=I.loc;refine .cons (by rw[I.ok.kind];decide) hf hn ?_ I.sR;exact Heap.get?_none_of_le (gc I.ok.QU I.ok.above)
theorem Inv.C6 (I:Inv X pins σ H s):∀b∈HV X.stack,b∈X.env.locals::X.fs:=fun b hb=>by
 rcases I.ok.stk with e|⟨e,hf⟩
 .rw[e]at hb;exact ax _ hb
 .rw[e]at hb;unfold HV at hb;rw[filterMap_cons,hf]at hb;exact hb
theorem Inv.E7 (I:Inv X pins σ H s):∀b∈HV X.stack,H b=none:=fun b hb=>by
 rcases br.mp (I.C6 b hb)with e|hb
 .rw[e];exact I.free
 .obtain⟨_,o,ho,_⟩:=I.ok.sR.mem hb;exact I.base.free b o ho (I.ok.T6 b hb) fun z=>I.ok.A0 b z hb
theorem Inv.step (I:Inv X pins σ H s)
  (hch:∀b∈ch,(b∈X.ex\/ X.gP.heap.objs.size<=b)/\b≠X.env.locals/\(∀x c,X.env.cells.lookup x=some c->c≠b)/\∀p∈X.pn++pins,p.1≠b)
  (keep:∀b o,b≠X.env.locals->b∉X.fs->b∉ch->s.heap.get? b=some o->H b=none->h'.get? b=some o)
  (slot:∀b o,b≠X.env.locals->b∈X.fs->b∉ch->s.heap.get? b=some o->H b=none->∃sl,h'.get? b=some {o with slots:=sl}) (free:∀b o,b∉ch->s.heap.get? b=some o->H b=none->H' b=none)
  (there:∀b o,b∉ch->s.heap.get? b=some o->∃o',h'.get? b=some o')
  (vZ:∀b xs,H b=some (.tup xs)->H' b=some (.tup xs)) (vS:∀b o u,H b=some (.OF o u)->H' b=some (.OF o u)) (wF:∀b ps,H b=some (.VR ps)->∃more,H' b=some (.VR (ps++more)))
  (ns:∀m,s.heap.Ns X.env.locals m->h'.Ns X.env.locals m) (bS:nW X.prog X.w H' h') (hg:AllBare g'):
  Inv X pins σ H' {s with heap:=h',gens:=g',drawn:=d',toks:=t'}:=by
 have neL:∀b o,X.gP.heap.get? b=some o->b≠X.env.locals:=fun b o e=>cw (cm (cv e) I.ok.above)
 have neC:∀b o,X.gP.heap.get? b=some o->b∉X.ex->b∉ch:=fun b o e hx hb=>by
  rcases(hch b hb).1 with z|z
  .exact hx z
  .exact absurd (cm (cv e) z) (lj _)
 have cellK:∀x c,X.env.cells.lookup x=some c->∀v,s.heap.IsCell c v->h'.IsCell c v:=fun x c e v ⟨o,ho,hd⟩=>by
  have nch:c∉ch:=fun z=>(hch c z).2.2.1 x c e rfl
  by_cases hc:c∈X.fs
  .obtain⟨sl,q⟩:=slot c o (I.WZ x c e) hc nch ho (I.m8 x c e);exact⟨_,q,hd⟩
  .exact⟨o,keep c o (I.WZ x c e) hc nch ho (I.m8 x c e),hd⟩
 refine⟨I.ok,I.os,hg,⟨fun b o e n hb hx=>?_,fun b o e n hb hx=>?_,fun b o e n hx=>?_,fun b o e hx=>?_,fun b xs e=>vZ b xs (I.base.vZ b xs e),fun b o xs e=>vS b o xs (I.base.vS b o xs e),fun b ps e=>?_⟩,?_,fun x c e=>?_,?_,fun x c e=>?_,fun p hp=>?_,bS,I.len⟩
 .exact keep b o (neL b o e) hb (neC b o e hx) (I.base.keep b o e n hb hx) (I.base.free b o e n hx)
 .obtain⟨sl,e1⟩:=I.base.slot b o e n hb hx;obtain⟨sl',e2⟩:=slot b _ (neL b o e) hb (neC b o e hx) e1 (I.base.free b o e n hx);exact⟨sl',e2⟩
 .obtain⟨o',e1⟩:=I.base.there b o e hx;exact free b o' (neC b o e hx) e1 (I.base.free b o e n hx)
 .obtain⟨o',e1⟩:=I.base.there b o e hx;exact there b o' (neC b o e hx) e1
 .obtain⟨m1,e1⟩:=I.base.wF b ps e;obtain⟨m2,e2⟩:=wF b _ e1;exact⟨m1++m2,by rw[e2,Array.append_assoc]⟩
 .obtain⟨m,hn,hl⟩:=I.loc;refine⟨m,ns m hn,fun i x v e1 e2 e3=>?_⟩;obtain⟨u,r,l⟩:=hl i x v e1 e2 e3;refine⟨u,r,?_⟩;rcases l with l|⟨k,c,e,z⟩
  .exact .inl l
  .exact .inr ⟨k,c,e,cellK x c e _ z⟩
 .obtain⟨v,z⟩:=I.cell x c e;exact⟨v,cellK x c e v z⟩
 .obtain⟨m,⟨o,_,_,ho,_⟩,_⟩:=I.loc;exact free _ o (fun z=>(hch _ z).2.1 rfl) ho I.free
 .obtain⟨v,o,ho,hd⟩:=I.cell x c e;exact free c o (fun z=>(hch c z).2.2.1 x c e rfl) ho (I.m8 x c e)
 .obtain⟨e,n,ne,nf,d⟩:=I.pin p hp;have nch:p.1∉ch:=fun z=>(hch p.1 z).2.2.2 p hp rfl
  exact⟨keep p.1 p.2 ne nf nch e n,free p.1 p.2 nch e n,ne,nf,d⟩
theorem Inv.un (I:Inv X pins σ H s) (u:Un X.fs [] H H' s.heap h') (bS:nW X.prog X.w H' h'):Inv X pins σ H' {s with heap:=h',toks:=t'}:=by
 obtain⟨m,⟨o,es,ep,ho,r⟩,_⟩:=id I.loc;obtain⟨sl,hL⟩:=u.any ho I.free (by simp);exact I.step (g':=s.gens) (d':=s.drawn) (ch:=[]) (fun _ z=>nomatch z) (fun b o _ hb _ e n=>u.keep b o e n hb (by simp)) (fun b o _ hb _ e n=>u.slot b o e n hb (by simp)) (fun b o _ e n=>u.free b o e n (by simp)) (fun b o _ e=>u.there b o e (by simp)) u.vZ u.vS u.wF (fun m' hm=>by
  obtain⟨o',es',ep',ho',r'⟩:=hm;rw[ho]at ho';cases ho'
  exact⟨_,es',ep',hL,r'⟩) bS I.bare
theorem Inv.call (I:Inv X pins σ H s) (u:Un (HV X.stack) ch H H' s.heap h') (bS:nW X.prog X.w H' h') (hg:AllBare g')
  (hch:∀b∈ch,(b∈X.ex\/ X.gP.heap.objs.size<=b)/\b≠X.env.locals/\(∀x c,X.env.cells.lookup x=some c->c≠b)/\∀p∈X.pn++pins,p.1≠b):
  Inv X pins σ H' {s with heap:=h',gens:=g',drawn:=d',toks:=t'}:=by
 obtain⟨m,⟨o,es,ep,ho,r⟩,_⟩:=id I.loc;obtain⟨sl,hL⟩:=u.any ho I.free fun z=>(hch _ z).2.1 rfl
 exact I.step (ch:=ch) hch (fun b o hL hb hc e n=>u.keep b o e n (fun z=>(br.mp (I.C6 b z)).elim hL hb) hc) (fun b o _ _ hc e n=>u.any e n hc) (fun b o hc e n=>u.free b o e n hc) (fun b o hc e=>u.there b o e hc) u.vZ u.vS u.wF (fun m' hm=>by
  obtain⟨o',es',ep',ho',r'⟩:=hm;rw[ho]at ho';cases ho'
  exact⟨_,es',ep',hL,r'⟩) bS hg
theorem Inv.turned (I:Inv X pins σ H s) (k:∀b o,b≠it->s.heap.get? b=some o->h'.get? b=some o) (hn:H it=none) (hL:it≠X.env.locals)
  (h1:it∈X.ex\/ X.gP.heap.objs.size<=it) (h2:∀x c,X.env.cells.lookup x=some c->c≠it) (h3:∀p∈X.pn++pins,p.1≠it):Inv X pins σ H {s with heap:=h',toks:=t'}:=by
 have nit:∀b u,H b=some u->b≠it:=fun b u e z=>by rw[z,hn]at e;cases e
 refine I.step (g':=s.gens) (d':=s.drawn) (ch:=[it]) (fun b hb=>?_) (fun b o _ _ hc e _=>k b o (fun z=>hc (by simp[z])) e) (fun b o _ _ hc e _=>⟨o.slots,k b o (fun z=>hc (by simp[z])) e⟩) (fun _ _ _ _ n=>n)
  (fun b o hc e=>⟨o,k b o (fun z=>hc (by simp[z])) e⟩) (fun _ _ e=>e) (fun _ _ _ e=>e) (fun b ps e=>⟨#[],by rw[e];simp⟩) (fun m hm=>?_) (fun b u e=>?_) I.bare
 .have e:b=it:=by simpa using hb
  subst e;exact⟨h1,hL,h2,h3⟩
 .obtain⟨o,es,ep,ho,r⟩:=hm;exact⟨o,es,ep,k _ o (Ne.symm hL) ho,r⟩
 .refine(I.bS b u e).aL (fun c v hc q=>k c v ?_ q) (fun _ q=>q) fun _ _ q=>q
  rcases hc with z|z
  .rw[z];exact nit b u e
  .exact nit c _ z
theorem Inv.tok (I:Inv X pins σ H s) (t:Nat):Inv X pins σ H {s with toks:=t}:=I.un (h':=s.heap) (t':=t) Un.refl I.bS
theorem Inv.kept (I:Inv X pins σ H s) (k:∀b u,s.heap.get? b=some u->h'.get? b=some u):Inv X pins σ H {s with heap:=h',toks:=t'}:=I.un (Un.kept k) (I.bS.kept k)
theorem Inv.laid {o:HO} (I:Inv X pins σ H s) (k:∀b u,s.heap.get? b=some u->h'.get? b=some u) (hp:s.heap.objs.size<=a) (new:dC X.prog X.w (upd H a o) h' a o):
  Inv X pins σ (upd H a o) {s with heap:=h',toks:=t'}:=I.un (Un.laid k hp (I.bS.fresh hp)) (I.bS.laid k hp new)
theorem Inv.write {x e:Addr} {o:HO} (I:Inv X pins σ H s) (mu:YC (H x)) (he:e=x\/ H e=some (.own x)) (k:∀b u,b≠e->s.heap.get? b=some u->h'.get? b=some u) (heo:∃u,h'.get? e=some u)
  (new:dC X.prog X.w (upd H x o) h' x o):Inv X pins σ (upd H x o) {s with heap:=h',toks:=t'}:=I.un (Un.write mu he k heo) (I.bS.write mu he k heo new)
theorem Inv.t6 {pins':List (Addr×Obj)} (I:Inv X pins σ H s) (h:∀p∈pins',s.heap.get? p.1=some p.2/\H p.1=none/\p.1≠X.env.locals/\p.1∉X.fs/\∀v,p.2.data≠ .cell v):Inv X pins' σ H s:=
 ⟨I.ok,I.os,I.bare,I.base,I.loc,I.cell,I.free,I.m8,fun p hp=>(bp.mp hp).elim (fun z=>I.pin p (bw _ z)) (h p),I.bS,I.len⟩
theorem BK (hN:N.Nodup) (a:N[i]? =some x) (b:N[j]? =some x):i=j:=by
 obtain⟨h1,e1⟩:=ae.mp a;obtain⟨h2,e2⟩:=ae.mp b;exact(List.getElem_inj hN).mp (e1.trans e2.symm)
theorem IL {x:Str} {v:V} {Q:Unit->Shared->Prop} (I:Inv X pins σ H s) (hN:X.N.Nodup) (hi:X.N[i]? =some x) (hx:Loc X.env.scope x) (r:RelV v u)
  (h:∀s',Inv X pins (σ.set i (some v)) H s'->(∃a,Heap.SameBut a s.heap s'.heap/\(a=X.env.locals\/ X.env.cells.lookup x=some a))->Q () s') (hf:X.fn x=true\/ X.env.scope.names.lookup x=some .local:=by first|exact .inl rfl|exact .inr rfl|assumption):wpAny M A (storeName X.env x u) Q E s:=by
 obtain⟨m,hn,hl⟩:=id I.loc;have hcls:(X.env.scope.kind== .class||(X.env.scope.kind== .module && X.env.locals !=X.env.globals))=false:=by rw[I.ok.kind];rfl
 have hiσ:i<σ.length:=by rw[I.len];exact(ae.mp hi).1
 have WZ:=I.WZ;have tracked:∀{a:Addr} {h':Heap},(∃o,s.heap.get? a=some o/\H a=none)->Heap.SameBut a s.heap h'->nW X.prog X.w H h':=fun{a h'} ha hs b ob e=>by
  obtain⟨_,_,hfree⟩:=ha;refine(I.bS b ob e).aL (fun c w' hc q=>(hs.2 c ?_).trans q) (fun _ q=>q) fun _ _ q=>q
  rintro rfl;rcases hc with rfl|hc
  .rw[hfree]at e;cases e
  .rw[hfree]at hc;cases hc
 rcases hx with hk|hk
 .refine wpAny_storeName_local hk hn (fun h' hn' hs=>?_) hcls;obtain⟨oL,_,_,hoL,_⟩:=id hn;refine h _ ⟨I.ok,I.os,I.bare,⟨fun b o e n hb hx=>?_,fun b o e n hb hx=>?_,I.base.free,fun b o e hx=>?_,I.base.vZ,I.base.vS,I.base.wF⟩,⟨_,hn',fun j y v' e1 e2 e3=>?_⟩,fun y c e=>?_,I.free,I.m8,fun p hp=>?_,tracked ⟨oL,hoL,I.free⟩ hs,by simpa using I.len⟩ ⟨_,hs,.inl rfl⟩
  .exact(hs.2 b (cw (cm (cv e) I.ok.above))).trans (I.base.keep b o e n hb hx)
  .obtain⟨sl,e1⟩:=I.base.slot b o e n hb hx;exact⟨sl,(hs.2 b (cw (cm (cv e) I.ok.above))).trans e1⟩
  .obtain⟨o',e1⟩:=I.base.there b o e hx;exact⟨o',(hs.2 b (cw (cm (cv e) I.ok.above))).trans e1⟩
  .by_cases hj:j=i
   .subst hj;rw[hi]at e1;cases e1
    rw[dz hiσ]at e2;cases e2;exact⟨u,r,.inl ⟨hk,by simp⟩⟩
   .rw[df (Ne.symm hj)]at e2;obtain⟨u',r',q⟩:=hl j y v' e1 e2 e3;refine⟨u',r',?_⟩;rcases q with⟨k,e⟩|⟨k,c,e,z⟩
    .refine .inl ⟨k,?_⟩;have:y≠x:=fun e=>hj (BK hN e1 (e▸hi))
     simp[this,e]
    .exact .inr ⟨k,c,e,z.sameBut hs (WZ y c e)⟩
  .obtain⟨w',z⟩:=I.cell y c e;exact⟨w',z.sameBut hs (WZ y c e)⟩
  .obtain⟨e,n,ne,nf,d⟩:=I.pin p hp;exact⟨(hs.2 p.1 ne).trans e,n,ne,nf,d⟩
 .have hfn:X.fn x=true:=by
   rcases hf with z|z
   .exact z
   .rw[z]at hk;cases hk
  obtain⟨c,hc⟩:=I.ok.has x (.inl hk);obtain⟨w',z⟩:=I.cell x c hc;refine wpAny_storeName_cell I.ok.kind hk hc z (fun h' hc' hs=>?_);obtain⟨oc,hoc,hocd⟩:=id z;refine h {s with heap:=h'} ⟨I.ok,I.os,I.bare,⟨fun b o e n hb hx=>?_,fun b o e n hb hx=>?_,I.base.free,fun b o e hx=>?_,I.base.vZ,I.base.vS,I.base.wF⟩,⟨m,hn.sameBut hs (Ne.symm (WZ x c hc)),fun j y v' e1 e2 e3=>?_⟩,fun y c' e=>?_,I.free,I.m8,fun p hp=>?_,tracked ⟨oc,hoc,I.m8 x c hc⟩ hs,by simpa using I.len⟩ ⟨c,hs,.inr hc⟩
  .exact(hs.2 b (cw (cm (cv e) (I.ok.YB x c hfn hc)))).trans (I.base.keep b o e n hb hx)
  .obtain⟨sl,e1⟩:=I.base.slot b o e n hb hx;exact⟨sl,(hs.2 b (cw (cm (cv e) (I.ok.YB x c hfn hc)))).trans e1⟩
  .obtain⟨o',e1⟩:=I.base.there b o e hx;exact⟨o',(hs.2 b (cw (cm (cv e) (I.ok.YB x c hfn hc)))).trans e1⟩
  .by_cases hj:j=i
   .subst hj;rw[hi]at e1;cases e1
    rw[dz hiσ]at e2;cases e2;exact⟨u,r,.inr ⟨.inl hk,c,hc,hc'⟩⟩
   .rw[df (Ne.symm hj)]at e2;obtain⟨u',r',q⟩:=hl j y v' e1 e2 e3;refine⟨u',r',?_⟩;rcases q with q|⟨k,c',e,z'⟩
    .exact .inl q
    .refine .inr ⟨k,c',e,z'.sameBut hs ?_⟩;rintro rfl;exact hj (BK hN e1 (I.ok.inj _ _ _ e hc▸hi))
  .by_cases hcc:c'=c
   .subst hcc;exact⟨_,hc'⟩
   .obtain⟨w2,z2⟩:=I.cell y c' e;exact⟨w2,z2.sameBut hs hcc⟩
  .obtain⟨e,n,ne,nf,d⟩:=I.pin p hp;refine⟨(hs.2 p.1 ?_).trans e,n,ne,nf,d⟩;intro q;rw[q,hoc]at e;have q':oc=p.2:=Option.some.inj e;exact d w' (by rw[<-q'];exact hocd)
theorem mH {v:V} {Q:Unit->Shared->Prop} (I:Inv X pins σ H s) (hN:X.N.Nodup) (hi:X.N[i]? =some x) (hx:Loc X.env.scope x) (r:RelV v u)
  (h:∀s',Inv X pins (σ.set i (some v)) H s'->Q () s') (hf:X.fn x=true\/ X.env.scope.names.lookup x=some .local:=by first|exact .inl rfl|exact .inr rfl|assumption):wpAny M A (storeName X.env x u) Q E s:=
 IL I hN hi hx r (fun s' I' _=>h s' I') hf
theorem Inv.NR {s':Shared} (I:Inv X pins σ H s) (ho:s'.os=s.os) (u:Un (HV X.stack) ch H H' s.heap s'.heap) (bS:nW X.prog X.w H' s'.heap) (hg:AllBare s'.gens)
  (hch:∀b∈ch,(b∈X.ex\/ X.gP.heap.objs.size<=b)/\b≠X.env.locals/\(∀x c,X.env.cells.lookup x=some c->c≠b)/\∀p∈X.pn++pins,p.1≠b):Inv X pins σ H' s':=by
 obtain⟨h',g',d',t',o'⟩:=s';have e:o'=s.os:=ho;subst e;exact I.call (g':=g') (t':=t') (d':=d') u bS hg hch
end
abbrev XK:=Value->Option Addr->Hp->Prop
abbrev St:=List (Option V)
abbrev VK:=V->Hp->Prop
abbrev TE:=St->Hp->VK->Prop
abbrev TT:=St->Hp->(Bool->Hp->Prop)->Prop
abbrev TA:=St->Hp->(List V->Hp->Prop)->Prop
structure Ends where
 nx:St->Hp->Prop
 rt:VK
 bk:St->Hp->Prop:=fun _ _=>False
 ct:St->Hp->Prop:=fun _ _=>False
abbrev TS:=Ends->St->Hp->Prop
def EP (X:Cx) (pins:List (Addr×Obj)) (σ:St) (Q:VK) (u:Value) (s':Shared):Prop:=∃v H',Inv X pins σ H' s'/\RelV v u/\Q v H'
def TP (X:Cx) (pins:List (Addr×Obj)) (σ:St) (Q:Bool->Hp->Prop) (b:Bool) (s':Shared):Prop:=∃H',Inv X pins σ H' s'/\Q b H'
def AP (X:Cx) (pins:List (Addr×Obj)) (σ:St) (Q:List V->Hp->Prop) (us:List Value) (s':Shared):Prop:=∃vs H',Inv X pins σ H' s'/\Vals vs us/\Q vs H'
def SP (X:Cx) (pins:List (Addr×Obj)) (D:Ends) (f:Flow) (s':Shared):Prop:=
 match f with
 | .next=>∃σ' H',Inv X pins σ' H' s'/\D.nx σ' H'
 | .brk=>∃σ' H',Inv X pins σ' H' s'/\D.bk σ' H'
 | .cont=>∃σ' H',Inv X pins σ' H' s'/\D.ct σ' H'
 | .ret u=>∃v σ' H',Inv X pins σ' H' s'/\RelV v u/\D.rt v H'
def PE (X:Cx) (e:Expr) (t:TE):Prop:=
 ∀(pins:List (Addr×Obj)) (s:Shared) (σ:St) (H:Hp) (Q:VK),Inv X pins σ H s->t σ H Q->wpAny (model X.prog X.w) X.A (eval e X.env) (EP X pins σ Q) X.xe s
def PT (X:Cx) (e:Expr) (t:TT):Prop:=
 ∀(pins:List (Addr×Obj)) (s:Shared) (σ:St) (H:Hp) (Q:Bool->Hp->Prop),Inv X pins σ H s->t σ H Q->wpAny (model X.prog X.w) X.A (isTrue e X.env (eval e X.env)) (TP X pins σ Q) X.xe s
def PW (X:Cx) (e:Expr) (t:TT):Prop:=
 ∀(whole:Sem Value) (pins:List (Addr×Obj)) (s:Shared) (σ:St) (H:Hp) (Q:Bool->Hp->Prop),Inv X pins σ H s->t σ H Q->wpAny (model X.prog X.w) X.A (isTrue e X.env whole) (TP X pins σ Q) X.xe s
theorem PW.pt {t:TT} (h:PW X e t):PT X e t:=h _
def PA (X:Cx) (es:List Expr) (t:TA):Prop:=
 ∀(pos:Pos) (pins:List (Addr×Obj)) (s:Shared) (σ:St) (H:Hp) (Q:List V->Hp->Prop),Inv X pins σ H s->t σ H Q->wpAny (model X.prog X.w) X.A (spliced (backTo pos (starEach es X.env))) (AP X pins σ Q) X.xe s
def PS (X:Cx) (st:Stmt) (t:TS):Prop:=
 ∀(pins:List (Addr×Obj)) (s:Shared) (σ:St) (H:Hp) (D:Ends),Inv X pins σ H s->t D σ H->wpAny (model X.prog X.w) X.A (exec st X.env) (SP X pins D) X.xe s
def CP (X:Cx) (st:List Stmt) (t:TS):Prop:=
 ∀(pins:List (Addr×Obj)) (s:Shared) (σ:St) (H:Hp) (D:Ends),Inv X pins σ H s->t D σ H->wpAny (model X.prog X.w) X.A (execs st X.env) (SP X pins D) X.xe s
theorem cD {t:Sem α} {Q Q':α->Shared->Prop} (h:wpAny M A t Q E s) (hQ:∀a s,Q a s->Q' a s):wpAny M A t Q' E s:=dk h hQ fun _ _ x=>x
section
variable {X:Cx}
def AQ (i:Nat):TE:=fun σ H Q=>∃v,σ[i]? =some (some v)/\Q v H
def tC (v:V):TE:=fun _ H Q=>Q v H
theorem X1 {i:Nat} {x:Str} (hN:X.N[i]? =some x) (hv:Vis X.env.scope x) (hd:(x==("__debug__":Str))=false:=by decide) (hcd:(x==("__classdict__":Str))=false:=by decide):PE X (.Name x pos) (AQ i):=by
 intro pins s σ H Q I h;obtain⟨v,e,h⟩:=h;obtain⟨m,hn,hl⟩:=I.loc;obtain⟨u,r,l⟩:=hl i x v hN e hv;have fin:EP X pins σ Q u s:=⟨v,H,I,r,h⟩;rcases l with⟨hk,hm⟩|⟨hk,c,hc,hcell⟩
 .exact wpAny_Name (wpAny_loadName_local I.ok.kind hk hn hm fin) hd
 .rcases hk with hk|hk
  .exact wpAny_Name (wpAny_loadName_cell I.ok.kind hk hc hcell fin) hd
  .exact wpAny_Name (wpAny_loadName_free I.ok.kind hk hc hcell fin hcd) hd
theorem aF {i j pos}:PE X (.Constant (.int i) j pos) (tC (.int i)):=fun _ _ _ H _ I h=>wpAny_Constant_int ⟨.int i,H,I.tok _,⟨_,rfl⟩,h⟩
theorem mX {b j pos}:PE X (.Constant (.bool b) j pos) (tC (.bl b)):=fun _ _ _ H _ I h=>Constant_bool ⟨.bl b,H,I,rfl,h⟩
theorem oS {j pos}:PE X (.Constant .none j pos) (tC .bH):=fun _ _ _ H _ I h=>Constant_none ⟨.bH,H,I,rfl,h⟩
theorem eS {x j pos}:PE X (.Constant (.str x) j pos) (tC (.str x)):=fun _ _ _ H _ I h=>Calls.Constant_str ⟨.str x,H,I.tok _,⟨_,rfl⟩,h⟩
def Gl (X:Cx) (x:Str):Prop:=X.env.kindOf x=some .globalImplicit
theorem RS (I:Inv X pins σ H s) (hg:Gl X x) (hm:X.mg x=some u) (h:Q u s)
  (hd:(x==("__debug__":Str))=false:=by decide):wpAny (model X.prog X.w) X.A (eval (.Name x pos) X.env) Q E s:=
 Calls.Name_function_global I.ok.kind hg (Calls.loadGlobal_global (by rw[I.ok.glob];exact I.mod.glob.keeps I.bk) hm h) hd
theorem vF (I:Inv X pins σ H s) (hg:Gl X x) (hm:X.mg x=none) (hv:bootBuiltins x=some u) (h:Q u s)
  (hn:x≠"__name__":=by decide) (hd:(x==("__debug__":Str))=false:=by decide):wpAny (model X.prog X.w) X.A (eval (.Name x pos) X.env) Q E s:=by
 obtain⟨mb,h1,h2⟩:=I.mod.blt;exact Calls.Name_function_global I.ok.kind hg (Calls.loadGlobal_builtin (by rw[I.ok.glob];exact I.mod.glob.keeps I.bk) hm (by rw[I.ok.blt];exact h1.keeps I.bk) ((h2 x hn).trans hv) h) hd
variable {a b:Expr} {ta tb:TE} {pos:Pos}
def tB (t:TE):TT:=fun σ H Q=>t σ H fun x H1=>∃c,x= .bl c/\Q c H1
theorem K9 {t:TE} (h:PE X e t) (he:∀whole,isTrue e X.env whole=(do let v<-whole;standAt e.pos;holding [v] (truthy v)):=by intro _;rfl):PT X e (tB t):=by
 intro pins s σ H Q I hw;refine isTrue_plain (cD (h pins s σ H _ I hw) fun v s1 ⟨x,H1,I1,r1,q1⟩=>?_) (he _);obtain⟨d,rfl,q⟩:=q1;cases r1;exact wpAny_truthy_bool ⟨H1,I1,q⟩
variable {tA tB':TT} {rest:List Expr}
def aaP (t u:TT):TT:=fun σ H Q=>t σ H fun c H1=>if c=true then u σ H1 Q else Q false H1
def YV (t:TT):TT:=fun σ H Q=>t σ H fun c H1=>Q (!c) H1
theorem yC (ha:PT X a tA):PW X (.BoolOp .And [a] pos) tA:=by
 intro wh pins s σ H Q I h;refine isTrue_and (cD (ha pins s σ H Q I h) fun c s1 e=>?_);cases c with
 |true=>exact isTrue_and_nil e
 |false=>exact e
theorem C2 (ha:PT X a tA) (hb:PW X (.BoolOp .And (b::rest) pos) tB'):PW X (.BoolOp .And (a::b::rest) pos) (aaP tA tB'):=by
 intro wh pins s σ H Q I h;refine isTrue_and (cD (ha pins s σ H _ I h) fun c s1 ⟨H1,I1,q1⟩=>?_);cases c with
 |true=>exact hb wh pins s1 σ H1 Q I1 q1
 |false=>exact⟨H1,I1,q1⟩
theorem LA (ha:PT X a tA):PT X (.UnaryOp .Not a pos) (YV tA):=by
 intro pins s σ H Q I h;exact isTrue_not (ha pins s σ H (fun c H1=>Q (!c) H1) I h)
def tIf (t:TT) (ta tb:TE):TE:=fun σ H Q=>t σ H fun c H1=>if c=true then ta σ H1 Q else tb σ H1 Q
theorem qL (hc:PT X c tA) (ha:PE X a ta) (hb:PE X b tb):PE X (.IfExp c a b pos) (tIf tA ta tb):=by
 intro pins s σ H Q I h;refine wpAny_IfExp (cD (hc pins s σ H _ I h) fun d s1 ⟨H1,I1,q1⟩=>?_);cases d with
 |true=>exact ha pins s1 σ H1 Q I1 q1
 |false=>exact hb pins s1 σ H1 Q I1 q1
end
def iW (K:Frag) (H:Hp) (a:Addr) (xs:List V):Prop:=
 Rd H a (.lst xs)\/
  ∃(o:Obj) (its:Array Value) (n:Nat),K.lookup a=some o/\o.cls= .type "list"/\o.dict=none/\o.data= .seq its n/\its.size<=sizeLine/\Vals xs its.toList
def pK (K:Frag) (H:Hp) (a:Addr) (xs:List V):Prop:=
 Rd H a (.tup xs)\/
  ∃(o:Obj) (its:Array Value) (n:Nat),K.lookup a=some o/\o.cls= .type "tuple"/\o.data= .seq its n/\its.size<=sizeLine/\Vals xs its.toList
noncomputable def acB:Value->Option V
 | .none=>some .bH
 | .bool b=>some (.bl b)
 | .int i _=>some (.int i)
 | .str x _=>some (.str x)
 | .bytes b _=>some (.ZR b)
 | .float b _=>some (.flt b)
 | .ref a=>some (.ref a)
 | .type n=>some (.ty n)
 |_=>none
theorem RelV.abs {x:V} (r:RelV x u):acB u=some x:=by
 cases x with
 |bH=>cases r;rfl
 |bl _=>cases r;rfl
 |int _=>obtain⟨t,rfl⟩:=r;rfl
 |str _=>obtain⟨t,rfl⟩:=r;rfl
 |ZR _=>obtain⟨t,rfl⟩:=r;rfl
 |flt _=>obtain⟨t,rfl⟩:=r;rfl
 |ref _=>cases r;rfl
 |ty _=>cases r;rfl
theorem RelV.inj {x:V} (r:RelV x u) (q:RelV y u):x=y:=Option.some.inj (r.abs.symm.trans q.abs)
theorem Vals.inj:∀{xs ys:List V} {us:List Value},Vals xs us->Vals ys us->xs=ys
 |_,_,_,.nil,.nil=>rfl
 |_,_,_,.cons r t,.cons r' t'=>by rw[r.inj r',Vals.inj t t']
section
variable {X:Cx} {pins:List (Addr×Obj)} {σ:St} {H:Hp} {s:Shared} {a:Addr} {xs ys:List V}
theorem iW.of (h:H a=some (.lst xs)):iW K H a xs:=.inl (.inl h)
theorem pK.of (h:H a=some (.tup xs)):pK K H a xs:=.inl (.inl h)
theorem Inv.list (I:Inv X pins σ H s) (h:iW X.K H a xs):∃its:List Value,Vals xs its/\PlainL s.heap a its.toArray/\xs.length<=sizeLine:=by
 rcases h with h|⟨o,its,n,hk,hc,hd,hs,hz,r⟩
 .obtain⟨z,its,n,r,e⟩:=h.ok I.bS;exact⟨its,r,⟨_,n,e,rfl,rfl,rfl⟩,z⟩
 .refine⟨its.toList,r,⟨o,n,I.YJ a o hk,hc,hd,by simpa using hs⟩,?_⟩;have e:=r.length;simp only[length_toList]at e;omega
theorem Inv.tuple (I:Inv X pins σ H s) (h:pK X.K H a xs):∃its:List Value,Vals xs its/\IsTup s.heap a its.toArray/\xs.length<=sizeLine:=by
 rcases h with h|⟨o,its,n,hk,hc,hs,hz,r⟩
 .obtain⟨z,its,r,p⟩:=h.ok I.bS;exact⟨its,r,p.1,z⟩
 .refine⟨its.toList,r,⟨o,I.YJ a o hk,hc,n,by simpa using hs⟩,?_⟩;have e:=r.length;simp only[length_toList]at e;omega
theorem Inv.AE (I:Inv X pins σ H s) (h:iW X.K H a xs) (h':iW X.K H a ys):xs=ys:=by
 obtain⟨its,r,⟨o,n,e,_,_,d⟩,_⟩:=I.list h;obtain⟨its',r',⟨o',n',e',_,_,d'⟩,_⟩:=I.list h';rw[e]at e';cases e'
 rw[d]at d';injection d' with d1 _
 have:its=its':=by simpa using cn Array.toList d1
 subst this;exact r.inj r'
theorem Inv.wN (I:Inv X pins σ H s) (h:pK X.K H a xs) (h':pK X.K H a ys):xs=ys:=by
 obtain⟨its,r,⟨o,e,_,n,d⟩,_⟩:=I.tuple h;obtain⟨its',r',⟨o',e',_,n',d'⟩,_⟩:=I.tuple h';rw[e]at e';cases e'
 rw[d]at d';injection d' with d1 _
 have:its=its':=by simpa using cn Array.toList d1
 subst this;exact r.inj r'
end
noncomputable abbrev Cx.vX (X:Cx) (E:Value->Shared->Prop):Cx:={X with xe:=E}
noncomputable abbrev Cx.nox (X:Cx):Cx:=X.vX fun _ _=>False
theorem Cx.Ok.vX (ok:X.Ok) (E:Value->Shared->Prop):(X.vX E).Ok:=
 ⟨ok.mod,ok.kind,ok.glob,ok.blt,ok.above,ok.inj,ok.has,ok.YB,ok.hd,ok.frames,ok.stk,ok.exf,ok.bs,ok.QU,ok.IF,ok.A0,ok.sR,ok.T6⟩
theorem Cx.Ok.m6 (ok:(X.vX E).Ok):X.Ok:=
 ⟨ok.mod,ok.kind,ok.glob,ok.blt,ok.above,ok.inj,ok.has,ok.YB,ok.hd,ok.frames,ok.stk,ok.exf,ok.bs,ok.QU,ok.IF,ok.A0,ok.sR,ok.T6⟩
section
variable {X:Cx} {pins:List (Addr×Obj)} {σ:St} {H:Hp} {s:Shared} {E:Value->Shared->Prop}
theorem Inv.vX (I:Inv X pins σ H s) (E:Value->Shared->Prop):Inv (X.vX E) pins σ H s:=⟨I.ok.vX E,I.os,I.bare,I.base,I.loc,I.cell,I.free,I.m8,I.pin,I.bS,I.len⟩
theorem Inv.m6 (I:Inv (X.vX E) pins σ H s):Inv X pins σ H s:=⟨I.ok.m6,I.os,I.bare,I.base,I.loc,I.cell,I.free,I.m8,I.pin,I.bS,I.len⟩
theorem SP.m6 {D:Ends} {f:Flow} {s':Shared} (h:SP (X.vX E) pins D f s'):SP X pins D f s':=by
 cases f with
 |next=>obtain⟨σ',H',I,q⟩:=h;exact⟨σ',H',I.m6,q⟩
 |brk=>obtain⟨σ',H',I,q⟩:=h;exact⟨σ',H',I.m6,q⟩
 |cont=>obtain⟨σ',H',I,q⟩:=h;exact⟨σ',H',I.m6,q⟩
 |ret u=>obtain⟨v,σ',H',I,r,q⟩:=h;exact⟨v,σ',H',I.m6,r,q⟩
theorem CP.nox {st:List Stmt} {t:TS} (h:CP X.nox st t):CP X st t:=fun pins s σ H D I hw=>
 dk (h pins s σ H D (I.vX _) hw) (fun _ _ q=>q.m6) fun _ _ z=>False.elim z
end
section
variable {X:Cx} {st:Stmt} {rest:List Stmt} {t u:TS} {e:Expr} {te:TE} {pos:Pos}
def BS:TS:=fun D σ H=>D.nx σ H
def vV (t u:TS):TS:=fun D σ H=>t {D with nx:=u D} σ H
theorem cF:CP X [] BS:=fun _ _ σ H _ I h=>wpAny_execs_nil ⟨σ,H,I,h⟩
theorem aG (h1:PS X st t) (h2:CP X rest u):CP X (st::rest) (vV t u):=by
 intro pins s σ H D I h;refine wpAny_execs_cons (cD (h1 pins s σ H {D with nx:=u D} I h) fun f s1 q=>?_);cases f with
 |next=>
  obtain⟨σ',H',I',q⟩:=q;exact h2 pins s1 σ' H' D I' q
 |ret v=>exact q
 |brk=>exact q
 |cont=>exact q
theorem aP (h1:PS X st t):CP X [st] t:=by
 intro pins s σ H D I h;refine wpAny_execs_cons (cD (h1 pins s σ H D I h) fun f s1 q=>?_);cases f with
 |next=>exact wpAny_execs_nil q
 |ret v=>exact q
 |brk=>exact q
 |cont=>exact q
theorem Inv.quiet (I:Inv X pins σ H s):interactive X.env=false:=by simp[interactive,I.ok.kind]
def KN (te:TE):TS:=fun D σ H=>te σ H fun _ H1=>D.nx σ H1
theorem fN (he:PE X e te) (hs:swapsWith e none pos.line X.env=pure false:=by rfl):PS X (.Expr e pos) (KN te):=by
 intro pins s σ H D I h;exact wpAny_Expr_any (cD (he pins s σ H _ I h) fun v s1 ⟨x,H1,I1,r1,q1⟩=>⟨σ,H1,I1,q1⟩) I.quiet hs
def UB (te:TE):TS:=fun D σ H=>te σ H D.rt
theorem bR (he:PE X e te):PS X (.Return (some e) pos) (UB te):=by
 intro pins s σ H D I h;exact wpAny_Return_some (cD (he pins s σ H _ I h) fun v s1 ⟨x,H1,I1,r1,q1⟩=>⟨x,σ,H1,I1,r1,q1⟩)
def VJ (c:TT) (t u:TS):TS:=fun D σ H=>c σ H fun b H1=>if b=true then t D σ H1 else u D σ H1
theorem eY {a b:List Stmt} (hc:PT X c tc) (ha:CP X a t) (hb:CP X b u):PS X (.If c a b pos) (VJ tc t u):=by
 intro pins s σ H D I h;refine wpAny_If (cD (hc pins s σ H _ I h) fun d s1 ⟨H1,I1,q1⟩=>?_);cases d with
 |true=>exact ha pins s1 σ H1 D I1 q1
 |false=>exact hb pins s1 σ H1 D I1 q1
end
abbrev TG:=V->St->Hp->(St->Hp->Prop)->Prop
abbrev DE:=List V->St->Hp->(St->Hp->Prop)->Prop
def PG (X:Cx) (target:Expr) (t:TG):Prop:=
 ∀(pins:List (Addr×Obj)) (s:Shared) (σ:St) (H:Hp) (v:V) (u:Value) (Q:St->Hp->Prop),Inv X pins σ H s->RelV v u->t v σ H Q->
  wpAny (model X.prog X.w) X.A (assign target X.env u) (fun _ s'=>∃σ' H',Inv X pins σ' H' s'/\Q σ' H') X.xe s
def ZG (X:Cx) (ts:List Expr) (t:DE):Prop:=
 ∀(pins:List (Addr×Obj)) (s:Shared) (σ:St) (H:Hp) (vs:List V) (us:List Value) (Q:St->Hp->Prop),Inv X pins σ H s->Vals vs us->t vs σ H Q->
  wpAny (model X.prog X.w) X.A (assignInOrder ((assignEach ts X.env).map (·.2)) us) (fun _ s'=>∃σ' H',Inv X pins σ' H' s'/\Q σ' H') X.xe s
abbrev UU:=V->V->V->Hp->(Hp->Prop)->Prop
def ZD (X:Cx) (t:UU):Prop:=
 ∀(pins:List (Addr×Obj)) (s:Shared) (σ:St) (H:Hp) (o i v:V) (ov iv u:Value) (Q:Hp->Prop),Inv X pins σ H s->RelV o ov->RelV i iv->RelV v u->t o i v H Q->
  wpAny (model X.prog X.w) X.A (setItem ov iv u) (fun _ s'=>∃H',Inv X pins σ H' s'/\Q H') X.xe s
section
variable {X:Cx} {pos:Pos}
def eE (i:Nat):TG:=fun v σ H Q=>Q (σ.set i (some v)) H
theorem aR (hN:X.N.Nodup) (hi:X.N[i]? =some x) (hx:Loc X.env.scope x) (hf:X.fn x=true\/ X.env.scope.names.lookup x=some .local:=by first|exact .inl rfl|exact .inr rfl|assumption):PG X (.Name x pos) (eE i):=by
 intro pins s σ H v u Q I r h;exact wpAny_assign_Name (mH I hN hi hx r (fun s' I'=>⟨_,H,I',h⟩) hf)
def N4:DE:=fun vs σ H Q=>vs=[]/\Q σ H
def sD (t:TG) (u:DE):DE:=fun vs σ H Q=>∃v r,vs=v::r/\t v σ H fun σ' H'=>u r σ' H' Q
theorem iK:ZG X [] N4:=by
 intro pins s σ H vs us Q I r h;obtain⟨e,h⟩:=h;subst e;cases r;exact assignInOrder_nil ⟨σ,H,I,h⟩
theorem bT {t:TG} {u:DE} (h1:PG X e t) (h2:ZG X es u)
  (hs:(assignEach (e::es) X.env).map (·.2)=assign e X.env::(assignEach es X.env).map (·.2):=by rfl):ZG X (e::es) (sD t u):=by
 intro pins s σ H vs us Q I r h;obtain⟨v,vr,e1,h⟩:=h;subst e1;cases r with
 |cons r rr=>
  rw[hs];refine assignInOrder_cons (cD (h1 pins s σ H _ _ _ I r h) fun _ s1 ⟨σ1,H1,I1,q1⟩=>?_);exact h2 pins s1 σ1 H1 _ _ Q I1 rr q1
def I0 (K:Frag) (n:Nat) (t:DE):TG:=fun v σ H Q=>∃a xs,v= .ref a/\pK K H a xs/\xs.length=n/\t xs σ H Q
theorem XB {t:DE} (hc:X.calm=true) (h:ZG X es t)
  (hn:(assignEach es X.env).length=n:=by rfl) (hst:(assignEach es X.env).findIdx? (·.1)=none:=by rfl):PG X (.Tuple es k pos) (I0 X.K n t):=by
 intro pins s σ H v u Q I r hw;obtain⟨a,xs,e1,hq,hl,hw⟩:=hw;subst e1;cases r;obtain⟨its,rv,ht,hz⟩:=I.tuple hq;refine assign_Tuple_tuple (I.ok.hd hc) ht (by simp[hn,<-hl,rv.length]) hst fun h' hx=>?_
 have I1:Inv X pins σ H {s with heap:=h'}:=I.kept (t':=s.toks) fun b o e=>hx b o (cw (cv e)) e
 exact h pins _ σ H xs _ Q I1 (by simpa using rv) hw
def JA (to ti:TE) (t:UU):TG:=fun v σ H Q=>to σ H fun o H1=>ti σ H1 fun i H2=>t o i v H2 fun H3=>Q σ H3
theorem C5 {o i:Expr} {to ti:TE} {t:UU} (ho:PE X o to) (hi:PE X i ti) (hs:ZD X t)
  (ha:∀v,assign (.Subscript o i pos) X.env v=(do
   let ov<-holding [v] (eval o X.env)
   let iv<-holding [v,ov] (eval i X.env)
   standAt pos
   holding [v,ov,iv] (setItem ov iv v)
   release [v,ov,iv] []):=by intro _;rfl):PG X (.Subscript o i pos) (JA to ti t):=by
 intro pins s σ H v u Q I r h;rw[ha];refine af (ig (cD (ho pins s σ H _ I h) fun ov s1 ⟨x,H1,I1,r1,q1⟩=>?_));refine af (ig (cD (hi pins s1 σ H1 _ I1 q1) fun iv s2 ⟨y,H2,I2,r2,q2⟩=>?_));refine af (wpAny_standAt (af (ig (cD (hs pins s2 σ H2 x y v ov iv u _ I2 r1 r2 r q2) fun _ s3 ⟨H3,I3,q3⟩=>?_))));exact wpAny_release ⟨σ,H3,I3,q3⟩
def mF (te:TE) (g:TG):TS:=fun D σ H=>te σ H fun x H1=>g x σ H1 D.nx
theorem uS {g:TG} (he:PE X e te) (hg:PG X tg g) (hs:swapsWithSole [tg] e pos.line X.env=pure false:=by rfl) (hw:swappedStores [tg] e X.env=pure none:=by rfl)
  (h1:(assignEach [tg] X.env).map (·.2)=[assign tg X.env]:=by rfl):PS X (.Assign [tg] e pos) (mF te g):=by
 intro pins s σ H D I h;refine wpAny_Assign_stores (cD (he pins s σ H _ I h) fun v s1 ⟨x,H1,I1,r1,q1⟩=>?_) hs hw;rw[h1];exact cD (hg pins s1 σ H1 x v _ I1 r1 q1) fun _ s2 q=>q
theorem bD {pos':Pos} (hN:X.N.Nodup) (hi:X.N[i]? =some x) (hx:Loc X.env.scope x) (he:PE X e te) (hs:swapsWith e (some (.Name x pos')) pos.line X.env=pure false:=by rfl) (hf:X.fn x=true\/ X.env.scope.names.lookup x=some .local:=by first|exact .inl rfl|exact .inr rfl|assumption):
  PS X (.Assign [.Name x pos'] e pos) (mF te (eE i)):=by
 intro pins s σ H D I h;refine wpAny_Assign_Name (cD (he pins s σ H _ I h) fun v s1 ⟨y,H1,I1,r1,q1⟩=>?_) hs;exact mH I1 hN hi hx r1 (fun s2 I2=>⟨_,H1,I2,q1⟩) hf
def Z7 (i j:Nat) (ta:TA):TS:=fun D σ H=>ta σ H fun vs H1=>∃v w,vs=[v,w]/\D.nx ((σ.set i (some v)).set j (some w)) H1
theorem N8 {y:Str} {a b:Expr} {px py pt:Pos} {kt k2 pt2} (hc:X.calm=true) (hN:X.N.Nodup) (hi:X.N[i]? =some x) (hj:X.N[j]? =some y) (hij:i≠j)
  (hx:X.env.scope.names.lookup x=some .local) (hy:X.env.scope.names.lookup y=some .local) (ha:PA X [a,b] ta)
  (hw:swappedStores [.Tuple [.Name x px,.Name y py] kt pt] (.Tuple [a,b] k2 pt2) X.env=pure (some [x,y]))
  (hs:swapsWithSole [.Tuple [.Name x px,.Name y py] kt pt] (.Tuple [a,b] k2 pt2) pos.line X.env=pure false:=by rfl):
  PS X (.Assign [.Tuple [.Name x px,.Name y py] kt pt] (.Tuple [a,b] k2 pt2) pos) (Z7 i j ta):=by
 intro pins s σ H D I h;rw[exec_Assign_arm];refine af (wpAny_standAt ?_);rw[hs];refine af (ay ?_);rw[ah (by decide)];refine af (Tuple_ (cD (ha _ pins s σ H _ I h) fun us s1 ⟨vs,H1,I1,r1,q1⟩=>?_));obtain⟨v,w,e1,q1⟩:=q1;subst e1;obtain⟨u1,u2,rfl,rv,rw'⟩:∃u1 u2,us=[u1,u2]/\RelV v u1/\RelV w u2:=by
  cases r1 with
  | cons p q=>
   cases q with
   |cons p' q'=>
    cases q';exact⟨_,_,rfl,p,p'⟩
 refine fq ?_ (by show 2<=sizeLine;decide);have I2:Inv X pins σ H1 {s1 with heap:=s1.heap.push {cls:=.type "tuple",data:=.seq [u1,u2].toArray}}:=I1.kept (t':=s1.toks) fun b o e=>au _ e
 rw[hw];refine af (ay ?_);show wpAny (model X.prog X.w) X.A (do rule "assign.swapped-stores";let items<-unpackItems (.ref s1.heap.objs.size) 2 none;assignInOrder [fun v=>bindName X.env y v,fun v=>bindName X.env x v] items.reverse;pure Flow.next) _ _ _;refine af (wpAny_rule (af (unpackItems_tuple (items:= #[u1,u2]) (I.ok.hd hc) (IsTup.new s1.heap _) fun h' hx'=>?_)));have I3:=I2.kept (h':=h') (t':=s1.toks) fun b o e=>hx' b o (cw (cv e)) e
 show wpAny _ _ (assignInOrder [fun v=>bindName X.env y v,fun v=>bindName X.env x v] [u2,u1]>>=fun _=>pure Flow.next) _ _ _;refine af (assignInOrder_cons (wpAny_bindName (mH I3 hN hj (.inl hy) rw' (fun s2 I4=>?_) (.inr hy))));refine assignInOrder_cons (wpAny_bindName (mH I4 hN hi (.inl hx) rv (fun s3 I5=>assignInOrder_nil (ay ?_)) (.inr hx)));rw[List.set_comm _ _ (Ne.symm hij)]at I5;exact⟨_,H1,I5,q1⟩
end
section
variable {X:Cx} {pos:Pos}
def MF (c:TT) (tb:TS):TS:=fun D σ H=>∃W:Nat->St->Hp->Prop,(∃m,W m σ H)/\∀m σ H,W m σ H->
 c σ H fun b H1=>if b=true then∃N:St->Hp->Prop,(∀σ' H',N σ' H'->∃m',m'<m/\W m' σ' H')/\tb {D with nx:=N,ct:=N,bk:=D.nx} σ H1 else D.nx σ H1
theorem LG (hp:PassesOwn (model X.prog X.w) X.A X.env X.xe) (hc:PT X c tc) (hb:CP X body tb):PS X (.While c body [] pos) (MF tc tb):=by
 intro pins s σ H D I h;obtain⟨W,⟨m0,w0⟩,turn⟩:=h;refine wpAny_While (codeAny_whileLoop (fun n s'=>∃σ' H',Inv X pins σ' H' s'/\W n σ' H') ?_ m0 ⟨σ,H,I,w0⟩);rintro n s1 ⟨σ1,H1,I1,w1⟩;refine jz hp (cD (hc pins s1 σ1 H1 _ I1 (turn n σ1 H1 w1)) fun b s2 ⟨H2,I2,q2⟩=>?_);cases b with
 | true=>
  obtain⟨N,hN,q2⟩:=q2;rw[ai rfl];refine jz hp (cD (hb pins s2 σ1 H2 _ I2 q2) fun f s3 q3=>?_);cases f with
  |next=>
   obtain⟨σ3,H3,I3,n3⟩:=q3;obtain⟨m',hm,w3⟩:=hN σ3 H3 n3;exact⟨m',hm,σ3,H3,I3,w3⟩
  |cont=>
   obtain⟨σ3,H3,I3,n3⟩:=q3;obtain⟨m',hm,w3⟩:=hN σ3 H3 n3;exact⟨m',hm,σ3,H3,I3,w3⟩
  |brk=>exact q3
  |ret v=>exact q3
 |false=>
  rw[ah av];exact wpAny_execs_nil ⟨σ1,H2,I2,q2⟩
end
structure It where
 go:Nat->Hp->Prop
 YI:Nat->Hp->V->Hp->Prop
 stop:Nat->Hp->Prop
def qP (X:Cx) (pins:List (Addr×Obj)) (H:Hp) (b:Addr):Prop:=
 H b=none/\b≠X.env.locals/\b∉X.fs/\(b∈X.ex\/ X.gP.heap.objs.size<=b)/\(∀x c,X.env.cells.lookup x=some c->c≠b)/\∀p∈X.pn++pins,p.1≠b
theorem Inv.wI {H':Hp} (I:Inv X pins σ H s) (hb:s.heap.objs.size<=b) (hn:H' b=none):qP X pins H' b:=by
 refine⟨hn,ne_of_gt (cm I.lt hb),I.Y1 hb,.inr (gc I.sz hb),fun x c e z=>?_,fun p hp z=>?_⟩
 .obtain⟨v,q⟩:=I.cell x c e;exact absurd (cm q.lt (by rw[z];exact hb)) (lj _)
 .exact absurd (cm (cv (I.pin p hp).1) (by rw[z];exact hb)) (lj _)
structure Turn (P:Program) (w:World) (K:Frag) (tg:Expr) (J:It) (fp:List Addr) (it:Addr) (tn:Nat->Heap->Prop):Prop where
 mem:it∈fp
 obj:∀i h,tn i h->∀b∈fp,∃o,h.get? b=some o/\∀v,o.data≠ .cell v
 keep:∀i h h',tn i h->(∀b∈fp,∀o,h.get? b=some o->h'.get? b=some o)->tn i h'
 item:∀(X:Cx),X.prog=P->X.w=w->X.K=K->X.calm=true->∀(i:Nat) (pins:List (Addr×Obj)) (s:Shared) (σ:St) (H:Hp) (E:Value->Shared->Prop),Inv X pins σ H s->(∀b∈fp,qP X pins H b)->tn i s.heap->J.go i H->
  wpAny (model P w) X.A (pyNext (.ref it)) (fun r s1=>∃u,r=some u/\
   wpAny (model P w) X.A (letOwnedTupleGo tg (.ref it) u) (fun _ s2=>∃x H',Inv X pins σ H' s2/\RelV x u/\J.YI i H x H'/\tn (i+1) s2.heap/\∀b∈fp,H' b=none) E s1) E s
 done:∀(X:Cx),X.prog=P->X.w=w->X.K=K->X.calm=true->∀(i:Nat) (pins:List (Addr×Obj)) (s:Shared) (σ:St) (H:Hp) (E:Value->Shared->Prop),Inv X pins σ H s->(∀b∈fp,qP X pins H b)->tn i s.heap->J.stop i H->
  wpAny (model P w) X.A (pyNext (.ref it)) (fun r s1=>r=none/\Inv X pins σ H s1) E s
 self:∀(A:Around) (i:Nat) (s:Shared) (Q:Value->Shared->Prop) (E:Value->Shared->Prop),tn i s.heap->Q (.ref it) s->wpAny (model P w) A (pyIter (.ref it)) Q E s
abbrev TI:=St->Hp->(It->Hp->Prop)->Prop
def PIE (X:Cx) (pins:List (Addr×Obj)) (σ:St) (tg:Expr) (R:It->Hp->Prop) (itv:Value) (s2:Shared):Prop:=
 ∃(it:Addr) (fp:List Addr) (tn:Nat->Heap->Prop) (J:It) (H':Hp),itv= .ref it/\Inv X pins σ H' s2/\Turn X.prog X.w X.K tg J fp it tn/\tn 0 s2.heap/\(∀b∈fp,qP X pins H' b)/\R J H'
def PI (X:Cx) (tg iter:Expr) (wi:TI):Prop:=
 ∀(pins:List (Addr×Obj)) (s:Shared) (σ:St) (H:Hp) (R:It->Hp->Prop),Inv X pins σ H s->wi σ H R->
  wpAny (model X.prog X.w) X.A (eval iter X.env) (fun v s1=>wpAny (model X.prog X.w) X.A (pyIter v) (PIE X pins σ tg R) X.xe s1) X.xe s
theorem xQ {tg:Expr} {u:Value} {n:String} {vs:Array Value} {Q:Unit->Shared->Prop} (ho:s.heap.get? it=some o) (hc:o.cls= .type n) (hd:o.data= .fields vs)
    (hn:["enumerate","zip","dict_itemiterator","dict_reverseitemiterator","odict_iterator","itertools.zip_longest","itertools.pairwise"].contains n=false) (hQ:Q () s):wpAny M A (letOwnedTupleGo tg (.ref it) u) Q E s:=by
  unfold letOwnedTupleGo;cases tg<;>first
    |exact ay hQ
    |(cases u<;>first
        |exact ay hQ
        | (refine af (wpAny_load ho ?_)
           rw[hc,hd];show wpAny M A (if(["enumerate","zip","dict_itemiterator","dict_reverseitemiterator","odict_iterator","itertools.zip_longest","itertools.pairwise"].contains n && vs[0]? ==some (rawInt _))=true then _ else _) Q E s;rw[ah (by intro h;rw[hn,Bool.false_and]at h;cases h)];exact ay hQ))
noncomputable def Itl (K:Frag) (a:Addr):It:=
 ⟨fun i H=>∃xs x,iW K H a xs/\xs[i]? =some x,fun i H x H'=>H'=H/\∀xs,iW K H a xs->xs[i]? =some x,fun i H=>∃xs,iW K H a xs/\xs.length<=i⟩
noncomputable def Itt (K:Frag) (a:Addr):It:=
 ⟨fun i H=>∃xs x,pK K H a xs/\xs[i]? =some x,fun i H x H'=>H'=H/\∀xs,pK K H a xs->xs[i]? =some x,fun i H=>∃xs,pK K H a xs/\xs.length<=i⟩
noncomputable def YD (lo:Int) (n:Nat):It:=⟨fun i _=>i<n,fun i H x H'=>H'=H/\x= .int (lo+i),fun i _=>n<=i⟩
theorem HC (a it:Addr):Turn P w K tg (Itl K a) [it] it (fun i h=>h.IsListIter it a i)where
 mem:=by simp
 obj:=fun i h st b hb=>by
  have e:b=it:=by simpa using hb
  subst e;obtain⟨o,e,c,d⟩:=st;exact⟨o,e,fun v z=>by rw[d]at z;cases z⟩
 keep:=fun i h h' st k=>st.at fun o e=>k it (by simp) o e
 item:=by
  intro X hP hw hK hc i pins s σ H E I hf st hg;subst hP hw hK;obtain⟨xs,x,hq,hx⟩:=hg;obtain⟨its,rv,p,hz⟩:=I.list hq;obtain⟨u,hu,ru⟩:=rv.get hx;obtain⟨f0,f1,f2,f3,f4,f5⟩:=hf it (by simp);refine wpAny_pyNext_list_item st p.isList (x:=u) (by simpa using hu) fun h' st' sb=>?_
  have I1:Inv X pins σ H {s with heap:=h'}:=I.turned (t':=s.toks) (fun b o hb e=>(sb.2 b hb).trans e) f0 f1 f3 f4 f5;obtain⟨o,e,c,d⟩:=id st';exact⟨u,rfl,xQ (s:={s with heap:=h'}) e c d (by decide) ⟨x,H,I1,ru,⟨rfl,fun ys hy=>by rw[I.AE hy hq];exact hx⟩,st',fun b hb=>(hf b hb).1⟩⟩
 done:=by
  intro X hP hw hK hc i pins s σ H E I hf st hg;subst hP hw hK;obtain⟨xs,hq,hx⟩:=hg;obtain⟨its,rv,p,hz⟩:=I.list hq;obtain⟨f0,f1,f2,f3,f4,f5⟩:=hf it (by simp);have hl:=rv.length;exact wpAny_pyNext_list_end (I.ok.hd hc) st p.isList (by simp;omega) fun h' eb=>⟨rfl,I.turned (t':=s.toks) (fun b o hb e=>eb b o hb e) f0 f1 f3 f4 f5⟩
 self:=fun _ _ _ _ _ st h=>wpAny_pyIter_listiter st h
theorem CV (a it:Addr):Turn P w K tg (Itt K a) [it] it (fun i h=>h.IsTupleIter it a i)where
 mem:=by simp
 obj:=fun i h st b hb=>by
  have e:b=it:=by simpa using hb
  subst e;obtain⟨o,e,c,d⟩:=st;exact⟨o,e,fun v z=>by rw[d]at z;cases z⟩
 keep:=fun i h h' st k=>st.at fun o e=>k it (by simp) o e
 item:=by
  intro X hP hw hK hc i pins s σ H E I hf st hg;subst hP hw hK;obtain⟨xs,x,hq,hx⟩:=hg;obtain⟨its,rv,p,hz⟩:=I.tuple hq;obtain⟨u,hu,ru⟩:=rv.get hx;obtain⟨f0,f1,f2,f3,f4,f5⟩:=hf it (by simp);refine wpAny_pyNext_tuple_item st (show s.heap.IsTuple a its.toArray from p) (x:=u) (by simpa using hu) fun h' st' sb=>?_
  have I1:Inv X pins σ H {s with heap:=h'}:=I.turned (t':=s.toks) (fun b o hb e=>(sb.2 b hb).trans e) f0 f1 f3 f4 f5;obtain⟨o,e,c,d⟩:=id st';exact⟨u,rfl,xQ (s:={s with heap:=h'}) e c d (by decide) ⟨x,H,I1,ru,⟨rfl,fun ys hy=>by rw[I.wN hy hq];exact hx⟩,st',fun b hb=>(hf b hb).1⟩⟩
 done:=by
  intro X hP hw hK hc i pins s σ H E I hf st hg;subst hP hw hK;obtain⟨xs,hq,hx⟩:=hg;obtain⟨its,rv,p,hz⟩:=I.tuple hq;obtain⟨f0,f1,f2,f3,f4,f5⟩:=hf it (by simp);have hl:=rv.length;exact wpAny_pyNext_tuple_end (I.ok.hd hc) st (show s.heap.IsTuple a its.toArray from p) (by simp;omega) fun h' eb=>⟨rfl,I.turned (t':=s.toks) (fun b o hb e=>eb b o hb e) f0 f1 f3 f4 f5⟩
 self:=fun _ _ _ _ _ st h=>wpAny_pyIter_tupleiter st h
theorem C3 (it:Addr) (lo:Int) (n:Nat):Turn P w K tg (YD lo n) [it] it (fun i h=>IsRangeIter h it (lo+(i:Nat)*1) ((n:Int) - (i:Nat)) 1)where
 mem:=by simp
 obj:=fun i h st b hb=>by
  have e:b=it:=by simpa using hb
  subst e;exact⟨_,st,fun v z=>by
   have z':Data.fields _=Data.cell v:=z;cases z'⟩
 keep:=fun i h h' st k=>k it (by simp) _ st
 item:=by
  intro X hP hw hK hc i pins s σ H E I hf st hg;subst hP hw hK;obtain⟨f0,f1,f2,f3,f4,f5⟩:=hf it (by simp);have W:=Walks.range (prog:=X.prog) (w:=X.w) (I.ok.hd hc) it lo 1 n;refine W.item i s _ _ hg st fun v h' tk hv st' kk=>?_
  obtain⟨t,rfl⟩:=hv;have I1:Inv X pins σ H {s with heap:=h',toks:=tk}:=I.turned (fun b o hb e=>kk b o (by simpa using hb) e) f0 f1 f3 f4 f5;refine⟨_,rfl,xQ (s:={s with heap:=h',toks:=tk}) (n:="range_iterator") st' rfl rfl (by decide) ⟨.int (lo+i),H,I1,⟨t,?_⟩,⟨rfl,rfl⟩,st',fun b hb=>(hf b hb).1⟩⟩;rw[Int.mul_one]
 done:=by
  intro X hP hw hK hc i pins s σ H E I hf st hg;subst hP hw hK;obtain⟨f0,f1,f2,f3,f4,f5⟩:=hf it (by simp);exact wpAny_pyNext_range_end (I.ok.hd hc) st (by have:n<=i:=hg;omega) fun h' eb=>⟨rfl,I.turned (t':=s.toks) (fun b o hb e=>eb b o hb e) f0 f1 f3 f4 f5⟩
 self:=fun _ _ _ _ _ st h=>wpAny_pyIter_rangeiter st h
section
variable {X:Cx} {tg:Expr}
theorem BR {R:It->Hp->Prop} {lo hi:Int} {t u v:Tok} {tk:Nat} (I:Inv X pins σ H s) (h1: -(2^62)<=lo) (h2:lo<2^62) (h3: -(2^62)<=hi) (h4:hi<2^62)
  (q:R (YD lo (hi - lo).toNat) H):wpAny (model X.prog X.w) X.A (pyIter (.ref s.heap.objs.size)) (PIE X pins σ tg R) E {s with heap:=s.heap.push {cls:=.type "range",data:=.fields #[.int lo t,.int hi u,.int 1 v]},toks:=tk}:=by
 refine wpAny_pyIter_range (IsRange.new ..) (small_one h1 h2 h3 h4) ?_;have I1:Inv X pins σ H {s with heap:=s.heap.push {cls:=.type "range",data:=.fields #[.int lo t,.int hi u,.int 1 v]},toks:=tk}:=I.kept fun b o e=>au _ e
 refine⟨(s.heap.push {cls:=.type "range",data:=.fields #[.int lo t,.int hi u,.int 1 v]}).objs.size,[(s.heap.push {cls:=.type "range",data:=.fields #[.int lo t,.int hi u,.int 1 v]}).objs.size],_,_,H,rfl,
  I1.kept (t':=tk) fun b o e=>au _ e,C3 _ lo (hi - lo).toNat,?_,fun b hb=>?_,q⟩
 .have e1:lo+((0:Nat):Int)*1=lo:=by simp
  have e2:(((hi - lo).toNat:Nat):Int) - ((0:Nat):Int)=Builtin.Range.rangeSize lo hi 1:=by rw[rangeSize_one];split<;>omega
  show IsRangeIter _ _ (lo+((0:Nat):Int)*1) ((((hi - lo).toNat:Nat):Int) - ((0:Nat):Int)) 1;rw[e1,e2];exact dc _ rfl
 .have e:b=(s.heap.push {cls:=.type "range",data:=.fields #[.int lo t,.int hi u,.int 1 v]}).objs.size:=by simpa using hb
  subst e;exact I1.wI (bj _) (I1.bS.fresh (bj _))
def SV (ta:TA):TI:=fun σ H R=>ta σ H fun vs H1=>∃j:Int,vs=[.int j]/\ -(2^62)<=j/\j<2^62/\R (YD 0 j.toNat) H1
def S5 (ta:TA):TI:=fun σ H R=>ta σ H fun vs H1=>∃i j:Int,vs=[.int i,.int j]/\(-(2^62)<=i/\i<2^62/\ -(2^62)<=j/\j<2^62)/\R (YD i (j - i).toNat) H1
theorem gK {a:Expr} (hg:Gl X "range") (hm:X.mg "range"=none) (ha:PA X [a] ta) (hs:starEach [a] X.env=[(false,eval a X.env)]:=by rfl):PI X tg (.Call (.Name "range" p) [a] [] pos) (SV ta):=by
 intro pins s σ H R I h;refine Call_ (vF I hg hm boot_range (ju (cD (ha pos pins s σ H _ I h) fun us s1 ⟨vs,H1,I1,r1,q1⟩=>?_) hs rfl));obtain⟨j,e,q1,q2,q⟩:=q1;subst e;cases r1 with
 |cons r rr=>
  cases rr;obtain⟨t,rfl⟩:=r;exact call_range_1 (BR I1 (by omega) (by omega) q1 q2 (by simpa using q))
theorem IM {a b:Expr} (hg:Gl X "range") (hm:X.mg "range"=none) (ha:PA X [a,b] ta) (hs:starEach [a,b] X.env=[(false,eval a X.env),(false,eval b X.env)]:=by rfl) (hs2:starEach [b] X.env=[(false,eval b X.env)]:=by rfl):
  PI X tg (.Call (.Name "range" p) [a,b] [] pos) (S5 ta):=by
 intro pins s σ H R I h;refine Call_ (vF I hg hm boot_range (ju (cD (ha pos pins s σ H _ I h) fun us s1 ⟨vs,H1,I1,r1,q1⟩=>?_) (by rw[hs,hs2]) (by rw[hs2];rfl)));obtain⟨i,j,e,⟨q1,q2,q3,q4⟩,q⟩:=q1;subst e;cases r1 with
 | cons r rr=>
  cases rr with
  |cons r' rr=>
   cases rr;obtain⟨t,rfl⟩:=r;obtain⟨t',rfl⟩:=r';exact call_range_2 (BR I1 q1 q2 q3 q4 q)
def X6 (wi:TI) (g:TG) (tb:TS):TS:=fun D σ H=>wi σ H fun J H1=>∃W:Nat->Nat->St->Hp->Prop,(∃m,W 0 m σ H1)/\∀i m σ H,W i m σ H->
 (J.stop i H/\D.nx σ H)\/ (J.go i H/\∃N:St->Hp->Prop,(∀σ' H',N σ' H'->∃m',m'<m/\W (i+1) m' σ' H')/\∀x H',J.YI i H x H'->g x σ H' fun σ2 H2=>tb {D with nx:=N,ct:=N,bk:=D.nx} σ2 H2)
noncomputable def o9 (fp:List Addr) (h:Heap):List (Addr×Obj):=fp.filterMap fun b=>(h.get? b).map fun o=>(b,o)
theorem cX (hb:b∈fp) (e:h.get? b=some o):(b,o)∈o9 fp h:=jg.mpr ⟨b,hb,by rw[e];rfl⟩
theorem HP {h:Heap} {p:Addr×Obj} (hp:p∈o9 fp h):p.1∈fp/\h.get? p.1=some p.2:=by
 obtain⟨b,hb,e⟩:=jg.mp hp;cases q:h.get? b with
 |none=>rw[q]at e;cases e
 |some o=>
  rw[q]at e;have e':(b,o)=p:=Option.some.inj e;subst e';exact⟨hb,q⟩
theorem Inv.pinned (I:Inv X pins σ H s) (hf:∀b∈fp,qP X pins H b) (ho:∀b∈fp,∃o,s.heap.get? b=some o/\∀v,o.data≠ .cell v):Inv X (pins++o9 fp s.heap) σ H s:=
 I.t6 fun p hp=>(bp.mp hp).elim (fun z=>I.pin p (bg _ z)) fun z=>by
  obtain⟨hb,e⟩:=HP z;obtain⟨f0,f1,f2,_⟩:=hf p.1 hb;obtain⟨o,e',d⟩:=ho p.1 hb;rw[e]at e';cases e'
  exact⟨e,f0,f1,f2,d⟩
theorem Inv.jU {pl:List (Addr×Obj)} (I:Inv X (pins++pl) σ H s):Inv X pins σ H s:=I.t6 fun p hp=>I.pin p (bg _ (bw _ hp))
theorem eR {iter:Expr} {wi:TI} {g:TG} (hp:PassesOwn (model X.prog X.w) X.A X.env X.xe) (hc:X.calm=true) (hi:PI X tg iter wi) (hg:PG X tg g) (hb:CP X body tb)
  (hs:∀x,foldedSetIterable iter X.env x=pure x:=by intro _;rfl):PS X (.For tg iter body [] pos) (X6 wi g tb):=by
 intro pins s σ H D I h;refine wpAny_For (cD (hi pins s σ H _ I h) fun v s1 h1=>cD h1 fun itv s2 h2=>?_) hs;obtain⟨it,fp,tn,J,H2,e,I2,T,st2,f2,W,⟨m0,w0⟩,turn⟩:=h2;subst e;have stat:∀{H':Hp},(∀b∈fp,H' b=none)->∀b∈fp,qP X pins H' b:=fun hn b hb=>⟨hn b hb,(f2 b hb).2⟩
 refine codeAny_forLoop_any (fun n s'=>∃i σ' H',Inv X pins σ' H' s'/\tn i s'.heap/\(∀b∈fp,H' b=none)/\W i n σ' H') ?_ m0 ⟨0,σ,H2,I2,st2,fun b hb=>(f2 b hb).1,w0⟩;rintro n s3 ⟨i,σ3,H3,I3,st3,fr3,w3⟩;rcases turn i n σ3 H3 w3 with⟨stop,qn⟩|⟨go,N,hN,step⟩
 .refine jz hp (cD (T.done X rfl rfl rfl hc i pins s3 σ3 H3 X.xe I3 (stat fr3) st3 stop) fun r s4 ⟨hr,I4⟩=>?_);subst hr;exact wpAny_execs_nil ⟨σ3,H3,I4,qn⟩
 .refine jz hp (cD (T.item X rfl rfl rfl hc i pins s3 σ3 H3 X.xe I3 (stat fr3) st3 go) fun r s4 ⟨u,hr,h4⟩=>?_);subst hr;refine jz hp (cD h4 fun _ s5 ⟨x,H5,I5,r5,y5,st5,fr5⟩=>?_);have I5':=I5.pinned (stat fr5) (T.obj _ _ st5);refine jz hp (cD (hg _ s5 σ3 H5 x u _ I5' r5 (step x H5 y5)) fun _ s6 ⟨σ6,H6,I6,q6⟩=>?_);refine jz hp (cD (hb _ s6 σ6 H6 _ I6 q6) fun f s7 q7=>?_);have again:∀{σ7:St} {H7:Hp},Inv X (pins++o9 fp s5.heap) σ7 H7 s7->N σ7 H7->∃m,m<n/\∃i σ' H',Inv X pins σ' H' s7/\tn i s7.heap/\(∀b∈fp,H' b=none)/\W i m σ' H':=fun{σ7 H7} I7 n7=>by
   obtain⟨m',hm,w7⟩:=hN σ7 H7 n7;refine⟨m',hm,i+1,σ7,H7,I7.jU,T.keep _ _ _ st5 fun b hb o e=>(I7.pin (b,o) (bg _ (bg _ (cX hb e)))).1,fun b hb=>?_,w7⟩;obtain⟨o,e,d⟩:=T.obj _ _ st5 b hb;exact(I7.pin (b,o) (bg _ (bg _ (cX hb e)))).2.1
  cases f with
  |next=>obtain⟨σ7,H7,I7,n7⟩:=q7;exact again I7 n7
  |cont=>obtain⟨σ7,H7,I7,n7⟩:=q7;exact again I7 n7
  |brk=>obtain⟨σ7,H7,I7,q7⟩:=q7;exact⟨σ7,H7,I7.jU,q7⟩
  |ret v=>obtain⟨x7,σ7,H7,I7,r7,q7⟩:=q7;exact⟨x7,σ7,H7,I7.jU,r7,q7⟩
end
abbrev R2:=V->V->Hp->VK->Prop
def g9 (X:Cx) (f:Value->Value->Sem Value) (r:R2):Prop:=
 ∀(pins:List (Addr×Obj)) (s:Shared) (σ:St) (H:Hp) (x y:V) (v u:Value) (Q:VK),Inv X pins σ H s->RelV x v->RelV y u->r x y H Q->
  wpAny (model X.prog X.w) X.A (f v u) (EP X pins σ Q) X.xe s
def UnR (X:Cx) (f:Value->Sem Value) (r:V->Hp->VK->Prop):Prop:=
 ∀(pins:List (Addr×Obj)) (s:Shared) (σ:St) (H:Hp) (x:V) (v:Value) (Q:VK),Inv X pins σ H s->RelV x v->r x H Q->
  wpAny (model X.prog X.w) X.A (f v) (EP X pins σ Q) X.xe s
def cS (X:Cx) (f:Value) (r:List V->Hp->VK->Prop):Prop:=
 ∀(pins:List (Addr×Obj)) (s:Shared) (σ:St) (H:Hp) (xs:List V) (us:List Value) (Q:VK),Inv X pins σ H s->Vals xs us->r xs H Q->
  wpAny (model X.prog X.w) X.A (call f us) (EP X pins σ Q) X.xe s
def acU (X:Cx) (r:V->Hp->(Bool->Hp->Prop)->Prop):Prop:=
 ∀(pins:List (Addr×Obj)) (s:Shared) (σ:St) (H:Hp) (x:V) (v:Value) (Q:Bool->Hp->Prop),Inv X pins σ H s->RelV x v->r x H Q->
  wpAny (model X.prog X.w) X.A (truthy v) (TP X pins σ Q) X.xe s
def YF (r:R2) (ta tb:TE):TE:=fun σ H Q=>ta σ H fun x H1=>tb σ H1 fun y H2=>r x y H2 Q
def tUn (r:V->Hp->VK->Prop) (ta:TE):TE:=fun σ H Q=>ta σ H fun x H1=>r x H1 Q
def rI (C:Int->Int->Prop) (g:Int->Int->V):R2:=fun x y H Q=>∃i j,x= .int i/\y= .int j/\C i j/\Q (g i j) H
def HM (g:Int->Int->V):R2:=fun x y H Q=>∃i j,x= .int i/\y= .int j/\Q (g i j) H
def rU (g:Int->V):V->Hp->VK->Prop:=fun x H Q=>∃i,x= .int i/\Q (g i) H
section
variable {X:Cx} {a b c:Expr} {ta tb tc:TE} {pos:Pos}
theorem VA (ha:PE X a ta) (hb:PE X b tb) {R:V->V->Hp->Prop} (I:Inv X pins σ H s)
  (h:ta σ H fun x H1=>tb σ H1 fun y H2=>R x y H2)
  (hf:∀v u s2 x y H2,Inv X pins σ H2 s2->RelV x v->RelV y u->R x y H2->wpAny (model X.prog X.w) X.A (f v u) Q X.xe s2):
  wpAny (model X.prog X.w) X.A (eval a X.env) (fun v s₁=>wpAny (model X.prog X.w) X.A (eval b X.env) (fun u s₂=>wpAny (model X.prog X.w) X.A (f v u) Q X.xe s₂) X.xe s₁) X.xe s:=by
 refine cD (ha pins s σ H _ I h) fun v s1 ⟨x,H1,I1,r1,q1⟩=>?_
 refine cD (hb pins s1 σ H1 _ I1 q1) fun u s2 ⟨y,H2,I2,r2,q2⟩=>?_
 exact hf v u s2 x y H2 I2 r1 r2 q2
theorem bF {op:Operator} (ho:g9 X (binaryOp op) r) (ha:PE X a ta) (hb:PE X b tb):PE X (.BinOp a op b pos) (YF r ta tb):=by
 intro pins s σ H Q I h;exact wpAny_BinOp (VA ha hb I h fun v u s2 x y H2 I2 rx ry q=>ho pins s2 σ H2 x y v u Q I2 rx ry q)
theorem ZF {op:UnaryOp} {r:V->Hp->VK->Prop} (ho:UnR X (unaryOp op) r) (ha:PE X a ta):PE X (.UnaryOp op a pos) (tUn r ta):=by
 intro pins s σ H Q I h;exact UnaryOp_ (cD (ha pins s σ H _ I h) fun v s1 ⟨x,H1,I1,r1,q1⟩=>ho pins s1 σ H1 x v Q I1 r1 q1)
theorem ZA {C:Int->Int->Prop}
  (rule:∀(i j:Int) (t u:Tok) (s:Shared) (Q:Value->Shared->Prop) (E:Value->Shared->Prop),C i j->Q (.int (g i j) s.toks) {s with toks:=s.toks+1}->wpAny (model X.prog X.w) X.A (f (.int i t) (.int j u)) Q E s):
  g9 X f (rI C fun i j=>.int (g i j)):=by
 intro pins s σ H x y v u Q I rx ry h;obtain⟨i,j,rfl,rfl,hc,q⟩:=h;obtain⟨t,rfl⟩:=rx;obtain⟨t',rfl⟩:=ry;exact rule i j t t' s _ _ hc ⟨.int (g i j),H,I.tok _,⟨_,rfl⟩,q⟩
theorem Z9
  (rule:∀(i j:Int) (t u:Tok) (s:Shared) (Q:Value->Shared->Prop) (E:Value->Shared->Prop),Q (.int (g i j) s.toks) {s with toks:=s.toks+1}->wpAny (model X.prog X.w) X.A (f (.int i t) (.int j u)) Q E s):
  g9 X f (HM fun i j=>.int (g i j)):=by
 intro pins s σ H x y v u Q I rx ry h;obtain⟨i,j,rfl,rfl,q⟩:=h;obtain⟨t,rfl⟩:=rx;obtain⟨t',rfl⟩:=ry;exact rule i j t t' s _ _ ⟨.int (g i j),H,I.tok _,⟨_,rfl⟩,q⟩
theorem T5 {g:Int->Int->Bool}
  (rule:∀(i j:Int) (t u:Tok) (s:Shared) (Q:Value->Shared->Prop) (E:Value->Shared->Prop),Q (.bool (g i j)) s->wpAny (model X.prog X.w) X.A (f (.int i t) (.int j u)) Q E s):
  g9 X f (HM fun i j=>.bl (g i j)):=by
 intro pins s σ H x y v u Q I rx ry h;obtain⟨i,j,rfl,rfl,q⟩:=h;obtain⟨t,rfl⟩:=rx;obtain⟨t',rfl⟩:=ry;exact rule i j t t' s _ _ ⟨.bl (g i j),H,I,rfl,q⟩
def R8 (i j:Int):Prop:=(-(2^64)<i/\i<2^64)\/ (-(2^64)<j/\j<2^64)
theorem R8.ok {i j:Int} (h:R8 i j):IntMulOk i j:=by
 rcases h with⟨h1,h2⟩|⟨h1,h2⟩
 .exact .of_left (intBits_le_64 h1 h2)
 .exact .of_right (intBits_le_64 h1 h2)
theorem WE:g9 X (binaryOp .Add) (HM fun i j=>.int (i+j)):=Z9 fun _ _ _ _ _ _ _ q=>add_int q
theorem UH:g9 X (binaryOp .Sub) (HM fun i j=>.int (i - j)):=Z9 fun _ _ _ _ _ _ _ q=>sub_int q
theorem fZ:g9 X (binaryOp .Mult) (rI R8 fun i j=>.int (i*j)):=ZA fun _ _ _ _ _ _ _ hc q=>mul_int q hc.ok
theorem gQ:g9 X (binaryOp .Mod) (rI (fun _ j=>0<j) fun i j=>.int (i % j)):=ZA fun i j _ _ _ _ _ hc q=>by
 have h1:(0:Int)<j:=hc;exact mod_int' (by omega) (by rw[Int.fmod_eq_emod_of_nonneg i (by omega)];exact q)
theorem unI {f:Value->Sem Value} {g:Int->Int}
  (rule:∀(i:Int) (t:Tok) (s:Shared) (Q:Value->Shared->Prop) (E:Value->Shared->Prop),Q (.int (g i) s.toks) {s with toks:=s.toks+1}->wpAny (model X.prog X.w) X.A (f (.int i t)) Q E s):
  UnR X f (rU fun i=>.int (g i)):=by
 intro pins s σ H x v Q I rx h;obtain⟨i,rfl,q⟩:=h;obtain⟨t,rfl⟩:=rx;exact rule i t s _ _ ⟨.int (g i),H,I.tok _,⟨_,rfl⟩,q⟩
theorem XE:UnR X (unaryOp .USub) (rU fun i=>.int (-i)):=unI fun _ _ _ _ _ q=>neg_int q
end
section
variable {X:Cx} {a b c:Expr} {ta tb tc:TE} {pos:Pos}
theorem jH {Q:VK} {k k':Bool} (I:Inv X pins σ H s) (q:Q (.bl k) H) (e:k=k'):EP X pins σ Q (.bool k') s:=by
 subst e;exact⟨.bl k,H,I,rfl,q⟩
theorem ZU:g9 X (compareOp .Lt) (HM fun i j=>.bl (decide (i<j))):=T5 fun _ _ _ _ _ _ _ q=>lt_int q
theorem NX:g9 X (compareOp .Gt) (HM fun i j=>.bl (decide (j<i))):=T5 fun _ _ _ _ _ _ _ q=>gt_int q
theorem aaH:g9 X (compareOp .GtE) (HM fun i j=>.bl (decide (j<=i))):=T5 fun _ _ _ _ _ _ _ q=>ge_int q
theorem IQ:g9 X (compareOp .Lt) (fun x y H Q=>∃i j,x= .str i/\y= .str j/\Q (.bl (decide (i.cps.toList<j.cps.toList))) H):=by
 intro pins s σ H x y v u Q I rx ry h;obtain⟨i,j,rfl,rfl,q⟩:=h;obtain⟨t,rfl⟩:=rx;obtain⟨t',rfl⟩:=ry;exact lt_str (jH I q rfl)
theorem G4:g9 X (compareOp .In) (fun x y H Q=>∃i j,x= .str i/\y= .str j/\Q (.bl (!(Builtin.Str.occurrences j i 0 j.length 1).isEmpty)) H):=by
 intro pins s σ H x y v u Q I rx ry h;obtain⟨i,j,rfl,rfl,q⟩:=h;obtain⟨t,rfl⟩:=rx;obtain⟨t',rfl⟩:=ry;exact in_str (jH I q rfl)
theorem zQ:g9 X (compareOp .IsNot) (fun x y H Q=>y= .bH/\Q (.bl (!decide (x= .bH))) H):=by
 intro pins s σ H x y v u Q I rx ry h;obtain⟨rfl,q⟩:=h;cases ry;refine isnot_none_gen (jH I q ?_);cases x<;>first
  |(cases rx;rfl)
  |(obtain⟨t,rfl⟩:=rx;rfl)
theorem zS:g9 X (compareOp .NotIn) (fun x y H Q=>∃i j,x= .str i/\y= .str j/\Q (.bl (!(!(Builtin.Str.occurrences j i 0 j.length 1).isEmpty))) H):=by
 intro pins s σ H x y v u Q I rx ry h;obtain⟨i,j,rfl,rfl,q⟩:=h;obtain⟨t,rfl⟩:=rx;obtain⟨t',rfl⟩:=ry;exact notIn_str (jH I q rfl)
theorem cJ (b:Expr) {op:CmpOp} (h:op≠ .In:=by decide) (h2:op≠ .NotIn:=by decide):behindInMarks op b=false:=by
 have e1:(op==CmpOp.In)=false:=by cases op<;>first|rfl|exact absurd rfl h
 have e2:(op==CmpOp.NotIn)=false:=by cases op<;>first|rfl|exact absurd rfl h2
 cases b<;>simp[behindInMarks,e1,e2]
theorem FC (ho:g9 X (compareOp op) r) (ha:PE X a ta) (hb:PE X b tb) (hm:behindInMarks op b=false):PE X (.Compare a [op] [b] pos) (YF r ta tb):=by
 intro pins s σ H Q I h;exact wpAny_Compare1 (VA ha hb I h fun v u s2 x y H2 I2 rx ry q=>ho pins s2 σ H2 x y v u Q I2 rx ry q) hm
def TX (t:TE):TT:=fun σ H Q=>t σ H fun x H'=>∃k,x= .bl k/\Q k H'
theorem bI (ho:g9 X (compareOp op) r) (ha:PE X a ta) (hb:PE X b tb) (hm:behindInMarks op b=false):PT X (.Compare a [op] [b] pos) (TX (YF r ta tb)):=by
 intro pins s σ H Q I h;refine wpAny_isTrue_Compare1 (cD (ha pins s σ H _ I h) fun v s1 ⟨x,H1,I1,r1,q1⟩=>cD (hb pins s1 σ H1 _ I1 q1) fun u s2 ⟨y,H2,I2,r2,q2⟩=>
  cD (ho pins s2 σ H2 x y v u _ I2 r1 r2 q2) fun c s3 ⟨z,H3,I3,r3,k,e,q3⟩=>?_) hm
 subst e;cases r3;exact wpAny_truthy_bool ⟨H3,I3,q3⟩
def QR (K:Frag) (x:V) (H:Hp) (k:Bool):Prop:=
 match x with
 | .bH=>k=false
 | .bl b=>k=b
 | .int i=>k=(i !=0)
 | .str y=>y.length<=sizeLine/\k=((y.length:Int) !=0)
 | .ZR y=>y.size<=sizeLine/\k=((y.size:Int) !=0)
 | .ref p=>(∃xs,iW K H p xs/\k=!xs.isEmpty)\/ (∃xs,pK K H p xs/\k=!xs.isEmpty)\/ ∃kvs ep,H p=some (.dK kvs ep)/\k=!kvs.isEmpty
 |_=>False
theorem C9 {kvs:List (κ×V)} {vs:List (κ×Value)} (r:KV kvs vs):(!vs.isEmpty)=!kvs.isEmpty:=by
 cases r<;>rfl
theorem uR {its:List Value} (r:Vals xs its):(!its.toArray.isEmpty)=!xs.isEmpty:=by
 cases r<;>simp
theorem pA:(sizeLine:Nat)<2^63:=by rw[lr];decide
theorem WD:acU X (fun x H Q=>∃k,QR X.K x H k/\Q k H):=by
 intro pins s σ H x v Q I rx h;obtain⟨k,e,q⟩:=h;have hl:=pA;have hs:sizeLine=16777216:=lr;cases x with
 |bH=>
  cases rx;have e':k=false:=e;subst e';exact truthy_none ⟨H,I,q⟩
 |bl b=>
  cases rx;have e':k=b:=e;subst e';exact wpAny_truthy_bool ⟨H,I,q⟩
 |int i=>
  obtain⟨t,rfl⟩:=rx;have e':k=(i !=0):=e;subst e';exact PySem.P.truthy_int ⟨H,I,q⟩
 |str y=>
  obtain⟨t,rfl⟩:=rx;obtain⟨hy,e'⟩:y.length<=sizeLine/\k=((y.length:Int) !=0):=e;subst e';exact PySem.P.truthy_str (by omega) ⟨H,I.tok _,q⟩
 |ZR y=>
  obtain⟨t,rfl⟩:=rx;obtain⟨hy,e'⟩:y.size<=sizeLine/\k=((y.size:Int) !=0):=e;subst e';exact PySem.W.truthy_bytes (by omega) ⟨H,I.tok _,q⟩
 | ref p=>
  cases rx;have e':(∃xs,iW X.K H p xs/\k=!xs.isEmpty)\/ (∃xs,pK X.K H p xs/\k=!xs.isEmpty)\/ ∃kvs ep,H p=some (.dK kvs ep)/\k=!kvs.isEmpty:=e;rcases e' with⟨xs,hx,e'⟩|⟨xs,hx,e'⟩|⟨kvs,ep,hx,e'⟩
  .subst e';obtain⟨its,r,pl,hz⟩:=I.list hx;have hlen:=r.length;exact wpAny_truthy_list pl.isList (by simp only[cf];omega) ⟨H,I.tok _,by rw[uR r];exact q⟩
  .subst e';obtain⟨its,r,pl,hz⟩:=I.tuple hx;have hlen:=r.length;exact truthy_tuple pl (by simp only[cf];omega) ⟨H,I.tok _,by rw[uR r];exact q⟩
  .subst e';obtain⟨hz,hS,vs,r,m⟩:kvs.length<=sizeLine/\(p==sysModules)=false/\∃vs,KV kvs vs/\s.heap.DictAt (bU X.prog X.w) p vs ep:=I.bS p _ hx;have hlen:kvs.length=vs.length:=Paired.length r;exact wpAny_truthy_dict hS m.dictOf (by omega) ⟨H,I.tok _,by rw[C9 r];exact q⟩
 |_=>exact(show False from e).elim
theorem L0 (ha:PE X a ta) (he:∀whole,isTrue a X.env whole=(do let v<-whole;standAt a.pos;holding [v] (truthy v))):
  PT X a (fun σ H Q=>ta σ H fun x H'=>∃k,QR X.K x H' k/\Q k H'):=by
 intro pins s σ H Q I h;exact isTrue_plain (cD (ha pins s σ H _ I h) fun v s1 ⟨x,H1,I1,r1,q1⟩=>WD pins s1 σ H1 x v Q I1 r1 q1) (he _)
theorem D5:g9 X (binaryOp .Add) (fun x y H Q=>∃i j,x= .str i/\y= .str j/\i.length+j.length<=sizeLine/\Q (.str (i++j)) H):=by
 intro pins s σ H x y v u Q I rx ry h;obtain⟨i,j,rfl,rfl,hz,q⟩:=h;obtain⟨t,rfl⟩:=rx;obtain⟨t',rfl⟩:=ry;exact add_str (fun t' tk=>⟨.str (i++j),H,I.tok _,⟨_,rfl⟩,q⟩) hz
theorem vals1 {x:V} (r:Vals [x] us):∃u,us=[u]/\RelV x u:=by
 cases r with
 |cons r1 r2=>cases r2;exact⟨_,rfl,r1⟩
theorem vals2 {x:V} (r:Vals [x,y] us):∃u w',us=[u,w']/\RelV x u/\RelV y w':=by
 cases r with
 |cons r1 r2=>
  cases r2 with
  |cons r3 r4=>cases r4;exact⟨_,_,rfl,r1,r3⟩
theorem IJ (hc:X.calm=true):cS X (.builtin "max") (fun xs H Q=>∃i j,xs=[.int i,.int j]/\Q (.int (if j>i then j else i)) H):=by
 intro pins s σ H xs us Q I r h;obtain⟨i,j,rfl,q⟩:=h;obtain⟨u,w',rfl,⟨t,rfl⟩,⟨t',rfl⟩⟩:=vals2 r;refine max_two_ints (I.ok.hd hc) fun h' tk k=>⟨_,H,I.kept k,?_,q⟩
 by_cases hj:j>i
 .rw[ai hj,ai hj];exact⟨_,rfl⟩
 .rw[ah hj,ah hj];exact⟨_,rfl⟩
theorem JC (hc:X.calm=true):cS X (.builtin "min") (fun xs H Q=>∃i j,xs=[.int i,.int j]/\Q (.int (if j<i then j else i)) H):=by
 intro pins s σ H xs us Q I r h;obtain⟨i,j,rfl,q⟩:=h;obtain⟨u,w',rfl,⟨t,rfl⟩,⟨t',rfl⟩⟩:=vals2 r;refine min_two_ints (I.ok.hd hc) fun h' tk k=>⟨_,H,I.kept k,?_,q⟩
 by_cases hj:j<i
 .rw[ai hj,ai hj];exact⟨_,rfl⟩
 .rw[ah hj,ah hj];exact⟨_,rfl⟩
theorem IZ:cS X (.type "int") (fun xs H Q=>(∃i,xs=[.int i]/\Q (.int i) H)\/ ∃k,xs=[.bl k]/\Q (.int (if k then 1 else 0)) H):=by
 intro pins s σ H xs us Q I r h;rcases h with⟨i,rfl,q⟩|⟨k,rfl,q⟩
 .obtain⟨u,rfl,t,rfl⟩:=vals1 r;exact call_int_int ⟨.int i,H,I,⟨_,rfl⟩,q⟩
 .obtain⟨u,rfl,r1⟩:=vals1 r;cases r1;exact call_int_bool ⟨.int (if k then 1 else 0),H,I.tok _,⟨_,rfl⟩,q⟩
theorem qN:cS X (.type "str") (fun xs H Q=>∃i,xs=[.int i]/\i.natAbs.log2<1920/\Q (.str (toString i)) H):=by
 intro pins s σ H xs us Q I r h;obtain⟨i,rfl,hz,q⟩:=h;obtain⟨u,rfl,t,rfl⟩:=vals1 r;exact PySem.P.str_of_int hz ⟨.str _,H,I.tok _,⟨_,rfl⟩,q⟩
end
theorem sZ.some_of {v:V} {o:Option Value} (r:sZ (some v) o):∃u,o=some u/\RelV v u:=by
 cases o with
 |none=>exact(show False from r).elim
 |some u=>exact⟨u,rfl,r⟩
structure c8 (k:Nat) (A:Around):Prop where
 hd:A.handled=none
 dp:A.depth+3*k+5<recursionLimit
 un:A.units+16*k+200<cLine
theorem c8.mono (r:c8 k A) (h:j<=k):c8 j A:=⟨r.hd,by have:=r.dp;omega,by have:=r.un;omega⟩
theorem c8.deeper (r:c8 (k+1) A) (env:Env):c8 k (A.deeper env):=
 ⟨r.hd,by have:=r.dp;show A.depth+1+3*k+5<_;omega,by have:=r.un;show A.units+3+16*k+200<_;omega⟩
theorem c8.depth (r:c8 k A):A.depth<recursionLimit:=by have:=r.dp;omega
theorem c8.units (r:c8 k A):A.units+64<cLine:=by have:=r.un;omega
def tF:TA:=fun _ H Q=>Q [] H
def dD (ta:TE) (tr:TA):TA:=fun σ H Q=>ta σ H fun x H1=>tr σ H1 fun xs H2=>Q (x::xs) H2
section
variable {X:Cx} {e:Expr} {es:List Expr} {te:TE} {t:TA} {pos:Pos}
theorem aD:PA X [] tF:=fun _ _ _ _ H Q I h=>Calls.spliced_nil ⟨[],H,I,.nil,h⟩
theorem aA (ha:PE X e te) (hr:PA X es t) (hs:starEach (e::es) X.env=(false,eval e X.env)::starEach es X.env:=by rfl):PA X (e::es) (dD te t):=by
 intro pos pins s σ H Q I h;rw[hs];show wpAny _ _ (spliced ((false,eval e X.env)::backTo pos (starEach es X.env))) _ _ s;refine jv (cD (ha pins s σ H _ I h) fun u s1 ⟨x,H1,I1,r1,q1⟩=>?_);exact cD (hr pos pins s1 σ H1 _ I1 q1) fun us s2 ⟨xs,H2,I2,r2,q2⟩=>⟨x::xs,H2,I2,.cons r1 r2,q2⟩
def MH (t:TA):TE:=fun σ H Q=>t σ H fun xs H1=>xs.length<=sizeLine/\∀p,H1 p=none->Q (.ref p) (upd H1 p (.tup xs))
def MR (t:TA):TE:=fun σ H Q=>t σ H fun xs H1=>xs.length<=sizeLine/\∀p,H1 p=none->Q (.ref p) (upd H1 p (.lst xs))
theorem bQ {x1} (h:PA X es t):PE X (.Tuple es x1 pos) (MH t):=by
 intro pins s σ H Q I hq;refine wpAny_Tuple_spliced (cD (h pos pins s σ H _ I hq) fun us s1 ⟨xs,H1,I1,r,z,q⟩=>⟨by rw[<-r.length];exact z,?_⟩);have hf:H1 s1.heap.objs.size=none:=I1.bS.fresh (bj _);refine⟨.ref s1.heap.objs.size,upd H1 s1.heap.objs.size (.tup xs),I1.laid (t':=s1.toks) (fun b u e=>au _ e) (bj _) ?_,rfl,q _ hf⟩;exact⟨z,us,r,tE.new _ _⟩
theorem fG (h:PA X es t):PE X (.List es pos) (MR t):=by
 intro pins s σ H Q I hq;refine wpAny_List_spliced (cD (h pos pins s σ H _ I hq) fun us s1 ⟨xs,H1,I1,r,z,q⟩=>⟨by rw[<-r.length];exact z,?_⟩);have hf:H1 s1.heap.objs.size=none:=I1.bS.fresh (bj _);refine⟨.ref s1.heap.objs.size,upd H1 s1.heap.objs.size (.lst xs),I1.laid (t':=s1.toks) (fun b u e=>au _ e) (bj _) ?_,rfl,q _ hf⟩;exact⟨z,us,0,r,dc _ rfl⟩
end
abbrev Sp:=List V->Hp->VK->XK->Prop
abbrev JL:=List Env->Hp->Shared->XK->Value->Shared->Prop
structure O3 (P:Program) (w:World) (K:Frag) (mg:Str->Option Value) (base:Heap) (A:Around) (outer:List Env) (s:Shared) (H:Hp):Prop where
 frames:A.frames=some outer
 mod:Mod K mg base
 bs:∀b o,base.get? b=some o->s.heap.get? b=some o/\H b=none
 QU:base.objs.size<=s.heap.objs.size
 sR:s.heap.FunFrames base outer
 T6:∀b∈HV outer,H b=none
 bS:nW P w H s.heap
 bare:AllBare s.gens
def CE (outer:List Env) (P:Program) (w:World) (H:Hp) (s:Shared) (Q:VK) (u:Value) (s':Shared):Prop:=
 ∃v H',s'.os=s.os/\AllBare s'.gens/\Un (HV outer) [] H H' s.heap s'.heap/\nW P w H' s'.heap/\RelV v u/\Q v H'
def CR (CX:JL) (outer:List Env) (P:Program) (w:World) (H:Hp) (s:Shared) (Q:VK) (E:XK) (r:Result) (s':Shared):Prop:=
 match r with
 | .ok (.ret u)=>CE outer P w H s Q u s'
 | .ok _=>False
 | .error e=>CX outer H s E e s'
structure pX (P:Program) (w:World) (K:Frag) (mg:Str->Option Value) (base:Heap) (CX:JL) (k:Nat) (f:Addr) (fd:FuncData) (ps:List Str) (sp:Sp):Prop where
 len:∀vs H Q E,sp vs H Q E->vs.length=ps.length
 run:∀(A:Around) (outer:List Env) (s:Shared) (H:Hp) (args:Args) (us:List Value) (vs:List V) (Q:VK) (E:XK),c8 k A->O3 P w K mg base A outer s H->BindsTo s fd args (ps.zip us)->Vals vs us->sp vs H Q E->
  codeAny (model P w) A (.call (.ref f) args) (CR CX outer P w H s Q E) s
theorem pX.imp {f:Addr} {sp':Sp} (F:pX P w K mg base CX k f fd ps sp)
  (h:∀vs H Q E,sp' vs H Q E->sp vs H Q E):pX P w K mg base CX k f fd ps sp':=
 ⟨fun vs H Q E q=>F.len vs H Q E (h _ _ _ _ q),fun A outer s H args us vs Q E hr he hb hv hs=>F.run A outer s H args us vs Q E hr he hb hv (h _ _ _ _ hs)⟩
section
variable {X:Cx} {pins:List (Addr×Obj)} {σ:St} {H:Hp} {s s':Shared}
theorem Inv.nX (I:Inv X pins σ H s):O3 X.prog X.w X.K X.mg X.base X.A X.stack s H:=
 ⟨I.ok.frames,I.ok.mod,I.bs,gc I.ok.QU I.sz,I.stack,I.E7,I.bS,I.bare⟩
theorem Inv.after {Q:VK} (I:Inv X pins σ H s) (h:CE X.stack X.prog X.w H s Q u s'):EP X pins σ Q u s':=by
 obtain⟨v,H',os,bare,un,bS,r,q⟩:=h;obtain⟨hh,g,d,t,os'⟩:=s';obtain rfl:os'=s.os:=os;exact⟨v,H',I.call (h':=hh) (g':=g) (d':=d) (t':=t) (ch:=[]) un bS bare (fun b z=>absurd z (by simp)),r,q⟩
end
def GB (sp:Sp) (dvs:List V) (E:XK) (t:TA):TE:=fun σ H Q=>t σ H fun vs H1=>sp (vs++dvs) H1 Q E
def Binds (K:Frag) (fd:FuncData) (ps:List Str) (ds:List Value):Prop:=
 ∀(s:Shared) (us:List Value),K.In s.heap->(us++ds).length=ps.length->BindsTo s fd ⟨us,[]⟩ (ps.zip (us++ds))
theorem Binds.all (h:∀us:List Value,us.length=ps.length->bindArgs fd ⟨us,[]⟩=pure (ps.zip us)):Binds K fd ps []:=fun s us _ hl=>by
 rw[gj]at hl⊢
 exact .of_eq (h us hl)
def Passes (CX:JL) (X:Cx) (E:XK):Prop:=∀(pins:List (Addr×Obj)) (σ:St) (H:Hp) (s:Shared) (e:Value) (s':Shared),Inv X pins σ H s->CX X.stack H s E e s'->X.xe e s'
section
variable {X:Cx} {CX:JL} {k:Nat} {f C:Addr} {fd:FuncData} {ps:List Str} {sp:Sp} {dvs:List V} {ds:List Value} {E:XK} {x m:Str} {p pos apos:Pos} {e o:Expr} {es:List Expr} {ta:TE} {t:TA}
theorem WH {Q:VK} {vs:List V} (F:pX X.prog X.w X.K X.mg X.base CX k f fd ps sp) (hr:c8 k X.A) (hb:Binds X.K fd ps ds) (hd:Vals dvs ds) (hx:Passes CX X E)
  (I:Inv X pins σ H s) (r:Vals vs us) (h:sp (vs++dvs) H Q E):wpAny (model X.prog X.w) X.A (call (.ref f) us) (EP X pins σ Q) X.xe s:=by
 have r2:Vals (vs++dvs) (us++ds):=r.append hd;have hl:(us++ds).length=ps.length:=by rw[<-r2.length];exact F.len _ _ _ _ h
 refine wpAny_call (codeAny_mono (F.run X.A X.stack s H ⟨us,[]⟩ (us++ds) (vs++dvs) Q E hr I.nX (hb s us I.YJ hl) r2 h) fun r s' hq=>?_);cases r with
 |error e=>exact hx pins σ H s e s' I hq
 |ok fl=>
  cases fl with
  |ret u=>exact I.after hq
  |next=>exact False.elim hq
  |brk=>exact False.elim hq
  |cont=>exact False.elim hq
theorem P0 (F:pX X.prog X.w X.K X.mg X.base CX k f fd ps sp) (hr:c8 k X.A) (hg:Gl X x) (hm:X.mg x=some (.ref f)) (hk:keepIn X.K (.ref f)=true) (hb:Binds X.K fd ps ds) (hd:Vals dvs ds) (hx:Passes CX X E)
  (ha:PA X (e::es) t) (hdb:(x==("__debug__":Str))=false:=by decide) (he:starEach (e::es) X.env=(false,eval e X.env)::starEach es X.env:=by rfl) (hpl:(backTo pos (starEach es X.env)).any (·.1)=false:=by rfl):
  PE X (.Call (.Name x p) (e::es) [] pos) (GB sp dvs E t):=by
 intro pins s σ H Q I h;refine wpAny_Call_Name_kw (RS I hg hm ?_ hdb);refine PySem.W.callWith_K (h₀:=X.base) I.ok.mod.kin hk (cD (ha pos pins s σ H _ I h) fun us s1 ⟨vs,H1,I1,r,q⟩=>⟨I1.YJ,?_⟩) he hpl;exact WH F hr hb hd hx I1 r q
end
structure pL (N P:List Str) (sc:Scope):Prop where
 kind:sc.kind= .function
 co:sc.isCoroutine=false
 gen:sc.isGenerator=false
 nd:N.Nodup
 pre:N.take P.length=P
 par:∀x∈P,sc.names.lookup x=some .local\/ sc.names.lookup x=some .cell
 VP:∀y∈sc.names,y.2≠ .free
theorem xF:∀{binds:List (Str×Value)} {m:Str->Option Value},(∀v,(x,v)∉binds)->bindL kindOf binds m x=m x
 |[],_,_=>rfl
 | (n,v)::r,m,h=>by
  unfold bindL;rw[xF fun w hw=>h w (ax _ hw)];split
  .have:x≠n:=by rintro rfl;exact h v bf
   simp[this]
  .rfl
theorem wU:∀{binds:List (Str×Value)} {m:Str->Option Value},(∀v,(x,v)∉binds)->bindC kindOf binds m x=m x
 |[],_,_=>rfl
 | (n,v)::r,m,h=>by
  unfold bindC;rw[wU fun w hw=>h w (ax _ hw)];split
  .rfl
  .have:x≠n:=by rintro rfl;exact h v bf
   simp[this]
theorem xI:∀{P:List Str} {vs:List Value} {i:Nat} {m:Str->Option Value},P.Nodup->P[i]? =some x->vs[i]? =some v->kindOf x=some .local->
  bindL kindOf (P.zip vs) m x=some v
 |[],_,_,_,_,h,_,_=>by simp at h
 |_::_,[],_,_,_,_,h,_=>by simp at h
 |p::P,w::vs,0,m,nd,h1,h2,hk=>by
  simp at h1 h2;subst h1;subst h2
  show bindL kindOf ((p,w)::P.zip vs) m p=_;unfold bindL;rw[xF fun v hv=>(fw.mp nd).1 (of_mem_zip hv).1,ai hk];simp
 |p::P,w::vs,i+1,m,nd,h1,h2,hk=>by
  show bindL kindOf ((p,w)::P.zip vs) m x=_;unfold bindL;exact xI (i:=i) (fw.mp nd).2 (by simpa using h1) (by simpa using h2) hk
theorem w6:∀{P:List Str} {vs:List Value} {i:Nat} {m:Str->Option Value},P.Nodup->P[i]? =some x->vs[i]? =some v->kindOf x≠some .local->
  bindC kindOf (P.zip vs) m x=some v
 |[],_,_,_,_,h,_,_=>by simp at h
 |_::_,[],_,_,_,_,h,_=>by simp at h
 |p::P,w::vs,0,m,nd,h1,h2,hk=>by
  simp at h1 h2;subst h1;subst h2
  show bindC kindOf ((p,w)::P.zip vs) m p=_;unfold bindC;rw[wU fun v hv=>(fw.mp nd).1 (of_mem_zip hv).1,ah hk];simp
 |p::P,w::vs,i+1,m,nd,h1,h2,hk=>by
  show bindC kindOf ((p,w)::P.zip vs) m x=_;unfold bindC;exact w6 (i:=i) (fw.mp nd).2 (by simpa using h1) (by simpa using h2) hk
noncomputable def start (N:List Str) (vs:List V):St:=vs.map some++List.replicate (N.length - vs.length) none
noncomputable def EF (CX:JL) (P:Program) (w:World) (K:Frag) (mg:Str->Option Value) (base:Heap) (N:List Str) (qual:Str) (scope:Scope) (f:Addr) (cd:Value) (A:Around) (outer:List Env) (s:Shared) (H:Hp) (E:XK):Cx where
 prog:=P
 w:=w
 K:=K
 mg:=mg
 base:=base
 A:=A.deeper (envOfC qual scope s.heap.objs.size f cd)
 N:=N
 gP:=s
 M5:=H
 env:=envOfC qual scope s.heap.objs.size f cd
 outer:=outer
 stack:=envOfC qual scope s.heap.objs.size f cd::outer
 ex:=[]
 calm:=true
 fn:=fun _=>true
 pn:=[]
 xe:=fun e s'=>wpAny (model P w) (A.deeper (envOfC qual scope s.heap.objs.size f cd)) (leaving (envOfC qual scope s.heap.objs.size f cd) e) (fun _ s''=>CX outer H s E e s'') (fun e' s''=>CX outer H s E e' s'') s'
theorem BD {sc:Scope} (h:sc.names.lookup x=some .cell):∃c,(cellsFrom n sc.names []).lookup x=some c:=by
 have q:=PySem.W.cellsFrom_some sc.names n [] (.inl h);exact je.mp q
theorem IE {f:Addr} {cd:Value} {outer:List Env} {s s1:Shared} {E:XK} {vs:List V}
  (S:pL N ps scope) (hd:A.handled=none) (e0:O3 P w K mg base A outer s H) (hl:vs.length=ps.length) (r:Vals vs us)
  (x:InCallC s s.heap.objs.size (bindL (envOfC qual scope s.heap.objs.size f cd).kindOf (ps.zip us) fun _=>none) (cellsFrom (s.heap.objs.size+1) scope.names []) (bindC (envOfC qual scope s.heap.objs.size f cd).kindOf (ps.zip us) fun _=>none) s1):
  Inv (EF CX P w K mg base N qual scope f cd A outer s H E) [] (start N vs) H s1:=by
 have hpl:ps.length<=N.length:=by have:=cn List.length S.pre;rw[di]at this;omega
 obtain⟨h1,tk,rfl,hk⟩:=x.done;have cL:∀b:Addr,b∉(EF CX P w K mg base N qual scope f cd A outer s H E).ex:=fun b z=>absurd (show b∈([]:List Addr)from z) (by simp)
 refine⟨⟨e0.mod,S.kind,rfl,rfl,bj _,fun y z c h1 h2=>?_,fun y hy=>?_,fun y c _ h=>?_,fun _=>hd,Around.frames_deeper e0.frames,.inr ⟨rfl,rfl⟩,fun b z=>absurd z (cL b),e0.bs,e0.QU,fun b _ _=>cL b,fun b z=>absurd z (cL b),e0.sR,e0.T6⟩,
  rfl,e0.bare,Un.kept hk,⟨_,x.toInCall.ns,fun i y v h1 h2 h3=>?_⟩,fun y c h=>⟨_,x.cell y c h⟩,e0.bS.fresh (bj _),fun y c h=>?_,fun p hp=>absurd (show p∈([]:List (Addr×Obj))from hp) (by simp),e0.bS.kept hk,?_⟩
 .exact name_of_addr x.apart (gp h1) (gp h2)
 .have hy:scope.names.lookup y=some .cell\/ scope.names.lookup y=some .free:=hy;rcases hy with hy|hy
  .exact BD hy
  .exact absurd rfl (S.VP _ (gp hy))
 .exact ir (x.above y c (gp h))
 .have hi:i<vs.length:=by
   unfold start at h2
   by_cases hi:i<vs.length
   .exact hi
   .rw[gu (by simpa using hi)]at h2;rw[md]at h2;split at h2<;>cases h2
  have ha:vs[i]? =some v:=by
   unfold start at h2;rw[gw (by simpa using hi),az]at h2;cases e:vs[i]? with
   |none=>rw[e]at h2;cases h2
   |some a=>rw[e]at h2;cases h2;rfl
  obtain⟨u,hu,rv⟩:=r.get ha;have hp:ps[i]? =some y:=by
   rw[<-S.pre,List.getElem?_take_of_lt (by omega)];exact h1
  have ndP:ps.Nodup:=by rw[<-S.pre];exact S.nd.sublist (ly _ _)
  refine⟨u,rv,?_⟩;rcases S.par y (ba hp)with k|k
  .exact .inl ⟨k,xI ndP hp hu k⟩
  .obtain⟨c,e⟩:=BD (n:=s.heap.objs.size+1) k;refine .inr ⟨.inl k,c,e,?_⟩;have q:=x.cell y c e;rw[w6 ndP hp hu (by show scope.names.lookup y≠_;rw[k];decide)]at q;exact q
 .exact e0.bS.fresh (ir (x.above y c (gp h)))
 .unfold start;show _=N.length;rw[bq,aj,gx];omega
theorem aaF {f:Addr} {name:Str} {params:Arguments} {dV kV doc pm cdv ct oc:Value} {an od:Option Addr}
  {osl:Array (Option Value)} (lk:K.lookup f=some ⟨oc,od,.func (fnOf name qual params body scope dV kV doc pm an cdv ct),osl⟩) (hcd:codeIn K cdv qual=true) (S:pL N ps scope)
  (len:∀vs H Q E,sp vs H Q E->vs.length=ps.length)
  (hbody:∀(A:Around) (outer:List Env) (s:Shared) (H:Hp) (vs:List V) (Q:VK) (E:XK),c8 k (A.deeper (envOfC qual scope s.heap.objs.size f cdv))->sp vs H Q E->
   ∃t,CP (EF CX P w K mg base N qual scope f cdv A outer s H E) body t/\t {nx:=fun _ H'=>Q .bH H',rt:=Q} (start N vs) H):
  pX P w K mg base CX (k+1) f (fnOf name qual params body scope dV kV doc pm an cdv ct) ps sp:=by
 refine⟨len,fun A outer s H args us vs Q E hr e0 hb r hsp=>?_⟩;have hl:=len _ _ _ _ hsp;have KX:K.In s.heap:=e0.mod.kin.keeps fun b o e=>(e0.bs b o e).1
 have lim:s.heap.NoLimit:=e0.mod.nolimit.keeps fun b o e=>(e0.bs b o e).1
 have hkind:∀y∈ps.zip us,scope.names.lookup y.1=some .local\/ (scope.names.lookup y.1=some .cell/\((cellsFrom (s.heap.objs.size+1) scope.names []).lookup y.1).isSome=true):=fun⟨n,v⟩ hy=>by
  rcases S.par n (of_mem_zip hy).1 with q|q
  .exact .inl q
  .exact .inr ⟨q,PySem.W.cellsFrom_some _ _ _ (.inl q)⟩
 refine codeAny_call_function hr.depth (KX _ _ lk) rfl S.co S.gen rfl (PySem.W.codeRec_of KX hcd) (hb _ _ _ _ ?_);refine wpAny_newFunctionEnv_cells S.kind hkind fun env he s1 x=>?_
 subst he;refine⟨lim.keeps x.toInCall.keep,codeAny_func ?_⟩;obtain⟨t,ht,hq⟩:=hbody A outer s H vs Q E (hr.deeper _) hsp;have I:Inv (EF CX P w K mg base N qual scope f cdv A outer s H E) [] (start N vs) H s1:=IE S hr.hd e0 hl r x;refine dk (ht [] s1 (start N vs) H _ I hq) (fun fl s' hs=>?_) fun e s' hs=>hs
 have fin:∀{σ':St} {H':Hp} {v:V} {u:Value},Inv (EF CX P w K mg base N qual scope f cdv A outer s H E) [] σ' H' s'->RelV v u->Q v H'->CE outer P w H s Q u s':=
  fun{σ' H' v u} J rv q=>⟨v,H',J.os,J.bare,J.base,J.bS,rv,q⟩
 cases fl with
 |ret u=>
  obtain⟨v,σ',H',J,rv,q⟩:=hs;exact fin J rv q
 |next=>
  obtain⟨σ',H',J,q⟩:=hs;exact fin (v:=V.bH) (u:=Value.none) J rfl q
 |brk=>
  obtain⟨_,_,_,q⟩:=hs;exact False.elim q
 |cont=>
  obtain⟨_,_,_,q⟩:=hs;exact False.elim q
section
variable {X:Cx} {x:Str} {p pos:Pos} {e:Expr} {es:List Expr} {t:TA} {id T:String} {r:List V->Hp->VK->Prop}
def tCB (r:List V->Hp->VK->Prop) (t:TA):TE:=fun σ H Q=>t σ H fun vs H1=>r vs H1 Q
theorem a7 (hc:cS X (.builtin id) r) (hg:Gl X x) (hm:X.mg x=none) (hv:bootBuiltins x=some (.builtin id)) (ha:PA X (e::es) t) (hn:x≠"__name__":=by decide) (hdb:(x==("__debug__":Str))=false:=by decide)
  (he:starEach (e::es) X.env=(false,eval e X.env)::starEach es X.env:=by rfl) (hpl:(backTo pos (starEach es X.env)).any (·.1)=false:=by rfl):PE X (.Call (.Name x p) (e::es) [] pos) (tCB r t):=by
 intro pins s σ H Q I h;refine wpAny_Call_Name_kw (vF I hg hm hv ?_ hn hdb);exact PyProof.Rows.callWith_builtin1 (cD (ha pos pins s σ H _ I h) fun us s1 ⟨vs,H1,I1,r1,q1⟩=>hc pins s1 σ H1 vs us Q I1 r1 q1) he hpl
theorem bZ (hc:cS X (.type T) r) (hg:Gl X x) (hm:X.mg x=none) (hv:bootBuiltins x=some (.type T)) (ha:PA X (e::es) t) (hn:x≠"__name__":=by decide) (hdb:(x==("__debug__":Str))=false:=by decide)
  (he:starEach (e::es) X.env=(false,eval e X.env)::starEach es X.env:=by rfl) (hpl:(backTo pos (starEach es X.env)).any (·.1)=false:=by rfl):PE X (.Call (.Name x p) (e::es) [] pos) (tCB r t):=by
 intro pins s σ H Q I h;refine wpAny_Call_Name_kw (vF I hg hm hv ?_ hn hdb);exact ju (cD (ha pos pins s σ H _ I h) fun us s1 ⟨vs,H1,I1,r1,q1⟩=>hc pins s1 σ H1 vs us Q I1 r1 q1) he hpl
end
end L2
namespace HT
open PySem PyProof.Rows
variable {sl t:Addr} {vl vu:Value} {Q:Value->Shared->Prop}
section
variable {prog:Program} {w:World} {A:Around} {E:Value->Shared->Prop} {s:Shared}
theorem SG {b:Addr} {vs ws:List Value} (ht:IsTup s.heap t vs.toArray) (hb:IsTup s.heap b ws.toArray) (hv:vs≠[])
  (h1:ws=[]->Q (.ref t) s) (h2:ws≠[]->Q (.ref s.heap.objs.size) {s with heap:=s.heap.push {cls:=.type "tuple",data:=.seq (vs++ws).toArray}})
  (hsz:vs.length+ws.length<=sizeLine):wpAny (model prog w) A (binaryOp .Add (.ref t) (.ref b)) Q E s:=by
 obtain⟨⟨cls,dd,data,sl⟩,ho,hc,n,hd⟩:=id ht;obtain⟨⟨cls2,dd2,data2,sl2⟩,ho2,hc2,n2,hd2⟩:=id hb;simp only at hc hd hc2 hd2;subst hc hd hc2 hd2;have e:vs.toArray++ws.toArray=(vs++ws).toArray:=by simp
 by_cases hw:ws=[]
 .exact concat_meets ⟨_,ho,rfl⟩ ⟨_,ho2,rfl⟩ noFill_tuple_add seq_tuple_add slot_tuple_add entry_tuple_add (args_tuple_add_2 _ _)
   (tuple_addW1 t b vs.toArray ws.toArray n n2 dd dd2 sl sl2 (by simpa using hv) (by simp[hw])) ⟨ho,ho2,h1 hw⟩
 .refine concat_meets ⟨_,ho,rfl⟩ ⟨_,ho2,rfl⟩ noFill_tuple_add seq_tuple_add slot_tuple_add entry_tuple_add (args_tuple_add_2 _ _)
   (tuple_addW2 t b vs.toArray ws.toArray n n2 dd dd2 sl sl2 (by simpa using hv) (by simpa using hw) (by rw[cf,cf];exact hsz)) ⟨ho,ho2,?_⟩
  rw[e];exact h2 hw
noncomputable def dG (n d:Nat):Option Int->Nat
 |none=>d
 |some v=>if v<0 then(v+(n:Int)).toNat else min v.toNat n
theorem A7 (n d:Nat):dG n d none=d:=rfl
theorem tM (n d k:Nat):dG n d (some (k:Int))=min k n:=by
 show(if(k:Int)<0 then((k:Int)+(n:Int)).toNat else min (k:Int).toNat n)=min k n;rw[ah (by omega),toNat_natCast]
theorem W4 (n d:Nat) (hd:d<=n) (o:Option Int):dG n d o<=n:=by
 cases o with
 |none=>exact hd
 |some v=>
  show(if v<0 then(v+(n:Int)).toNat else min v.toNat n)<=n
  by_cases hv:v<0
  .rw[ai hv];omega
  .rw[ah hv];exact Nat.min_le_right _ _
theorem FH (v:Int) (n d:Nat):(if v<0 then max (v+(n:Int)) 0 else min v (n:Int))=((dG n d (some v):Nat):Int):=by
 show(if v<0 then max (v+(n:Int)) 0 else min v (n:Int))=(((if v<0 then(v+(n:Int)).toNat else min v.toNat n):Nat):Int)
 by_cases hv:v<0
 .simp only[ai hv];omega
 .simp only[ah hv];omega
theorem DS (lo hi:Option Int) (n:Nat):Builtin.Slice.sliceAdjust lo hi 1 (n:Int)=(((dG n 0 lo:Nat):Int),((dG n n hi:Nat):Int)):=by
 have h1:¬((1:Int)<0):=by omega
 unfold Builtin.Slice.sliceAdjust;simp only[h1,if_false];refine Prod.ext ?_ ?_
 .cases lo with
  |none=>rfl
  |some v=>exact FH v n 0
 .cases hi with
  |none=>rfl
  |some v=>exact FH v n n
theorem DK (i j:Nat):Builtin.Slice.slicePlaces (i:Int) (j:Int) 1=j - i:=by
 unfold Builtin.Slice.slicePlaces;have h1:(1:Int)>0:=by omega
 simp only[h1,if_true,Int.ediv_one];split<;>omega
theorem vG {v:Value} {o:Option Int} {Q:Option Int->Shared->Prop} (p:IsPart v o) (h:Q o s):wpAny (model prog w) A (Builtin.Slice.slicePartIndex v) Q E s:=by
 cases p with
 |none=>exact slicePart_none h
 |int i t=>exact slicePart_int h
theorem jW {lo hi:Option Int} {n:Nat} {Q:Int×Int×Nat->Shared->Prop} (hs:s.heap.IsSliceOf sl vl vu .none) (pl:IsPart vl lo) (pu:IsPart vu hi)
  (h:Q (((dG n 0 lo:Nat):Int),1,dG n n hi - dG n 0 lo) s):wpAny (model prog w) A (Builtin.Slice.sliceApplied (.ref sl) (pure (n:Int))) Q E s:=by
 obtain⟨os,hos,hcs,hds⟩:=id hs;unfold Builtin.Slice.sliceApplied Builtin.Slice.sliceFields;refine af (af (wpAny_field hos hds (x:=vl) rfl (af (wpAny_field hos hds (x:=vu) rfl (af (wpAny_field hos hds (x:=.none) rfl (ay ?_)))))));refine af (slicePart_none ?_);show wpAny _ _ (if((1:Int)==0)=true then _ else _) _ _ s;rw[ah (by decide)];refine af (vG pl (af (vG pu (af (ay ?_)))));show wpAny _ _ (match Builtin.Slice.sliceAdjust lo hi 1 (n:Int)with|(lo,hi)=>pure (lo,(1:Int),Builtin.Slice.slicePlaces lo hi 1)) _ _ s;rw[DS lo hi n];show wpAny _ _ (pure (((dG n 0 lo:Nat):Int),(1:Int),Builtin.Slice.slicePlaces ((dG n 0 lo:Nat):Int) ((dG n n hi:Nat):Int) 1)) _ _ s;rw[DK];exact ay h
theorem KO (xs:Array Value) (i k:Nat):((List.range k).filterMap fun(m:Nat)=>xs[((i:Int)+(m:Int)*1).toNat]?).toArray=((xs.toList.drop i).take k).toArray:=by
 have e:(fun(m:Nat)=>xs[((i:Int)+(m:Int)*1).toNat]?)=fun m=>xs[i+m]?:=by
  funext m;have:((i:Int)+(m:Int)*1).toNat=i+m:=by omega
  rw[this]
 rw[e];have:=pick_run xs i k;rw[List.filterMap_map]at this;have e2:((fun x=>xs[x]?)∘fun x=>i+x)=fun m=>xs[i+m]?:=rfl
 rw[e2]at this;rw[this]
theorem p7 {items:Array Value} {lo hi:Option Int} (ht:IsTup s.heap t items) (hs:s.heap.IsSliceOf sl vl vu .none) (pl:IsPart vl lo) (pu:IsPart vu hi)
  (hw:¬(dG items.size 0 lo=0/\dG items.size items.size hi=items.size))
  (h:Q (.ref s.heap.objs.size) {s with heap:=s.heap.push {cls:=.type "tuple",data:=.seq ((items.toList.drop (dG items.size 0 lo)).take (dG items.size items.size hi - dG items.size 0 lo)).toArray}})
  (hsz:items.size<=sizeLine):wpAny (model prog w) A (getItem (.ref t) (.ref sl)) Q E s:=by
 have htake:sizeOk (.seq ((items.toList.drop (dG items.size 0 lo)).take (dG items.size items.size hi - dG items.size 0 lo)).toArray):=by
  show((items.toList.drop (dG items.size 0 lo)).take (dG items.size items.size hi - dG items.size 0 lo)).toArray.size<=sizeLine;rw[cf,di,dh,length_toList];omega
 have hj:dG items.size items.size hi<=items.size:=W4 _ _ (bj _) hi;obtain⟨os,hos,hcs,hds⟩:=id hs;have hTs:s.TypeIs (.ref sl) "slice":=⟨os,hos,hcs⟩;unfold getItem
 try with_reducible refine ig ?_
 first|refine af (ay ?_)|skip
 refine af (wpAny_sequenceKey ht.typeIs (by decide) ?_);refine af (me (name:=Str.ofString "__getitem__") ht.typeIs jb
  (iz jb ht.typeIs entry_tuple_getitem ?_ (args_tuple_getitem _ _)))
 show wpAny _ _ (Builtin.Tuple.tupleItemsOf (.ref t)>>=_) _ _ s;refine af (tupleItemsOf_ ht ?_);refine af (wpAny_typeOf hTs ?_);rw[ai (by decide)];refine af (jW hs pl pu ?_);have hno:¬((((dG items.size 0 lo:Nat):Int)==0 && (1:Int)==1 && (dG items.size items.size hi - dG items.size 0 lo)==items.size)=true):=by
  intro q;rw[bz,bz]at q;have q1:((dG items.size 0 lo:Nat):Int)=0:=eq_of_beq q.1.1;have q2:dG items.size items.size hi - dG items.size 0 lo=items.size:=eq_of_beq q.2;exact hw ⟨by omega,by omega⟩
 show wpAny _ _ (if(((dG items.size 0 lo:Nat):Int)==0 && (1:Int)==1 && (dG items.size items.size hi - dG items.size 0 lo)==items.size)=true then _ else _) _ _ s;rw[ah hno,KO]
 first
  |exact af (m:=Builtin.Tuple.tupleExact _) (fq (ay ⟨_,rfl,ay h⟩) htake)
  |exact af (m:=Builtin.Tuple.tupleExact _) (fq (af (ay (ay ⟨_,rfl,ay h⟩))) htake)
  |exact af (af (m:=Builtin.Tuple.tupleExact _) (fq (ay (ay ⟨_,rfl,ay h⟩)) htake))
  |exact af (af (m:=Builtin.Tuple.tupleExact _) (fq (ay ⟨_,rfl,ay h⟩) htake))
end
end HT
namespace L2
open PySem PySem.Spec PyProof.Rows
variable {H:Hp} {pins:List (Addr×Obj)} {xs:List V} {its its':List Value} {j n:Nat} {s:Shared} {σ:St} {α:Type} {r:V->Option Int->Option Int->Hp->VK->Prop}
abbrev TO:=St->Hp->(Option Int->Hp->Prop)->Prop
def PO (X:Cx) (e:Option Expr) (t:TO):Prop:=
 ∀(pins:List (Addr×Obj)) (s:Shared) (σ:St) (H:Hp) (Q:Option Int->Hp->Prop),Inv X pins σ H s->t σ H Q->
  wpAny (model X.prog X.w) X.A (evalPart e X.env) (fun u s'=>∃o H',Inv X pins σ H' s'/\IsPart u o/\Q o H') X.xe s
def EX:TO:=fun _ H Q=>Q none H
def SX (t:TE):TO:=fun σ H Q=>t σ H fun x H1=>∃i,x= .int i/\Q (some i) H1
section
variable {X:Cx} {e:Expr} {te:TE} {lo hi:Option Expr} {tl th:TO} {pos p2:Pos}
theorem iG:PO X none EX:=by
 intro pins s σ H Q I h;rw[evalPart_none];exact ay ⟨none,H,I,.none,h⟩
theorem fP (h:PE X e te):PO X (some e) (SX te):=by
 intro pins s σ H Q I hw;rw[evalPart_some];refine cD (h pins s σ H _ I hw) fun u s1 ⟨x,H1,I1,r1,q1⟩=>?_
 obtain⟨i,rfl,q⟩:=q1;obtain⟨t,rfl⟩:=r1;exact⟨some i,H1,I1,.int i t,q⟩
def G1 (X:Cx) (r:V->Option Int->Option Int->Hp->VK->Prop):Prop:=
 ∀(pins:List (Addr×Obj)) (s:Shared) (σ:St) (H:Hp) (x:V) (v vl vu:Value) (lo hi:Option Int) (sl:Addr) (Q:VK),Inv X pins σ H s->RelV x v->s.heap.IsSliceOf sl vl vu .none->IsPart vl lo->IsPart vu hi->r x lo hi H Q->
  ∃T id,typeLookup (.type T) "__getitem__"=pure (some (.builtin id))/\s.TypeIs v T/\wpAny (model X.prog X.w) X.A (getItem v (.ref sl)) (EP X pins σ Q) X.xe s
theorem G1.or {r':V->Option Int->Option Int->Hp->VK->Prop} (h:G1 X r) (h':G1 X r'):G1 X (fun x lo hi H Q=>r x lo hi H Q\/ r' x lo hi H Q):=by
 intro pins s σ H x v vl vu lo hi sl Q I rx hs pl pu q;rcases q with q|q
 .exact h pins s σ H x v vl vu lo hi sl Q I rx hs pl pu q
 .exact h' pins s σ H x v vl vu lo hi sl Q I rx hs pl pu q
def tSl (r:V->Option Int->Option Int->Hp->VK->Prop) (te:TE) (tl th:TO):TE:=fun σ H Q=>te σ H fun x H1=>tl σ H1 fun l H2=>th σ H2 fun u H3=>r x l u H3 Q
theorem eO (hr:G1 X r) (he:PE X e te) (hl:PO X lo tl) (hu:PO X hi th):PE X (.Subscript e (.Slice lo hi none p2) pos) (tSl r te tl th):=by
 intro pins s σ H Q I h;refine Subscript_ (cD (he pins s σ H _ I h) fun v s1 ⟨x,H1,I1,r1,q1⟩=>?_);refine wpAny_Slice (cD (hl pins s1 σ H1 _ I1 q1) fun vl s2 ⟨l,H2,I2,pl,q2⟩=>cD (hu pins s2 σ H2 _ I2 q2) fun vu s3 ⟨u,H3,I3,pu,q3⟩=>?_);rw[evalPart_none];refine ay ?_;have I4:Inv X pins σ H3 {s3 with heap:=s3.heap.push {cls:=.type "slice",data:=.fields #[vl,vu,.none]}}:=I3.kept (t':=s3.toks) fun b ob q=>au _ q
 obtain⟨T,id,hT,ht,hg⟩:=hr pins {s3 with heap:=s3.heap.push {cls:=.type "slice",data:=.fields #[vl,vu,.none]}} σ H3 x v vl vu l u s3.heap.objs.size Q I4 r1 (Heap.IsSliceOf.new ..) pl pu q3;show wpAny (model X.prog X.w) X.A (subscriptTail e (.Slice lo hi none p2) v (.ref s3.heap.objs.size)) (EP X pins σ Q) X.xe {s3 with heap:=s3.heap.push {cls:=.type "slice",data:=.fields #[vl,vu,.none]}};exact tail_any (ops:=[.ref s3.heap.objs.size,v]) ht hT hg (by with_unfolding_all rfl)
noncomputable def u4 (xs:List V) (lo hi:Option Int):List V:=(xs.drop (HT.dG xs.length 0 lo)).take (HT.dG xs.length xs.length hi - HT.dG xs.length 0 lo)
theorem sC (xs:List V) (lo hi:Option Int):(u4 xs lo hi).length<=xs.length:=by
 unfold u4;rw[di,dh];omega
def ab7 (K:Frag):V->Option Int->Option Int->Hp->VK->Prop:=fun x lo hi H Q=>∃a xs,x= .ref a/\pK K H a xs/\
 ¬(HT.dG xs.length 0 lo=0/\HT.dG xs.length xs.length hi=xs.length)/\∀p,H p=none->Q (.ref p) (upd H p (.tup (u4 xs lo hi)))
theorem UK:G1 X (ab7 X.K):=by
 intro pins s σ H x v vl vu lo hi sl Q I rx hs pl pu h;obtain⟨a,xs,rfl,hx,hw,q⟩:=h;cases rx;obtain⟨its,r,ht,hz⟩:=I.tuple hx;have hlen:its.toArray.size=xs.length:=by rw[cf];exact r.length.symm
 refine⟨"tuple",_,PyProof.Rows.slot_tuple_getitem.lookup,ht.typeIs,?_⟩;refine HT.p7 ht hs pl pu (by rw[hlen];exact hw) ?_ (by rw[hlen];exact hz);rw[hlen];refine⟨.ref s.heap.objs.size,_,I.laid (t':=s.toks) (o:=.tup (u4 xs lo hi)) (fun b ob q=>au _ q) (bj _) ?_,rfl,q _ (I.bS.fresh (bj _))⟩;exact⟨gc (sC xs lo hi) hz,_,(r.drop (HT.dG xs.length 0 lo)).take (HT.dG xs.length xs.length hi - HT.dG xs.length 0 lo),tE.new _ _⟩
theorem Vals.EZ {us:List Value} (r:Vals xs us):us=[]↔xs=[]:=by
 cases r with
 |nil=>simp
 |cons _ _=>simp
end
noncomputable def uC (n:Nat) (i:Int):Option Nat:=if 0<=i then(if i<n then some i.toNat else none)else if -(n:Int)<=i then some (i+n).toNat else none
noncomputable def oB (xs:List α) (i:Int):Option α:=(uC xs.length i).bind fun j=>xs[j]?
theorem GS {i:Int} (h:uC n i=some j):seqIndex? i n=some j/\j<n/\ -(n:Int)<=i/\i<n:=by
 unfold uC at h
 by_cases h0:0<=i
 .rw[ai h0]at h
  by_cases h1:i<n
  .rw[ai h1]at h;have e:i.toNat=j:=Option.some.inj h;exact⟨by rw[seqIndex_of h0 h1,e],by omega,by omega,h1⟩
  .rw[ah h1]at h;cases h
 .rw[ah h0]at h
  by_cases h1: -(n:Int)<=i
  .rw[ai h1]at h;have e:(i+n).toNat=j:=Option.some.inj h;exact⟨by rw[seqIndex_neg (by omega) h1,e],by omega,h1,by omega⟩
  .rw[ah h1]at h;cases h
theorem yR {xs:List α} {i:Int} {v:α} (h:oB xs i=some v):∃j,seqIndex? i xs.length=some j/\xs[j]? =some v/\j<xs.length/\ -(xs.length:Int)<=i/\i<xs.length:=by
 unfold oB at h;cases e:uC xs.length i with
 |none=>rw[e]at h;cases h
 |some j=>
  rw[e]at h;obtain⟨h1,h2,h3,h4⟩:=GS e;exact⟨j,h1,h,h2,h3,h4⟩
theorem eQ {xs:List α} {v:α} (h:xs[j]? =some v):oB xs (j:Int)=some v:=by
 have hj:j<xs.length:=(ae.mp h).1;have e:uC xs.length (j:Int)=some j:=by
  unfold uC;rw[ai (by omega),ai (by omega)];simp
 unfold oB;rw[e];exact h
def GK (b:Expr):Prop:=∀o i,subscripted b false o i=operate [o,i] (getItem o i)
def CQ (X:Cx) (r:R2):Prop:=
 ∀(value slice:Expr) (pins:List (Addr×Obj)) (s:Shared) (σ:St) (H:Hp) (x y:V) (v u:Value) (Q:VK),Inv X pins σ H s->RelV x v->RelV y u->r x y H Q->
  subscripted slice false v u=operate [v,u] (getItem v u)->wpAny (model X.prog X.w) X.A (subscriptTail value slice v u) (EP X pins σ Q) X.xe s
def MtR (X:Cx) (id:String) (r:V->List V->Hp->VK->Prop):Prop:=
 ∀(pins:List (Addr×Obj)) (s:Shared) (σ:St) (H:Hp) (x:V) (xs:List V) (v:Value) (us:List Value) (Q:VK),Inv X pins σ H s->RelV x v->Vals xs us->r x xs H Q->
  wpAny (model X.prog X.w) X.A (call (.builtin id) (v::us)) (EP X pins σ Q) X.xe s
section
variable {X:Cx} {a b:Expr} {ta tb:TE} {pos:Pos}
theorem CQ.or {r r':R2} (h:CQ X r) (h':CQ X r'):CQ X (fun x y H Q=>r x y H Q\/ r' x y H Q):=by
 intro value slice pins s σ H x y v u Q I rx ry q hs;rcases q with q|q
 .exact h value slice pins s σ H x y v u Q I rx ry q hs
 .exact h' value slice pins s σ H x y v u Q I rx ry q hs
theorem aX {r:R2} (hr:CQ X r) (ha:PE X a ta) (hb:PE X b tb) (hs:GK b):PE X (.Subscript a b pos) (YF r ta tb):=by
 intro pins s σ H Q I h;exact Subscript_ (VA ha hb I h fun v u s2 x y H2 I2 rx ry q=>hr a b pins s2 σ H2 x y v u Q I2 rx ry q (hs _ _))
def WL (K:Frag):R2:=fun x y H Q=>∃p xs i v,x= .ref p/\y= .int i/\iW K H p xs/\oB xs i=some v/\Q v H
def WO (K:Frag):R2:=fun x y H Q=>∃p xs i v,x= .ref p/\y= .int i/\pK K H p xs/\oB xs i=some v/\Q v H
def Z6:R2:=fun x y H Q=>∃z i c,x= .str z/\y= .int i/\z.length<=sizeLine/\oB z.cps.toList i=some c/\Q (.str ⟨#[c]⟩) H
theorem QV:CQ X (WL X.K):=by
 intro value slice pins s σ H x y v u Q I rx ry h hs;obtain⟨p,xs,i,z,rfl,rfl,hq,he,q⟩:=h;cases rx;obtain⟨t,rfl⟩:=ry;obtain⟨its,r,pl,hz⟩:=I.list hq;obtain⟨j,h1,h2,h3,h4,h5⟩:=yR he;obtain⟨w,ew,rw'⟩:=r.get h2;have hl:=r.length;have hn:=pA;have fin:EP X pins σ Q w s:=⟨z,H,I,rw',q⟩
 by_cases h0:0<=i
 .have hj:i.toNat=j:=by
   rw[seqIndex_of h0 h5]at h1;exact Option.some.inj h1
  exact item_listR pl.isList h0 (by omega) (by rw[hj];simpa using ew) fin hs
 .have hj:(i+(its.toArray.size:Int)).toNat=j:=by
   rw[seqIndex_neg (by omega) h4]at h1;rw[cf,<-hl];exact Option.some.inj h1
  exact subscriptTail_builtinR (x:=w) pl.isList.typeIs slot_list_getitem.lookup
   (wpAny_getItem_list_neg (Q:=fun r s'=>r=w/\EP X pins σ Q r s') pl.isList (by omega) (by rw[cf]<;>omega) (by omega) (by rw[hj];simpa using ew) ⟨rfl,fin⟩) hs
theorem XC:CQ X (WO X.K):=by
 intro value slice pins s σ H x y v u Q I rx ry h hs;obtain⟨p,xs,i,z,rfl,rfl,hq,he,q⟩:=h;cases rx;obtain⟨t,rfl⟩:=ry;obtain⟨its,r,pl,hz⟩:=I.tuple hq;obtain⟨j,h1,h2,h3,h4,h5⟩:=yR he;obtain⟨w,ew,rw'⟩:=r.get h2;have hl:=r.length;have hn:=pA;have fin:EP X pins σ Q w s:=⟨z,H,I,rw',q⟩;exact subscriptTail_builtinR (x:=w) pl.typeIs slot_tuple_getitem.lookup
  (getItem_tuple (j:=j) (Q:=fun r s'=>r=w/\EP X pins σ Q r s') pl (by omega) (by omega) (by rw[cf,<-hl];exact h1) (by simpa using ew) ⟨rfl,fin⟩) hs
theorem WI:CQ X Z6:=by
 intro value slice pins s σ H x y v u Q I rx ry h hs;obtain⟨z,i,c,rfl,rfl,hz,he,q⟩:=h;obtain⟨t,rfl⟩:=rx;obtain⟨t',rfl⟩:=ry;obtain⟨j,h1,h2,h3,h4,h5⟩:=yR he;have hl:z.cps.toList.length=z.length:=by simp[Str.length]
 rw[hl]at h1 h4 h5;have hn:=pA;exact tail_any (typeIs_str s z t) slot_str_getitem.lookup (getItem_str (c:=c) (by
  have e1:decide (i< -(2^63:Int))=false:=decide_eq_false (by omega);have e2:decide (i≥2^63)=false:=decide_eq_false (by omega);rw[e1,e2,Bool.or_false]) (by rw[h1];simpa using h2) ⟨.str ⟨#[c]⟩,H,I.tok _,⟨_,rfl⟩,q⟩) hs
theorem DX (its:List Value) (n j:Nat) (u:Value):Obj.mapSeq (·.setIfInBounds j u) {cls:=.type "list",data:=.seq its.toArray n}={cls:=.type "list",data:=.seq (its.set j u).toArray n}:=by
 simp[Obj.mapSeq]
theorem Inv.lst {p:Addr} (I:Inv X pins σ H s) (h:H p=some (.lst xs)):
  ∃(its:List Value) (n:Nat),Vals xs its/\s.heap.get? p=some {cls:=.type "list",data:=.seq its.toArray n}/\xs.length<=sizeLine:=by
 obtain⟨z,its,n,r,e⟩:=I.bS p _ h;exact⟨its,n,r,e,z⟩
theorem Inv.WU {p:Addr} {ys:List V} {n':Nat} {f:Obj->Obj} (I:Inv X pins σ H s) (h:H p=some (.lst xs))
  (ho:s.heap.get? p=some {cls:=.type "list",data:=.seq its.toArray n}) (hf:f {cls:=.type "list",data:=.seq its.toArray n}={cls:=.type "list",data:=.seq its'.toArray n'}) (r:Vals ys its') (hz:ys.length<=sizeLine) (t:Nat):
  Inv X pins σ (upd H p (.lst ys)) {s with heap:=s.heap.update p f,toks:=t}:=by
 have e:(s.heap.update p f).get? p=some {cls:=.type "list",data:=.seq its'.toArray n'}:=by
  rw[get?_update_self f ho (by rw[hf]<;>rfl),hf]
 refine I.write (x:=p) (e:=p) (by rw[h];trivial) (.inl rfl) (fun b u hb q=>(get?_update_other _ _ (Ne.symm hb)).trans q) ⟨_,e⟩ ?_;exact⟨hz,its',n',r,e⟩
def SN:V->V->V->Hp->(Hp->Prop)->Prop:=fun o i v H Q=>∃p xs k j,o= .ref p/\i= .int k/\H p=some (.lst xs)/\uC xs.length k=some j/\Q (upd H p (.lst (xs.set j v)))
theorem set_list:ZD X SN:=by
 intro pins s σ H o i v ov iv u Q I ro ri rv h;obtain⟨p,xs,k,j,rfl,rfl,hp,hj,q⟩:=h;cases ro;obtain⟨t,rfl⟩:=ri;obtain⟨its,n,r,ho,hz⟩:=I.lst hp;obtain⟨h1,h2,h3,h4⟩:=GS hj;have hl:=r.length;have hn:=pA;have I':Inv X pins σ (upd H p (.lst (xs.set j v))) {s with heap:=s.heap.update p (Obj.mapSeq (·.setIfInBounds j u))}:=
  I.WU hp ho (DX its n j u) (r.set rv j) (by rw[jn];exact hz) s.toks
 by_cases h0:0<=k
 .have hk:k.toNat=j:=by
   rw[seqIndex_of h0 h4]at h1;exact Option.some.inj h1
  exact PySem.W.ki_setAt ho h0 (by omega) (by rw[cf,<-hl];exact h4) (by rw[hk];exact⟨_,I',q⟩)
 .have hk:(k+(its.toArray.size:Int)).toNat=j:=by
   rw[seqIndex_neg (by omega) h3]at h1;rw[cf,<-hl];exact Option.some.inj h1
  exact PySem.W.ki_setBack ho (by omega) (by rw[cf,<-hl];exact h3) (by omega) (by rw[hk];exact⟨_,I',q⟩)
theorem zN (lo hi:Option Int) (n:Nat):(sliceBounds lo hi none n).1=((HT.dG n 0 lo:Nat):Int)/\(sliceBounds lo hi none n).2.1=((HT.dG n n hi:Nat):Int)/\(sliceBounds lo hi none n).2.2=1:=by
 refine⟨?_,?_,rfl⟩
 .cases lo with
  |none=>simp[sliceBounds,HT.dG]
  |some i=>
   simp only[sliceBounds,HT.dG,getD_none,show(1:Int)>0 by decide,if_true]
   by_cases h:i<0
   .simp only[h,if_true]<;>omega
   .simp only[h,if_false]<;>omega
 .cases hi with
  |none=>simp[sliceBounds,HT.dG]
  |some i=>
   simp only[sliceBounds,HT.dG,getD_none,show(1:Int)>0 by decide,if_true]
   by_cases h:i<0
   .simp only[h,if_true]<;>omega
   .simp only[h,if_false]<;>omega
theorem wH (its:List Value) (lo hi:Option Int):slicePick its.toArray lo hi none=((its.drop (HT.dG its.length 0 lo)).take (HT.dG its.length its.length hi - HT.dG its.length 0 lo)).toArray:=by
 obtain⟨h1,h2,h3⟩:=zN lo hi its.toArray.size;unfold slicePick;rw[h1,h2,h3];simp only[sliceRange_one,pick_run,cf]<;>rfl
def XO (K:Frag):V->Option Int->Option Int->Hp->VK->Prop:=fun x lo hi H Q=>∃a xs,x= .ref a/\iW K H a xs/\∀p,H p=none->Q (.ref p) (upd H p (.lst (u4 xs lo hi)))
theorem O1:G1 X (XO X.K):=by
 intro pins s σ H x v vl vu lo hi sl Q I rx hs pl pu h;obtain⟨a,xs,rfl,hx,q⟩:=h;cases rx;obtain⟨its,r,ht,hz⟩:=I.list hx;have hlen:=r.length;refine⟨"list",_,slot_list_getitem.lookup,ht.isList.typeIs,?_⟩;refine wpAny_getItem_list_slice ht.isList hs pl pu .none (by simp) ?_ (by rw[cf]<;>omega);rw[wH,<-hlen];refine⟨.ref s.heap.objs.size,_,I.laid (t':=s.toks) (o:=.lst (u4 xs lo hi)) (fun b ob q=>au _ q) (bj _) ?_,rfl,q _ (I.bS.fresh (bj _))⟩;exact⟨gc (sC xs lo hi) hz,_,0,(r.drop (HT.dG xs.length 0 lo)).take (HT.dG xs.length xs.length hi - HT.dG xs.length 0 lo),dc _ rfl⟩
theorem zW:cS X (.builtin "len") (fun xs H Q=>∃p ys,xs=[.ref p]/\(iW X.K H p ys\/ pK X.K H p ys)/\Q (.int ys.length) H):=by
 intro pins s σ H xs us Q I r h;obtain⟨p,ys,rfl,hq,q⟩:=h;obtain⟨u,rfl,rx⟩:=vals1 r;cases rx;have hn:=pA;rcases hq with hq|hq
 .obtain⟨its,r',pl,hz⟩:=I.list hq;have hlen:=r'.length;exact Calls.call_len_list pl.isList (by simp only[cf]<;>omega) ⟨.int ys.length,H,I.tok _,⟨s.toks+1,by rw[cf,hlen]⟩,q⟩
 .obtain⟨its,r',pl,hz⟩:=I.tuple hq;have hlen:=r'.length;exact len_tuple pl (by simp only[cf]<;>omega) ⟨.int ys.length,H,I.tok _,⟨s.toks+1,by rw[cf,hlen]⟩,q⟩
theorem yT:cS X (.builtin "len") (fun xs H Q=>∃z,xs=[.str z]/\z.length<=sizeLine/\Q (.int z.length) H):=by
 intro pins s σ H xs us Q I r h;obtain⟨z,rfl,hz,q⟩:=h;obtain⟨u,rfl,t,rfl⟩:=vals1 r;have hn:=pA;exact len_str (by omega) ⟨.int z.length,H,I.tok _,⟨_,rfl⟩,q⟩
theorem cS.or {f:Value} {r r':List V->Hp->VK->Prop} (h:cS X f r) (h':cS X f r'):cS X f (fun xs H Q=>r xs H Q\/ r' xs H Q):=by
 intro pins s σ H xs us Q I rs q;rcases q with q|q
 .exact h pins s σ H xs us Q I rs q
 .exact h' pins s σ H xs us Q I rs q
theorem wC:cS X (.type "tuple") (fun xs H Q=>∃p ys,xs=[.ref p]/\((iW X.K H p ys/\∀l,H l=none->Q (.ref l) (upd H l (.tup ys)))\/ (pK X.K H p ys/\Q (.ref p) H))):=by
 intro pins s σ H xs us Q I r h;obtain⟨p,ys,rfl,h⟩:=h;obtain⟨u,rfl,rx⟩:=vals1 r;cases rx;rcases h with⟨hq,q⟩|⟨hq,q⟩
 .obtain⟨its,r',pl,hz⟩:=I.list hq;have hlen:=r'.length;refine call_tuple_list pl.isList (fun h' kp=>?_) (by simp only[cf]<;>omega);have I1:Inv X pins σ H {s with heap:=h'}:=I.kept (t':=s.toks) kp;have I2:Inv X pins σ (upd H h'.objs.size (.tup ys)) {s with heap:=h'.push {cls:=.type "tuple",data:=.seq its.toArray}}:=
   I1.laid (t':=s.toks) (fun b o e=>au _ e) (bj _) (show dC X.prog X.w _ _ _ (.tup ys)from⟨hz,its,r',tE.new _ _⟩)
  exact⟨.ref h'.objs.size,_,I2,rfl,q _ (I1.bS.fresh (bj _))⟩
 .obtain⟨its,r',pl,hz⟩:=I.tuple hq;exact call_tuple_same pl ⟨.ref p,H,I,rfl,q⟩
def tyV (K:Frag) (T:String) (x:V) (H:Hp):Prop:=match x with
 | .str _=>T="str"
 | .int _=>T="int"
 | .ref p=>(T="list"/\∃xs,iW K H p xs)\/ (T="tuple"/\∃o,K.lookup p=some o/\o.cls= .type "tuple"/\o.dict=none)\/
   (T="dict"/\((∃kvs ep,H p=some (.dK kvs ep))\/ ∃kvs,H p=some (.dT kvs)))\/ (T="set"/\∃S n,H p=some (.set S n))
 |_=>False
theorem U4 {T:String} {x:V} {v:Value} (I:Inv X pins σ H s) (r:RelV x v) (ty:tyV X.K T x H):
  s.TypeIs v T/\∀a,v= .ref a->∃ob,s.heap.get? a=some ob/\ob.dict=none:=by
 cases x with
 |str z=>
  obtain⟨t,rfl⟩:=r;cases(show T="str"from ty);exact⟨typeIs_str s z t,fun _ e=>nomatch e⟩
 |int i=>
  obtain⟨t,rfl⟩:=r;cases(show T="int"from ty);exact⟨typeIs_int s i t,fun _ e=>nomatch e⟩
 | ref p=>
  cases r;rcases ty with⟨rfl,xs,hq⟩|⟨rfl,o,hk,hc,hd⟩|⟨rfl,hk⟩|⟨rfl,S,n,hk⟩
  .obtain⟨its,_,pl,_⟩:=I.list hq;refine⟨pl.isList.typeIs,fun a e=>?_⟩;cases e;obtain⟨o,n,e,c,hd,_⟩:=pl;exact⟨o,e,hd⟩
  .refine⟨⟨o,I.YJ p o hk,hc⟩,fun a e=>?_⟩;cases e;exact⟨o,I.YJ _ o hk,hd⟩
  .have z:∃o,s.heap.get? p=some o/\o.ExactDict:=by
    rcases hk with⟨kvs,ep,hk⟩|⟨kvs,hk⟩
    .obtain⟨_,_,_,_,o,_,e,ex,_⟩:=I.bS p _ hk;exact⟨o,e,ex⟩
    .obtain⟨_,_,_,_,o,_,_,e,ex,_⟩:=I.bS p _ hk;exact⟨o,e,ex⟩
   obtain⟨o,e,ex⟩:=z;refine⟨⟨o,e,ex.1⟩,fun a e2=>?_⟩;cases e2;exact⟨o,e,ex.2.1⟩
  .obtain⟨o,_,_,_,e,ex,_⟩:=I.bS p _ hk;refine⟨⟨o,e,ex.1⟩,fun a e2=>?_⟩;cases e2;exact⟨o,e,ex.2.1⟩
 |_=>exact False.elim ty
def YE (K:Frag) (T:String) (r:V->List V->Hp->VK->Prop) (to:TE) (t:TA):TE:=fun σ H Q=>to σ H fun x H1=>tyV K T x H1/\t σ H1 fun xs H2=>r x xs H2 Q
variable {o e:Expr} {es:List Expr} {to:TE} {t:TA} {name:Str} {apos cpos:Pos} {T id:String} {r:V->List V->Hp->VK->Prop}
theorem ZI (pa:PlainAttrs T) (slot:Slot T name id) (hty:typeOf (.builtin id)=pure (.type "method_descriptor")) (hm:MtR X id r) (ho:PE X o to) (ha:PA X (e::es) t)
  (hbase:attributeBase o name X.env (eval o X.env)=eval o X.env:=by rfl)
  (hfew:((backTo cpos (starEach (e::es) X.env)).all (fun x=>!x.1) && (backToKw cpos (keywordEach [] X.env)).all (fun x=>x.1.isSome)
   && decide ((e::es).length+([]:List Keyword).length+(if([]:List Keyword).isEmpty then 0 else 1)<30))=true:=by rfl)
  (hline:(apos.endLine==cpos.line)=true:=by rfl) (hs:starEach (e::es) X.env=(false,eval e X.env)::starEach es X.env:=by rfl) (hplain:(backTo cpos (starEach es X.env)).any (·.1)=false:=by rfl):
  PE X (.Call (.Attribute o name apos) (e::es) [] cpos) (YE X.K T r to t):=by
 intro pins s σ H Q I h;refine wpAny_Call_method_late hbase hfew hline rfl (cD (ho pins s σ H _ I h) fun v s1 ⟨x,H1,I1,r1,ty,q1⟩=>?_);obtain⟨h1,h2⟩:=U4 I1 r1 ty;refine⟨T,id,pa,slot,hty,h1,h2,?_⟩;have hA:=ha cpos pins s1 σ H1 _ I1 q1;rw[hs]at hA⊢
 refine jo (by show(false||(backTo cpos (starEach es X.env)).any (·.1))=false;rw[hplain]<;>rfl) (Calls.evalArgs_plain ?_);exact cD hA fun us s2 ⟨vs,H2,I2,r2,q2⟩=>hm pins s2 σ H2 x vs v us Q I2 r1 r2 q2
end
def MtM (X:Cx) (id:String) (r:V->List V->Hp->VK->Prop):Prop:=
 ∀(pins:List (Addr×Obj)) (s:Shared) (σ:St) (H:Hp) (x:V) (xs:List V) (v:Value) (us:List Value) (Q:VK),Inv X pins σ H s->RelV x v->Vals xs us->r x xs H Q->
  wpAny (model X.prog X.w) X.A (call (.builtin id) (v::us)) (EP X pins σ Q) X.xe s
theorem Vals.one:∀{x:V} {us:List Value},Vals [x] us->∃u,us=[u]/\RelV x u
 |_,_,.cons r .nil=>⟨_,rfl,r⟩
section
variable {X:Cx} {pins:List (Addr×Obj)} {σ:St} {H:Hp} {s:Shared} {l b:Addr} {xs ys zs:List V}
theorem Inv.ab2 {f:Array Value->Array Value} {t':Nat} (I:Inv X pins σ H s) (hH:H l=some (.lst xs))
  (e:s.heap.get? l=some {cls:=.type "list",data:=.seq its.toArray n}) (hf:f its.toArray=its'.toArray) (hv:Vals ys its') (hz:ys.length<=sizeLine):
  Inv X pins σ (upd H l (.lst ys)) {s with heap:=s.heap.update l (Obj.mapSeq f),toks:=t'}:=by
 have q:=PySem.IsL.update e f;rw[hf]at q;refine I.write (x:=l) (e:=l) (by rw[hH];exact trivial) (.inl rfl) (fun b' u hb hu=>(get?_update_other s.heap (Obj.mapSeq f) (Ne.symm hb)).trans hu) ⟨_,q⟩ ?_;exact⟨hz,its',_,hv,q⟩
theorem Inv.acT (I:Inv X pins σ H s) (hH:H l=some (.lst xs)):xs.length<=sizeLine/\∃(its:List Value) (n:Nat),Vals xs its/\xs.length=its.length/\s.heap.get? l=some {cls:=.type "list",data:=.seq its.toArray n}:=by
 obtain⟨z,its,n,r,e⟩:=I.bS l _ hH;exact⟨z,its,n,r,r.length,e⟩
end
section
variable {X:Cx}
def t9:V->List V->Hp->VK->Prop:=fun x vs H Q=>∃l xs y,x= .ref l/\vs=[y]/\H l=some (.lst xs)/\xs.length<sizeLine/\Q .bH (upd H l (.lst (xs++[y])))
theorem cC:MtM X "list.append" t9:=by
 intro pins s σ H x vs v us Q I rx rv h;obtain⟨l,xs,y,rfl,rfl,hH,hz,q⟩:=h;cases rx;obtain⟨u,rfl,ru⟩:=rv.one;obtain⟨z,its,n,r,hl,e⟩:=I.acT hH;refine call_meets F.slot_list_append ⟨_,e,rfl⟩ F.entry_list_append (F.args_list_append_2 _ _) (PySem.list_append l its.toArray n u (by rw[cf];omega)) ⟨e,?_⟩;refine⟨.bH,_,I.ab2 (its':=its++[u]) hH e (by simp) (r.append (.cons ru .nil)) ?_,rfl,q⟩;rw[bq,List.length_singleton];omega
end
end L2
namespace Att
open PySem PySem.W PySem.Calls PyProof.Rows
variable {h:Heap} {n:Nat} {l:OpenLaw} {P:Params}
theorem tI:∀(ns:List Int) (vs:List Value),WellAll P h vs (ns.map WData.int)->IntsAre vs ns:=by
 intro ns
 induction ns with
 |nil=>
  intro vs w;rw[map_nil]at w;cases w;exact .nil
 | cons n ns ih=>
  intro vs w;rw[cq]at w;cases w with
  |cons a b=>
   cases a;exact .cons _ _ (ih _ b)
theorem G8 (hn:l.most=some n) {args:List WData} {vals:List Value}
  (hpre:l.row.toRowW.claim.pre args=true) (hwl:WellAll P h vals args):
  ∃a vs ns,vals=[Value.ref a]/\args=[WData.list (ns.map WData.int)]/\h.get? a=some {cls:=.type "list",data:=.seq vs.toArray}/\IntsAre vs ns/\ns.length<=n:=by
 have hsh:WShape.hasAll [] args [.list .int]=true:=(pre_splitW hpre).1;have hc:l.pre.holds [] {args:=args}=true:=(pre_splitW hpre).2;obtain⟨d,r,rfl,h1,h2⟩:=hasAllW_cons hsh;obtain rfl:=hasAllW_nil h2;obtain⟨xs,rfl,h3⟩:=hasW_list h1;obtain⟨ns,rfl⟩:=items_int h3;have hlen:ns.length<=n:=by
  unfold OpenLaw.pre at hc;have h4:(WTm.not (.lt (.lit (.int (n:Int))) (.len (.arg 0)))).holds [] {args:=[.list (ns.map .int)]}=true:=by
   have h4:=(holds_andW hc).1;rw[hn]at h4;exact h4
  have h5:=condW_of h4 (w_not (w_lt w_lit (w_len_list (w_arg rfl))));rw[aj]at h5;refine le_of_not_lt fun q=>?_
  have q':(n:Int)<((ns.length:Nat):Int):=by omega
  first
   |(rw[decide_eq_true q']at h5;exact absurd h5 (by decide))
   |(simp at h5;omega)
 cases hwl with
 |cons w1 w2=>
  cases w2;cases w1 with
  |list ho hall=>exact⟨_,_,ns,rfl,rfl,ho,tI ns _ hall,hlen⟩
theorem HG (l:OpenLaw) (args:List WData):l.row.toRowW.claim.post args (.bool true) args=true:=
 postW_of (r:=l.row.toRowW) (X:=(true==true))
  (show WShape.has [] (.bool true) .bool=true by first|rfl|decide|simp[WShape.has,WShape.arms,WShape.armsAll])
  (show(WTm.eq .res (.lit (.bool true))).value [] {args:=args,res:=some (.bool true),after:=args}=some (.bool (true==true))from w_eq_bool (w_res rfl) w_lit) rfl
theorem A1 {q:Program} {loose:List Str} {XP:(Str->Option Value)->Heap->Prop} {YP:World->Heap->Prop} {d:DefRec}
  (hn:l.most=some n) (hdf:d.params.defaults=[])
  (call:∀(w:World) (gP s₁:Shared) (mg mb:Str->Option Value) (fa:Addr) (o:Obj) (pm cd doc:Value) (a:Addr) (vs:List Value) (ns:List Int),
   Ground q loose [] XP w gP mg mb s₁.heap->YP w s₁.heap->
   s₁.heap.get? fa=some o->o.data= .func (docDef d.name d.params d.body d.scope pm cd doc)->s₁.heap.CodeRec cd d.name->mg d.name=some (.ref fa)->
   s₁.heap.get? a=some {cls:=.type "list",data:=.seq vs.toArray}->IntsAre vs ns->ns.length<=n->s₁.gens= #[]->
   codeAny (model l.prog w) callerA (.call (.ref fa) ⟨[.ref a],[]⟩) (fun r s'=>r= .ok (.ret (.bool true))/\OldK s₁.heap s'.heap/\s'.os=s₁.os/\AllBare s'.gens) s₁):
  WalkO q loose XP YP l.row.toRowW d [] (fun f vs=>PySem.call f vs):=by
 intro w gP s₁ mg mb G Y fa o pm cd doc dV kV ho hd hcd hD hmg hg args vals as hpre hlay hrd hwl hlo;obtain rfl:dV= .none:=Dflts.none hD hdf;obtain rfl:kV= .none:=Dflts.noKw hD;obtain⟨a,vs,ns,rfl,rfl,hobj,hints,hlen⟩:=G8 hn hpre hwl;refine enter_call (codeAny_mono (call w gP s₁ mg mb fa o pm cd doc a vs ns G Y ho (fd_plain hd) hcd hmg hobj hints hlen hg) fun r s' hq=>?_);obtain⟨rfl,h2,h3,h4⟩:=hq;exact⟨.inl ⟨.bool true,.bool true,[],rfl,fun _=>rfl,.bool true,HG l _,fun _=>⟨List.Pairwise.nil,fun _ hm=>(nomatch hm)⟩⟩,h2,h3,h4⟩
end Att
namespace L2
open PySem PySem.Spec PyProof.Rows
variable {f:Addr} {fd:FuncData} {ps:List Str} {k:Nat} {sp:Sp} {qual x:Str}
theorem x5:∀{vs:List Value} {ns:List Int},IntsAre vs ns->Vals (ns.map V.int) vs
 |_,_,.nil=>.nil
 |_,_,.cons n t h=>.cons ⟨t,rfl⟩ (x5 h)
def WG (H:Hp):Prop:=∀b,H b=none\/ ∃o xs,H b=some (.OF o (.lst xs))
theorem KU {P:Program} {w:World} {K:Frag} {mg mb:Str->Option Value} {CX:JL} {fa a:Addr} {s₁:Shared} {vs:List Value} {ns:List Int}
  (KX:K.In s₁.heap) (hns:s₁.heap.Ns mainGlobals mg) (hb:s₁.heap.Ns builtinsNs mb) (hbb:∀x:Str,x≠"__name__"->mb x=bootBuiltins x) (hlim:s₁.heap.NoLimit) (hg:s₁.gens= #[])
  (ha:s₁.heap.get? a=some {cls:=.type "list",data:=.seq vs.toArray}) (hi:IntsAre vs ns) (hl:ns.length<=sizeLine) (hr:c8 k callerA)
  (F:∀base:Heap,K.In base->base.Ns mainGlobals mg->pX P w K mg base CX k fa fd [x] sp) (hbind:∀(s:Shared) (u:Value),BindsTo s fd ⟨[u],[]⟩ [(x,u)])
  (hsp:∀H:Hp,WG H->iW K H a (ns.map V.int)->sp [.ref a] H (fun v _=>v= .bl true) fun _ _ _=>False)
  (hCX:∀H e s',CX [] H s₁ (fun _ _ _=>False) e s'->False):
  codeAny (model P w) callerA (.call (.ref fa) ⟨[.ref a],[]⟩) (fun r s'=>r= .ok (.ret (.bool true))/\OldK s₁.heap s'.heap/\s'.os=s₁.os/\AllBare s'.gens) s₁:=by
 have rv:=x5 hi;have lenV:=hi.length;have core:∀H:Hp,WG H->iW K H a (ns.map V.int)->nW P w H s₁.heap->(∀b,H b≠none->b=a)->(H a≠none->K.lookup a=none)->
   codeAny (model P w) callerA (.call (.ref fa) ⟨[.ref a],[]⟩) (fun r s'=>r= .ok (.ret (.bool true))/\OldK s₁.heap s'.heap/\s'.os=s₁.os/\AllBare s'.gens) s₁:=by
  intro H hO hS bS hA hK;have base_of:∀{b:Addr} {o:Obj},s₁.heap.get? b=some o->H b=none->(zT s₁.heap H).get? b=some o:=fun e n=>KD e n
  have cL:∀{b:Addr} {o:Obj} {es:Array DictEntry} {ep:Nat},s₁.heap.get? b=some o->o.data= .dict es ep->H b=none:=fun{b o es ep} e d=>by
   cases q:H b with
   |none=>rfl
   |some u=>
    have e':b=a:=hA b (by rw[q];simp);subst e';rw[ha]at e;cases e
    have d':Data.seq vs.toArray _=Data.dict es ep:=d;cases d'
  have nsK:∀{b:Addr} {m:Str->Option Value},s₁.heap.Ns b m->(zT s₁.heap H).Ns b m:=fun{b m} ⟨o,es,ep,e,d,r⟩=>⟨o,es,ep,base_of e (cL e d),d,r⟩
  have hKb:K.In (zT s₁.heap H):=fun b o e=>base_of (KX b o e) (by
   cases q:H b with
   |none=>rfl
   |some u=>
    have e':b=a:=hA b (by rw[q];simp);subst e';rw[hK (by rw[q];simp)]at e;cases e)
  have hM:Mod K mg (zT s₁.heap H):=⟨hKb,nsK hns,⟨mb,nsK hb,hbb⟩,let⟨mc,h1,h2⟩:=hlim;⟨mc,nsK h1,h2⟩⟩;have e0:O3 P w K mg (zT s₁.heap H) callerA [] s₁ H:=⟨rfl,hM,fun b o e=>P4 e,le_of_eq (ID _ _),trivial,fun b hb=>absurd (show b∈([]:List Addr)from hb) (by simp),bS,.of_eq hg⟩;refine codeAny_mono ((F _ hKb (nsK hns)).run callerA [] s₁ H ⟨[.ref a],[]⟩ [.ref a] [.ref a] _ _ hr e0 (hbind s₁ (.ref a)) (.cons rfl .nil) (hsp H hO hS)) fun r s' h=>?_
  cases r with
  |error e=>exact(hCX H e s' h).elim
  | ok fl=>
   cases fl with
   |next=>exact False.elim h
   |brk=>exact False.elim h
   |cont=>exact False.elim h
   | ret u=>
    obtain⟨v,H',os,bare,un,hok',r',q⟩:=h;have q':v= .bl true:=q;subst q';obtain rfl:u=Value.bool true:=r';refine⟨rfl,OldK.of_keep fun b o e=>?_,os,bare⟩;cases q:H b with
    |none=>exact un.keep b o e q (by intro z;exact absurd (show b∈([]:List Addr)from z) (by simp)) (by simp)
    | some u=>
     rcases hO b with z|⟨ob,xs,z⟩
     .rw[q]at z;cases z
     .have z2:=un.vS b ob _ z;obtain⟨e1,_⟩:=bS b _ z;obtain⟨e2,_⟩:=hok' b _ z2;rw[e]at e1;cases e1
      exact e2
 cases hk:K.lookup a with
 |some o=>
  have e:=KX a o hk;rw[ha]at e;cases e;refine core (fun _=>none) (fun _=>.inl rfl) (.inr ⟨_,vs.toArray,_,hk,rfl,rfl,rfl,by rw[cf,lenV];exact hl,by simpa using rv⟩) (fun b u z=>by have z':(none:Option HO)=some u:=z;cases z') (fun b z=>absurd rfl z) fun z=>absurd rfl z
 | none=>
  refine core (fun b=>if b=a then some (.OF {cls:=.type "list",data:=.seq vs.toArray} (.lst (ns.map V.int)))else none) (fun b=>?_) (.inl (.inr ⟨{cls:=.type "list",data:=.seq vs.toArray},ai rfl⟩)) (fun b u z=>?_) (fun b z=>?_) fun _=>hk
  .by_cases hb:b=a
   .exact .inr ⟨_,_,ai hb⟩
   .exact .inl (ah hb)
  .by_cases hb:b=a
   .have z':=(ai hb).symm.trans z;cases z';subst hb;exact⟨ha,by rw[aj];exact hl,vs,_,rv,ha⟩
   .have z':=(ah hb).symm.trans z;cases z'
  .by_cases hb:b=a
   .exact hb
   .exact absurd (ah hb) z
theorem RG {l:PySem.W.OpenLaw} {n:Nat} {q:Program} {loose:List Str} {XP:(Str->Option Value)->Heap->Prop} {YP:World->Heap->Prop} {d:DefRec} {K:Params->Frag} {CX:World->JL} {sp:World->Sp}
  (hn:l.most=some n) (hn2:n<=sizeLine) (hdf:d.params.defaults=[]) (hr:c8 k callerA)
  (hY:∀(w:World) (h:Heap),YP w h->(K w.params).In h)
  (F:∀(w:World) (mg:Str->Option Value) (fa:Addr) (h:Heap),(K w.params).In h->h.Ns mainGlobals mg->mg d.name=some (.ref fa)->
   ∃fd:FuncData,(∀(s:Shared) (u:Value),BindsTo s fd ⟨[u],[]⟩ [(x,u)])/\
    ∀base:Heap,(K w.params).In base->base.Ns mainGlobals mg->pX l.prog w (K w.params) mg base (CX w) k fa fd [x] (sp w))
  (hsp:∀(w:World) (H:Hp) (a:Addr) (ns:List Int),ns.length<=n->WG H->iW (K w.params) H a (ns.map V.int)->sp w [.ref a] H (fun v _=>v= .bl true) fun _ _ _=>False)
  (hCX:∀(w:World) (H:Hp) (s:Shared) (e:Value) (s':Shared),CX w [] H s (fun _ _ _=>False) e s'->False):
  PySem.W.WalkO q loose XP YP l.row.toRowW d [] (fun f vs=>PySem.call f vs):=by
 refine Att.A1 hn hdf fun w gP s₁ mg mb fa o pm cd doc a vs ns G Y ho hd hcd hmg hobj hints hlen hg=>?_
 have KX:=hY w _ Y;obtain⟨fd,hb,hF⟩:=F w mg fa _ KX G.T.g hmg;exact KU KX G.T.g G.T.b G.T.builtins G.T.nolimit hg hobj hints (gc hlen hn2) hr hF hb (fun H hO hS=>hsp w H a ns hlen hO hS) fun H e s'=>hCX w H s₁ e s'
noncomputable def fL (s:Stmt):Arguments:=match s with
 | .FunctionDef _ a _ _ _ _ _ _ _ _=>a
 |_=>{posonlyargs:=[],args:=[],vararg:=none,kwonlyargs:=[],kw_defaults:=[],kwarg:=none,defaults:=[]}
noncomputable def dP (s:Stmt):List Stmt:=match s with
 | .FunctionDef _ _ b _ _ _ _ _ _ _=>b
 |_=>[]
noncomputable def aW (s:Stmt):Scope:=match s with
 | .FunctionDef _ _ _ _ _ _ sc _ _ _=>sc
 |_=>{kind:=.function,names:=[],isGenerator:=false,isCoroutine:=false}
abbrev OD:JL:=fun _ _ _ _ _ _=>False
abbrev E0:XK:=fun _ _ _=>False
theorem YM {X:Cx}:Passes OD X E0:=fun _ _ _ _ _ _ _ h=>h.elim
structure VU (K:Frag) (x qual:Str) (st:Stmt) (f:Addr) (fd:FuncData):Prop where
 ex:∃(oc:Value) (od:Option Addr) (kV doc pm:Value) (an:Option Addr) (cdv ct:Value) (osl:Array (Option Value)),
  fd=fnOf x qual (fL st) (dP st) (aW st) .none kV doc pm an cdv ct/\K.lookup f=some ⟨oc,od,.func fd,osl⟩/\codeIn K cdv qual=true
 kp:keepIn K (.ref f)=true
section
variable {P:Program} {w:World} {K:Frag} {mg:Str->Option Value} {base:Heap}
theorem VU.ok {st:Stmt} {N:List Str} (F:VU K x qual st f fd) (S:pL N ps (aW st)) (len:∀vs H Q E,sp vs H Q E->vs.length=ps.length)
  (hbody:∀(cdv:Value) (A:Around) (outer:List Env) (s:Shared) (H:Hp) (vs:List V) (Q:VK) (E:XK),c8 k (A.deeper (envOfC qual (aW st) s.heap.objs.size f cdv))->sp vs H Q E->
   ∃t,CP (EF OD P w K mg base N qual (aW st) f cdv A outer s H E).nox (dP st) t/\t {nx:=fun _ H'=>Q .bH H',rt:=Q} (start N vs) H):pX P w K mg base OD (k+1) f fd ps sp:=by
 obtain⟨oc,od,kV,doc,pm,an,cdv,ct,osl,rfl,lk,hcd⟩:=F.ex;refine aaF lk hcd S len fun A outer s H vs Q E hr hsp=>?_
 obtain⟨t,h,q⟩:=hbody cdv A outer s H vs Q E hr hsp;exact⟨t,h.nox,q⟩
theorem VU.binds {st:Stmt} (F:VU K x qual st f fd)
  (h:∀(kV doc pm:Value) (an:Option Addr) (cdv ct:Value) (us:List Value),us.length=ps.length->bindArgs (fnOf x qual (fL st) (dP st) (aW st) .none kV doc pm an cdv ct) ⟨us,[]⟩=pure (ps.zip us)):Binds K fd ps []:=by
 obtain⟨oc,od,kV,doc,pm,an,cdv,ct,osl,rfl,lk,hcd⟩:=F.ex;exact .all (h kV doc pm an cdv ct)
theorem XD {st:Stmt} {oc:Value} {od an:Option Addr} {osl:Array (Option Value)} {kV doc pm cdv ct:Value} (l:K.lookup f=some ⟨oc,od,.func (fnOf x qual (fL st) (dP st) (aW st) .none kV doc pm an cdv ct),osl⟩)
  (c:codeIn K cdv qual=true) (k:keepIn K (.ref f)=true):VU K x qual st f (fnOf x qual (fL st) (dP st) (aW st) .none kV doc pm an cdv ct):=⟨⟨oc,od,kV,doc,pm,an,cdv,ct,osl,rfl,l,c⟩,k⟩
end
theorem mE {A:Around} (hr:c8 k A):A.units+1<cLine:=Nat.lt_of_le_of_lt (mi (by decide:1<=64) _) hr.units
section
variable {X:Cx}
theorem pv (i:Nat) {pos:Pos} (hN:X.N[i]? =some x:=by rfl) (hv:Vis X.env.scope x:=by first|exact Or.inl rfl|exact Or.inr (Or.inl rfl)|exact Or.inr (Or.inr rfl)) (hd:(x==("__debug__":Str))=false:=by decide)
  (hcd:(x==("__classdict__":Str))=false:=by decide):PE X (.Name x pos) (AQ i):=X1 hN hv hd hcd
end
def aV (H H':Hp):Prop:=∀b o,H b=some o->H' b=some o
theorem aV.refl (H:Hp):aV H H:=fun _ _ h=>h
end L2
set_option maxHeartbeats 4000000
namespace L2
open PySem PySem.Spec PyProof.Rows
variable {C:Addr} {X:Cx} {env:Env} {tg:Expr} {H H2:Hp} {pins:List (Addr×Obj)} {cl:List (Str×Addr)} {fp:List Addr} {P:Program} {K:Frag} {scope:Scope} {σ:St} {w:World}
theorem pD:∀(names:List (Str×NameKind)) (acc:List (Str×Addr)),(∀p∈names,p.2= .free->∃c,env.cells.lookup p.1=some c)->
  (∀y c,acc.lookup y=some c->env.cells.lookup y=some c)->
  ∃cl,(forIn names acc (fun(p:Str×NameKind) (cs:List (Str×Addr))=>if(p.2==NameKind.free)=true then(do let a<-cellOf env p.1;pure (ForInStep.yield ((p.1,a)::cs)))else(pure (ForInStep.yield cs):Sem _)):Sem _)=pure cl/\
   (∀y c,cl.lookup y=some c->env.cells.lookup y=some c)/\(∀y,(acc.lookup y).isSome=true->(cl.lookup y).isSome=true)/\∀y,(y,NameKind.free)∈names->(cl.lookup y).isSome=true
 |[],acc,_,h=>⟨acc,rfl,h,fun _ z=>z,fun _ z=>nomatch z⟩
 | (n,k)::r,acc,hf,h=>by
  by_cases hk:k= .free
  .subst hk;obtain⟨c,hc⟩:=hf (n,.free) bf rfl;obtain⟨cl,e,h1,h2,h3⟩:=pD r ((n,c)::acc) (fun p hp=>hf p (ax _ hp)) (fun y d hd=>by
    rw[lookup_cons]at hd;cases q:y==n with
    |true=>rw[q]at hd;cases hd;rw[eq_of_beq q];exact hc
    |false=>rw[q]at hd;exact h y d hd)
   refine⟨cl,?_,h1,fun y hy=>h2 y ?_,fun y hy=>?_⟩
   .rw[List.forIn_cons];have e0:cellOf env n=pure c:=by unfold cellOf;rw[hc]
    simp only[gV,if_true,e0,pure_bind];exact e
   .rw[lookup_cons];cases q:y==n with
    |true=>rfl
    |false=>exact hy
   .rcases br.mp hy with q|q
    .cases q;refine h2 n ?_;rw[lookup_cons,gV];rfl
    .exact h3 y q
  .obtain⟨cl,e,h1,h2,h3⟩:=pD r acc (fun p hp=>hf p (ax _ hp)) h;refine⟨cl,?_,h1,h2,fun y hy=>?_⟩
   .rw[List.forIn_cons];have e0:(k==NameKind.free)=false:=by simpa using hk
    simp only[e0,false_eq_true,if_false,pure_bind];exact e
   .rcases br.mp hy with q|q
    .cases q;exact absurd rfl hk
    .exact h3 y q
theorem jG {env:Env} {scope:Scope} (hf:∀p∈scope.names,p.2= .free->∃c,env.cells.lookup p.1=some c):
  ∃cl,closureFor scope env=pure cl/\(∀y c,cl.lookup y=some c->env.cells.lookup y=some c)/\∀y,(y,NameKind.free)∈scope.names->(cl.lookup y).isSome=true:=by
 obtain⟨cl,e,h1,_,h3⟩:=pD (env:=env) scope.names [] hf (fun y c h=>by simp at h);refine⟨cl,?_,h1,h3⟩;unfold closureFor;have e':=cn (fun m:Sem (List (Str×Addr))=>m>>=fun cs=>pure cs) e;simp only[pure_bind]at e';rw[<-e']
structure UE where
 cl:List (Str×Addr)
 C:Addr
 s:Shared
 H:Hp
 ex:List Addr
noncomputable def a8 (X:Cx) (scope:Scope) (N:List Str) (c:UE):Cx:=
 {X with N:=N,gP:=c.s,M5:=c.H,env:=compEnvC scope c.cl c.C X.env,outer:=X.stack,stack:=X.stack,ex:=c.ex,fn:=fun _=>false,pn:=[],xe:=fun _ _=>False}
noncomputable def e9 (k:Nat) (cap:List Nat) (σ:St):St:=List.replicate k none++cap.map fun i=>(σ[i]?).getD none
def TR:TT:=fun _ H Q=>Q true H
section
variable {prog:Program} {w:World} {A:Around} {R:Result->Shared->Prop} {s:Shared}
theorem xX {elt target iter:Expr} {ifs:List Expr} {pos:Pos} {it acc:Value} (I:Nat->Shared->Prop)
  (turn:∀n s,I n s->wpAny (model prog w) A (pyNext it) (fun r s₁=>match r with
   |none=>R (.ok .next) s₁
   | some v=>wpAny (model prog w) A (letOwnedTupleGo target it v) (fun _ s₁'=>wpAny (model prog w) A (assign target env v) (fun _ s₂=>
     wpAny (model prog w) A (forIn ifs true fun c r=>if r=true then do let ok<-isTrue c env (eval c env);pure (ForInStep.yield ok)else pure (ForInStep.yield r)) (fun ok s₃=>
      if ok=true then wpAny (model prog w) A (eval elt env) (fun x s₄=>
       wpAny (model prog w) A (call (.builtin "list.append") [acc,x]) (fun _ s₅=>∃m,m<n/\I m s₅) (fun _ _=>False) s₄) (fun _ _=>False) s₃
      else∃m,m<n/\I m s₃) (fun _ _=>False) s₂) (fun _ _=>False) s₁') (fun _ _=>False) s₁) (fun _ _=>False) s)
  (n:Nat) (h:I n s):
  codeAny (model prog w) A (.compLoop (.ListComp elt [⟨target,iter,ifs,0⟩] scope pos) 0 it acc env) R s:=by
 refine codeAny_loop rfl I (fun n s hI=>?_) n h;show wpAny _ A ((compTurn (.ListComp elt [⟨target,iter,ifs,0⟩] scope pos) 0 it acc env).onRaise (fun x=>do noteFrame x env;theTreesLotGoes x)) _ _ s;refine wpAny_noted ?_;refine dk (E:=fun _ _=>False) ?_ (fun _ _ q=>q) (fun _ _ z=>z.elim);rw[compTurn_list];refine af (wpAny_standAt (af (dk (turn n s hI) (fun r s₁ h₁=>?_) fun _ _ h'=>h')));cases r with
 |none=>exact ay h₁
 | some v=>
  refine af (dk h₁ (fun _ s₁' h₁'=>?_) fun _ _ h'=>h');refine af (dk h₁' (fun _ s₂ h₂=>af (dk h₂ (fun ok s₃ h₃=>?_) fun _ _ h'=>h')) fun _ _ h'=>h');cases ok with
  |false=>exact ay ⟨rfl,h₃⟩
  |true=>
   exact af (af (dk h₃ (fun x s₄ h₄=>af (dk h₄ (fun _ s₅ h₅=>ay (ay ⟨rfl,h₅⟩)) fun _ _ h'=>h')) fun _ _ h'=>h'))
end
def TV (X:Cx) (ifs:List Expr) (t:TT):Prop:=
 ∀(pins:List (Addr×Obj)) (s:Shared) (σ:St) (H:Hp) (Q:Bool->Hp->Prop),Inv X pins σ H s->t σ H Q->
  wpAny (model X.prog X.w) X.A (forIn ifs true fun c r=>if r=true then do let ok<-isTrue c X.env (eval c X.env);pure (ForInStep.yield ok)else pure (ForInStep.yield r)) (TP X pins σ Q) X.xe s
theorem eK:TV X [] TR:=fun pins s σ H Q I h=>wpAny_tests_nil ⟨H,I,h⟩
theorem p8 {c:Expr} {t:TT} (h:PT X c t):TV X [c] t:=fun pins s σ H Q I hq=>wpAny_tests_one (h pins s σ H Q I hq)
theorem dE {env:Env}:∀{names:List (Str×NameKind)} {x:Str},names.lookup x=some .free->
  (names.map fun(n,k)=>if(k==NameKind.free && env.scope.kind== .function && env.kindOf n==some .cell)then(n,NameKind.cell)else(n,k)).lookup x=some .cell\/
  (names.map fun(n,k)=>if(k==NameKind.free && env.scope.kind== .function && env.kindOf n==some .cell)then(n,NameKind.cell)else(n,k)).lookup x=some .free
 |[],_,h=>by simp at h
 | (n,k)::r,x,h=>by
  have ih:= @dE env r x;show List.lookup x ((if(k==NameKind.free && env.scope.kind== .function && env.kindOf n==some .cell)=true then(n,NameKind.cell)else(n,k))::_)=_\/ List.lookup x ((if(k==NameKind.free && env.scope.kind== .function && env.kindOf n==some .cell)=true then(n,NameKind.cell)else(n,k))::_)=_;cases hx:x==n with
  |true=>
   simp only[lookup_cons,hx]at h;cases h
   by_cases hc:(NameKind.free==NameKind.free && env.scope.kind== .function && env.kindOf n==some .cell)=true
   .rw[ai hc];left;simp only[lookup_cons,hx]
   .rw[ah hc];right;simp only[lookup_cons,hx]
  |false=>
   simp only[lookup_cons,hx]at h
   by_cases hc:(k==NameKind.free && env.scope.kind== .function && env.kindOf n==some .cell)=true
   .rw[ai hc];simp only[lookup_cons,hx];exact ih h
   .rw[ah hc];simp only[lookup_cons,hx];exact ih h
theorem iH {env:Env}:∀{names:List (Str×NameKind)} {x:Str},(∀y∈names,y.2≠ .cell)->
  ((names.map fun(n,k)=>if(k==NameKind.free && env.scope.kind== .function && env.kindOf n==some .cell)then(n,NameKind.cell)else(n,k)).lookup x=some .cell\/
  (names.map fun(n,k)=>if(k==NameKind.free && env.scope.kind== .function && env.kindOf n==some .cell)then(n,NameKind.cell)else(n,k)).lookup x=some .free)->(x,NameKind.free)∈names
 |[],_,_,h=>by simp at h
 | (n,k)::r,x,hn,h=>by
  have ih:= @iH env r x (fun y hy=>hn y (ax _ hy));have h':List.lookup x ((if(k==NameKind.free && env.scope.kind== .function && env.kindOf n==some .cell)=true then(n,NameKind.cell)else(n,k))::(r.map fun(n,k)=>if(k==NameKind.free && env.scope.kind== .function && env.kindOf n==some .cell)then(n,NameKind.cell)else(n,k)))=some .cell\/ List.lookup x ((if(k==NameKind.free && env.scope.kind== .function && env.kindOf n==some .cell)=true then(n,NameKind.cell)else(n,k))::(r.map fun(n,k)=>if(k==NameKind.free && env.scope.kind== .function && env.kindOf n==some .cell)then(n,NameKind.cell)else(n,k)))=some .free:=h;cases hx:x==n with
  | true=>
   have e:=eq_of_beq hx;subst e
   by_cases hc:(k==NameKind.free && env.scope.kind== .function && env.kindOf x==some .cell)=true
   .have hk:k= .free:=by
     have:=(bz _ _|>.mp ((bz _ _|>.mp hc).1)).1;exact eq_of_beq this
    subst hk;exact bf
   .rw[ah hc]at h';simp only[lookup_cons,hx]at h';have hk:=hn (x,k) bf;rcases h' with z|z
    .exact absurd (Option.some.inj z) hk
    .rw[Option.some.inj z];exact bf
  |false=>
   refine ax _ (ih ?_)
   by_cases hc:(k==NameKind.free && env.scope.kind== .function && env.kindOf n==some .cell)=true
   .rw[ai hc]at h';simp only[lookup_cons,hx]at h';exact h'
   .rw[ah hc]at h';simp only[lookup_cons,hx]at h';exact h'
def ZK (J:It) (g:TG) (tt:TT) (te:TE) (l:Addr) (σ0:St) (H0:Hp) (Q:VK):Prop:=
 ∃W:Nat->Nat->St->Hp->Prop,(∃m,W 0 m σ0 H0)/\
   ∀i m σ' H2,W i m σ' H2->(J.stop i H2/\Q (.ref l) H2)\/ (J.go i H2/\∃N:St->Hp->Prop,(∀σ3 H3,N σ3 H3->∃m',m'<m/\W (i+1) m' σ3 H3)/\
    ∀x H3,J.YI i H2 x H3->g x σ' H3 fun σ4 H4=>tt σ4 H4 fun b H5=>if b=true then te σ4 H5 fun y H6=>∃xs,H6 l=some (.lst xs)/\xs.length<sizeLine/\N σ4 (upd H6 l (.lst (xs++[y])))else N σ4 H5)
def wW (wi:TI) (k:Nat) (cap:List Nat) (g:TG) (tt:TT) (te:TE):TE:=fun σ H Q=>wi σ H fun J H1=>∀l,H1 l=none->ZK J g tt te l (e9 k cap σ) (upd H1 l (.lst [])) Q
structure fB (X:Cx) (scope:Scope) (N:List Str) (k:Nat) (cap:List Nat):Prop where
 kind:scope.kind= .function
 names:∀y∈scope.names,y.2= .local->scope.names.lookup y.1=some .local
 cell:∀y∈scope.names,y.2≠ .cell
 free:∀y∈scope.names,y.2= .free->X.env.kindOf y.1=some .cell\/ X.env.kindOf y.1=some .free
 len:N.length=k+cap.length
 cap:∀j i,cap[j]? =some i->∃y,N[k+j]? =some y/\X.N[i]? =some y/\scope.names.lookup y=some .free
theorem xO {k:Nat} {cap:List Nat} {σ:St} {j:Nat} {v:V} (h:(e9 k cap σ)[j]? =some (some v)):∃q i,j=k+q/\cap[q]? =some i/\σ[i]? =some (some v):=by
 unfold e9 at h
 by_cases hj:j<k
 .rw[gw (by simpa using hj),md]at h;split at h<;>cases h
 .rw[gu (by simpa using hj),gx,az]at h;cases q:cap[j - k]? with
  |none=>rw[q]at h;cases h
  |some i=>
   rw[q]at h;have h':(σ[i]?).getD none=some v:=Option.some.inj h;refine⟨j - k,i,by omega,q,?_⟩;cases r:σ[i]? with
   |none=>rw[r]at h';cases h'
   |some o=>rw[r]at h';have:o=some v:=h';rw[this]
theorem nW.but {h h':Heap} (x:nW P w H h) (hC:H C=none) (k:∀b o,b≠C->h.get? b=some o->h'.get? b=some o):nW P w H h':=fun b u e=>by
 have nit:∀b u,H b=some u->b≠C:=fun b u e z=>by rw[z,hC]at e;cases e
 refine(x b u e).aL (fun c v hc q=>k c v ?_ q) (fun _ q=>q) fun _ _ q=>q
 rcases hc with z|z
 .rw[z];exact nit b u e
 .exact nit c _ z
section
variable {X:Cx} {elt tg iter:Expr} {ifs:List Expr} {scope:Scope} {pos:Pos} {wi:TI} {g:TG} {tt:TT} {te:TE} {N:List Str} {k:Nat} {cap:List Nat}
theorem vO {s2:Shared} (S:fB X scope N k cap) (I2:Inv X pins σ H2 s2)
  (hcl1:∀y c,cl.lookup y=some c->X.env.cells.lookup y=some c) (hcl2:∀y,(y,NameKind.free)∈scope.names->(cl.lookup y).isSome=true) (hC:s2.heap.objs.size<=C)
  (hf:∀b∈fp,qP X pins H2 b) (ho:∀b∈fp,b<s2.heap.objs.size):(a8 X scope N ⟨cl,C,s2,H2,fp⟩).Ok where
 mod:=I2.ok.mod
 kind:=S.kind
 glob:=I2.ok.glob
 blt:=I2.ok.blt
 above:=hC
 inj:=fun x y c h1 h2=>I2.ok.inj x y c (hcl1 x c h1) (hcl1 y c h2)
 has:=fun x h=>by
  have h':(x,NameKind.free)∈scope.names:=iH (env:=X.env) S.cell h;exact je.mp (hcl2 x h')
 YB:=fun _ _ z=>by cases z
 hd:=I2.ok.hd
 frames:=I2.ok.frames
 stk:=.inl rfl
 exf:=fun b hb=>⟨cw (cm (ho b hb) hC),fun x c e=>(hf b hb).2.2.2.2.1 x c (hcl1 x c e)⟩
 bs:=I2.bs
 QU:=gc I2.ok.QU I2.sz
 IF:=fun b o e hb=>by
  rcases(hf b hb).2.2.2.1 with z|z
  .exact I2.ok.IF b o e z
  .exact absurd (cm (cv e) (gc I2.ok.QU z)) (lj _)
 A0:=fun b hb hb'=>by
  rcases br.mp (I2.C6 b hb')with z|z
  .exact(hf b hb).2.1 z
  .exact(hf b hb).2.2.1 z
 sR:=I2.stack
 T6:=I2.E7
theorem GU {s2:Shared} {h1:Heap} {tk:Nat} {m0:Str->Option Value} (S:fB X scope N k cap) (I2:Inv X pins σ H2 s2)
  (hcl1:∀y c,cl.lookup y=some c->X.env.cells.lookup y=some c) (hcl2:∀y,(y,NameKind.free)∈scope.names->(cl.lookup y).isSome=true) (hC:C=s2.heap.objs.size+1)
  (hf:∀b∈fp,qP X pins H2 b) (ho:∀b∈fp,b<s2.heap.objs.size) (hk:∀b o,s2.heap.get? b=some o->h1.get? b=some o) (hD:h1.get? s2.heap.objs.size=some {cls:=.type "list",data:=.seq #[] 0}) (hns:h1.Ns C m0):
  Inv (a8 X scope N ⟨cl,C,s2,H2,fp⟩) [] (e9 k cap σ) (upd H2 s2.heap.objs.size (.lst [])) {s2 with heap:=h1,toks:=tk}:=by
 have fr:H2 s2.heap.objs.size=none:=I2.bS.fresh (bj _);have hCf:H2 C=none:=I2.bS.fresh (hC▸jf _);refine⟨vO S I2 hcl1 hcl2 (hC▸jf _) hf ho,rfl,I2.bare,Un.laid hk (bj _) fr,⟨m0,hns,fun i y v e1 e2 e3=>?_⟩,fun x c e=>?_,?_,fun x c e=>?_,fun p hp=>absurd (show p∈([]:List (Addr×Obj))from hp) (by simp),I2.bS.laid hk (bj _) ?_,?_⟩
 .obtain⟨q,j,rfl,hj,hv⟩:=xO e2;obtain⟨z,hz1,hz2,hz3⟩:=S.cap q j hj;have e1':N[k+q]? =some y:=e1;rw[hz1]at e1';cases e1';obtain⟨m,hn,hl⟩:=I2.loc;have hfr:=S.free (y,.free) (gp hz3) rfl;obtain⟨u,r,l⟩:=hl j y v hz2 hv (by rcases hfr with z|z;exact .inr (.inl z);exact .inr (.inr z));refine⟨u,r,.inr ⟨dE (env:=X.env) hz3,?_⟩⟩;obtain⟨c,hc⟩:=je.mp (hcl2 y (gp hz3));rcases l with⟨hk',_⟩|⟨_,c',hc',hcell⟩
  .rcases hfr with z|z<;>(rw[hk']at z;cases z)
  .have e:=hcl1 y c hc;rw[hc']at e;cases e;obtain⟨o,ho',hd⟩:=hcell;exact⟨_,hc,o,hk _ _ ho',hd⟩
 .obtain⟨v,o,ho',hd⟩:=I2.cell x c (hcl1 x c e);exact⟨v,o,hk _ _ ho',hd⟩
 .show upd H2 s2.heap.objs.size (.lst []) C=none;rw[aQ (ne_of_gt (hC▸lt_succ_self _))];exact hCf
 .have e':=hcl1 x c e;obtain⟨v,q⟩:=I2.cell x c e';rw[aQ (cw q.lt)];exact I2.m8 x c e'
 .exact⟨eh _,[],0,.nil,hD⟩
 .show(e9 k cap σ).length=N.length;unfold e9;rw[bq,gx,aj,S.len]
theorem R9 (hc:X.calm=true) (S:fB X scope N k cap) (hi:PI X tg iter wi) (hg:∀c,PG (a8 X scope N c) tg g) (ht:∀c,TV (a8 X scope N c) ifs tt) (he:∀c,PE (a8 X scope N c) elt te)
  (hs:∀x,foldedSetIterable iter X.env x=pure x:=by intro _;rfl):PE X (.ListComp elt [⟨tg,iter,ifs,0⟩] scope pos) (wW wi k cap g tt te):=by
 intro pins s σ H Q I h;rw[eval_ListComp];obtain⟨cl,hclos,hcl1,hcl2⟩:=jG (scope:=scope) (env:=X.env) (fun p hp hf=>I.ok.has p.1 (S.free p hp hf));refine wpAny_comprehension_free (use:=none) rfl hs hclos S.kind S.names (cD (hi pins s σ H _ I h) fun v s1 h1=>cD h1 fun itv s2 h2=>?_);obtain⟨it,fp,tn,J,H2,e,I2,T,st2,f2,q2⟩:=h2;subst e;obtain⟨W,⟨m0,w0⟩,turn⟩:=q2 s2.heap.objs.size (I2.bS.fresh (bj _));have hob:∀b∈fp,b<s2.heap.objs.size:=fun b hb=>let⟨o,e,_⟩:=T.obj _ _ st2 b hb;cv e
 refine fq (wpAny_newFunctionEnv S.cell (by intro y hy;simp at hy) (fun h₁ hns₁ hsb₁=>?_) S.kind);dsimp only at hns₁ hsb₁⊢
 generalize hHH:s2.heap.push {cls:=.type "list",dict:=none,data:=.seq ([]:List Value).toArray}=HH at hns₁ hsb₁⊢
 have hCC:HH.objs.size=s2.heap.objs.size+1:=by rw[<-hHH,size_push]
 have old:∀b o,s2.heap.get? b=some o->h₁.get? b=some o:=fun b o e=>hsb₁.extBut b o (cw (hCC▸gm (cv e))) (au _ (hHH▸au _ e))
 have hD:h₁.get? s2.heap.objs.size=some {cls:=.type "list",data:=.seq #[] 0}:=hsb₁.extBut _ _ (cw (hCC▸lt_succ_self _)) (au _ (hHH▸dc _ rfl));have I4:=fun tk=>GU (tk:=tk) S I2 hcl1 hcl2 hCC f2 hob old hD hns₁
 have X':=a8 X scope N ⟨cl,HH.objs.size,s2,H2,fp⟩;have stat:∀{H':Hp},(∀b∈fp,H' b=none)->∀b∈fp,qP (a8 X scope N ⟨cl,HH.objs.size,s2,H2,fp⟩) [] H' b:=fun hn b hb=>
  ⟨hn b hb,cw (hCC▸gm (hob b hb)),(vO S I2 hcl1 hcl2 (hCC▸jf _) f2 hob).A0 b hb,.inl hb,fun x c e=>(f2 b hb).2.2.2.2.1 x c (hcl1 x c e),fun p hp=>absurd (show p∈([]:List (Addr×Obj))from hp) (by simp)⟩
 have loop:∀s₃:Shared,s₃={s2 with heap:=h₁,toks:=s2.toks+([]:List (Str×Value)).length}->
   codeAny (model X.prog X.w) X.A (.compLoop (.ListComp elt [⟨tg,iter,ifs,0⟩] scope pos) 0 (.ref it) (.ref s2.heap.objs.size) (compEnvC scope cl HH.objs.size X.env))
    (compPost (model X.prog X.w) X.A X.xe none (EP X pins σ Q) (.ref s2.heap.objs.size) HH.objs.size) s₃:=by
  rintro s₃ rfl;refine xX (fun n s'=>∃i σ' H',Inv (a8 X scope N ⟨cl,HH.objs.size,s2,H2,fp⟩) [] σ' H' s'/\tn i s'.heap/\(∀b∈fp,H' b=none)/\W i n σ' H') ?_ m0
   ⟨0,e9 k cap σ,_,I4 _,T.keep _ _ _ st2 fun b _ o e=>old b o e,fun b hb=>by rw[aQ (cw (hob b hb))];exact(f2 b hb).1,w0⟩
  rintro n s3 ⟨i,σ3,H3,I3,st3,fr3,w3⟩;rcases turn i n σ3 H3 w3 with⟨stop,qn⟩|⟨go,NN,hN,step⟩
  .refine cD (T.done (a8 X scope N ⟨cl,HH.objs.size,s2,H2,fp⟩) rfl rfl rfl hc i [] s3 σ3 H3 _ I3 (stat fr3) st3 stop) fun r s4 ⟨hr,J4⟩=>?_
   subst hr;obtain⟨m,hn,_⟩:=J4.loc;refine⟨m,hn,fun h' hs'=>?_⟩;have keepC:∀b o,b≠HH.objs.size->s4.heap.get? b=some o->h'.get? b=some o:=fun b o hb e=>hs'.extBut b o hb e
   have gY:∀b o,s2.heap.get? b=some o->b≠HH.objs.size:=fun b o e=>cw (hCC▸gm (cv e))
   have u:=J4.base;have u':Un (HV X.stack) fp H2 H3 s2.heap h':=⟨fun b o q n hb hx=>keepC b o (gY b o q) (u.keep b o q n hb hx),fun b o q n hb hx=>by
     obtain⟨sl,e⟩:=u.slot b o q n hb hx;exact⟨sl,keepC b _ (gY b o q) e⟩,u.free,fun b o q hx=>by
     obtain⟨o',e⟩:=u.there b o q hx;exact⟨o',keepC b _ (gY b o q) e⟩,u.vZ,u.vS,u.wF⟩
   refine⟨.ref s2.heap.objs.size,H3,I2.NR (ch:=fp) J4.os u' (J4.bS.but J4.free keepC) J4.bare fun b hb=>?_,rfl,qn⟩;obtain⟨_,f1,_,f3,f4,f5⟩:=f2 b hb;exact⟨f3,f1,f4,f5⟩
  .refine cD (T.item (a8 X scope N ⟨cl,HH.objs.size,s2,H2,fp⟩) rfl rfl rfl hc i [] s3 σ3 H3 _ I3 (stat fr3) st3 go) fun r s4 ⟨u,hr,h4⟩=>?_
   subst hr;refine cD h4 fun _ s5 ⟨x,H5,I5,r5,y5,st5,fr5⟩=>?_
   have I5':=I5.pinned (stat fr5) (T.obj _ _ st5);have again:∀{s7:Shared} {σ7:St} {H7:Hp},Inv (a8 X scope N ⟨cl,HH.objs.size,s2,H2,fp⟩) ([]++o9 fp s5.heap) σ7 H7 s7->NN σ7 H7->
     ∃m,m<n/\∃i σ' H',Inv (a8 X scope N ⟨cl,HH.objs.size,s2,H2,fp⟩) [] σ' H' s7/\tn i s7.heap/\(∀b∈fp,H' b=none)/\W i m σ' H':=fun{s7 σ7 H7} I7 n7=>by
    obtain⟨m',hm,w7⟩:=hN σ7 H7 n7;refine⟨m',hm,i+1,σ7,H7,I7.jU,T.keep _ _ _ st5 fun b hb o e=>(I7.pin (b,o) (bg _ (bg _ (cX hb e)))).1,fun b hb=>?_,w7⟩;obtain⟨o,e,d⟩:=T.obj _ _ st5 b hb;exact(I7.pin (b,o) (bg _ (bg _ (cX hb e)))).2.1
   refine cD (hg _ _ s5 σ3 H5 x u _ I5' r5 (step x H5 y5)) fun _ s6 ⟨σ6,H6,I6,q6⟩=>?_
   refine cD (ht _ _ s6 σ6 H6 _ I6 q6) fun b s7 ⟨H7,I7,q7⟩=>?_
   cases b with
   |false=>exact again I7 q7
   |true=>
    refine cD (he _ _ s7 σ6 H7 _ I7 q7) fun y s8 ⟨yv,H8,I8,r8,xs,hl,hz,n8⟩=>?_
    refine cD (cC _ s8 σ6 H8 (.ref s2.heap.objs.size) [yv] (.ref s2.heap.objs.size) [y] (fun _ H9=>NN σ6 H9) I8 rfl (.cons r8 .nil) ⟨_,xs,yv,rfl,rfl,hl,hz,n8⟩) fun _ s9 ⟨_,H9,I9,_,q9⟩=>?_
    exact again I9 q9
 exact codeAny_compStart_list (loop _ rfl) (T.self X.A 0 _ _ _ (T.keep _ _ _ st2 fun b _ o e=>old b o e) (loop _ rfl))
end
noncomputable def X9 (z:Str):It:=⟨fun i _=>i<z.cps.size,fun i H x H'=>H'=H/\∃c,z.cps[i]? =some c/\x= .str ⟨#[c]⟩,fun i _=>z.cps.size<=i⟩
theorem IY (z:Str) (t:Tok) (it:Addr):Turn P w K tg (X9 z) [it] it (fun i h=>h.IsStrIter it "str_ascii_iterator" z t i)where
 mem:=by simp
 obj:=fun i h st b hb=>by
  have e:b=it:=by simpa using hb
  subst e;obtain⟨o,e,c,d⟩:=st;exact⟨o,e,fun v z=>by rw[d]at z;cases z⟩
 keep:=fun i h h' st k=>let⟨o,e,r⟩:=st;⟨o,k it (by simp) o e,r⟩
 item:=by
  intro X hP hw hK hc i pins s σ H E I hf st hg;subst hP hw hK;obtain⟨f0,f1,f2,f3,f4,f5⟩:=hf it (by simp);have hg':i<z.cps.size:=hg;refine wpAny_pyNext_ascii_item st (c:=z.cps[i]) (by simp[hg']) fun h' st' sb=>?_
  have I1:Inv X pins σ H {s with heap:=h',toks:=s.toks+1}:=I.turned (fun b o hb e=>(sb.2 b hb).trans e) f0 f1 f3 f4 f5;obtain⟨o,e,c,d⟩:=id st';exact⟨_,rfl,xQ (s:={s with heap:=h',toks:=s.toks+1}) e c d (by decide) ⟨.str ⟨#[z.cps[i]]⟩,H,I1,⟨_,rfl⟩,⟨rfl,_,by simp[hg'],rfl⟩,st',fun b hb=>(hf b hb).1⟩⟩
 done:=by
  intro X hP hw hK hc i pins s σ H E I hf st hg;subst hP hw hK;obtain⟨f0,f1,f2,f3,f4,f5⟩:=hf it (by simp);exact wpAny_pyNext_ascii_end (I.ok.hd hc) st (Array.getElem?_eq_none hg) fun h' eb=>⟨rfl,I.turned (t':=s.toks) (fun b o hb e=>eb b o hb e) f0 f1 f3 f4 f5⟩
 self:=fun A i s Q E st h=>by
  refine wpAny_pyIter_slot st.typeIs F.slot_str_ascii_iterator_iter (iz F.slot_str_ascii_iterator_iter st.typeIs F.entry_str_ascii_iterator_iter ?_ (F.args_str_ascii_iterator_iter_1 _));show wpAny _ _ (ret (.ref it)) _ _ s;exact ay ⟨_,rfl,"str_ascii_iterator",_,st.typeIs,F.slot_str_ascii_iterator_next.lookup,h⟩
theorem G6 (z:Str) (t:Tok) (it:Addr):Turn P w K tg (X9 z) [it] it (fun i h=>h.IsStrIter it "str_iterator" z t i)where
 mem:=by simp
 obj:=fun i h st b hb=>by
  have e:b=it:=by simpa using hb
  subst e;obtain⟨o,e,c,d⟩:=st;exact⟨o,e,fun v z=>by rw[d]at z;cases z⟩
 keep:=fun i h h' st k=>let⟨o,e,r⟩:=st;⟨o,k it (by simp) o e,r⟩
 item:=by
  intro X hP hw hK hc i pins s σ H E I hf st hg;subst hP hw hK;obtain⟨f0,f1,f2,f3,f4,f5⟩:=hf it (by simp);have hg':i<z.cps.size:=hg;refine wpAny_pyNext_wide_item st (c:=z.cps[i]) (by simp[hg']) fun h' st' sb=>?_
  have I1:Inv X pins σ H {s with heap:=h',toks:=s.toks+1}:=I.turned (fun b o hb e=>(sb.2 b hb).trans e) f0 f1 f3 f4 f5;obtain⟨o,e,c,d⟩:=id st';exact⟨_,rfl,xQ (s:={s with heap:=h',toks:=s.toks+1}) e c d (by decide) ⟨.str ⟨#[z.cps[i]]⟩,H,I1,⟨_,rfl⟩,⟨rfl,_,by simp[hg'],rfl⟩,st',fun b hb=>(hf b hb).1⟩⟩
 done:=by
  intro X hP hw hK hc i pins s σ H E I hf st hg;subst hP hw hK;obtain⟨f0,f1,f2,f3,f4,f5⟩:=hf it (by simp);exact wpAny_pyNext_wide_end (I.ok.hd hc) st (Array.getElem?_eq_none hg) fun h' eb=>⟨rfl,I.turned (t':=s.toks) (fun b o hb e=>eb b o hb e) f0 f1 f3 f4 f5⟩
 self:=fun A i s Q E st h=>by
  refine wpAny_pyIter_slot st.typeIs F.slot_str_iterator_iter (iz F.slot_str_iterator_iter st.typeIs F.entry_str_iterator_iter ?_ (F.args_str_iterator_iter_1 _));show wpAny _ _ (ret (.ref it)) _ _ s;exact ay ⟨_,rfl,"str_iterator",_,st.typeIs,F.slot_str_iterator_next.lookup,h⟩
section
variable {X:Cx}
theorem XW:G1 X (fun x lo hi H Q=>∃z,x= .str z/\z.length<=sizeLine/\Q (.str (Txt.slice z lo hi)) H):=by
 intro pins s σ H x v vl vu lo hi sl Q I rx hs pl pu h;obtain⟨z,rfl,hz,q⟩:=h;obtain⟨t,rfl⟩:=rx;refine⟨"str",_,F.slot_str_getitem.lookup,typeIs_str _ _ _,?_⟩;obtain⟨o,ho,hc,hd⟩:=hs;have fin:∀(t':Tok) (k:Nat),EP X pins σ Q (.str (Txt.slice z lo hi) t') {s with toks:=k}:=fun t' k=>⟨.str (Txt.slice z lo hi),H,I.tok k,⟨t',rfl⟩,q⟩
 have hle:=gc (Txt.slice_le z lo hi) hz;cases pl with
 |none=>cases pu with
  |none=>exact mf (l:=none) (u:=none) (st:=none) ⟨o,ho,hc,hd⟩ rfl (post_val_or_str ⟨hle,fun t' k=>fin t' k⟩)
  |int j uj=>exact mf (l:=none) (u:=some (j,uj)) (st:=none) ⟨o,ho,hc,hd⟩ rfl (post_val_or_str ⟨hle,fun t' k=>fin t' k⟩)
 |int i ui=>cases pu with
  |none=>exact mf (l:=some (i,ui)) (u:=none) (st:=none) ⟨o,ho,hc,hd⟩ rfl (post_val_or_str ⟨hle,fun t' k=>fin t' k⟩)
  |int j uj=>exact mf (l:=some (i,ui)) (u:=some (j,uj)) (st:=none) ⟨o,ho,hc,hd⟩ rfl (post_val_or_str ⟨hle,fun t' k=>fin t' k⟩)
theorem tS:∀{ys:List Str} {its:List Value},Vals (ys.map V.str) its->StrsAre its ys
 |[],_,r=>by cases r;exact .nil
 | y::ys,_,r=>by
  cases r with
  |cons r rr=>
   obtain⟨t,rfl⟩:=r;exact .cons y t (tS rr)
def rJoin (K:Frag):V->List V->Hp->VK->Prop:=fun x vs H Q=>∃z p ys,x= .str z/\vs=[.ref p]/\iW K H p (ys.map V.str)/\(ys.map (·.length)).sum+ys.length*z.length<=16777216/\Q (.str (Txt.join z ys)) H
theorem RX:MtR X "str.join" (rJoin X.K):=by
 intro pins s σ H x vs v us Q I rx rv h;obtain⟨z,p,ys,rfl,rfl,hq,hz,q⟩:=h;obtain⟨t,rfl⟩:=rx;obtain⟨u,rfl,rp⟩:=vals1 rv;cases rp;obtain⟨its,r,pl,_⟩:=I.list hq;exact join_list pl.isList (by simpa using tS r) hz fun t' k=>⟨.str (Txt.join z ys),H,I.tok k,⟨t',rfl⟩,q⟩
theorem qB:g9 X (binaryOp .Pow) (rI (fun i j=>0<=j/\(Builtin.Int.intBits i:Int)*j<=2^27) fun i j=>.int (i^j.toNat)):=ZA fun _ _ _ _ _ _ _ hc q=>pow_int hc.1 hc.2 q
end
noncomputable def qC (XN:List Str) (xs scope:Scope) (N:List Str) (k:Nat) (cap:List Nat):Bool:=
 scope.kind== .function && (scope.names.all fun y=>y.2 != .local||scope.names.lookup y.1==some .local) && (scope.names.all fun y=>y.2 != .cell) &&
 (scope.names.all fun y=>y.2 != .free||xs.names.lookup y.1==some .cell||xs.names.lookup y.1==some .free) && N.length==k+cap.length &&
 (List.range cap.length).all fun j=>match cap[j]?,N[k+j]? with
  |some i,some y=>XN[i]? ==some y && scope.names.lookup y==some .free
  |_,_=>false
theorem j8 {XN:List Str} {xs:Scope} {N:List Str} {k:Nat} {cap:List Nat} (hN:X.N=XN) (hs:X.env.scope=xs) (h:qC XN xs scope N k cap=true):fB X scope N k cap:=by
 subst hN hs;unfold qC at h;simp only[bz,bb,Bool.or_eq_true,bne_iff_ne,ne_eq,dm]at h;obtain⟨⟨⟨⟨⟨h1,h2⟩,h3⟩,h4⟩,h5⟩,h6⟩:=h;refine⟨h1,fun y hy e=>(h2 y hy).resolve_left (fun z=>z e),h3,fun y hy e=>?_,h5,fun j i e=>?_⟩
 .rcases h4 y hy with(z|z)|z
  .exact absurd e z
  .exact .inl z
  .exact .inr z
 .have hj:j<cap.length:=(ae.mp e).1;have q:=h6 j (mem_range.mpr hj);rw[e]at q;cases r:N[k+j]? with
  |none=>rw[r]at q;cases q
  |some y=>
   rw[r]at q;simp only[bz,dm]at q;exact⟨y,rfl,q.1,q.2⟩
section
variable {X:Cx} {elt tg iter:Expr} {ifs:List Expr} {scope:Scope} {pos:Pos} {wi:TI} {g:TG} {tt:TT} {te:TE} {N:List Str} {k:Nat} {cap:List Nat} {XN:List Str} {xs:Scope}
theorem uG (N:List Str) (k:Nat) (cap:List Nat) (XN:List Str) (xs:Scope) (hc:X.calm=true) (hN:X.N=XN) (hx:X.env.scope=xs) (hi:PI X tg iter wi) (chk:qC XN xs scope N k cap=true)
  (hg:∀c,PG (a8 X scope N c) tg g) (ht:∀c,TV (a8 X scope N c) ifs tt) (he:∀c,PE (a8 X scope N c) elt te)
  (hs:∀x,foldedSetIterable iter X.env x=pure x:=by intro _;rfl):PE X (.ListComp elt [⟨tg,iter,ifs,0⟩] scope pos) (wW wi k cap g tt te):=R9 hc (j8 hN hx chk) hi hg ht he hs
end
structure Def (K:Frag) (mg:Str->Option Value) (x:Str) (st:Stmt) (ps:List Str) (f:Addr) (fd:FuncData):Prop where
 F:VU K x x st f fd
 m:mg x=some (.ref f)
 b:Binds K fd ps []
section
variable {X:Cx} {x:Str} {st:Stmt} {ps:List Str} {f:Addr} {fd:FuncData} {j k:Nat} {sp:Sp} {e:Expr} {es:List Expr} {t:TA} {p pos:Pos}
theorem aaA (D:Def X.K X.mg x st ps f fd) (G:pX X.prog X.w X.K X.mg X.base OD j f fd ps sp) (hr:c8 k X.A) (hjk:j<=k) (hg:Gl X x) (ha:PA X (e::es) t) (hdb:(x==("__debug__":Str))=false:=by decide)
  (he:starEach (e::es) X.env=(false,eval e X.env)::starEach es X.env:=by rfl) (hpl:(backTo pos (starEach es X.env)).any (·.1)=false:=by rfl):
  PE X (.Call (.Name x p) (e::es) [] pos) (GB sp [] E0 t):=P0 G (hr.mono hjk) hg D.m D.F.kp D.b .nil YM ha hdb he hpl
end
theorem Vals.get':∀{xs:List V} {us:List Value} {i:Nat} {u:Value},Vals xs us->us[i]? =some u->∃x,xs[i]? =some x/\RelV x u
 |_,_,_,_,.nil,h=>by simp at h
 |_,_,0,_,.cons r _,h=>by simp at h;subst h;exact⟨_,rfl,r⟩
 |_,_,i+1,_,.cons _ t,h=>Vals.get' (i:=i) t (by simpa using h)
theorem fD:bootBuiltins "len"=some (.builtin "len"):=by decide+kernel
theorem V5:bootBuiltins "max"=some (.builtin "max"):=by decide+kernel
theorem qW:bootBuiltins "min"=some (.builtin "min"):=by decide+kernel
theorem eC:bootBuiltins "sorted"=some (.builtin "sorted"):=by decide+kernel
theorem V8:bootBuiltins "sum"=some (.builtin "sum"):=by decide+kernel
theorem VQ:bootBuiltins "int"=some (.type "int"):=by decide+kernel
theorem JV:bootBuiltins "str"=some (.type "str"):=by decide+kernel
theorem cR:bootBuiltins "tuple"=some (.type "tuple"):=by decide+kernel
theorem y7:bootBuiltins "enumerate"=some (.type "enumerate"):=by decide+kernel
theorem aV.upd {l:Addr} {o:HO} (h:H l=none):aV H (upd H l o):=fun b u e=>by rw[aQ (bJ e h)];exact e
theorem szt {n:Nat} (h:n<16777216):n<sizeLine:=by rw[PySem.sizeLine_eq];exact h
theorem QF (z:Str):z.cps.toList.length=z.length:=by simp[Str.length]
theorem NT {z:Str} {d:Int} (h0:0<=d) (h:d<(z.length:Int)):∃c,c∈z.cps.toList/\oB z.cps.toList d=some c:=by
 obtain⟨j,rfl⟩:∃j:Nat,d=(j:Int):=⟨d.toNat,by omega⟩;have hj:j<z.cps.toList.length:=by have e:=QF z;omega
 exact⟨z.cps.toList[j],iu hj,eQ (by simp[hj])⟩
theorem SE {α:Type} {xs:List α} {d:Int} (h0:0<=d) (h:d<(xs.length:Int)):∃c,c∈xs/\oB xs d=some c:=by
 obtain⟨j,rfl⟩:∃j:Nat,d=(j:Int):=⟨d.toNat,by omega⟩;have hj:j<xs.length:=by omega
 exact⟨xs[j],iu hj,eQ (by simp[hj])⟩
def AM (K:Frag):Sp:=fun vs H Q _=>∃(a:Addr) (ns:List Int),vs=[.ref a]/\iW K H a (ns.map V.int)/\ns.length<=63/\∀H',Q (.bl true) H'
end L2
namespace PySem
open Sem (wp)
open AutoSeq1 (wpAny_loadPart')
variable {it l:Addr} {i:Nat} {Q:Value->Shared->Prop}
section
variable {prog:Program} {w:World} {A:Around} {E:Value->Shared->Prop} {s:Shared}
theorem kQ {t:Addr} {items} {x:Value} (hit:s.heap.IsTupleIter it t i)
  (ht:s.heap.IsTuple t items) (hx:items[i]? =some x)
  (hQ:∀h',h'.IsTupleIter it t (i+1)->Heap.SameBut it s.heap h'->Q x {s with heap:=h'}):
  wpAny (model prog w) A (Builtin.SmallTypes.nextOf (.ref it)) Q E s:=by
 obtain⟨o,ho,hc,hd⟩:=id hit;obtain⟨ol,hol,_,nl,hdl⟩:=ht;unfold Builtin.SmallTypes.nextOf;refine af (me (name:=Str.ofString "__next__") hit.typeIs kh
  (iz kh hit.typeIs F.entry_tuple_iterator_next ?_ (F.args_tuple_iterator_next_1 _)))
 show wpAny _ _ (field (.ref it) 0>>=_) _ _ s;refine af (wpAny_field ho hd (x:=.ref t) rfl ?_);show wpAny _ _ (if(Value.ref t==Value.none)=true then _ else _) _ _ s;rw[ah (show¬((Value.ref t==Value.none)=true)from av)];show wpAny _ _ (field (.ref it) 1>>=_) _ _ s;refine af (wpAny_field ho hd (x:=.int i 0) rfl ?_);show wpAny _ _ (seqItems? (.ref t)>>=_) _ _ s;refine af (wpAny_seqItems hol hdl ?_);simp only[toNat_natCast,hx];refine af (wpAny_setField ho hd (by simp) (ay ⟨x,rfl,ay (hQ _ ?_ (Heap.SameBut.update ..))⟩));exact⟨_,get?_update_self _ ho (Obj.isFreed_of_fields (Obj.data_mapFields hd _)),(Obj.cls_mapFields ..).trans hc,by
  rw[Obj.data_mapFields hd];simp[rawInt]⟩
theorem l6 {items} (hh:A.handled=none)
  (hit:s.heap.IsTupleIter it l i) (hl:s.heap.IsTuple l items) (hx:items[i]? =none)
  (hE:∀h' e,Heap.ExtBut it s.heap h'->(∃o,h'.get? e=some o/\o.cls= .type "StopIteration")->E (.ref e) {s with heap:=h'}):
  wpAny (model prog w) A (Builtin.SmallTypes.nextOf (.ref it)) Q E s:=by
 obtain⟨o,ho,hc,hd⟩:=id hit;obtain⟨ol,hol,_,nl,hdl⟩:=hl;unfold Builtin.SmallTypes.nextOf;refine af (me (name:=Str.ofString "__next__") hit.typeIs kh
  (iz kh hit.typeIs F.entry_tuple_iterator_next ?_ (F.args_tuple_iterator_next_1 _)))
 show wpAny _ _ (field (.ref it) 0>>=_) _ _ s;refine af (wpAny_field ho hd (x:=.ref l) rfl ?_);show wpAny _ _ (if(Value.ref l==Value.none)=true then _ else _) _ _ s;rw[ah (show¬((Value.ref l==Value.none)=true)from av)];show wpAny _ _ (field (.ref it) 1>>=_) _ _ s;refine af (wpAny_field ho hd (x:=.int i 0) rfl ?_);show wpAny _ _ (seqItems? (.ref l)>>=_) _ _ s;refine af (wpAny_seqItems hol hdl ?_);simp only[toNat_natCast,hx];refine af (wpAny_rule (af (wpAny_setField ho hd (by simp) ?_)));show wpAny _ _ (newExc (.type "StopIteration") []>>=_) _ _ _;refine af ?_;simp only[newExc,newTuple];refine af (fq ?_ (by size_fits));refine af (m:=firstArgMember _ _) (wpAny_of_eq (a:=Value.none) (by first|rfl|(simp only[firstArgMember];rfl)) ?_);refine fq ?_ (by size_fits);simp only[raiseNew];refine af (wpAny_handled ?_)
 first|rw[show A.in1.handled=none from hh]|rw[hh]
 refine af (ay (wpAny_throw ?_));exact hE _ _ (((Heap.SameBut.update ..).extBut.push _).push _) ⟨_,dc _ rfl,rfl⟩
end
theorem jO {prog:Program} {w:World} {A:Around} (hh:A.handled=none) (it l:Addr) (hne:l≠it) (items:Array Value):
  Draws prog w A it [it,l] items.size (fun i v=>items[i]? =some v) (fun i h=>h.IsTupleIter it l i/\h.IsTuple l items)where
 live:=fun _ _ st=>let⟨o,ho,_⟩:=st.1;⟨o,ho⟩
 frame:=fun _ _ _ st hk=>⟨st.1.at fun o e=>hk it (by simp) o e,let⟨o,e,r⟩:=st.2;⟨o,hk l (by simp) o e,r⟩⟩
 item:=fun i s Q E hi st hQ=>by
  refine kQ st.1 st.2 (x:=items[i]) (by simp[hi]) fun h' hit' hs'=>?_
  exact hQ _ h' s.toks (by simp[hi]) ⟨hit',st.2.extBut hs'.extBut hne⟩ hs'
 done:=fun s Q E st hE=>l6 hh st.1 st.2 (by simp) hE
theorem g8 (l:Addr) (items:Array Value) (n:Nat) (a9:Option Addr) (sl:Array (Option Value)):
  Meets (Builtin.«enumerate.__new__» ⟨[.type "enumerate",.ref l],[]⟩) (fun _ R s=>s.heap.get? l=some {cls:=.type "tuple",dict:=a9,data:=.seq items n,slots:=sl}/\
   R (.ok (.ret (.ref (s.heap.push {cls:=.type "tuple_iterator",data:=.fields #[.ref l,.int 0 0]}).objs.size)))
    {s with heap:=(s.heap.push {cls:=.type "tuple_iterator",data:=.fields #[.ref l,.int 0 0]}).push {cls:=.type "enumerate",data:=.fields #[.none,.bool false,.ref s.heap.objs.size,rawInt 0,.none,.none]}}):=
 .of_wp fun prog w A R s h=>by
  obtain⟨hp,g,d,tk,os⟩:=s;obtain⟨hl,h⟩:=h
  have hsub:=sub_enumerate;have hL:Heap.IsTuple (Shared.heap ⟨hp,g,d,tk,os⟩) l items:=⟨_,hl,rfl,n,rfl⟩
  wp_walk using wpAny_loadPart' hl
  refine wpAny_stack_any fun st=>ay ?_
  split
  .rename_i c _ _ _ _ _;cases(c==Value.type "enumerate")
   .wp_walk using wpAny_loadPart' hl,wpAny_pyIter_tuple hL
    exact⟨_,rfl,h⟩
   .wp_walk using wpAny_loadPart' hl,wpAny_pyIter_tuple hL
    exact⟨_,rfl,h⟩
  .wp_walk using wpAny_loadPart' hl,wpAny_pyIter_tuple hL
   exact⟨_,rfl,h⟩
section
variable {prog:Program} {w:World} {A:Around} {E:Value->Shared->Prop} {s:Shared}
theorem hJ {items:Array Value} (hL:s.heap.IsTuple l items)
  (h:∀h',IsEnum h' (s.heap.objs.size+1) s.heap.objs.size 0 .none->h'.IsTupleIter s.heap.objs.size l 0->h'.objs.size=s.heap.objs.size+2->
   (∀b o,s.heap.get? b=some o->h'.get? b=some o)->Q (.ref (s.heap.objs.size+1)) {s with heap:=h'}):
  wpAny (model prog w) A (call (.type "enumerate") [.ref l]) Q E s:=by
 obtain⟨⟨c,a9,dt,sl⟩,hl,hc,n,hd⟩:=hL;replace hc:c= .type "tuple":=hc;replace hd:dt= .seq items n:=hd;subst hc hd;refine callType_new F.called_enumerate (by decide) (F.typeCall_enumerate_1 _) (F.newCall_enumerate_1 _) (fun obj=>F.args_object_init_2 obj _) F.entry_enumerate_new
  (g8 l items n a9 sl) ⟨hl,?_⟩
 have hz:(s.heap.push {cls:=.type "tuple_iterator",data:=.fields #[.ref l,.int 0 0]}).objs.size=s.heap.objs.size+1:=size_push ..;show _/\_;rw[hz];have he:IsEnum ((s.heap.push {cls:=.type "tuple_iterator",data:=.fields #[.ref l,.int 0 0]}).push
   {cls:=.type "enumerate",data:=.fields #[.none,.bool false,.ref s.heap.objs.size,rawInt 0,.none,.none]}) (s.heap.objs.size+1) s.heap.objs.size 0 .none:=by
  have:=dc (s.heap.push {cls:=.type "tuple_iterator",data:=.fields #[.ref l,.int 0 0]})
   (o:={cls:=.type "enumerate",data:=.fields #[.none,.bool false,.ref s.heap.objs.size,rawInt 0,.none,.none]}) rfl
  rw[hz]at this;exact this
 refine⟨⟨_,he,rfl⟩,h _ he ⟨_,au _ (dc _ rfl),rfl,rfl⟩ (by rw[size_push,hz]) fun b o x=>au _ (au _ x)⟩
end
end PySem
namespace L2
open PySem PySem.Spec PyProof.Rows
variable {X:Cx} {h':Heap} {H:Hp} {pins:List (Addr×Obj)} {fp:List Addr} {es:List Expr} {t':Nat} {pos:Pos} {s:Shared} {σ:St}
theorem Inv.FF (I:Inv X pins σ H s) (k:∀b o,b∉fp->s.heap.get? b=some o->h'.get? b=some o) (hf:∀b∈fp,qP X pins H b):
  Inv X pins σ H {s with heap:=h',toks:=t'}:=by
 have nit:∀b u,H b=some u->b∉fp:=fun b u e z=>by rw[(hf b z).1]at e;cases e
 refine I.step (g':=s.gens) (d':=s.drawn) (ch:=fp) (fun b hb=>?_) (fun b o _ _ hc e _=>k b o hc e) (fun b o _ _ hc e _=>⟨o.slots,k b o hc e⟩) (fun _ _ _ _ n=>n)
  (fun b o hc e=>⟨o,k b o hc e⟩) (fun _ _ e=>e) (fun _ _ _ e=>e) (fun b ps e=>⟨#[],by rw[e];simp⟩) (fun m hm=>?_) (fun b u e=>?_) I.bare
 .obtain⟨_,f1,_,f3,f4,f5⟩:=hf b hb;exact⟨f3,f1,f4,f5⟩
 .obtain⟨o,es,ep,ho,r⟩:=hm;exact⟨o,es,ep,k _ o (fun z=>(hf _ z).2.1 rfl) ho,r⟩
 .refine(I.bS b u e).aL (fun c v hc q=>k c v ?_ q) (fun _ q=>q) fun _ _ q=>q
  rcases hc with z|z
  .rw[z];exact nit b u e
  .exact nit c _ z
theorem Inv.un2 {xs:List V} (I:Inv X pins σ H s) (k:∀b o,b∉fp->s.heap.get? b=some o->h'.get? b=some o) (hf:∀b∈fp,qP X pins H b)
  (hfr:H s.heap.objs.size=none) (hno:s.heap.objs.size∉fp) (new:dC X.prog X.w (upd H s.heap.objs.size (.tup xs)) h' s.heap.objs.size (.tup xs)) (ht:∀b∈fp,∀o,s.heap.get? b=some o->∃o',h'.get? b=some o'):
  Inv X pins σ (upd H s.heap.objs.size (.tup xs)) {s with heap:=h',toks:=t'}:=by
 have nit:∀b u,H b=some u->b∉fp:=fun b u e z=>by rw[(hf b z).1]at e;cases e
 have nT:∀b o,s.heap.get? b=some o->b≠s.heap.objs.size:=fun b o e=>cw (cv e)
 refine I.step (g':=s.gens) (d':=s.drawn) (ch:=fp) (fun b hb=>?_) (fun b o _ _ hc e _=>k b o hc e) (fun b o _ _ hc e _=>⟨o.slots,k b o hc e⟩) (fun b o _ e n=>by rw[aQ (nT b o e)];exact n)
  (fun b o hc e=>⟨o,k b o hc e⟩) (fun b ys e=>by rw[aQ (bJ e hfr)];exact e) (fun b o u e=>by rw[aQ (bJ e hfr)];exact e) (fun b ps e=>⟨#[],by rw[aQ (bJ e hfr),e];simp⟩) (fun m hm=>?_) (fun b u e=>?_) I.bare
 .obtain⟨_,f1,_,f3,f4,f5⟩:=hf b hb;exact⟨f3,f1,f4,f5⟩
 .obtain⟨o,es,ep,ho,r⟩:=hm;exact⟨o,es,ep,k _ o (fun z=>(hf _ z).2.1 rfl) ho,r⟩
 .by_cases hb:b=s.heap.objs.size
  .subst hb;rw[aU]at e;cases e;exact new
  .rw[aQ hb]at e;refine(I.bS b u e).aL (fun c v hc q=>k c v ?_ q) (fun c q=>by rw[aQ (bJ q hfr)];exact q) fun c ys q=>by rw[aQ (bJ q hfr)];exact q
   rcases hc with z|z
   .rw[z];exact nit b u e
   .exact nit c _ z
noncomputable def Ite (K:Frag) (a:Addr):It:=
 ⟨fun i H=>∃xs x,pK K H a xs/\xs[i]? =some x,fun i H v H'=>∃t,H t=none/\v= .ref t/\∀xs,pK K H a xs->∃x,xs[i]? =some x/\H'=upd H t (.tup [.int i,x]),fun i H=>∃xs,pK K H a xs/\xs.length=i⟩
theorem DI {P:Program} {w:World} {K:Frag} {elts:List Expr} {x1} (a it e:Addr) (hei:e≠it):Turn P w K (.Tuple elts x1 pos) (Ite K a) [e,it] e (fun i h=>(∃old,IsEnum h e it i old)/\h.IsTupleIter it a i)where
 mem:=by simp
 obj:=fun i h st b hb=>by
  obtain⟨⟨old,he⟩,o,ho,c,d⟩:=st;rcases br.mp hb with z|z
  .subst z;exact⟨_,he,fun v z=>by cases z⟩
  .have z:b=it:=by simpa using z
   subst z;exact⟨o,ho,fun v z=>by rw[d]at z;cases z⟩
 keep:=fun i h h' st k=>⟨let⟨old,he⟩:=st.1;⟨old,k e (by simp) _ he⟩,st.2.at fun o q=>k it (by simp) o q⟩
 item:=by
  intro X hP hw hK hc i pins s σ H E I hf st hg;subst hP hw hK;obtain⟨xs,x,hq,hx⟩:=hg;obtain⟨its,rv,p,hz⟩:=I.tuple hq;obtain⟨u,hu,ru⟩:=rv.get hx;obtain⟨⟨old,he⟩,ht⟩:=st;have hne:a≠it:=fun z=>by
   obtain⟨o,ho,c,_⟩:=ht;obtain⟨o',ho',c',_⟩:=p;subst z;rw[ho]at ho';cases ho'
   rw[c]at c';exact absurd (Value.type.inj c') (by decide)
  have hae:a≠e:=fun z=>by
   obtain⟨o',ho',c',_⟩:=p;subst z;rw[he]at ho';cases ho'
   exact absurd (Value.type.inj c') (by decide)
  have hlt:i<its.toArray.size:=by have:=(ae.mp hu).1;simpa using this
  refine wpAny_pyNext_enum_itemD (jO (A:=X.A.in1) (by exact I.ok.hd hc) it a hne its.toArray) he ⟨ht,p⟩ hlt hei (by simp[hei,Ne.symm hae]) fun v h' tk hPv ho' st' htup hsz hk=>?_
  have ev:v=u:=by
   have h1:its[i]? =some v:=by simpa using hPv
   rw[hu]at h1;exact(Option.some.inj h1).symm
  subst ev;refine⟨_,rfl,wpAny_letOwnedTupleGo_enum (s:={s with heap:=h',toks:=tk+1}) ho' fun h2 he2 sb=>?_⟩;have hTe:s.heap.objs.size≠e:=fun z=>by
   have:=cv he;rw[<-z]at this;exact lj _ this
  have hTi:s.heap.objs.size≠it:=fun z=>by
   obtain⟨o,ho,_⟩:=ht;have:=cv ho;rw[<-z]at this;exact lj _ this
  have hk2:∀b o,b∉[e,it]->s.heap.get? b=some o->h2.get? b=some o:=fun b o hb q=>
   sb.extBut b o (fun z=>hb (by simp[z])) (hk b o (fun z=>hb (by simp[z])) (fun z=>hb (by simp[z])) q)
  have I1:Inv X pins σ H {s with heap:=h2,toks:=tk+1}:=I.FF hk2 hf;have hfr:H s.heap.objs.size=none:=I.bS.fresh (bj _);have htup2:h2.get? s.heap.objs.size=some {cls:=.type "tuple",data:=.seq #[.int i tk,v]}:=sb.extBut _ _ hTe htup;have I2:Inv X pins σ (upd H s.heap.objs.size (.tup [.int i,x])) {s with heap:=h2,toks:=tk+1}:=by
   refine I.un2 hk2 hf hfr (by simp[hTe,hTi]) ⟨by show 2<=sizeLine;decide,[.int i tk,v],.cons ⟨_,rfl⟩ (.cons ru .nil),tE.of htup2⟩ (fun b hb o q=>?_);rcases br.mp hb with r|r
   .subst r;exact⟨_,he2⟩
   .have r:b=it:=by simpa using r
    subst r;obtain⟨o',ho',_⟩:=st'.1.extBut sb.extBut (Ne.symm hei);exact⟨o',ho'⟩
  refine⟨.ref s.heap.objs.size,_,I2,rfl,⟨s.heap.objs.size,hfr,rfl,fun ys hy=>⟨x,by rw[I.wN hy hq];exact hx,rfl⟩⟩,⟨⟨_,he2⟩,st'.1.extBut sb.extBut (Ne.symm hei)⟩,fun b hb=>?_⟩;have hbT:b≠s.heap.objs.size:=fun z=>by
   rcases br.mp hb with r|r
   .exact hTe (z▸r)
   .have r:b=it:=by simpa using r
    exact hTi (z▸r)
  rw[aQ hbT];exact(hf b hb).1
 done:=by
  intro X hP hw hK hc i pins s σ H E I hf st hg;subst hP hw hK;obtain⟨xs,hq,hx⟩:=hg;obtain⟨its,rv,p,hz⟩:=I.tuple hq;obtain⟨⟨old,he⟩,ht⟩:=st;have hl:=rv.length;have hne:a≠it:=fun z=>by
   obtain⟨o,ho,c,_⟩:=ht;obtain⟨o',ho',c',_⟩:=p;subst z;rw[ho]at ho';cases ho'
   rw[c]at c';exact absurd (Value.type.inj c') (by decide)
  have ei:(i:Nat)=its.toArray.size:=by simp;omega
  subst ei;obtain⟨f0,f1,f2,f3,f4,f5⟩:=hf it (by simp);exact wpAny_pyNext_enum_endD (jO (A:=X.A.in1) (by exact I.ok.hd hc) it a hne its.toArray) he ⟨ht,p⟩ fun h' eb=>⟨rfl,I.turned (t':=s.toks) (fun b o hb e=>eb b o hb e) f0 f1 f3 f4 f5⟩
 self:=fun _ _ _ _ _ st h=>let⟨_,he⟩:=st.1;wpAny_pyIter_enum he h
section
variable {X:Cx} {k:Nat}
theorem ixL (K:Frag) (h:X.K=K:=by rfl):CQ X (WL K):=h▸QV
theorem ixT (K:Frag) (h:X.K=K:=by rfl):CQ X (WO K):=h▸XC
theorem slL (K:Frag) (h:X.K=K:=by rfl):G1 X (XO K):=h▸O1
theorem YU (K:Frag) (h:X.K=K:=by rfl):MtR X "str.join" (rJoin K):=h▸RX
theorem iC (K:Frag) {j:Nat} {t:DE} {n:Nat} (hc:X.calm=true) (h:ZG X es t) (hK:X.K=K:=by rfl)
  (hn:(assignEach es X.env).length=n:=by rfl) (hst:(assignEach es X.env).findIdx? (·.1)=none:=by rfl):PG X (.Tuple es j pos) (I0 K n t):=hK▸XB hc h hn hst
theorem eG (K:Frag) {o e:Expr} {to:TE} {t:TA} {name:Str} {apos cpos:Pos} {T id:String} {r:V->List V->Hp->VK->Prop} (pa:PlainAttrs T) (slot:Slot T name id) (hty:typeOf (.builtin id)=pure (.type "method_descriptor")) (hm:MtR X id r) (ho:PE X o to) (ha:PA X (e::es) t) (hK:X.K=K:=by rfl)
  (hbase:attributeBase o name X.env (eval o X.env)=eval o X.env:=by rfl)
  (hfew:((backTo cpos (starEach (e::es) X.env)).all (fun x=>!x.1) && (backToKw cpos (keywordEach [] X.env)).all (fun x=>x.1.isSome)
   && decide ((e::es).length+([]:List Keyword).length+(if([]:List Keyword).isEmpty then 0 else 1)<30))=true:=by rfl)
  (hline:(apos.endLine==cpos.line)=true:=by rfl) (hs:starEach (e::es) X.env=(false,eval e X.env)::starEach es X.env:=by rfl) (hplain:(backTo cpos (starEach es X.env)).any (·.1)=false:=by rfl):
  PE X (.Call (.Attribute o name apos) (e::es) [] cpos) (YE K T r to t):=hK▸ZI pa slot hty hm ho ha hbase hfew hline hs hplain
end
inductive Kd where
 |bH|bl|int|str|lst|tup|a9
 deriving DecidableEq
noncomputable def Kd.nm:Kd->String
 | .bH=>"NoneType"| .bl=>"bool"| .int=>"int"| .str=>"str"| .lst=>"list"| .tup=>"tuple"| .a9=>"dict"
end L2
namespace HT
open PySem PySem.Spec PyProof.Rows
variable {t:Addr} {Q:Value->Shared->Prop}
section
variable {prog:Program} {w:World} {A:Around} {E:Value->Shared->Prop} {s:Shared}
theorem qK {sl:Addr} {items:Array Value} {vl vu:Value} {lo hi:Option Int} (ht:IsTup s.heap t items) (hs:s.heap.IsSliceOf sl vl vu .none) (pl:IsPart vl lo) (pu:IsPart vu hi)
  (hw:dG items.size 0 lo=0/\dG items.size items.size hi=items.size) (h:Q (.ref t) s):wpAny (model prog w) A (getItem (.ref t) (.ref sl)) Q E s:=by
 obtain⟨os,hos,hcs,hds⟩:=id hs;have hTs:s.TypeIs (.ref sl) "slice":=⟨os,hos,hcs⟩;unfold getItem
 try with_reducible refine ig ?_
 first|refine af (ay ?_)|skip
 refine af (wpAny_sequenceKey ht.typeIs (by decide) ?_);refine af (me (name:=Str.ofString "__getitem__") ht.typeIs jb
  (iz jb ht.typeIs entry_tuple_getitem ?_ (args_tuple_getitem _ _)))
 show wpAny _ _ (Builtin.Tuple.tupleItemsOf (.ref t)>>=_) _ _ s;refine af (tupleItemsOf_ ht ?_);refine af (wpAny_typeOf hTs ?_);rw[ai (by decide)];refine af (jW hs pl pu ?_);have hyes:(((dG items.size 0 lo:Nat):Int)==0 && (1:Int)==1 && (dG items.size items.size hi - dG items.size 0 lo)==items.size)=true:=by
  rw[hw.1,hw.2];simp
 show wpAny _ _ (if(((dG items.size 0 lo:Nat):Int)==0 && (1:Int)==1 && (dG items.size items.size hi - dG items.size 0 lo)==items.size)=true then _ else _) _ _ s;rw[ai hyes];refine af (af (wpAny_typeOf ht.typeIs (ay ?_)));rw[ai (by decide)];refine af (wpAny_rule ?_)
 first
  |exact ay ⟨_,rfl,ay h⟩
  |exact af (ay ⟨_,rfl,ay h⟩)
theorem QG {b:Addr} {vs ws:List Value} (ht:IsTup s.heap t vs.toArray) (hb:IsTup s.heap b ws.toArray)
  (h0:vs=[]->Q (.ref b) s) (h1:ws=[]->Q (.ref t) s) (h2:vs≠[]->ws≠[]->Q (.ref s.heap.objs.size) {s with heap:=s.heap.push {cls:=.type "tuple",data:=.seq (vs++ws).toArray}})
  (hsz:vs.length+ws.length<=sizeLine):wpAny (model prog w) A (binaryOp .Add (.ref t) (.ref b)) Q E s:=by
 by_cases hv:vs=[]
 .obtain⟨⟨cls,dd,data,sl⟩,ho,hc,n,hd⟩:=id ht;obtain⟨⟨cls2,dd2,data2,sl2⟩,ho2,hc2,n2,hd2⟩:=id hb;simp only at hc hd hc2 hd2;subst hc hd hc2 hd2;exact concat_meets ⟨_,ho,rfl⟩ ⟨_,ho2,rfl⟩ noFill_tuple_add seq_tuple_add slot_tuple_add entry_tuple_add (args_tuple_add_2 _ _)
   (tuple_addW0 t b vs.toArray ws.toArray n n2 dd dd2 sl sl2 (by simp[hv])) ⟨ho,ho2,h0 hv⟩
 .exact SG ht hb hv h1 (h2 hv) hsz
end
end HT
namespace L2
open PySem PySem.Spec PyProof.Rows
variable {a b:Addr} {p:Array Nat} {X:Cx} {h':Heap} {H H':Hp} {pins:List (Addr×Obj)} {xs:List (List Key×Addr×Value)} {kvs:List (List Key×V)} {ep i j n:Nat} {pos py spos:Pos} {P:Program} {s:Shared} {σ:St} {y:Str} {u:Value} {Q:Value->Shared->Prop} {w:World}
section
variable {X:Cx}
def SW (i j:Int):Prop:=0<j/\j<2^200
theorem uP:g9 X (binaryOp .FloorDiv) (rI SW fun i j=>.int (i / j)):=ZA fun i j _ _ _ _ _ hc q=>by
 have h1:(0:Int)<j:=hc.1;have h2:j<2^200:=hc.2;refine floordiv_int (by omega) (by rw[Int.fdiv_eq_ediv_of_nonneg i (by omega)];exact q) (.inl (PyProof.noPylong_of_log2 ?_));have h3:j.natAbs<2^200:=by omega
 have h4:j.natAbs.log2<200:=(Nat.log2_lt (by omega)).mpr h3;omega
end
section
variable {κ:Type} [DecidableEq κ]
noncomputable def dB (kvs:List (κ×V)) (k:κ):Option V:=(kvs.find? fun kv=>decide (kv.1=k)).map (·.2)
noncomputable def putK (kvs:List (κ×V)) (k:κ) (v:V):List (κ×V):=
 if(kvs.any fun kv=>decide (kv.1=k))=true then kvs.map (fun kv=>if kv.1=k then(kv.1,v)else kv)else kvs++[(k,v)]
theorem uF {p:κ×V} {r:List (κ×V)} {k:κ} (e:p.1=k):dB (p::r) k=some p.2:=by simp[dB,find?_cons,e]
theorem uN {p:κ×V} {r:List (κ×V)} {k:κ} (e:¬p.1=k):dB (p::r) k=dB r k:=by simp[dB,find?_cons,e]
theorem CF (k:κ):∀kvs:List (κ×V),(kvs.any fun kv=>decide (kv.1=k))=(dB kvs k).isSome
 |[]=>rfl
 |p::r=>by
  rw[any_cons]
  by_cases e:p.1=k
  .simp only[uF e,decide_eq_true e,Bool.true_or,Option.isSome_some]
  .rw[uN e,decide_eq_false e,Bool.false_or];exact CF k r
theorem hZ (kvs:List (κ×V)) (k:κ) (v:V):(putK kvs k v).length<=kvs.length+1:=by
 unfold putK;split
 .rw[aj];omega
 .rw[bq,length_cons,length_nil];omega
theorem sZ.jP {o:Option V} {u:Option Value} (r:sZ o u):o.isSome=u.isSome:=by
 cases o with
 |none=>cases u with
  |none=>rfl
  |some _=>exact(show False from r).elim
 |some _=>cases u with
  |none=>exact(show False from r).elim
  |some _=>rfl
theorem sZ.getD {o:Option V} {u:Option Value} {d:V} {d':Value} (r:sZ o u) (rd:RelV d d'):RelV (o.getD d) (u.getD d'):=by
 cases o with
 |none=>cases u with
  |none=>exact rd
  |some _=>exact(show False from r).elim
 |some _=>cases u with
  |none=>exact(show False from r).elim
  |some _=>exact r
theorem KV.val {kvs:List (κ×V)} {vs:List (κ×Value)} (r:KV kvs vs) (k:κ):sZ (dB kvs k) (valueAt vs k):=by
 unfold KV at r
 induction r with
 |nil=>exact True.intro
 | @cons p q ps qs h t ih=>
  obtain⟨h1,h2⟩:=h
  by_cases e:p.1=k
  .have e':q.1=k:=h1.symm.trans e;have b:valueAt (q::qs) k=some q.2:=by simp[valueAt,find?_cons,e']
   rw[uF e,b];exact h2
  .have e':¬q.1=k:=fun z=>e (h1.trans z)
   have b:valueAt (q::qs) k=valueAt qs k:=by simp[valueAt,find?_cons,e']
   rw[uN e,b];exact ih
theorem KV.any {kvs:List (κ×V)} {vs:List (κ×Value)} (r:KV kvs vs) (k:κ):(kvs.any fun kv=>decide (kv.1=k))=vs.any fun kv=>decide (kv.1=k):=by
 unfold KV at r
 induction r with
 |nil=>rfl
 |cons h t ih=>rw[any_cons,any_cons,ih,h.1]
theorem KV.CT {kvs:List (κ×V)} {vs:List (κ×Value)} (r:KV kvs vs) (k:κ) {y:V} (ry:RelV y u):
  KV (kvs.map fun kv=>if kv.1=k then(kv.1,y)else kv) (vs.map fun kv=>if kv.1=k then(kv.1,u)else kv):=by
 unfold KV at r⊢
 induction r with
 |nil=>exact .nil
 | @cons p q ps qs h t ih=>
  rw[cq,cq];refine .cons ?_ ih;obtain⟨h1,h2⟩:=h
  by_cases e:p.1=k
  .rw[ai e,ai (h1.symm.trans e)];exact⟨h1,ry⟩
  .rw[ah e,ah (fun z=>e (h1.trans z))];exact⟨h1,h2⟩
theorem KV.put {kvs:List (κ×V)} {vs:List (κ×Value)} (r:KV kvs vs) (k:κ) {y:V} (ry:RelV y u):KV (putK kvs k y) (stored vs k u):=by
 unfold putK stored;rw[r.any k]
 by_cases e:(vs.any fun kv=>decide (kv.1=k))=true
 .rw[ai e,ai e];exact r.CT k ry
 .rw[ah e,ah e];exact Paired.snoc r ⟨rfl,ry⟩
theorem KV.keys {kvs:List (κ×V)} {vs:List (κ×Value)} (r:KV kvs vs):kvs.map (·.1)=vs.map (·.1):=by
 unfold KV at r
 induction r with
 |nil=>rfl
 |cons h t ih=>rw[cq,cq,ih,h.1]
theorem KV.length {kvs:List (κ×V)} {vs:List (κ×Value)} (r:KV kvs vs):kvs.length=vs.length:=Paired.length r
end
theorem qU {k:Key} {u:Value} (r:RelV (kV k) u):(bU P w).is k u=true:=by
 cases k with
 |inl i=>obtain⟨t,e⟩:=(show∃t,u=Value.int i t from r);subst e;exact BZ P w i t
 |inr x=>obtain⟨t,e⟩:=(show∃t,u=Value.str x t from r);subst e;exact BH P w x t
theorem xC:∀{ks:List Key} {us:List Value},Vals (ks.map kV) us->ItemsAre (bU P w) ks us
 |[],_,r=>by rw[map_nil]at r;cases r;exact .nil
 |k::ks,_,r=>by
  rw[cq]at r;cases r with
  |cons h t=>exact .cons (qU h) (xC t)
abbrev KT (H:Hp):List (List Key×V)->List (List Key×Addr×Value)->Prop:=Paired fun p q=>p.1=q.1/\H q.2.1=some (.tup (p.1.map kV))/\RelV p.2 q.2.2
theorem KT.val (r:KT H kvs xs) (k:List Key):sZ (dB kvs k) ((atKey xs k).map (·.2)):=by
 induction r with
 |nil=>exact True.intro
 | @cons p q ps qs h t ih=>
  obtain⟨h1,_,h2⟩:=h
  by_cases e:p.1=k
  .have e':q.1=k:=h1.symm.trans e;have b:atKey (q::qs) k=some q.2:=by simp[atKey,find?_cons,e']
   rw[uF e,b];exact h2
  .have e':¬q.1=k:=fun z=>e (h1.trans z)
   have b:atKey (q::qs) k=atKey qs k:=by simp[atKey,find?_cons,e']
   rw[uN e,b];exact ih
theorem KT.CT (r:KT H kvs xs) (k:List Key) {y:V} (ry:RelV y u):
  KT H (kvs.map fun kv=>if kv.1=k then(kv.1,y)else kv) (xs.map (putAt k u)):=by
 induction r with
 |nil=>exact .nil
 | @cons p q ps qs h t ih=>
  rw[cq,cq];refine .cons ?_ ih;obtain⟨h1,h2,h3⟩:=h;unfold putAt
  by_cases e:p.1=k
  .rw[ai e,ai (h1.symm.trans e)];exact⟨h1,h2,ry⟩
  .rw[ah e,ah (fun z=>e (h1.trans z))];exact⟨h1,h2,h3⟩
theorem KT.put (r:KT H kvs xs) (k:List Key) {y:V} (hb:H b=some (.tup (k.map kV))) (ry:RelV y u):
  KT H (putK kvs k y) (storedH xs k b u):=by
 have e:(kvs.any fun kv=>decide (kv.1=k))=(atKey xs k).isSome:=by
  rw[CF,(r.val k).jP,isSome_map]
 unfold putK storedH;rw[e]
 by_cases q:(atKey xs k).isSome=true
 .rw[ai q,ai q];exact r.CT k ry
 .rw[ah q,ah q];exact Paired.snoc r ⟨rfl,hb,ry⟩
theorem KT.keeps (r:KT H kvs xs) (ht:∀b ys,H b=some (.tup ys)->H' b=some (.tup ys)):KT H' kvs xs:=
 Paired.VW r fun _ _ z=>⟨z.1,ht _ _ z.2.1,z.2.2⟩
def E4 (H:Hp) (a:Addr) (kvs:List (Key×V)):Prop:=∃ep,Rd H a (.dK kvs ep)
def vH (H:Hp) (a:Addr) (kvs:List (Key×V)):Prop:=∃ep,H a=some (.dK kvs ep)
theorem vH.rd {kvs:List (Key×V)} (h:vH H a kvs):E4 H a kvs:=let⟨ep,e⟩:=h;⟨ep,.inl e⟩
theorem vH.mut {kvs:List (Key×V)} (h:vH H a kvs):YC (H a):=by obtain⟨_,e⟩:=h;rw[e];exact True.intro
section
variable {P:Program} {w:World} {H:Hp} {h:Heap} {a:Addr}
theorem SO {u:HO} (ok:nW P w H h) (e:Rd H a u):dC P w H h a u:=e.ok ok
theorem GC {kvs:List (Key×V)} (ok:nW P w H h) (e:Rd H a (.dK kvs ep)):kvs.length<=sizeLine/\(a==sysModules)=false/\∃vs,KV kvs vs/\h.DictAt (bU P w) a vs ep:=
 show dC P w H h a (.dK kvs ep)from SO ok e
theorem nC {kvs:List (Key×V)} (ok:nW P w H h) (e:E4 H a kvs):kvs.length<=sizeLine/\(a==sysModules)=false/\∃vs,KV kvs vs/\h.DictOf (bU P w) a vs:=
 let⟨_,e⟩:=e;let⟨z,y,vs,r,d⟩:=GC ok e;⟨z,y,vs,r,d.dictOf⟩
theorem MP {kvs:List (Key×V)} (ok:nW P w H h) (e:vH H a kvs):kvs.length<=sizeLine/\(a==sysModules)=false/\∃vs,KV kvs vs/\h.DictOf (bU P w) a vs:=nC ok e.rd
theorem oO {ks:List Key} (ok:nW P w H h) (e:H a=some (.tup (ks.map kV))):(tupleKind (bU P w)).is h ks a:=by
 obtain⟨_,its,r,⟨o,h1,h2,n,h3⟩,_⟩:=(show dC P w H h a (.tup (ks.map kV))from ok a _ e);exact⟨o,its.toArray,n,h1,h2,h3,by simpa using xC r⟩
theorem sM {kvs:List (List Key×V)} (ok:nW P w H h) (e:Rd H a (.dT kvs)):kvs.length<=sizeLine/\(a==sysModules)=false/\
  ∃xs,KT H kvs xs/\h.DictOfH (tupleKind (bU P w)) a xs:=by
 obtain⟨z,y,xs,r,o,es,ep,h1,h2,h3,h4,h5⟩:=(show dC P w H h a (.dT kvs)from SO ok e);refine⟨z,y,xs,r,o,es,ep,h1,h2,h3,h4,fun x hx=>?_,h5⟩;have all:∀{l:List (List Key×V)} {m:List (List Key×Addr×Value)},KT H l m->∀x∈m,(tupleKind (bU P w)).is h x.1 x.2.1:=by
  intro l m q
  induction q with
  |nil=>intro x hx;exact nomatch hx
  | @cons p q ps qs hq t ih=>
   intro x hx;rcases br.mp hx with e|hx
   .subst e;exact oO ok (by rw[<-hq.1];exact hq.2.1)
   .exact ih x hx
 exact all r x hx
theorem aaG (ok:nW P w H h) (e:H a=some (.dT kvs)):kvs.length<=sizeLine/\(a==sysModules)=false/\
  ∃xs,KT H kvs xs/\h.DictOfH (tupleKind (bU P w)) a xs:=sM ok (.inl e)
end
def zO (H:Hp) (a:Addr) (y:V) (r:Option V):Prop:=
 (∃kvs k,E4 H a kvs/\y=kV k/\r=dB kvs k)\/ ∃kvs k b,Rd H a (.dT kvs)/\y= .ref b/\H b=some (.tup (k.map kV))/\r=dB kvs k
def YW (H:Hp) (a:Addr) (y v:V) (Q:Hp->Prop):Prop:=
 (∃kvs k,vH H a kvs/\y=kV k/\kvs.length<sizeLine/\∀ep,Q (upd H a (.dK (putK kvs k v) ep)))\/
 ∃kvs k b,H a=some (.dT kvs)/\y= .ref b/\H b=some (.tup (k.map kV))/\kvs.length<sizeLine/\Q (upd H a (.dT (putK kvs k v)))
section
variable {X:Cx} {pins:List (Addr×Obj)} {σ:St} {H:Hp} {s:Shared} {a:Addr} {y v:V} {u r:Value} {o:Option V} {A:Around} {E:Value->Shared->Prop}
theorem Inv.big (I:Inv X pins σ H s):sysModules<s.heap.objs.size:=by
 have h:mainGlobals<s.heap.objs.size:=(I.mod.glob.keeps I.bk).lt;exact lt_trans (by decide) h
theorem G3 (hu:A.units+1<cLine) (I:Inv X pins σ H s) (g:zO H a y (some v)) (ry:RelV y u) (h:∀w' s',Inv X pins σ H s'->RelV v w'->Q w' s'):
  wpAny (model X.prog X.w) A (getItem (.ref a) u) Q E s:=by
 rcases g with⟨kvs,k,e,ey,l⟩|⟨kvs,k,b,e,ey,eb,l⟩
 .subst ey;obtain⟨z,hd,vs,rel,dd⟩:=nC I.bS e;obtain⟨w',hw,rw'⟩:=sZ.some_of (v:=v) (o:=valueAt vs k) (by rw[l];exact rel.val k);exact wpAny_getItem_of (qU ry) dd.mapOf hw (h w' _ (I.tok _) rw')
 .subst ey;cases(show u=Value.ref b from ry);obtain⟨z,hd,xs,rel,dd⟩:=sM I.bS e;obtain⟨w',hw,rw'⟩:=sZ.some_of (v:=v) (o:=(atKey xs k).map (·.2)) (by rw[l];exact rel.val k);obtain⟨p,hp,hp2⟩:=cu.mp hw;refine wpAny_getItem_heap (jw hu) (oO I.bS eb) dd hp ?_;rw[hp2];exact h w' _ (I.tok _) rw'
theorem acG (hu:A.units+1<cLine) (I:Inv X pins σ H s) (g:zO H a y o) (ry:RelV y u) (h:∀s',Inv X pins σ H s'->Q (.bool o.isSome) s'):
  wpAny (model X.prog X.w) A (compareOp .In u (.ref a)) Q E s:=by
 rcases g with⟨kvs,k,e,ey,l⟩|⟨kvs,k,b,e,ey,eb,l⟩
 .subst ey;obtain⟨z,hd,vs,rel,dd⟩:=nC I.bS e;refine wpAny_in_of (qU ry) hd dd.mapOf ?_;rw[<-(rel.val k).jP,<-l];exact h _ (I.tok _)
 .subst ey;cases(show u=Value.ref b from ry);obtain⟨z,hd,xs,rel,dd⟩:=sM I.bS e;refine wpAny_in_heap (jw hu) (oO I.bS eb) hd dd ?_;have q:=(rel.val k).jP;rw[isSome_map]at q;rw[<-q,<-l];exact h _ (I.tok _)
theorem O2 (hu:A.units+1<cLine) (I:Inv X pins σ H s) (g:zO H a y o) (ry:RelV y u) (h:∀s',Inv X pins σ H s'->Q (.bool (!o.isSome)) s'):
  wpAny (model X.prog X.w) A (compareOp .NotIn u (.ref a)) Q E s:=by
 rcases g with⟨kvs,k,e,ey,l⟩|⟨kvs,k,b,e,ey,eb,l⟩
 .subst ey;obtain⟨z,hd,vs,rel,dd⟩:=nC I.bS e;refine wpAny_notIn_of (qU ry) hd dd.mapOf ?_;rw[<-(rel.val k).jP,<-l];exact h _ (I.tok _)
 .subst ey;cases(show u=Value.ref b from ry);obtain⟨z,hd,xs,rel,dd⟩:=sM I.bS e;refine wpAny_notIn_heap (jw hu) (oO I.bS eb) hd dd ?_;have q:=(rel.val k).jP;rw[isSome_map]at q;rw[<-q,<-l];exact h _ (I.tok _)
theorem tU {t':Nat} {ob:HO} (I:Inv X pins σ H s) (mu:YC (H a)) (hs:Heap.SameBut a s.heap h') (he:∃q,h'.get? a=some q) (new:dC X.prog X.w (upd H a ob) h' a ob):
  Inv X pins σ (upd H a ob) {s with heap:=h',toks:=t'}:=
 I.write (x:=a) (e:=a) mu (.inl rfl) (fun b q hb z=>(hs.2 b hb).trans z) he new
theorem D0 {kvs:List (Key×V)} {vs:List (Key×Value)} (z:kvs.length<=sizeLine) (hd:(a==sysModules)=false) (rel:KV kvs vs) (dd:h'.DictAt (bU P w) a vs ep):
  dC P w H' h' a (.dK kvs ep):=⟨z,hd,vs,rel,dd⟩
theorem GZ {Z:Hp->Prop} {Q:Unit->Shared->Prop} (hu:A.units+1<cLine) (I:Inv X pins σ H s) (g:YW H a y v Z) (ry:RelV y u) (rv:RelV v r) (h:∀H' s',Inv X pins σ H' s'->Z H'->Q () s'):
  wpAny (model X.prog X.w) A (setItem (.ref a) u r) Q E s:=by
 rcases g with⟨kvs,k,e,ey,l,eH⟩|⟨kvs,k,b,e,ey,eb,l,eH⟩
 .subst ey;obtain⟨z,hd,vs,rel,dd⟩:=MP I.bS e;have hz:vs.length<=sizeLine:=by rw[<-rel.length];exact z
  have hl:(putK kvs k v).length<=sizeLine:=by have:=hZ kvs k v;omega
  refine wpAny_setItem_pairs (hsz:=hz) (qU ry) dd fun h' dd' hs=>?_
  obtain⟨ep,da⟩:=dd'.dictAt;refine h _ _ ?_ (eH ep);have he:∃q,h'.get? a=some q:=let⟨q,_,_,hq,_⟩:=dd';⟨q,hq⟩
  exact tU I e.mut hs he (D0 hl hd (rel.put k rv) da)
 .subst ey;cases(show u=Value.ref b from ry);obtain⟨z,hd,xs,rel,dd⟩:=aaG I.bS e;have hz:xs.length<=sizeLine:=by rw[<-Paired.length rel];exact z
  have hl:(putK kvs k v).length<=sizeLine:=by have:=hZ kvs k v;omega
  refine wpAny_setItem_heap (hsz:=hz) (jw hu) (oO I.bS eb) dd fun h' dd' hs=>h _ _ ?_ eH
  obtain⟨q,es,ep,hq,h2,h3,h4,_,h5⟩:=dd';refine tU I (by rw[e];exact True.intro) hs ⟨q,hq⟩ ⟨hl,hd,_,(rel.put k eb rv).keeps fun c ys ec=>?_,q,es,ep,hq,h2,h3,h4,h5⟩;rw[aQ (J3 ec e (fun z=>nomatch z))];exact ec
end
theorem BU {y:V} {o:Option V} (I:Inv X pins σ H s) (g:zO H a y o):s.TypeIs (.ref a) "dict":=by
 rcases g with⟨kvs,k,e,_,_⟩|⟨kvs,k,b,e,_,_,_⟩
 .obtain⟨_,_,vs,_,dd⟩:=nC I.bS e;exact dd.typeIs
 .obtain⟨_,_,xs,_,dd⟩:=sM I.bS e;exact dd.typeIs
def iL (td ty tv:TE):TS:=fun D σ H=>tv σ H fun v H1=>td σ H1 fun x H2=>ty σ H2 fun y H3=>∃a,x= .ref a/\YW H3 a y v (D.nx σ)
section
variable {X:Cx} {o i e value:Expr} {pos pos' tpos:Pos} {td ty tv:TE}
theorem iE (hu:X.A.units+1<cLine) (ho:PE X o td) (hi:PE X i ty) (hv:PE X value tv) (hs:swapsWith value (some (.Subscript o i pos')) pos.line X.env=pure false):
  PS X (.Assign [.Subscript o i pos'] value pos) (iL td ty tv):=by
 intro pins s σ H D I h;refine wpAny_Assign_Subscript (cD (hv pins s σ H _ I h) fun r s1 ⟨v,H1,I1,rv,q1⟩=>cD (ho pins s1 σ H1 _ I1 q1) fun u s2 ⟨x,H2,I2,rx,q2⟩=>cD (hi pins s2 σ H2 _ I2 q2) fun iv s3 ⟨y,H3,I3,ry,a,ex,g⟩=>?_) hs;subst ex;obtain rfl:u=Value.ref a:=rx;exact GZ hu I3 g ry rv fun H4 s4 I4 q3=>⟨σ,H4,I4,q3⟩
end
theorem NU (h:Heap) (hb:sysModules<h.objs.size):dC P w H (h.push {cls:=.type "dict",data:=.dict #[]}) h.objs.size (.dK [] 0):=
 ⟨eh _,beq_eq_false_iff_ne.mpr (Ne.symm (cw hb)),[],.nil,_, #[],dc _ rfl,⟨rfl,rfl,rfl⟩,rfl,(fun _ he=>by simp at he),PySem.Pairs.nil,nodup_nil⟩
def DL:TE:=fun _ H Q=>∀p,H p=none->Q (.ref p) (upd H p (.dK [] 0))
section
variable {X:Cx} {pos:Pos}
theorem mG:PE X (.Dict [] [] pos) DL:=fun pins s σ H Q I h=>
 wpAny_Dict_empty ⟨.ref s.heap.objs.size,_,I.laid (a:=s.heap.objs.size) (o:=.dK [] 0) (t':=s.toks) (fun _ _ q=>au _ q) (bj _) (NU s.heap I.big),rfl,h _ (I.bS.fresh (bj _))⟩
end
structure M1 (X:Cx) (o:Expr) (m:Str) (apos:Pos) (e:Expr) (cpos:Pos):Prop where
 base:attributeBase o m X.env (eval o X.env)=eval o X.env
 few:((backTo cpos (starEach [e] X.env)).all (fun x=>!x.1) && (backToKw cpos (keywordEach [] X.env)).all (fun x=>x.1.isSome)
  && decide (([e]:List Expr).length+([]:List Keyword).length+(if([]:List Keyword).isEmpty then 0 else 1)<30))=true
 line:(apos.endLine==cpos.line)=true
 trees:backTo cpos (starEach [e] X.env)=[(false,eval e X.env)]
structure M2 (X:Cx) (o:Expr) (m:Str) (apos:Pos) (e f:Expr) (cpos:Pos):Prop where
 base:attributeBase o m X.env (eval o X.env)=eval o X.env
 few:((backTo cpos (starEach [e,f] X.env)).all (fun x=>!x.1) && (backToKw cpos (keywordEach [] X.env)).all (fun x=>x.1.isSome)
  && decide (([e,f]:List Expr).length+([]:List Keyword).length+(if([]:List Keyword).isEmpty then 0 else 1)<30))=true
 line:(apos.endLine==cpos.line)=true
 trees:backTo cpos (starEach [e,f] X.env)=[(false,eval e X.env),(false,eval f X.env)]
def IsD (H:Hp) (a:Addr):Prop:=(∃kvs,E4 H a kvs)\/ ∃kvs,Rd H a (.dT kvs)
theorem C7 (I:Inv X pins σ H s) (d:IsD H a):
  s.TypeIs (.ref a) "dict"/\(∀b,Value.ref a= .ref b->∃ob,s.heap.get? b=some ob/\ob.dict=none)/\(a==sysModules)=false:=by
 rcases d with⟨kvs,e⟩|⟨kvs,e⟩
 .obtain⟨_,hd,vs,_,dd⟩:=nC I.bS e;refine⟨dd.typeIs,fun b q=>?_,hd⟩;cases q;obtain⟨ob,_,_,h1,h2,_⟩:=dd;exact⟨ob,h1,h2.2.1⟩
 .obtain⟨_,hd,xs,_,dd⟩:=sM I.bS e;refine⟨dd.typeIs,fun b q=>?_,hd⟩;cases q;obtain⟨ob,_,_,h1,h2,_⟩:=dd;exact⟨ob,h1,h2.2.1⟩
section
variable {X:Cx} {pins:List (Addr×Obj)} {σ:St} {H:Hp} {s:Shared} {a:Addr} {y d:V} {u r:Value} {o:Option V} {A:Around} {E:Value->Shared->Prop}
theorem WM (hu:A.units+1<cLine) (I:Inv X pins σ H s) (g:zO H a y o) (ry:RelV y u) (h:∀w' s',Inv X pins σ H s'->RelV (o.getD .bH) w'->Q w' s'):
  wpAny (model X.prog X.w) A (call (.builtin "dict.get") [.ref a,u]) Q E s:=by
 rcases g with⟨kvs,k,e,ey,l⟩|⟨kvs,k,b,e,ey,eb,l⟩
 .subst ey;obtain⟨z,hd,vs,rel,dd⟩:=nC I.bS e;refine call_meetsIn slot_dict_get dd.typeIs entry_dict_get (PySem.F.args_dict_get_2 _ _) (meets_dict_get (bU X.prog X.w) a (qU ry) hd) ⟨_,dd.mapOf,h _ _ (I.tok _) ?_⟩;rw[l];exact(rel.val k).getD rfl
 .subst ey;cases(show u=Value.ref b from ry);obtain⟨z,hd,xs,rel,dd⟩:=sM I.bS e;refine call_meetsIn slot_dict_get dd.typeIs entry_dict_get (PySem.F.args_dict_get_2 _ _) (meetsH_dict_get (tupleKind (bU X.prog X.w)) a b hd) ⟨jw hu,k,xs,oO I.bS eb,dd,h _ _ (I.tok _) ?_⟩;rw[l];exact(rel.val k).getD rfl
theorem WJ (hu:A.units+1<cLine) (I:Inv X pins σ H s) (g:zO H a y o) (ry:RelV y u) (rd:RelV d r) (h:∀w' s',Inv X pins σ H s'->RelV (o.getD d) w'->Q w' s'):
  wpAny (model X.prog X.w) A (call (.builtin "dict.get") [.ref a,u,r]) Q E s:=by
 rcases g with⟨kvs,k,e,ey,l⟩|⟨kvs,k,b,e,ey,eb,l⟩
 .subst ey;obtain⟨z,hd,vs,rel,dd⟩:=nC I.bS e;refine call_meetsIn slot_dict_get dd.typeIs entry_dict_get (PySem.F.args_dict_get_3 _ _ _) (meets_dict_get_default (bU X.prog X.w) a (qU ry) hd r) ⟨_,dd.mapOf,h _ _ (I.tok _) ?_⟩;rw[l];exact(rel.val k).getD rd
 .subst ey;cases(show u=Value.ref b from ry);obtain⟨z,hd,xs,rel,dd⟩:=sM I.bS e;refine call_meetsIn slot_dict_get dd.typeIs entry_dict_get (PySem.F.args_dict_get_3 _ _ _) (meetsH_dict_get_default (tupleKind (bU X.prog X.w)) a b hd r) ⟨jw hu,k,xs,oO I.bS eb,dd,h _ _ (I.tok _) ?_⟩;rw[l];exact(rel.val k).getD rd
end
def JU (td ty:TE):TE:=fun σ H Q=>td σ H fun x H1=>∃a,x= .ref a/\IsD H1 a/\ty σ H1 fun y H2=>∃o,zO H2 a y o/\Q (o.getD .bH) H2
def KS (td ty tx:TE):TE:=fun σ H Q=>td σ H fun x H1=>∃a,x= .ref a/\IsD H1 a/\ty σ H1 fun y H2=>tx σ H2 fun z H3=>∃o,zO H3 a y o/\Q (o.getD z) H3
section
variable {X:Cx} {o e f:Expr} {apos cpos:Pos} {td ty tx:TE}
theorem LW (hu:X.A.units+1<cLine) (ho:PE X o td) (he:PE X e ty) (m:M1 X o "get" apos e cpos):PE X (.Call (.Attribute o "get" apos) [e] [] cpos) (JU td ty):=by
 intro pins s σ H Q I h;refine wpAny_Call_method m.base m.few m.line plainAttrs_dict slot_dict_get type_dict_get (cD (ho pins s σ H _ I h) fun u s1 ⟨x,H1,I1,rx,a,ex,d,q1⟩=>?_);subst ex;obtain rfl:u=Value.ref a:=rx;obtain⟨t1,t2,_⟩:=C7 I1 d;refine⟨t1,t2,?_⟩;rw[m.trees];refine jo rfl (Calls.evalArgs_plain (jv (cD (he pins s1 σ H1 _ I1 q1) fun iv s2 ⟨y,H2,I2,ry,ov,g,q2⟩=>Calls.spliced_nil ?_)));exact WM hu I2 g ry fun w' s3 I3 rw'=>⟨_,H2,I3,rw',q2⟩
theorem BV (hu:X.A.units+1<cLine) (ho:PE X o td) (he:PE X e ty) (hf:PE X f tx) (m:M2 X o "get" apos e f cpos):PE X (.Call (.Attribute o "get" apos) [e,f] [] cpos) (KS td ty tx):=by
 intro pins s σ H Q I h;refine wpAny_Call_method m.base m.few m.line plainAttrs_dict slot_dict_get type_dict_get (cD (ho pins s σ H _ I h) fun u s1 ⟨x,H1,I1,rx,a,ex,d,q1⟩=>?_);subst ex;obtain rfl:u=Value.ref a:=rx;obtain⟨t1,t2,_⟩:=C7 I1 d;refine⟨t1,t2,?_⟩;rw[m.trees];refine jo rfl (Calls.evalArgs_plain (jv (cD (he pins s1 σ H1 _ I1 q1) fun iv s2 ⟨y,H2,I2,ry,q2⟩=>
  jv (cD (hf pins s2 σ H2 _ I2 q2) fun fv s3 ⟨z,H3,I3,rz,ov,g,q3⟩=>Calls.spliced_nil ?_))))
 exact WJ hu I3 g ry rz fun w' s4 I4 rw'=>⟨_,H3,I4,rw',q3⟩
end
section
variable {X:Cx} {es:List Expr} {te:TE} {t:TA}
theorem abL {a b c} (ha:PE X (.Constant a b c) te) (hr:PA X es t):PA X (.Constant a b c::es) (dD te t):=aA ha hr rfl
theorem abC {a b} (ha:PE X (.Name a b) te) (hr:PA X es t):PA X (.Name a b::es) (dD te t):=aA ha hr rfl
theorem acS {a b} (ha:PE X (.List a b) te) (hr:PA X es t):PA X (.List a b::es) (dD te t):=aA ha hr rfl
theorem abX {a b c d} (ha:PE X (.Call a b c d) te) (hr:PA X es t):PA X (.Call a b c d::es) (dD te t):=aA ha hr rfl
theorem abW {a b c d} (ha:PE X (.BinOp a b c d) te) (hr:PA X es t):PA X (.BinOp a b c d::es) (dD te t):=aA ha hr rfl
end
section
variable {X:Cx} {elt tg iter:Expr} {ifs:List Expr} {scope:Scope} {pos:Pos} {wi:TI} {g:TG} {tt:TT} {te:TE} {N:List Str} {k:Nat} {cap:List Nat}
theorem SI {iy:Nat} (hc:X.calm=true) (hNd:X.N.Nodup) (hiy:X.N[iy]? =some y) (hy:X.env.scope.names.lookup y=some .local)
  (S:fB X scope N k cap) (hi:PI X tg iter wi) (hg:∀c,PG (a8 X scope N c) tg g) (ht:∀c,TV (a8 X scope N c) ifs tt) (he:∀c,PE (a8 X scope N c) elt te)
  (hsw:swapsWith (.ListComp elt [⟨tg,iter,ifs,0⟩] scope pos) (some (.Name y py)) spos.line X.env=pure true)
  (hs:∀x,foldedSetIterable iter X.env x=pure x:=by intro _;rfl):PS X (.Assign [.Name y py] (.ListComp elt [⟨tg,iter,ifs,0⟩] scope pos) spos) (mF (wW wi k cap g tt te) (eE iy)):=by
 intro pins s σ H D I h;rw[exec_Assign_Name_used _ _ _ _ hsw];refine af (wpAny_standAt (af ?_));obtain⟨cl,hclos,hcl1,hcl2⟩:=jG (scope:=scope) (env:=X.env) (fun p hp hf=>I.ok.has p.1 (S.free p hp hf));show wpAny _ X.A (do let _<-comprehension (.ListComp elt [⟨tg,iter,ifs,0⟩] scope pos) scope X.env _ (newList []) false (eval iter X.env) (some (assign (.Name y py) X.env))) _ _ s;refine af (dk (wpAny_comprehension_free (use:=some (assign (.Name y py) X.env)) (Q:=fun _ s'=>SP X pins D .next s') rfl hs hclos S.kind S.names (cD (hi pins s σ H _ I h) fun v s1 h1=>cD h1 fun itv s2 h2=>?_)) (fun _ s' hq=>ay (ay hq)) fun _ _ e=>e);obtain⟨it,fp,tn,J,H2,e,I2,T,st2,f2,q2⟩:=h2;subst e;obtain⟨W,⟨m0,w0⟩,turn⟩:=q2 s2.heap.objs.size (I2.bS.fresh (bj _));have hob:∀b∈fp,b<s2.heap.objs.size:=fun b hb=>let⟨o,e,_⟩:=T.obj _ _ st2 b hb;cv e
 refine fq (wpAny_newFunctionEnv S.cell (by intro y hy;simp at hy) (fun h₁ hns₁ hsb₁=>?_) S.kind);dsimp only at hns₁ hsb₁⊢
 generalize hHH:s2.heap.push {cls:=.type "list",dict:=none,data:=.seq ([]:List Value).toArray}=HH at hns₁ hsb₁⊢
 have hCC:HH.objs.size=s2.heap.objs.size+1:=by rw[<-hHH,size_push]
 have old:∀b o,s2.heap.get? b=some o->h₁.get? b=some o:=fun b o e=>hsb₁.extBut b o (cw (hCC▸gm (cv e))) (au _ (hHH▸au _ e))
 have hD:h₁.get? s2.heap.objs.size=some {cls:=.type "list",data:=.seq #[] 0}:=hsb₁.extBut _ _ (cw (hCC▸lt_succ_self _)) (au _ (hHH▸dc _ rfl));have I4:=fun tk=>GU (tk:=tk) S I2 hcl1 hcl2 hCC f2 hob old hD hns₁
 have X':=a8 X scope N ⟨cl,HH.objs.size,s2,H2,fp⟩;have stat:∀{H':Hp},(∀b∈fp,H' b=none)->∀b∈fp,qP (a8 X scope N ⟨cl,HH.objs.size,s2,H2,fp⟩) [] H' b:=fun hn b hb=>
  ⟨hn b hb,cw (hCC▸gm (hob b hb)),(vO S I2 hcl1 hcl2 (hCC▸jf _) f2 hob).A0 b hb,.inl hb,fun x c e=>(f2 b hb).2.2.2.2.1 x c (hcl1 x c e),fun p hp=>absurd (show p∈([]:List (Addr×Obj))from hp) (by simp)⟩
 have loop:∀s₃:Shared,s₃={s2 with heap:=h₁,toks:=s2.toks+([]:List (Str×Value)).length}->
   codeAny (model X.prog X.w) X.A (.compLoop (.ListComp elt [⟨tg,iter,ifs,0⟩] scope pos) 0 (.ref it) (.ref s2.heap.objs.size) (compEnvC scope cl HH.objs.size X.env))
    (compPost (model X.prog X.w) X.A X.xe (some (assign (.Name y py) X.env)) (fun _ s'=>SP X pins D .next s') (.ref s2.heap.objs.size) HH.objs.size) s₃:=by
  rintro s₃ rfl;refine xX (fun n s'=>∃i σ' H',Inv (a8 X scope N ⟨cl,HH.objs.size,s2,H2,fp⟩) [] σ' H' s'/\tn i s'.heap/\(∀b∈fp,H' b=none)/\W i n σ' H') ?_ m0
   ⟨0,e9 k cap σ,_,I4 _,T.keep _ _ _ st2 fun b _ o e=>old b o e,fun b hb=>by rw[aQ (cw (hob b hb))];exact(f2 b hb).1,w0⟩
  rintro n s3 ⟨i,σ3,H3,I3,st3,fr3,w3⟩;rcases turn i n σ3 H3 w3 with⟨stop,qn⟩|⟨go,NN,hN,step⟩
  .refine cD (T.done (a8 X scope N ⟨cl,HH.objs.size,s2,H2,fp⟩) rfl rfl rfl hc i [] s3 σ3 H3 _ I3 (stat fr3) st3 stop) fun r s4 ⟨hr,J4⟩=>?_
   subst hr;obtain⟨m,hn,_⟩:=J4.loc;obtain⟨oC,es,ep,hoC,hdC,rC⟩:=hn;have gY:∀b o,s2.heap.get? b=some o->b≠HH.objs.size:=fun b o e=>cw (hCC▸gm (cv e))
   have szC:s2.heap.objs.size<=HH.objs.size:=hCC▸jf _;have u:=J4.base;have I4x:Inv X pins σ H3 s4:=I2.NR (ch:=fp) J4.os u J4.bS J4.bare fun b hb=>by
    obtain⟨_,f1,_,f3,f4,f5⟩:=f2 b hb;exact⟨f3,f1,f4,f5⟩
   have lC:HH.objs.size≠X.env.locals:=ne_of_gt (cm I2.lt szC);have I4p:Inv X ((HH.objs.size,oC)::pins) σ H3 s4:=I4x.t6 fun p hp=>by
    rcases br.mp hp with r|r
    .rw[r];exact⟨hoC,J4.free,lC,I2.Y1 szC,fun v z=>by rw[hdC]at z;cases z⟩
    .exact I4x.pin p (bg _ r)
   show wpAny _ X.A (assign (.Name y py) X.env (.ref s2.heap.objs.size)) _ _ _;refine wpAny_assign_Name (mH I4p hNd hiy (.inl hy) (v:=.ref s2.heap.objs.size) rfl (fun s5 I5=>?_) (.inr hy));have hC5:=I5.pin (HH.objs.size,oC) (bg _ bf);refine⟨m,⟨oC,es,ep,hC5.1,hdC,rC⟩,fun h' hs'=>⟨_,H3,?_,qn⟩⟩;have I6:Inv X pins (σ.set iy (some (.ref s2.heap.objs.size))) H3 s5:=I5.t6 fun p hp=>I5.pin p (bg _ (ax _ hp))
   refine I6.turned (it:=HH.objs.size) (t':=s5.toks) (fun b o hb e=>hs'.extBut b o hb e) J4.free lC (.inr (gc I2.sz szC)) (fun x c e=>?_) (fun p hp=>?_)
   .obtain⟨v,q⟩:=I2.cell x c e;exact cw (cm q.lt szC)
   .exact gY p.1 p.2 (I2.pin p hp).1
  .refine cD (T.item (a8 X scope N ⟨cl,HH.objs.size,s2,H2,fp⟩) rfl rfl rfl hc i [] s3 σ3 H3 _ I3 (stat fr3) st3 go) fun r s4 ⟨u,hr,h4⟩=>?_
   subst hr;refine cD h4 fun _ s5 ⟨x,H5,I5,r5,y5,st5,fr5⟩=>?_
   have I5':=I5.pinned (stat fr5) (T.obj _ _ st5);have again:∀{s7:Shared} {σ7:St} {H7:Hp},Inv (a8 X scope N ⟨cl,HH.objs.size,s2,H2,fp⟩) ([]++o9 fp s5.heap) σ7 H7 s7->NN σ7 H7->
     ∃m,m<n/\∃i σ' H',Inv (a8 X scope N ⟨cl,HH.objs.size,s2,H2,fp⟩) [] σ' H' s7/\tn i s7.heap/\(∀b∈fp,H' b=none)/\W i m σ' H':=fun{s7 σ7 H7} I7 n7=>by
    obtain⟨m',hm,w7⟩:=hN σ7 H7 n7;refine⟨m',hm,i+1,σ7,H7,I7.jU,T.keep _ _ _ st5 fun b hb o e=>(I7.pin (b,o) (bg _ (bg _ (cX hb e)))).1,fun b hb=>?_,w7⟩;obtain⟨o,e,d⟩:=T.obj _ _ st5 b hb;exact(I7.pin (b,o) (bg _ (bg _ (cX hb e)))).2.1
   refine cD (hg _ _ s5 σ3 H5 x u _ I5' r5 (step x H5 y5)) fun _ s6 ⟨σ6,H6,I6,q6⟩=>?_
   refine cD (ht _ _ s6 σ6 H6 _ I6 q6) fun b s7 ⟨H7,I7,q7⟩=>?_
   cases b with
   |false=>exact again I7 q7
   |true=>
    refine cD (he _ _ s7 σ6 H7 _ I7 q7) fun y s8 ⟨yv,H8,I8,r8,xs,hl,hz,n8⟩=>?_
    refine cD (cC _ s8 σ6 H8 (.ref s2.heap.objs.size) [yv] (.ref s2.heap.objs.size) [y] (fun _ H9=>NN σ6 H9) I8 rfl (.cons r8 .nil) ⟨_,xs,yv,rfl,rfl,hl,hz,n8⟩) fun _ s9 ⟨_,H9,I9,_,q9⟩=>?_
    exact again I9 q9
 exact codeAny_compStart_list (loop _ rfl) (T.self X.A 0 _ _ _ (T.keep _ _ _ st2 fun b _ o e=>old b o e) (loop _ rfl))
theorem vI (N:List Str) (k:Nat) (cap:List Nat) (XN:List Str) (xs:Scope) (hc:X.calm=true) (hN:X.N=XN) (hx:X.env.scope=xs) (hNd:X.N.Nodup) (hiy:X.N[i]? =some y) (hy:X.env.scope.names.lookup y=some .local)
  (hi:PI X tg iter wi) (chk:qC XN xs scope N k cap=true) (hg:∀c,PG (a8 X scope N c) tg g) (ht:∀c,TV (a8 X scope N c) ifs tt) (he:∀c,PE (a8 X scope N c) elt te)
  (hsw:swapsWith (.ListComp elt [⟨tg,iter,ifs,0⟩] scope pos) (some (.Name y py)) spos.line X.env=pure true:=by rfl)
  (hs:∀x,foldedSetIterable iter X.env x=pure x:=by intro _;rfl):PS X (.Assign [.Name y py] (.ListComp elt [⟨tg,iter,ifs,0⟩] scope pos) spos) (mF (wW wi k cap g tt te) (eE i)):=
 SI hc hNd hiy hy (j8 hN hx chk) hi hg ht he hsw hs
end
section
variable {X:Cx} {es:List Expr} {e:Expr} {te tk tv:TE} {t:TA}
structure K4 (X:Cx) (e:Expr) (t:TE):Prop where
 h:PE X e t
structure IC (X:Cx) (es:List Expr) (t:TA):Prop where
 h:PA X es t
theorem ew (h:PE X e te):K4 X e te:=⟨h⟩
theorem jD:IC X [] tF:=⟨aD⟩
theorem WN {a b} (ha:K4 X (.Name a b) te) (hr:IC X es t):IC X (.Name a b::es) (dD te t):=⟨abC ha.h hr.h⟩
theorem JG {a b} (ha:K4 X (.List a b) te) (hr:IC X es t):IC X (.List a b::es) (dD te t):=⟨acS ha.h hr.h⟩
theorem acA {a b c d} (ha:K4 X (.Call a b c d) te) (hr:IC X es t):IC X (.Call a b c d::es) (dD te t):=⟨abX ha.h hr.h⟩
theorem rE {a b c} (ha:K4 X (.Constant a b c) te) (hr:IC X es t):IC X (.Constant a b c::es) (dD te t):=⟨abL ha.h hr.h⟩
theorem aaR {a b c d} (ha:K4 X (.BinOp a b c d) te) (hr:IC X es t):IC X (.BinOp a b c d::es) (dD te t):=⟨abW ha.h hr.h⟩
theorem abN {k} (h:IC X es t):K4 X (.Tuple es k pos) (MH t):=⟨bQ h.h⟩
theorem z3 (h:IC X es t):K4 X (.List es pos) (MR t):=⟨fG h.h⟩
end
section
variable {X:Cx} {es:List Expr} {te:TE} {t:TA} {st:Stmt} {rest:List Stmt} {ts us:TS}
structure PSw (X:Cx) (st:Stmt) (t:TS):Prop where
 h:PS X st t
structure QE (X:Cx) (st:List Stmt) (t:TS):Prop where
 h:CP X st t
theorem sw (h:PS X st ts):PSw X st ts:=⟨h⟩
theorem nE (h1:PSw X st ts) (h2:QE X rest us):QE X (st::rest) (vV ts us):=⟨aG h1.h h2.h⟩
theorem Q8 (h1:PSw X st ts):QE X [st] ts:=⟨aP h1.h⟩
end
def HJ (A:Around) (s:Shared) (x y:Value) (c:Bool):Prop:=
 ∀(prog:Program) (w:World) (E:Value->Shared->Prop) (Q:Value->Shared->Prop),Q (.bool c) s->wpAny (model prog w) A (richCompare .Lt x y) Q E s
inductive BG (A:Around) (s:Shared) (fin:Bool):List (Value×Value)->Bool->Prop
 |done:BG A s fin [] fin
 |same {p q:Value} {r:List (Value×Value)} {c:Bool}:SeqAt.EqAt A s p q true->BG A s fin r c->BG A s fin ((p,q)::r) c
 |less {p q:Value} {r:List (Value×Value)} {c:Bool}:SeqAt.EqAt A s p q false->HJ A s p q c->BG A s fin ((p,q)::r) c
section
open PySem.SeqAt
open PySem.AutoSeq1 (wpAny_loadPart')
open PySem.MeetsSeq PySem.MeetsSeq2 PySem.MeetsSeq3
theorem VB (l b:Addr) (us vs:Array Value) (n m:Nat) (d1 d2:Option Addr) (k1 k2:Array (Option Value)) (c:Bool):
  Meets (Builtin.«tuple.__lt__» ⟨[.ref l,.ref b],[]⟩) (fun A R s=>s.heap.get? l=some ⟨.type "tuple",d1,.seq us n,k1⟩/\s.heap.get? b=some ⟨.type "tuple",d2,.seq vs m,k2⟩/\
   BG A.in1 s (decide (us.size<vs.size)) (us.toList.zip vs.toList) c/\R (.ok (.ret (.bool c))) s):=
 .of_wp fun prog w A R s h=>by
  obtain⟨hp,gg,dd,tk,os⟩:=s;obtain⟨hl,hb,hx,hr⟩:=h;have f2:=AutoSeq1.sub_tuple_tuple
  wp_walk using wpAny_loadPart' hl,wpAny_loadPart' hb,wpAny_forIn_list _ (fun rest acc s'=>acc.1=none/\s'=⟨hp,gg,dd,tk,os⟩/\BG A.in1 ⟨hp,gg,dd,tk,os⟩ (decide (us.size<vs.size)) rest c) _
  case turn=>
   rintro⟨y,x⟩ rest acc s' ⟨ha,rfl,hx'⟩;cases hx' with
   |same he hrest=>
    refine af (he prog w _ _ ?_)
    wp_walk
    exact⟨rfl,rfl,hrest⟩
   |less he hlt=>
    refine af (he prog w _ _ ?_);have hq:=hlt prog w
    wp_walk using hq
    exact⟨_,rfl,by simpa using hr⟩
  case fin=>
   rintro⟨b1,b2⟩ s' ⟨ha,rfl,hx'⟩;simp only at ha;subst ha;cases hx'
   wp_walk
   exact⟨_,rfl,by simpa [Builtin.Tuple.tupleCompareSizes]using hr⟩
  case h=>exact⟨rfl,rfl,hx⟩
end
theorem W8 {A:Around} {l:Addr} {us vs:Array Value} {c:Bool} (hl:IsTup s.heap l us) (hb:IsTup s.heap b vs) (hu:A.units<cLine) (hx:BG A.in1 s (decide (us.size<vs.size)) (us.toList.zip vs.toList) c):
  HJ A s (.ref l) (.ref b) c:=by
 intro prog w E Q q;obtain⟨⟨c1,d1,t1,k1⟩,g1,e1,n,r1⟩:=id hl;obtain⟨⟨c2,d2,t2,k2⟩,g2,e2,m,r2⟩:=id hb;simp only at e1 r1 e2 r2;subst e1 r1 e2 r2;exact richCompare_meets_room (op:=.Lt) ⟨_,g1,rfl⟩ ⟨_,g2,rfl⟩ PySem.F.slot_tuple_lt PySem.F.entry_tuple_lt (PySem.F.args_tuple_lt_2 _ _) (VB l b us vs n m d1 d2 k1 k2 c) ⟨g1,g2,hx,(fun x=>nomatch x),q⟩ hu
section
open PySem.W
def mT (n:Nat) (p:Array Nat):Prop:=p.Perm (List.toArray (List.range n))
theorem mT.lt (h0:0<n) (h:mT n p) (i:Nat):p.getD i 0<n:=by
 by_cases hi:i<p.size
 .have e:p.getD i 0=p[i]:=by simp[Array.getD,hi]
  rw[e];have hm:p[i]∈p:=Array.getElem_mem hi;have:=(h.mem_iff).mp hm;simpa using this
 .have e:p.getD i 0=0:=by simp[Array.getD,hi]
  omega
theorem mT.rev (h:mT n p) (i j:Nat):mT n (kas_rev p i j):=(mirror_perm p i j ((j - i) / 2)).trans h
theorem mT.bub (h:mT n p) (i j:Nat):mT n (bubble p i j):=(bubble_perm p i j).trans h
theorem mT.perm {vs:List Value} (h:mT vs.length p):(p.toList.map fun i=>vs.getD i Value.none).Perm vs:=by
 have h1:p.toList.Perm (List.range vs.length):=by simpa using ku.mp h
 have h2:=h1.map fun i=>vs.getD i Value.none
 have e:(List.range vs.length).map (fun i=>vs.getD i Value.none)=vs:=by
  apply ext_getElem
  .simp
  .intro i a1 a2;simp[ag a2]
 rw[e]at h2;exact h2
end
section
variable {X:Cx}
theorem j6:∀{us:List Value} {ss:List Str},StrsAre us ss->Vals (ss.map V.str) us
 |[],_,.nil=>.nil
 |_::_,_,.cons x t r=>.cons ⟨t,rfl⟩ (j6 r)
def DF (K:Frag):List V->Hp->VK->Prop:=fun xs H Q=>∃p ss,xs=[.ref p]/\iW K H p (ss.map V.str)/\ss.length<64/\∀l out,out.Perm ss->sortedS out=true->H l=none->Q (.ref l) (upd H l (.lst (out.map V.str)))
theorem JD (K:Frag) (hK:X.K=K:=by rfl):cS X (.builtin "sorted") (DF K):=by
 subst hK;intro pins s σ H xs us Q I r ⟨p,ss,e,hq,h64,q⟩;subst e;obtain⟨u,rfl,rx⟩:=vals1 r;cases rx;obtain⟨vs,rv,pl,hz⟩:=I.list hq;have hlen:=rv.length;rw[aj]at hlen hz;refine sorted_strs pl.isList (tS rv) (by omega) fun out ss' h1 h2 h3=>?_
 obtain⟨c,hat⟩:=sortedAll_at s.heap vs out;exact⟨.ref (s.heap.objs.size+1),_,I.laid (t':=s.toks) (o:=.lst (ss'.map V.str)) (fun b o e=>sortedAll_old e) (jf _) ⟨by rw[aj,h2.length_eq];exact hz,out.toList,c,j6 h1,hat⟩,rfl,q _ ss' h2 h3 (I.bS.fresh (jf _))⟩
end
section
open PySem.W
variable (O:KeyOrd) (key:Nat->O.α)
noncomputable def Ky (p:Array Nat) (i:Nat):O.α:=key (p.getD i 0)
def C4 (p:Array Nat) (k:Nat):Prop:=∀i j,i<=j->j<k->O.kle (Ky O key p i) (Ky O key p j)
variable {O} {key}
theorem uX {q:Array Nat} (h:p[i]? =q[j]?):Ky O key p i=Ky O key q j:=by
 unfold Ky;rw[ja,ja,h]
theorem DO (hj:j<=p.size) (k:Nat):Ky O key (kas_rev p i j) k=if i<=k/\k<j then Ky O key p (i+j - 1 - k)else Ky O key p k:=by
 have e:=getElem?_mirror_all (xs:=p) (i:=i) hj k;split
 .rename_i h;rw[ai h]at e;exact uX e
 .rename_i h;rw[ah h]at e;exact uX e
theorem qA (hj:j<=p.size) (he:∀k,i<=k->k<j->Ky O key p k=Ky O key p (j - 1)) (k:Nat):Ky O key (kas_rev p i j) k=Ky O key p k:=by
 rw[DO hj];split
 .rename_i h;rw[he _ (by omega) (by omega),he k h.1 h.2]
 .rfl
theorem VV {k d:Nat} (hk:k<p.size) (hd:d<=k) (i:Nat):Ky O key (bubble p k d) i=if i=k - d then Ky O key p k else if k - d<i/\i<=k then Ky O key p (i - 1)else Ky O key p i:=by
 have e:=getElem?_bubble hk d hd i
 by_cases h1:i=k - d
 .rw[ai h1]at e⊢;exact uX e
 .rw[ah h1]at e⊢
  by_cases h2:k - d<i/\i<=k
  .rw[ai h2]at e⊢;exact uX e
  .rw[ah h2]at e⊢;exact uX e
end
section
open PySem.W
variable {prog:Program} {w:World} {A:Around} {E:Value->Shared->Prop} {s:Shared}
theorem IK (vs:List Value):(List.range vs.length).map (fun i=>vs.getD i Value.none)=vs:=by
 apply ext_getElem
 .simp
 .intro i a1 a2;simp[ag a2]
end
end L2
namespace L2
open PySem PySem.Spec PyProof.Rows PySem.W
variable {a b:Array Keyed} {R:Array Nat->Prop} {left:Bool} {O:KeyOrd} {L l la lb:List Nat} {ss:List Str} {vs:List Value} {base i j k m n nrem x y:Nat} {Q:Option Nat->SortSt->Prop} {A C G p:Prop} {α β γ δ ε ζ:Type}
theorem pr5 {G:α×β×γ×δ×ε->Prop} (h:∀a b c d e,G (a,b,c,d,e)) (z):G z:=h z.1 z.2.1 z.2.2.1 z.2.2.2.1 z.2.2.2.2
theorem pr6 {G:α×β×γ×δ×ε×ζ->Prop} (h:∀a b c d e f,G (a,b,c,d,e,f)) (z):G z:=h z.1 z.2.1 z.2.2.1 z.2.2.2.1 z.2.2.2.2.1 z.2.2.2.2.2
theorem pr7 {η:Type} {G:α×β×γ×δ×ε×ζ×η->Prop} (h:∀a b c d e f g,G (a,b,c,d,e,f,g)) (z):G z:=h z.1 z.2.1 z.2.2.1 z.2.2.2.1 z.2.2.2.2.1 z.2.2.2.2.2.1 z.2.2.2.2.2.2
theorem elA {P:α->Prop} {R S:β->Prop} (h:A/\(∃x,P x)/\(∃l,R l/\S l)/\C) (k:A->∀x,P x->∀l,R l->S l->C->G):G:=let⟨a,⟨x,p⟩,⟨l,r,s⟩,c⟩:=h;k a x p l r s c
theorem elB {B:Prop} {R S:β->Prop} (h:A/\B/\(∃l,R l/\S l)/\C) (k:A->B->∀l,R l->S l->C->G):G:=let⟨a,b,⟨l,r,s⟩,c⟩:=h;k a b l r s c
theorem elC {P:α->Prop} {T:γ->Prop} {R S:β->Prop} (h:(∃x,P x)/\((∃y,T y)\/ (A/\(∃l,R l/\S l)/\C))) (k1:∀x,P x->∀y,T y->G) (k2:∀x,P x->A->∀l,R l->S l->C->G):G:=match h with
 |⟨⟨x,p⟩,.inl ⟨y,t⟩⟩=>k1 x p y t
 |⟨⟨x,p⟩,.inr ⟨a,⟨l,r,s⟩,c⟩⟩=>k2 x p a l r s c
theorem pr2 {G:α×β->Prop} (h:∀a b,G (a,b)) (z):G z:=h z.1 z.2
theorem elD {P B C D:α->Prop} (h:A/\∃x,P x/\(B x\/ C x\/ D x)) (k1:A->∀x,P x->B x->G) (k2:A->∀x,P x->C x->G) (k3:A->∀x,P x->D x->G):G:=match h with
 |⟨a,x,p,.inl b⟩=>k1 a x p b
 |⟨a,x,p,.inr (.inl b)⟩=>k2 a x p b
 |⟨a,x,p,.inr (.inr b)⟩=>k3 a x p b
structure Tc where
 prog:Program
 w:World
 A:Around
 E:Value->Shared->Prop
 s:Shared
section
variable {c:Tc} {α β:Type} {st:SortSt}
def TW (c:Tc) {α:Type} (m:StateT SortSt Sem α) (Q:α->SortSt->Prop) (st:SortSt):Prop:=kasC (model c.prog c.w) c.A c.E m (fun a st' s'=>s'=c.s/\Q a st') st c.s
theorem aH {a:α} {Q:α->SortSt->Prop} (h:Q a st):TW c (pure a) Q st:=kasC_pure ⟨rfl,h⟩
theorem aI {m:StateT SortSt Sem α} {f:α->StateT SortSt Sem β} {Q:β->SortSt->Prop} (h:TW c m (fun a st'=>TW c (f a) Q st') st):TW c (m>>=f) Q st:=
 kasC_bind (dk h (fun r s' h=>by obtain⟨e,h⟩:=h;rw[e];exact h) fun _ _ e=>e)
theorem eX {Q:SortSt->SortSt->Prop} (h:Q st st):TW c get Q st:=kasC_get ⟨rfl,h⟩
theorem gW {f:SortSt->SortSt} {Q:PUnit->SortSt->Prop} (h:Q ⟨⟩ (f st)):TW c (modify f) Q st:=kasC_modify ⟨rfl,h⟩
theorem kZ {x:String} {Q:Unit->SortSt->Prop} (h:Q () st):TW c (liftM (rule x)) Q st:=kasC_lift (wpAny_rule ⟨rfl,h⟩)
theorem aT [Decidable p] {a b:StateT SortSt Sem α} {Q:α->SortSt->Prop} (h1:p->TW c a Q st) (h2:¬p->TW c b Q st):TW c (if p then a else b) Q st:=by
 split
 .exact h1 ‹_›
 .exact h2 ‹_›
theorem tN {β:Type} {φ:β->γ->Prop} {jp:β->γ->StateT SortSt Sem α} {m:StateT SortSt Sem α} {Q:α->SortSt->Prop} (k:(∀x y,φ x y->TW c (jp x y) Q st)->TW c m Q st) (H:∀x y,φ x y->TW c (jp x y) Q st):TW c m Q st:=k H
theorem KH {_:Decidable p} {jp:Unit->Nat->StateT SortSt Sem α} {a b:Nat} {Q:α->SortSt->Prop} (H:∀g,TW c (jp () g) Q st):TW c (if p then jp () a else jp () b) Q st:=by
 split
 .exact H a
 .exact H b
theorem S7 {f:Nat->β->StateT SortSt Sem (ForInStep β)} {Q:β->SortSt->Prop} (I:Nat->β->SortSt->Prop) {n:Nat} (fin:∀b st,I n b st->Q b st)
  (step:∀i b st,i<n->I i b st->TW c (f i b) (fun r st'=>match r with| .yield b'=>I (i+1) b' st'| .done b'=>Q b' st') st):∀(k i:Nat) (b:β) (st:SortSt),i+k=n->I i b st->TW c (forIn (List.range' i k) b f) Q st
 |0,i,b,st,e,h=>kasC_nil ⟨rfl,fin b st (by rw[<-e];exact h)⟩
 | k+1,i,b,st,e,h=>by
  show kasC _ _ _ (forIn (i::List.range' (i+1) k) b f) _ _ _;refine kasC_cons (dk (step i b st (by omega) h) (fun r s' h=>?_) fun _ _ e=>e);obtain⟨r,st'⟩:=r;obtain⟨e',h⟩:=h;dsimp only at e' h⊢
  cases r with
  |done b'=>exact⟨e',h⟩
  |yield b'=>
   have:=S7 I fin step k (i+1) b' st' (by omega) h;rw[e'];exact this
theorem fE {f:Nat->β->StateT SortSt Sem (ForInStep β)} {Q:β->SortSt->Prop} {a n:Nat} {b:β} (I:Nat->β->SortSt->Prop) (h0:I a b st) (ha:a<=n)
  (step:∀i b st,i<n->I i b st->TW c (f i b) (fun r st'=>match r with| .yield b'=>I (i+1) b' st'| .done b'=>Q b' st') st) (fin:∀b st,I n b st->Q b st):TW c (forIn [a:n] b f) Q st:=
 kasC_range (S7 I fin step (n - a) a b st (by omega) h0)
theorem pZ {f:Nat->β->StateT SortSt Sem (ForInStep β)} {Q:β->SortSt->Prop} {a:Nat} {b:β} (I:Nat->β->SortSt->Prop) (h0:I a b st) (ha:a<=n)
  (step:∀i b st,i<n->I i b st->∀R:ForInStep β->SortSt->Prop,(∀z st,I (i+1) z st->R (.yield z) st)->(∀z st,Q z st->R (.done z) st)->TW c (f i b) R st) (fin:∀b st,I n b st->Q b st):TW c (forIn [a:n] b f) Q st:=
 fE I h0 ha (fun i b st hi h=>step i b st hi h _ (fun _ _ h=>h) fun _ _ h=>h) fin
noncomputable def VF:Bool->Keyed->Array Keyed->Nat->Nat->Nat->StateT SortSt Sem (Option Nat):=sortPriv% PySem.Builtin.gallop
noncomputable def mLo:Array Keyed->Array Keyed->StateT SortSt Sem (Array Keyed):=sortPriv% PySem.Builtin.mergeLo
noncomputable def mHi:Array Keyed->Array Keyed->StateT SortSt Sem (Array Keyed):=sortPriv% PySem.Builtin.mergeHi
noncomputable abbrev bey (left:Bool) (key:Keyed) (arr:Array Keyed) (i:Nat):StateT SortSt Sem (Option Bool):=elem' arr i>>=fun x=>if left=true then lt' x key else lt' key x>>=fun r=>pure (r.map fun z=>!z)
theorem dO {m:StateT SortSt Sem α} {R Q:α->SortSt->Prop} (h:TW c m R st) (k:∀a st',R a st'->Q a st'):TW c m Q st:=dk h (fun r s' h=>⟨h.1,k _ _ h.2⟩) fun _ _ e=>e
theorem MV {lo hi:Nat} {B:Nat->Bool} {f:Nat->Option (Option Nat)×Nat×Nat->StateT SortSt Sem (ForInStep (Option (Option Nat)×Nat×Nat))} {g:Option (Option Nat)×Nat×Nat->StateT SortSt Sem (Option Nat)}
  (mono:∀i j,i<=j->j<n->B j=true->B i=true) (h1:lo<=hi) (h2:hi<=n) (h3:∀i,i<lo->B i=true) (h4:∀i,hi<=i->i<n->B i=false)
  (hd:∀x lo hi,lo≥hi->∀R:ForInStep (Option (Option Nat)×Nat×Nat)->SortSt->Prop,R (.done (none,lo,hi)) st->TW c (f x (none,lo,hi)) R st)
  (hs:∀x lo hi,¬lo≥hi->hi<=n->∀R:ForInStep (Option (Option Nat)×Nat×Nat)->SortSt->Prop,R (if B (lo+(hi - lo) / 2)=true then .yield (none,lo+(hi - lo) / 2+1,hi)else .yield (none,lo,lo+(hi - lo) / 2)) st->TW c (f x (none,lo,hi)) R st)
  (hk:∀lo hi,g (none,lo,hi)=pure (some hi)) (q:∀k,k<=n->(∀i,i<k->B i=true)->(∀i,k<=i->i<n->B i=false)->Q (some k) st):TW c (forIn [:n] (none,lo,hi) f>>=g) Q st:=by
 refine aI (fE (fun i (z:Option (Option Nat)×Nat×Nat) st'=>st'=st/\z.1=none/\z.2.1<=z.2.2/\z.2.2<=n/\(∀i,i<z.2.1->B i=true)/\(∀i,z.2.2<=i->i<n->B i=false)/\z.2.2 - z.2.1<=n - i) ⟨rfl,rfl,h1,h2,h3,h4,by dsimp only;omega⟩ (eh _) ?_ ?_)
 .rintro i ⟨r,lo,hi⟩ st' hlt ⟨rfl,rfl,h1,h2,h3,h4,h5⟩;dsimp only at h1 h2 h3 h4 h5⊢
  by_cases hc:lo≥hi
  .refine hd _ _ _ hc _ ?_;have e:lo=hi:=Nat.le_antisymm h1 hc;dsimp only;rw[hk];exact aH (q hi h2 (e▸h3) h4)
  .refine hs _ _ _ hc h2 _ ?_;have hm:lo+(hi - lo) / 2<hi:=by omega
   cases e:B (lo+(hi - lo) / 2)with
   |true=>exact⟨rfl,rfl,hm,h2,fun i (hi':i<lo+(hi - lo) / 2+1)=>mono i _ (by omega) (by omega) e,h4,by dsimp only;omega⟩
   |false=>
    refine⟨rfl,rfl,by dsimp only;omega,by dsimp only;omega,h3,fun i (h1':lo+(hi - lo) / 2<=i) h2'=>?_,by dsimp only;omega⟩;cases e':B i with
    |false=>rfl
    |true=>rw[mono _ i h1' h2' e']at e;cases e
 .rintro⟨r,lo,hi⟩ st' ⟨rfl,rfl,h1,h2,h3,h4,h5⟩;dsimp only at h1 h2 h3 h4 h5⊢
  have e:lo=hi:=by omega
  rw[hk];exact aH (q hi h2 (e▸h3) h4)
theorem UG {key:Keyed} {arr:Array Keyed} {hint:Nat} {B:Nat->Bool} (hn:hint<n) (mono:∀i j,i<=j->j<n->B j=true->B i=true)
  (hb:∀i,i<n->∀Q:Option Bool->SortSt->Prop,Q (some (B i)) st->TW c (bey left key arr (base+i)) Q st)
  (q:∀k,k<=n->(∀i,i<k->B i=true)->(∀i,k<=i->i<n->B i=false)->Q (some k) st):TW c (VF left key arr base n hint) Q st:=by
 have up:∀i j,i<=j->j<n->B i=false->B j=false:=fun i j a b h=>by
  cases e:B j with
  |false=>rfl
  |true=>rw[mono i j a b e]at h;cases h
 refine aI (hb hint hn _ ?_);show TW c _ Q st;dsimp only;cases e:B hint with
 | true=>
  rw[ai rfl];refine aI (dO (R:=fun(z:Option (Option Nat)×Nat×Nat) st'=>st'=st/\z.1=none/\hint+z.2.1<n/\B (hint+z.2.1)=true/\z.2.1<z.2.2/\(z.2.2≥n - hint\/ B (hint+z.2.2)=false)) (fE (fun i (z:Option (Option Nat)×Nat×Nat) st'=>st'=st/\z.1=none/\hint+z.2.1<n/\B (hint+z.2.1)=true/\z.2.1<z.2.2/\i<z.2.2) ⟨rfl,rfl,hn,e,zero_lt_one,zero_lt_one⟩ (eh _) ?_ ?_) ?_)
  .rintro i ⟨r,la,ofs⟩ st' hi ⟨rfl,rfl,h1,h2,h3,h4⟩;dsimp only at h1 h2 h3 h4⊢
   by_cases hc:ofs≥n - hint
   .rw[ai hc];exact aH ⟨rfl,rfl,h1,h2,h3,.inl hc⟩
   .rw[ah hc];refine aI (hb (hint+ofs) (by omega) _ ?_);dsimp only;cases e2:B (hint+ofs)with
    |false=>exact aH ⟨rfl,rfl,h1,h2,h3,.inr e2⟩
    |true=>exact aH ⟨rfl,rfl,by dsimp only;omega,e2,by dsimp only;omega,by dsimp only;omega⟩
  .rintro⟨r,la,ofs⟩ st' ⟨rfl,rfl,h1,h2,h3,h4⟩;exact⟨rfl,rfl,h1,h2,h3,.inl (by dsimp only at h4⊢;omega)⟩
  .rintro⟨r,la,ofs⟩ st' ⟨e1,e2,h1,h2,h3,h4⟩;dsimp only at e2 h1 h2 h3 h4⊢
   rw[e1,e2];refine MV mono (by omega) (by omega) (fun i hi=>mono i _ (by omega) h1 h2) (fun i hi hlt=>?_) (fun x lo hi h R r=>?_) (fun x lo hi h1 h2 R r=>?_) (fun _ _=>rfl) q
   .rcases h4 with h4|h4
    .omega
    .by_cases ho:ofs<n - hint
     .exact up _ i (by omega) hlt h4
     .omega
   .dsimp only;rw[ai h];exact aH r
   .dsimp only;rw[ah h1]
    refine aI (hb _ (by omega) _ ?_);dsimp only
    revert r
    cases B (lo+(hi - lo) / 2)<;>exact fun r=>aH r
 | false=>
  rw[ah av];refine aI (dO (R:=fun(z:Option (Option Nat)×Nat×Nat) st'=>st'=st/\z.1=none/\z.2.1<=hint/\B (hint - z.2.1)=false/\z.2.1<z.2.2/\(z.2.2≥hint+1\/ B (hint - z.2.2)=true)) (fE (fun i (z:Option (Option Nat)×Nat×Nat) st'=>st'=st/\z.1=none/\z.2.1<=hint/\B (hint - z.2.1)=false/\z.2.1<z.2.2/\i<z.2.2) ⟨rfl,rfl,eh _,e,zero_lt_one,zero_lt_one⟩ (eh _) ?_ ?_) ?_)
  .rintro i ⟨r,la,ofs⟩ st' hi ⟨rfl,rfl,h1,h2,h3,h4⟩;dsimp only at h1 h2 h3 h4⊢
   by_cases hc:ofs≥hint+1
   .rw[ai hc];exact aH ⟨rfl,rfl,h1,h2,h3,.inl hc⟩
   .rw[ah hc];refine aI (hb (hint - ofs) (by omega) _ ?_);dsimp only;cases e2:B (hint - ofs)with
    |true=>exact aH ⟨rfl,rfl,h1,h2,h3,.inr e2⟩
    |false=>exact aH ⟨rfl,rfl,by dsimp only;omega,e2,by dsimp only;omega,by dsimp only;omega⟩
  .rintro⟨r,la,ofs⟩ st' ⟨rfl,rfl,h1,h2,h3,h4⟩;exact⟨rfl,rfl,h1,h2,h3,.inl (by dsimp only at h4⊢;omega)⟩
  .rintro⟨r,la,ofs⟩ st' ⟨e1,e2,h1,h2,h3,h4⟩;dsimp only at e2 h1 h2 h3 h4⊢
   rw[e1,e2];refine MV mono (by omega) (by omega) (fun i hi=>?_) (fun i hi hlt=>up _ i hi hlt h2) (fun x lo hi h R r=>?_) (fun x lo hi h1 h2 R r=>?_) (fun _ _=>rfl) q
   .rcases h4 with h4|h4
    .omega
    .exact mono i _ (by omega) (by omega) h4
   .dsimp only;rw[ai h];exact aH r
   .dsimp only;rw[ah h1]
    refine aI (hb _ (by omega) _ ?_);dsimp only
    revert r
    cases B (lo+(hi - lo) / 2)<;>exact fun r=>aH r
end
section
variable {R:Nat->Nat->Prop} {la lb l:List Nat} {i j k:Nat}
structure MI (R:Nat->Nat->Prop) (la lb l:List Nat) (i j:Nat):Prop where
 perm:l.Perm (la.take i++lb.take j)
 N5:l.Pairwise R
 a:∀x∈l,∀y∈la.drop i,R x y
 b:∀x∈l,∀y∈lb.drop j,R x y
theorem MI.swap (h:MI R la lb l i j):MI R lb la l j i:=⟨h.perm.trans ji,h.N5,h.b,h.a⟩
theorem MI.more (h:MI R la lb l i j) (ha:la.Pairwise R) (hk:∀x∈(la.drop i).take k,∀y∈lb.drop j,R x y):MI R la lb (l++(la.drop i).take k) (i+k) j:=by
 have e:la.drop i=(la.drop i).take k++la.drop (i+k):=by rw[<-drop_drop,cp]
 have hd:(la.drop i).Pairwise R:=ha.drop;rw[e,fj]at hd;have sub:∀x∈(la.drop i).take k,x∈la.drop i:=fun x hx=>fx hx
 refine⟨?_,fj.mpr ⟨h.N5,hd.1,fun x hx y hy=>h.a x hx y (sub y hy)⟩,fun x hx y hy=>?_,fun x hx y hy=>?_⟩
 .have e2:la.take (i+k)=la.take i++(la.drop i).take k:=by rw[List.take_add]
  rw[e2,de];refine(h.perm.append_right _).trans ?_;rw[de];exact ka _ ji
 .rcases bp.mp hx with hx|hx
  .exact h.a x hx y (by rw[e];exact bg _ hy)
  .exact hd.2.2 x hx y hy
 .rcases bp.mp hx with hx|hx
  .exact h.b x hx y hy
  .exact hk x hx y hy
theorem MI.one (h:MI R la lb l i j) (ha:la.Pairwise R) (hx:la[i]? =some x) (hk:∀y∈lb.drop j,R x y):MI R la lb (l++[x]) (i+1) j:=by
 have e:(la.drop i).take 1=[x]:=by
  obtain⟨hl,e⟩:=ae.mp hx;rw[dg hl,e];rfl
 have:=h.more (k:=1) ha (by rw[e];intro z hz;rw[cc.mp hz];exact hk);rw[e]at this;exact this
theorem MI.fin (h:MI R la lb l i j) (ha:la.Pairwise R) (hb:lb.Pairwise R) (hk:∀x∈la.drop i,∀y∈lb.drop j,R x y):(l++la.drop i++lb.drop j).Perm (la++lb)/\(l++la.drop i++lb.drop j).Pairwise R:=by
 refine⟨?_,?_⟩
 .have e1:(la++lb).Perm ((la.take i++lb.take j)++(la.drop i++lb.drop j)):=by
   conv=>lhs;rw[<-cp i la,<-cp j lb]
   rw[de,de];refine ka _ ?_;rw[<-de,<-de];exact perm_append_comm.append_right _
  rw[de];exact(h.perm.append_right _).trans e1.symm
 .refine fj.mpr ⟨fj.mpr ⟨h.N5,ha.drop,h.a⟩,hb.drop,fun x hx y hy=>?_⟩;rcases bp.mp hx with hx|hx
  .exact h.b x hx y hy
  .exact hk x hx y hy
end
section
variable {f:Nat->Keyed} {l m:List Nat}
noncomputable def im (f:Nat->Keyed) (l:List Nat):Array Keyed:=(l.map f).toArray
theorem a5:(im f l).size=l.length:=by unfold im;simp
theorem mW (i:Nat):(im f l)[i]? =(l[i]?).map f:=by unfold im;simp
theorem fX:im f l++im f m=im f (l++m):=by unfold im;simp
theorem dR (x:Nat):(im f l).push (f x)=im f (l++[x]):=by unfold im;simp
theorem gM (i j:Nat):(im f l).extract i j=im f ((l.take j).drop i):=by
 unfold im;simp[List.extract_eq_take_drop,map_take,map_drop,drop_take]
theorem DY (i k:Nat):(im f l).extract i (i+k)=im f ((l.drop i).take k):=by rw[gM,drop_take,Nat.add_sub_cancel_left]
theorem CY:(im f l).reverse=im f l.reverse:=by unfold im;simp
theorem S9 (x:Nat): #[f x]=im f [x]:=rfl
end
section
variable {c:Tc} {κ:SortKind} {O:KeyOrd} {key:Nat->O.α} {f:Nat->Keyed} {n mg:Nat} {arr:Array Keyed} {pend:Array (Nat×Nat×Nat)}
def Cm (c:Tc) (κ:SortKind) (O:KeyOrd) (key:Nat->O.α) (f:Nat->Keyed) (n:Nat):Prop:=∀i j,i<n->j<n->∀C:Bool->Shared->Prop,C (O.blt (key i) (key j)) c.s->wpAny (model c.prog c.w) c.A (keyLt' κ (f i).1 (f j).1) C (fun _ _=>False) c.s
noncomputable abbrev sS (κ:SortKind) (arr:Array Keyed) (pend:Array (Nat×Nat×Nat)) (mg:Nat):SortSt:=SortSt.mk' κ arr pend mg none
theorem EY (C:Cm c κ O key f n) (hi:i<n) (hj:j<n) {Q:Option Bool->SortSt->Prop} (q:Q (some (O.blt (key i) (key j))) (sS κ arr pend mg)):TW c (lt' (f i) (f j)) Q (sS κ arr pend mg):=by
 rw[lt'_eq];refine aI (eX ?_);refine aI (kasC_lift (wpAny_attempt (dk (C i j hi hj (fun b s'=>b=O.blt (key i) (key j)/\s'=c.s) ⟨rfl,rfl⟩) (fun b s' h=>⟨h.2,?_⟩) fun _ _ hF=>hF.elim)));rw[h.1];exact aH q
theorem vR {x:Keyed} {st:SortSt} {Q:Keyed->SortSt->Prop} (h:a[i]? =some x) (q:Q x st):TW c (elem' a i) Q st:=by
 rw[elem'_eq,h];exact aH q
abbrev kO (O:KeyOrd) (key:Nat->O.α) (i j:Nat):Prop:=O.blt (key j) (key i)=false
theorem j5 {i k:Nat} (h1:kO O key i j) (h2:kO O key j k):kO O key i k:=by
 cases e:O.blt (key k) (key i)with
 |false=>exact e
 |true=>exact(O.negTrans _ (key j) _ e).elim (fun h=>by rw[h2]at h;cases h) fun h=>by rw[h1]at h;cases h
theorem GI {i j:Nat} (h:O.blt (key i) (key j)=true):kO O key i j:=by
 cases e:O.blt (key j) (key i)with
 |false=>exact e
 |true=>have:=O.trans _ _ _ h e;rw[O.irrefl]at this;cases this
theorem xU (hs:l.Pairwise (kO O key)) (h:l[i]? =some y) (hx:kO O key x y):∀z∈l.drop i,kO O key x z:=by
 obtain⟨hl,e⟩:=ae.mp h;have hd:(l.drop i).Pairwise (kO O key):=hs.drop;rw[dg hl,e]at hd⊢
 intro z hz;rcases br.mp hz with hz|hz
 .rw[hz];exact hx
 .exact j5 hx ((ik.mp hd).1 z hz)
theorem XF {left:Bool} {j:Nat} (C:Cm c κ O key f n) (hl:∀i∈l,i<n) (hx:x<n) (hs:((l.drop base).take m).Pairwise (kO O key)) (hm:base+m<=l.length) (hj:j<m)
  (q:∀k,k<=m->(∀y∈(l.drop base).take k,kO O key y x)->(∀y∈((l.drop base).take m).drop k,kO O key x y)->Q (some k) (sS κ arr pend mg)):TW c (VF left (f x) (im f l) base m j) Q (sS κ arr pend mg):=by
 have at':∀t,t<m->∃y,l[base+t]? =some y/\l.getD (base+t) 0=y:=fun t ht=>⟨l[base+t]'(by omega),ag _,by rw[aq,ag (by omega)];rfl⟩
 have mn:∀i j,i<=j->j<m->kO O key (l.getD (base+i) 0) (l.getD (base+j) 0):=fun i j h1 h2=>by
  obtain⟨y,e1,e2⟩:=at' i (by omega);obtain⟨z,e3,e4⟩:=at' j h2;rw[e2,e4]
  by_cases e:i=j
  .subst e;rw[e1]at e3;cases e3;exact O.irrefl _
  .have w:∀{t z:Nat},t<m->l[base+t]? =some z->((l.drop base).take m)[t]? =some z:=fun ht hz=>by rw[gf,ai ht,jh];exact hz
   obtain⟨g1,rfl⟩:=ae.mp (w (by omega) e1);obtain⟨g2,rfl⟩:=ae.mp (w h2 e3);exact kz.mp hs _ _ g1 g2 (by omega)
 refine UG (B:=fun t=>if left=true then O.blt (key (l.getD (base+t) 0)) (key x)else !O.blt (key x) (key (l.getD (base+t) 0))) hj (fun i j h1 h2 h=>?_) (fun i hi Q q=>?_) fun k hk h1 h2=>q k hk (fun y hy=>?_) fun y hy=>?_
 .have h3:=mn i j h1 h2;cases left with
  |true=>
   rw[ai rfl]at h⊢
   exact(O.negTrans _ (key (l.getD (base+i) 0)) _ h).elim (fun z=>by rw[h3]at z;cases z) fun z=>z
  |false=>
   rw[ah av,not_eq_true']at h⊢
   exact j5 h3 h
 .obtain⟨y,e1,e2⟩:=at' i hi;have hy:=hl y (ba e1);refine aI (vR (x:=f y) (by rw[mW,e1];rfl) ?_);rw[e2]at q;cases left with
  |true=>
   rw[ai rfl]at q⊢
   exact EY C hy hx q
  |false=>
   rw[ah av]at q⊢
   exact aI (EY C hx hy (aH q))
 .obtain⟨t,ht⟩:=du hy;rw[gf]at ht;split at ht
  .rename_i htk;rw[jh]at ht;have:=h1 t htk;rw[aq,ht,getD_some]at this;cases left with
   |true=>rw[ai rfl]at this;exact GI this
   |false=>rw[ah av,not_eq_true']at this;exact this
  .cases ht
 .obtain⟨t,ht⟩:=du hy;rw[jh,gf]at ht;split at ht
  .rename_i htk;rw[jh]at ht;have:=h2 (k+t) (le_add_right _ _) htk;rw[aq,ht,getD_some]at this;cases left with
   |true=>rw[ai rfl]at this;exact this
   |false=>rw[ah av,Bool.not_eq_false']at this;exact GI this
  .cases ht
theorem sV {x:Keyed} {st:SortSt} {g:Keyed->StateT SortSt Sem α} {Q:α->SortSt->Prop} (h:a[i]? =some x) (q:TW c (g x) Q st):TW c (elem' a i>>=g) Q st:=aI (vR h q)
theorem ZW {h:SortSt->SortSt} {st:SortSt} {g:PUnit->StateT SortSt Sem α} {Q:α->SortSt->Prop} (q:TW c (g ⟨⟩) Q (h st)):TW c (modify h>>=g) Q st:=aI (gW q)
theorem MU {g:Option Bool->StateT SortSt Sem α} {Q:α->SortSt->Prop} (C:Cm c κ O key f n) (hb:b[i]? =some (f x)) (ha:a[j]? =some (f y)) (hx:x<n) (hy:y<n)
  (q:TW c (g (some (O.blt (key x) (key y)))) Q (sS κ arr pend mg)):TW c (elem' b i>>=fun u=>elem' a j>>=fun v=>lt' u v>>=g) Q (sS κ arr pend mg):=sV hb (sV ha (aI (EY C hx hy q)))
theorem GA {g:Option Nat->StateT SortSt Sem α} {Q:α->SortSt->Prop} (he:b[i]? =some (f x)) (C:Cm c κ O key f n) (hl:∀i∈l,i<n) (hx:x<n) (hs:((l.drop base).take m).Pairwise (kO O key)) (hm:base+m<=l.length) (hj:j<m)
  (q:∀k,k<=m->(∀y∈(l.drop base).take k,kO O key y x)->(∀y∈((l.drop base).take m).drop k,kO O key x y)->TW c (g (some k)) Q (sS κ arr pend mg)):TW c (elem' b i>>=fun u=>VF left u (im f l) base m j>>=g) Q (sS κ arr pend mg):=sV he (aI (XF C hl hx hs hm hj q))
end
section
variable {c:Tc} {κ:SortKind} {O:KeyOrd} {key:Nat->O.α} {f:Nat->Keyed} {n mg:Nat} {arr:Array Keyed} {pend:Array (Nat×Nat×Nat)}
theorem X5 {la lb:List Nat} {Q:Array Keyed->SortSt->Prop} (C:Cm c κ O key f n) (ha:la.Pairwise (kO O key)) (hb:lb.Pairwise (kO O key)) (na:∀i∈la,i<n) (nb:∀i∈lb,i<n) (a0:0<la.length) (b0:0<lb.length)
  (h0:∀y,lb[0]? =some y->∀x∈la,kO O key y x) (hl:∀x∈la.drop (la.length - 1),∀y∈lb,kO O key y x) (q:∀l mg',l.Perm (la++lb)->l.Pairwise (kO O key)->Q (im f l) (sS κ arr pend mg')):TW c (mLo (im f la) (im f lb)) Q (sS κ arr pend mg):=by
 have gb:∀i,i<lb.length->∀{G:Prop},(∀y,lb[i]? =some y->(im f lb)[i]? =some (f y)->y<n->G)->G:=fun i hi G k=>k lb[i] (ag hi) (by rw[mW,ag hi];rfl) (nb _ (iu hi))
 have ga:∀i,i<la.length->∀{G:Prop},(∀y,la[i]? =some y->(im f la)[i]? =some (f y)->y<n->G)->G:=fun i hi G k=>k la[i] (ag hi) (by rw[mW,ag hi];rfl) (na _ (iu hi))
 refine gb 0 b0 fun y0 e0 e1 y0n=>?_
 have m0:MI (kO O key) la lb [y0] 0 1:=by
  have:lb.take 1=[y0]/\∀y∈lb.drop 1,kO O key y0 y:=by
   cases lb with
   |nil=>cases b0
   |cons z lb=>cases e0;exact⟨rfl,fun y hy=>(ik.mp hb).1 y hy⟩
  refine⟨by rw[this.1];exact .refl _,List.pairwise_singleton _ _,fun x hx y hy=>?_,fun x hx y hy=>?_⟩
  .rw[cc.mp hx];exact h0 _ e0 y (jc hy)
  .rw[cc.mp hx];exact this.2 y hy
 have dn:∀l i j,MI (kO O key) la lb l i j->(la.length<=i\/ lb.length<=j)->∀mg',Q (im f l++(im f la).extract i (im f la).size++(im f lb).extract j (im f lb).size) (sS κ arr pend mg'):=fun l i j m h mg'=>by
  rw[gM,gM,a5,a5,dq,dq,fX,fX];obtain⟨p1,p2⟩:=m.fin ha hb fun x hx y hy=>by
   rcases h with h|h
   .rw[drop_eq_nil_of_le h]at hx;cases hx
   .rw[drop_eq_nil_of_le h]at hy;cases hy
  exact q _ _ p1 p2
 have lt:∀l i j,MI (kO O key) la lb l i j->i+1=la.length->∀mg',Q (im f l++(im f lb).extract j (im f lb).size++(im f la).extract i (im f la).size) (sS κ arr pend mg'):=fun l i j m h mg'=>by
  rw[gM,gM,a5,a5,dq,dq,fX,fX];obtain⟨p1,p2⟩:=m.swap.fin hb ha fun x hx y hy=>hl y (by rw[show la.length - 1=i by omega];exact hy) x (jc hx)
  exact q _ _ (p1.trans ji) p2
 refine aI (kZ (sV e1 (aT (fun r1=>?_) fun r1=>aT (fun r2=>?_) fun r2=>?_)))
 .have r1:=eq_of_beq r1;rw[a5]at r1;exact aH (dn _ _ _ m0 (.inr (le_of_eq r1.symm)) _)
 .have r2:=eq_of_beq r2;rw[a5]at r2;exact aH (lt _ _ _ m0 r2 _)
 rw[a5,dm]at r1 r2;have r1:¬1=lb.length:=r1;have r2:¬0+1=la.length:=r2;refine aI (eX ?_);refine aI (fE (fun i (z:Option (Array Keyed)×Array Keyed×Nat×Nat×Nat) st'=>z.1=none/\(∃mg',st'=sS κ arr pend mg')/\(∃l,z.2.1=im f l/\MI (kO O key) la lb l z.2.2.1 z.2.2.2.1)/\z.2.2.1+1<la.length/\z.2.2.2.1<lb.length/\i<z.2.2.1+z.2.2.2.1) ⟨rfl,⟨_,rfl⟩,⟨_,S9 _,m0⟩,by dsimp only;omega,by dsimp only;omega,by dsimp only;omega⟩ (eh _) ?_ ?_)
 .clear m0 e0 e1 r1 r2;refine fun i=>pr5 fun r out ia ib g st' hi h=>elA h fun e1 mg' e2 l eo m h=>?_
  have h1:=h.1;have h2:=h.2.1;have h3:=h.2.2;clear h;dsimp only at e1 eo m h1 h2 h3;subst e1 e2;refine aI (dO (R:=fun(z:Option (Array Keyed)×Array Keyed×Nat×Nat×Nat×Nat) st'=>(∃mg',st'=sS κ arr pend mg')/\((∃X,z.1=some X/\Q X st')\/ (z.1=none/\(∃l,z.2.1=im f l/\MI (kO O key) la lb l z.2.2.1 z.2.2.2.1)/\z.2.2.1+1<la.length/\z.2.2.2.1<lb.length/\i+1<z.2.2.1+z.2.2.2.1)))
   (pZ (fun j (z:Option (Array Keyed)×Array Keyed×Nat×Nat×Nat×Nat) st'=>z.1=none/\st'=sS κ arr pend mg'/\(∃l,z.2.1=im f l/\MI (kO O key) la lb l z.2.2.1 z.2.2.2.1)/\z.2.2.1+1<la.length/\z.2.2.2.1<lb.length/\i+j<z.2.2.1+z.2.2.2.1) ⟨rfl,rfl,⟨l,eo,m⟩,h1,h2,h3⟩ (eh _) ?_ ?_) ?_)
  .clear h1 h2 h3 m eo;refine fun j=>pr6 fun r out ia ib ac bc st' hj h R hy hd=>elB h fun e1 e2 l eo m h=>?_
   have h1:=h.1;have h2:=h.2.1;have h3:=h.2.2;clear h;dsimp only at e1 eo m h1 h2 h3;subst e1 e2;refine gb ib h2 fun y ey eb yn=>?_
   refine ga ia (by omega) fun x ex ea xn=>?_
   clear hi hj;refine MU C eb ea yn xn (aT (fun e=>?_) fun e=>?_)
   .have m':=(m.swap.one hb ey (xU ha ex (GI e))).swap;have eo':=(cn (fun z=>Array.push z (f y)) eo).trans (dR y);refine sV eb (aT (fun r1=>?_) fun r1=>?_)
    .have r1:=eq_of_beq r1;rw[a5]at r1;have:=dn _ _ _ m' (.inr (le_of_eq r1.symm));rw[<-eo']at this;exact aH (hd _ _ ⟨⟨_,rfl⟩,.inl ⟨_,rfl,this _⟩⟩)
    .rw[a5,dm]at r1;have g1:ib+1<lb.length:=lx h2 r1;exact aT (fun _=>aH (hd _ _ ⟨⟨_,rfl⟩,.inr ⟨rfl,⟨_,eo',m'⟩,h1,g1,by dsimp only;omega⟩⟩)) fun _=>aH (hy _ _ ⟨rfl,rfl,⟨_,eo',m'⟩,h1,g1,by dsimp only;omega⟩)
   .rw[not_eq_true]at e;have m':=m.one ha ex (xU hb ey e);have eo':=(cn (fun z=>Array.push z (f x)) eo).trans (dR x);refine sV ea (aT (fun r1=>?_) fun r1=>?_)
    .have r1:=eq_of_beq r1;rw[a5]at r1;have:=lt _ _ _ m' r1;rw[<-eo']at this;exact aH (hd _ _ ⟨⟨_,rfl⟩,.inl ⟨_,rfl,this _⟩⟩)
    .rw[a5,dm]at r1;have g1:ia+1+1<la.length:=lx h1 r1;exact aT (fun _=>aH (hd _ _ ⟨⟨_,rfl⟩,.inr ⟨rfl,⟨_,eo',m'⟩,g1,h2,by dsimp only;omega⟩⟩)) fun _=>aH (hy _ _ ⟨rfl,rfl,⟨_,eo',m'⟩,g1,h2,by dsimp only;omega⟩)
  .rintro⟨r,out,ia,ib,ac,bc⟩ st' ⟨e1,e2,⟨l,e3,m⟩,h1,h2,h3⟩;dsimp only at h1 h2 h3;rw[a5,a5]at h3;omega
  .clear h1 h2 h3 m eo hi;refine pr6 fun r out ia ib ac bc st' h=>elC h (fun mg' e2 X h=>?_) fun mg' e2 e1 l eo m h=>?_
   .have e1:=h.1;have hX:=h.2;clear h;dsimp only at e1;subst e1;exact aH (aH hX)
   .have h1:=h.1;have h2:=h.2.1;have h3:=h.2.2;clear h;dsimp only at e1 eo m h1 h2 h3;subst e1 e2;refine aI (kZ ?_);refine aI (dO (R:=fun(z:Option (Array Keyed)×Array Keyed×Nat×Nat×Nat×Nat×Nat) st'=>(∃mg',st'=sS κ arr pend mg')/\((∃X,z.1=some X/\Q X st')\/ (z.1=none/\(∃l,z.2.1=im f l/\MI (kO O key) la lb l z.2.2.1 z.2.2.2.1)/\z.2.2.1+1<la.length/\z.2.2.2.1<lb.length/\i+1<z.2.2.1+z.2.2.2.1)))
     (pZ (fun j (z:Option (Array Keyed)×Array Keyed×Nat×Nat×Nat×Nat×Nat) st'=>z.1=none/\(∃mg',st'=sS κ arr pend mg')/\(∃l,z.2.1=im f l/\MI (kO O key) la lb l z.2.2.1 z.2.2.2.1)/\z.2.2.1+1<la.length/\z.2.2.2.1<lb.length/\i+1+j<z.2.2.1+z.2.2.2.1) ⟨rfl,⟨_,rfl⟩,⟨l,eo,m⟩,h1,h2,h3⟩ (eh _) ?_ ?_) ?_)
    .clear h1 h2 h3 m eo;refine fun j=>pr7 fun r out ia ib g ac bc st' hj h R hy hd=>elA h fun e1 mg' e2 l eo m h=>?_
     have h1:=h.1;have h2:=h.2.1;have h3:=h.2.2;clear h;dsimp only at e1 eo m h1 h2 h3;subst e1 e2;clear hj
     extract_lets s1 out1 s2 ia1 s3 ib1 s4 g1 s5 ac1 bc1 b2 jp g2
     refine gb ib h2 fun y ey eb yn=>?_
     refine KH fun g=>?_
     refine ZW (GA (l:=la) (x:=y) (base:=ia) (m:=(im f la).size - ia) (j:=0) eb C na yn ha.drop.take (by rw[a5];omega) (by rw[a5];omega) fun k hk p1 p2=>?_);rw[a5]at hk p2;rw[show(la.drop ia).take (la.length - ia)=la.drop ia from fz (by rw[dh];exact bj _),drop_drop]at p2;have m1:=m.more (k:=k) ha fun x hx=>xU hb ey (p1 x hx)
     dsimp(config:={zeta:=false}) only
     extract_lets ac2 jp2 out3 ia3
     refine tN (jp:=jp2 ()) (φ:=fun out ia=>(∃l,out=im f l/\MI (kO O key) la lb l ia ib)/\ia+1<la.length/\(∀z∈la.drop ia,kO O key y z)/\i+1+j<ia+ib) (fun H=>?_) ?_
     .refine aT (fun k0=>?_) fun k0=>H out ia ⟨⟨l,eo,m⟩,h1,by rw[show k=0 from Nat.eq_zero_of_not_pos k0]at p2;exact p2,h3⟩
      have eo3:out3=im f (l++(la.drop ia).take k):=(cn (·++(im f la).extract ia (ia+k)) eo).trans ((cn (_++·) (DY _ _)).trans fX)
      clear_value jp2 out3
      refine aT (fun r1=>?_) fun r1=>aT (fun r2=>?_) fun r2=>?_
      .have r1:=eq_of_beq r1;rw[a5]at r1;have:=lt _ _ _ m1 r1;rw[<-eo3]at this;exact aH (hd _ _ ⟨⟨_,rfl⟩,.inl ⟨_,rfl,this _⟩⟩)
      .have r2:=eq_of_beq r2;rw[a5]at r2;have:=dn _ _ _ m1 (.inl (le_of_eq r2.symm));rw[<-eo3]at this;exact aH (hd _ _ ⟨⟨_,rfl⟩,.inl ⟨_,rfl,this _⟩⟩)
      .rw[a5,dm]at r1 r2;have r1:¬ia+k+1=la.length:=r1;have r2:¬ia+k=la.length:=r2;exact H _ (ia+k) ⟨⟨_,eo3,m1⟩,by omega,p2,by omega⟩
     clear eo m h1 h3 p1 p2 hk m1
     clear_value out1 ia1 ac1
     rintro out ia ⟨⟨l,eo,m⟩,g1,p3,g3⟩;have m2:=(m.swap.one hb ey p3).swap;have eo2:=(cn (fun z=>Array.push z (f y)) eo).trans (dR y);refine sV eb (aT (fun r1=>?_) fun r1=>?_)
     .have r1:=eq_of_beq r1;rw[a5]at r1;have:=dn _ _ _ m2 (.inr (le_of_eq r1.symm));rw[<-eo2]at this;exact aH (hd _ _ ⟨⟨_,rfl⟩,.inl ⟨_,rfl,this _⟩⟩)
     rw[a5,dm]at r1;have r2:ib+1<lb.length:=lx h2 r1;refine ga ia (by omega) fun x ex ea xn=>?_
     refine GA (l:=lb) (x:=x) (base:=ib+1) (m:=(im f lb).size - (ib+1)) (j:=0) ea C nb xn hb.drop.take (by rw[a5];omega) (by rw[a5];omega) fun k2 hk2 p4 p5=>?_
     rw[a5]at hk2 p5;rw[show(lb.drop (ib+1)).take (lb.length - (ib+1))=lb.drop (ib+1)from fz (by rw[dh];exact bj _),drop_drop]at p5;have m3:=(m2.swap.more (k:=k2) hb fun z hz=>xU ha ex (p4 z hz)).swap;dsimp(config:={zeta:=false}) only
     extract_lets bc2 ia5 jp3 o5 b5
     refine tN (jp:=jp3 ()) (φ:=fun out ib=>(∃l,out=im f l/\MI (kO O key) la lb l ia ib)/\ib<lb.length/\(∀z∈lb.drop ib,kO O key x z)/\i+1+j+1<ia+ib) (fun H=>?_) ?_
     .refine aT (fun k0=>?_) fun k0=>H _ (ib+1) ⟨⟨_,eo2,m2⟩,r2,by rw[show k2=0 from Nat.eq_zero_of_not_pos k0]at p5;exact p5,by omega⟩
      have eo3:o5=im f (l++[y]++(lb.drop (ib+1)).take k2):=(cn (·++(im f lb).extract (ib+1) (ib+1+k2)) eo2).trans ((cn (_++·) (DY _ _)).trans fX)
      clear_value jp3 o5
      refine aT (fun r3=>?_) fun r3=>?_
      .have r3:=eq_of_beq r3;rw[a5]at r3;have:=dn _ _ _ m3 (.inr (le_of_eq r3.symm));rw[<-eo3]at this;exact aH (hd _ _ ⟨⟨_,rfl⟩,.inl ⟨_,rfl,this _⟩⟩)
      .rw[a5,dm]at r3;have r3:¬ib+1+k2=lb.length:=r3;exact H _ (ib+1+k2) ⟨⟨_,eo3,m3⟩,by omega,p5,by omega⟩
     clear eo eo2 m m2 m3 g3 p3 p4 p5 hk2 r1;rintro out ib ⟨⟨l,eo,m⟩,g3,p6,g4⟩;have m4:=m.one ha ex p6;have eo4:=(cn (fun z=>Array.push z (f x)) eo).trans (dR x);refine sV ea (aT (fun r3=>?_) fun r3=>?_)
     .have r3:=eq_of_beq r3;rw[a5]at r3;have:=lt _ _ _ m4 r3;rw[<-eo4]at this;exact aH (hd _ _ ⟨⟨_,rfl⟩,.inl ⟨_,rfl,this _⟩⟩)
     .rw[a5,dm]at r3;have r3:ia+1+1<la.length:=lx g1 r3;exact aT (fun _=>aH (hd _ _ ⟨⟨_,rfl⟩,.inr ⟨rfl,⟨_,eo4,m4⟩,r3,g3,by dsimp only;omega⟩⟩)) fun _=>aH (hy _ _ ⟨rfl,⟨_,rfl⟩,⟨_,eo4,m4⟩,r3,g3,by dsimp only;omega⟩)
    .rintro⟨r,out,ia,ib,g,ac,bc⟩ st' ⟨e1,⟨mg',e2⟩,⟨l,e3,m⟩,h1,h2,h3⟩;dsimp only at h1 h2 h3;rw[a5,a5]at h3;omega
    .rintro⟨r,out,ia,ib,g,ac,bc⟩ st' ⟨⟨mg',rfl⟩,⟨X,e1,hX⟩|⟨e1,h⟩⟩
     .dsimp only at e1;subst e1;exact aH (aH hX)
     .dsimp only at e1;subst e1;exact aI (gW (aH ⟨rfl,⟨_,rfl⟩,h⟩))
 .rintro⟨r,out,ia,ib,g⟩ st' ⟨e1,⟨mg',e2⟩,⟨l,e3,m⟩,h1,h2,h3⟩;dsimp only at h1 h2 h3;rw[a5,a5]at h3;omega
end
section
variable {R:Nat->Nat->Prop} {la lb l:List Nat} {i j k:Nat}
structure MJ (R:Nat->Nat->Prop) (la lb l:List Nat) (i j:Nat):Prop where
 perm:l.Perm (la.drop i++lb.drop j)
 N5:l.Pairwise fun x y=>R y x
 a:∀x∈l,∀y∈la.take i,R y x
 b:∀x∈l,∀y∈lb.take j,R y x
theorem MJ.swap (h:MJ R la lb l i j):MJ R lb la l j i:=⟨h.perm.trans ji,h.N5,h.b,h.a⟩
theorem MJ.more (h:MJ R la lb l i j) (ha:la.Pairwise R) (hi:k<=i) (hk:∀x∈(la.take i).drop k,∀y∈lb.take j,R y x):MJ R la lb (l++((la.take i).drop k).reverse) k j:=by
 have e:la.take i=la.take k++(la.take i).drop k:=by
  conv=>lhs;rw[<-cp k (la.take i)]
  rw[take_take,jq hi]
 have hd:(la.take i).Pairwise R:=ha.take;rw[e,fj]at hd;have sub:∀x∈(la.take i).drop k,x∈la.take i:=fun x hx=>jc hx
 refine⟨?_,fj.mpr ⟨h.N5,List.pairwise_reverse.mpr hd.2.1,fun x hx y hy=>h.a x hx y (sub y (mem_reverse.mp hy))⟩,fun x hx y hy=>?_,fun x hx y hy=>?_⟩
 .have e2:la.drop k=(la.take i).drop k++la.drop i:=by
   conv=>lhs;rw[<-cp i la]
   rw[List.drop_append,di]
   by_cases hl:i<=la.length
   .rw[jq hl,Nat.sub_eq_zero_of_le hi,gq]
   .rw[drop_eq_nil_of_le (as:=la) (i:=i) (by omega),List.drop_nil]
  rw[e2,de];refine(ji).trans ?_;exact(List.reverse_perm _).append h.perm
 .rcases bp.mp hx with hx|hx
  .exact h.a x hx y (by rw[e];exact bw _ hy)
  .exact hd.2.2 y hy x (mem_reverse.mp hx)
 .rcases bp.mp hx with hx|hx
  .exact h.b x hx y hy
  .exact hk x (mem_reverse.mp hx) y hy
theorem MJ.one (h:MJ R la lb l (i+1) j) (ha:la.Pairwise R) (hx:la[i]? =some x) (hk:∀y∈lb.take j,R y x):MJ R la lb (l++[x]) i j:=by
 have e:(la.take (i+1)).drop i=[x]:=by
  rw[gn,hx,List.drop_append,drop_eq_nil_of_le (by rw[di];omega),di];have:=(ae.mp hx).1;rw[jq (by omega),Nat.sub_self];rfl
 have:=h.more (k:=i) ha (jf i) (by rw[e];intro z hz;rw[cc.mp hz];exact hk);rw[e]at this;exact this
theorem MJ.fin (h:MJ R la lb l i j) (ha:la.Pairwise R) (hb:lb.Pairwise R) (hk:∀x∈la.take i,∀y∈lb.take j,R x y):(la.take i++lb.take j++l.reverse).Perm (la++lb)/\(la.take i++lb.take j++l.reverse).Pairwise R:=by
 refine⟨?_,?_⟩
 .have e1:(la++lb).Perm ((la.take i++lb.take j)++(la.drop i++lb.drop j)):=by
   conv=>lhs;rw[<-cp i la,<-cp j lb]
   rw[de,de];refine ka _ ?_;rw[<-de,<-de];exact perm_append_comm.append_right _
  exact(ka _ ((List.reverse_perm l).trans h.perm)).trans e1.symm
 .refine fj.mpr ⟨fj.mpr ⟨ha.take,hb.take,hk⟩,List.pairwise_reverse.mpr h.N5,fun x hx y hy=>?_⟩;have hy:=mem_reverse.mp hy;rcases bp.mp hx with hx|hx
  .exact h.a y hy x hx
  .exact h.b y hy x hx
end
section
variable {c:Tc} {κ:SortKind} {O:KeyOrd} {key:Nat->O.α} {f:Nat->Keyed} {n mg:Nat} {arr:Array Keyed} {pend:Array (Nat×Nat×Nat)}
theorem wY (hs:l.Pairwise (kO O key)) (h:l[i]? =some y) (hx:kO O key y x):∀z∈l.take (i+1),kO O key z x:=by
 have ht:(l.take (i+1)).Pairwise (kO O key):=hs.take;rw[gn,h]at ht⊢
 intro z hz;rcases bp.mp hz with hz|hz
 .exact j5 ((fj.mp ht).2.2 z hz y (by simp)) hx
 .rw[show z=y by simpa using hz];exact hx
theorem FD (i k:Nat):((im f l).extract i k).reverse=im f ((l.take k).drop i).reverse:=by rw[gM,CY]
theorem WA {Q:Array Keyed->SortSt->Prop} (C:Cm c κ O key f n) (ha:la.Pairwise (kO O key)) (hb:lb.Pairwise (kO O key)) (na:∀i∈la,i<n) (nb:∀i∈lb,i<n) (a0:0<la.length) (b0:0<lb.length)
  (h0:∀y,lb[0]? =some y->∀x∈la,kO O key y x) (hl:∀x∈la.drop (la.length - 1),∀y∈lb,kO O key y x) (q:∀l mg',l.Perm (la++lb)->l.Pairwise (kO O key)->Q (im f l) (sS κ arr pend mg')):TW c (mHi (im f la) (im f lb)) Q (sS κ arr pend mg):=by
 have gb:∀i,i<lb.length->∀{G:Prop},(∀y,lb[i]? =some y->(im f lb)[i]? =some (f y)->y<n->G)->G:=fun i hi G k=>k lb[i] (ag hi) (by rw[mW,ag hi];rfl) (nb _ (iu hi))
 have ga:∀i,i<la.length->∀{G:Prop},(∀y,la[i]? =some y->(im f la)[i]? =some (f y)->y<n->G)->G:=fun i hi G k=>k la[i] (ag hi) (by rw[mW,ag hi];rfl) (na _ (iu hi))
 have dn:∀l i j,MJ (kO O key) la lb l i j->(i=0\/ j=0)->∀mg',Q ((im f la).extract 0 i++(im f lb).extract 0 j++(im f l).reverse) (sS κ arr pend mg'):=fun l i j m h mg'=>by
  rw[gM,gM,gq,gq,CY,fX,fX];obtain⟨p1,p2⟩:=m.fin ha hb fun x hx y hy=>by
   rcases h with h|h
   .rw[h]at hx;simp at hx
   .rw[h]at hy;simp at hy
  exact q _ _ p1 p2
 have lt:∀l i j,MJ (kO O key) la lb l i j->j=1->∀mg',Q ((im f lb).extract 0 j++(im f la).extract 0 i++(im f l).reverse) (sS κ arr pend mg'):=fun l i j m h mg'=>by
  rw[gM,gM,gq,gq,CY,fX,fX];obtain⟨p1,p2⟩:=m.swap.fin hb ha fun x hx y hy=>by
   refine gb 0 b0 fun z ez _ _=>?_
   rw[h,gn,ez]at hx;rw[show x=z by simpa using hx];exact h0 z ez y (fx hy)
  exact q _ _ (p1.trans ji) p2
 refine ga (la.length - 1) (by omega) fun x0 e0 e1 x0n=>?_
 have m0:MJ (kO O key) la lb [x0] (la.length - 1) lb.length:=by
  have hm:x0∈la.drop (la.length - 1):=by
   rw[dg (by omega)];rw[ag (by omega)]at e0;rw[Option.some.inj e0];exact bf
  refine(MJ.one (l:=[]) (i:=la.length - 1) ⟨?_,.nil,fun _ h=>(nomatch h),fun _ h=>(nomatch h)⟩ ha e0 fun y hy=>hl x0 hm y (fx hy));rw[show la.length - 1+1=la.length by omega,drop_length,drop_length];exact .nil
 refine aI (kZ (aI (vR (x:=f x0) (by rw[a5];exact e1) ?_)));rw[a5,a5];refine aT (fun r1=>?_) fun r1=>aT (fun r2=>?_) fun r2=>?_
 .exact aH (dn _ _ _ m0 (.inl (eq_of_beq r1)) _)
 .exact aH (lt _ _ _ m0 (eq_of_beq r2) _)
 rw[dm]at r1 r2;refine aI (eX ?_);refine aI (fE (fun i (z:Option (Array Keyed)×Nat×Nat×Array Keyed×Nat) st'=>z.1=none/\(∃mg',st'=sS κ arr pend mg')/\(∃l,z.2.2.2.1=im f l/\MJ (kO O key) la lb l z.2.1 z.2.2.1)/\0<z.2.1/\1<z.2.2.1/\z.2.1<=la.length/\z.2.2.1<=lb.length/\i+z.2.1+z.2.2.1<la.length+lb.length) ⟨rfl,⟨_,rfl⟩,⟨_,S9 _,m0⟩,by dsimp only;omega,by dsimp only;omega,by dsimp only;omega,by dsimp only;omega,by dsimp only;omega⟩ (eh _) ?_ ?_)
 .refine fun i=>pr5 fun r p t out g st' hi h=>elA h fun e1 mg' e2 l eo m h=>?_
  have h1:=h.1;have h2:=h.2.1;have h3:=h.2.2.1;have h4:=h.2.2.2.1;have h5:=h.2.2.2.2;clear h;dsimp only at e1 eo m h1 h2 h3 h4 h5;subst e1 e2;subst eo;refine aI (dO (R:=fun(z:Option (Array Keyed)×Nat×Nat×Array Keyed×Nat×Nat) st'=>(∃mg',st'=sS κ arr pend mg')/\((∃X,z.1=some X/\Q X st')\/ (z.1=none/\(∃l,z.2.2.2.1=im f l/\MJ (kO O key) la lb l z.2.1 z.2.2.1)/\0<z.2.1/\1<z.2.2.1/\z.2.1<=la.length/\z.2.2.1<=lb.length/\i+1+z.2.1+z.2.2.1<la.length+lb.length)))
   (pZ (fun j (z:Option (Array Keyed)×Nat×Nat×Array Keyed×Nat×Nat) st'=>z.1=none/\st'=sS κ arr pend mg'/\(∃l,z.2.2.2.1=im f l/\MJ (kO O key) la lb l z.2.1 z.2.2.1)/\0<z.2.1/\1<z.2.2.1/\z.2.1<=la.length/\z.2.2.1<=lb.length/\i+j+z.2.1+z.2.2.1<la.length+lb.length) ⟨rfl,rfl,⟨l,rfl,m⟩,h1,h2,h3,h4,h5⟩ (eh _) ?_ ?_) ?_)
  .clear h1 h2 h3 h4 h5 m;refine fun j=>pr6 fun r p t out ac bc st' hj h R hy hd=>elB h fun e1 e2 l eo m h=>?_
   have h1:=h.1;have h2:=h.2.1;have h3:=h.2.2.1;have h4:=h.2.2.2.1;have h5:=h.2.2.2.2;clear h;dsimp only at e1 eo m h1 h2 h3 h4 h5;subst e1 e2;subst eo;obtain⟨p,rfl⟩:∃z,p=z+1:=⟨p - 1,by omega⟩;obtain⟨t,rfl⟩:∃z,t=z+1:=⟨t - 1,by omega⟩;refine gb t (by omega) fun y ey eb yn=>?_
   refine ga p (by omega) fun x ex ea xn=>?_
   refine MU (i:=t+1 - 1) (j:=p+1 - 1) C eb ea yn xn ?_;cases e:O.blt (key y) (key x)with
   | true=>
    have m':=m.one ha ex (wY hb ey (GI e));refine sV (i:=p+1 - 1) ea (aT (fun r1=>?_) fun r1=>?_)
    .have:=dn _ _ _ m' (.inl (eq_of_beq r1));rw[<-dR]at this;exact aH (hd _ _ ⟨⟨_,rfl⟩,.inl ⟨_,rfl,this _⟩⟩)
    .rw[dm]at r1;refine aT (fun _=>aH (hd _ _ ⟨⟨_,rfl⟩,.inr ⟨rfl,⟨_,dR x,m'⟩,?_,h2,?_,h4,?_⟩⟩)) fun _=>aH (hy _ _ ⟨rfl,rfl,⟨_,dR x,m'⟩,?_,h2,?_,h4,?_⟩)
     all_goals(dsimp only at r1⊢;omega)
   | false=>
    have m':=(m.swap.one hb ey (wY ha ex e)).swap;refine sV (i:=t+1 - 1) eb (aT (fun r1=>?_) fun r1=>?_)
    .have:=lt _ _ _ m' (eq_of_beq r1);rw[<-dR]at this;exact aH (hd _ _ ⟨⟨_,rfl⟩,.inl ⟨_,rfl,this _⟩⟩)
    .rw[dm]at r1;refine aT (fun _=>aH (hd _ _ ⟨⟨_,rfl⟩,.inr ⟨rfl,⟨_,dR y,m'⟩,h1,?_,h3,?_,?_⟩⟩)) fun _=>aH (hy _ _ ⟨rfl,rfl,⟨_,dR y,m'⟩,h1,?_,h3,?_,?_⟩)
     all_goals(dsimp only at r1⊢;omega)
  .rintro⟨r,p,t,out,ac,bc⟩ st' ⟨e1,e2,⟨l,e3,m⟩,h1,h2,h3,h4,h5⟩;dsimp only at h1 h2 h3 h4 h5;omega
  .clear h1 h2 h3 h4 h5 m;refine pr6 fun r p t out ac bc st' h=>elC h (fun mg' e2 X h=>?_) fun mg' e2 e1 l eo m h=>?_
   .have e1:=h.1;have hX:=h.2;clear h;dsimp only at e1;subst e1;exact aH (aH hX)
   .have h1:=h.1;have h2:=h.2.1;have h3:=h.2.2.1;have h4:=h.2.2.2.1;have h5:=h.2.2.2.2;clear h;dsimp only at e1 eo m h1 h2 h3 h4 h5;subst e1 e2;subst eo;refine aI (kZ ?_);refine aI (dO (R:=fun(z:Option (Array Keyed)×Nat×Nat×Array Keyed×Nat×Nat×Nat) st'=>(∃mg',st'=sS κ arr pend mg')/\((∃X,z.1=some X/\Q X st')\/ (z.1=none/\(∃l,z.2.2.2.1=im f l/\MJ (kO O key) la lb l z.2.1 z.2.2.1)/\0<z.2.1/\1<z.2.2.1/\z.2.1<=la.length/\z.2.2.1<=lb.length/\i+1+z.2.1+z.2.2.1<la.length+lb.length)))
     (pZ (fun j (z:Option (Array Keyed)×Nat×Nat×Array Keyed×Nat×Nat×Nat) st'=>z.1=none/\(∃mg',st'=sS κ arr pend mg')/\(∃l,z.2.2.2.1=im f l/\MJ (kO O key) la lb l z.2.1 z.2.2.1)/\0<z.2.1/\1<z.2.2.1/\z.2.1<=la.length/\z.2.2.1<=lb.length/\i+1+j+z.2.1+z.2.2.1<la.length+lb.length) ⟨rfl,⟨_,rfl⟩,⟨l,rfl,m⟩,h1,h2,h3,h4,h5⟩ (eh _) ?_ ?_) ?_)
    .clear h1 h2 h3 h4 h5 m;refine fun j=>pr7 fun r p t out g ac bc st' hj h R hy hd=>elA h fun e1 mg' e2 l eo m h=>?_
     have h1:=h.1;have h2:=h.2.1;have h3:=h.2.2.1;have h4:=h.2.2.2.1;have h5:=h.2.2.2.2;clear h;dsimp only at e1 eo m h1 h2 h3 h4 h5;subst e1 e2;clear hj;obtain⟨t,rfl⟩:∃z,t=z+1:=⟨t - 1,by omega⟩;refine gb t (by omega) fun y ey eb yn=>?_
     extract_lets s1 na1 s2 nb1 s3 out1 s4 g1 s5 ac1 bc1 b2 jp g2
     refine KH fun g=>?_
     refine ZW (GA (i:=t+1 - 1) (l:=la) (x:=y) (base:=0) (m:=p) (j:=p - 1) eb C na yn ha.drop.take (by omega) (by omega) fun k hk p1 p2=>?_);rw[gq]at p1 p2;have m1:=m.more (k:=k) ha hk fun x hx=>wY hb ey (p2 x hx)
     dsimp(config:={zeta:=false}) only
     extract_lets k2 ac2 jp2 out3 na3
     refine tN (jp:=jp2 ()) (φ:=fun k out=>(∃l,out=im f l/\MJ (kO O key) la lb l k (t+1))/\0<k/\k<=la.length/\(∀z∈la.take k,kO O key z y)/\i+1+j+k+(t+1)<la.length+lb.length) (fun H=>?_) ?_
     .refine aT (fun k0=>?_) fun k0=>?_
      .have eo3:out3=im f (l++((la.take p).drop k).reverse):=(cn (·++((im f la).extract k p).reverse) eo).trans ((cn (_++·) (FD _ _)).trans fX)
       clear_value jp2 out3
       refine aT (fun r1=>?_) fun r1=>?_
       .have:=dn _ _ _ m1 (.inl (eq_of_beq r1));rw[<-eo3]at this;exact aH (hd _ _ ⟨⟨_,rfl⟩,.inl ⟨_,rfl,this _⟩⟩)
       .rw[dm]at r1;exact H k _ ⟨⟨_,eo3,m1⟩,Nat.pos_of_ne_zero r1,by omega,p1,by omega⟩
      .have k0:¬p - k>0:=k0;obtain rfl:k=p:=by omega
       exact H k out ⟨⟨_,eo,m⟩,h1,h3,p1,h5⟩
     clear eo m h1 h3 h5 p1 p2 hk m1
     clear_value ac2 na1 out1 ac1
     rintro p out ⟨⟨l,eo,m⟩,h1,h3,p1,h5⟩;have m2:=(m.swap.one hb ey p1).swap;have eo2:=(cn (fun z=>Array.push z (f y)) eo).trans (dR y);refine sV (i:=t+1 - 1) eb (aT (fun r1=>?_) fun r1=>?_)
     .have:=lt _ _ _ m2 (eq_of_beq r1);rw[<-eo2]at this;exact aH (hd _ _ ⟨⟨_,rfl⟩,.inl ⟨_,rfl,this _⟩⟩)
     rw[dm]at r1;have g2:1<t:=by have r1:¬t=1:=r1;omega
     obtain⟨u,rfl⟩:∃z,p=z+1:=⟨p - 1,by omega⟩;refine ga u (by omega) fun x ex ea xn=>?_
     refine GA (i:=u+1 - 1) (l:=lb) (x:=x) (base:=0) (m:=t) (j:=t - 1) ea C nb xn hb.drop.take (by omega) (by omega) fun k2 hk2 p4 p5=>?_
     rw[gq]at p4 p5;have m3:=(m2.swap.more (k:=k2) hb hk2 fun z hz=>wY ha ex (p5 z hz)).swap;dsimp(config:={zeta:=false}) only
     extract_lets k3 bc2 na5 jp3 o5 b5
     refine tN (jp:=jp3 ()) (φ:=fun k out=>(∃l,out=im f l/\MJ (kO O key) la lb l (u+1) k)/\1<k/\k<=lb.length/\(∀z∈lb.take k,kO O key z x)/\i+1+j+(u+1)+k+1<la.length+lb.length) (fun H=>?_) ?_
     .refine aT (fun k0=>?_) fun k0=>?_
      .have eo3:o5=im f (l++[y]++((lb.take t).drop k2).reverse):=(cn (·++((im f lb).extract k2 t).reverse) eo2).trans ((cn (_++·) (FD _ _)).trans fX)
       clear_value jp3 o5
       refine aT (fun r2=>?_) fun r2=>aT (fun r3=>?_) fun r3=>?_
       .have:=lt _ _ _ m3 (eq_of_beq r2);rw[<-eo3]at this;exact aH (hd _ _ ⟨⟨_,rfl⟩,.inl ⟨_,rfl,this _⟩⟩)
       .have:=dn _ _ _ m3 (.inr (eq_of_beq r3));rw[<-eo3]at this;exact aH (hd _ _ ⟨⟨_,rfl⟩,.inl ⟨_,rfl,this _⟩⟩)
       .rw[dm]at r2 r3;have r2:¬k2=1:=r2;have r3:¬k2=0:=r3;exact H k2 _ ⟨⟨_,eo3,m3⟩,by omega,by omega,p4,by omega⟩
      .have k0:¬t - k2>0:=k0;obtain rfl:k2=t:=by omega
       exact H k2 _ ⟨⟨_,eo2,m2⟩,g2,by omega,p4,by omega⟩
     clear eo eo2 m m2 m3 h5 p1 p4 p5 hk2 r1;rintro t' out ⟨⟨l,eo,m⟩,g3,g4,p6,g5⟩;have m4:=m.one ha ex p6;have eo4:=(cn (fun z=>Array.push z (f x)) eo).trans (dR x);refine sV (i:=u+1 - 1) ea (aT (fun r3=>?_) fun r3=>?_)
     .have:=dn _ _ _ m4 (.inl (eq_of_beq r3));rw[<-eo4]at this;exact aH (hd _ _ ⟨⟨_,rfl⟩,.inl ⟨_,rfl,this _⟩⟩)
     .rw[dm]at r3;have r3:0<u:=Nat.pos_of_ne_zero r3;exact aT (fun _=>aH (hd _ _ ⟨⟨_,rfl⟩,.inr ⟨rfl,⟨_,eo4,m4⟩,r3,g3,Nat.le_of_succ_le h3,g4,by dsimp only;omega⟩⟩)) fun _=>aH (hy _ _ ⟨rfl,⟨_,rfl⟩,⟨_,eo4,m4⟩,r3,g3,Nat.le_of_succ_le h3,g4,by dsimp only;omega⟩)
    .rintro⟨r,p,t,out,g,ac,bc⟩ st' ⟨e1,⟨mg',e2⟩,⟨l,e3,m⟩,h1,h2,h3,h4,h5⟩;dsimp only at h1 h2 h3 h4 h5;omega
    .rintro⟨r,p,t,out,g,ac,bc⟩ st' ⟨⟨mg',rfl⟩,⟨X,e1,hX⟩|⟨e1,⟨l,e2,m⟩,h1,h2,h3,h4,h5⟩⟩
     .dsimp only at e1;subst e1;exact aH (aH hX)
     .dsimp only at e1 e2 m h1 h2 h3 h4 h5;subst e1 e2;exact aI (gW (aH ⟨rfl,⟨_,rfl⟩,⟨l,rfl,m⟩,h1,h2,h3,h4,h5⟩))
 .rintro⟨r,p,t,out,g⟩ st' ⟨e1,⟨mg',e2⟩,⟨l,e3,m⟩,h1,h2,h3,h4,h5⟩;dsimp only at h1 h2 h3 h4 h5;omega
end
section
variable {c:Tc} {κ:SortKind} {O:KeyOrd} {key:Nat->O.α} {f:Nat->Keyed} {n mg lo:Nat} {pend:Array (Nat×Nat×Nat)} {p:Array Nat}
def Up (O:KeyOrd) (key:Nat->O.α) (p:Array Nat) (a b:Nat):Prop:=∀i j,a<=i->i<=j->j<b->O.kle (Ky O key p i) (Ky O key p j)
def Dw (O:KeyOrd) (key:Nat->O.α) (p:Array Nat) (a b:Nat):Prop:=∀i j,a<=i->i<=j->j<b->O.kle (Ky O key p j) (Ky O key p i)
theorem Up.more {a b:Nat} (h:Up O key p a b) (hb:a<b) (hl:O.kle (Ky O key p (b - 1)) (Ky O key p b)):Up O key p a (b+1):=by
 intro i j h1 h2 h3
 by_cases e:j<b
 .exact h i j h1 h2 e
 .obtain rfl:j=b:=by omega
  by_cases e2:i=j
  .subst e2;exact iq _
  .exact lz (h i (j - 1) h1 (by omega) (by omega)) hl
theorem Dw.more {a b:Nat} (h:Dw O key p a b) (hb:a<b) (hl:O.kle (Ky O key p b) (Ky O key p (b - 1))):Dw O key p a (b+1):=by
 intro i j h1 h2 h3
 by_cases e:j<b
 .exact h i j h1 h2 e
 .obtain rfl:j=b:=by omega
  by_cases e2:i=j
  .subst e2;exact iq _
  .exact lz hl (h i (j - 1) h1 (by omega) (by omega))
noncomputable abbrev sP (κ:SortKind) (f:Nat->Keyed) (p:Array Nat) (pend:Array (Nat×Nat×Nat)) (mg:Nat):SortSt:=sS κ (p.map f) pend mg
theorem mT.size {n:Nat} {p:Array Nat} (h:mT n p):p.size=n:=by have:=h.size_eq;simpa using this
theorem wV (C:Cm c κ O key f n) (hp:mT n p) (hi:i<n) (hj:j<n) {Q:Option Bool->SortSt->Prop} (q:Q (some (O.blt (Ky O key p i) (Ky O key p j))) (sP κ f p pend mg)):TW c (ltAt' i j) Q (sP κ f p pend mg):=by
 have h0:0<n:=by omega
 have e:∀i,i<n->(p.map f)[i]? =some (f (p.getD i 0)):=fun i hi=>by
  have:=hp.size;simp[Array.getD,this,hi]
 rw[ltAt'_eq];exact aI (eX (aI (vR (e i hi) (aI (vR (e j hj) (EY C (hp.lt h0 i) (hp.lt h0 j) q))))))
theorem FL {Q:Unit->SortSt->Prop} (q:Q () (sP κ f (kas_rev p i j) pend mg)):TW c (reverseSlice' i j) Q (sP κ f p pend mg):=by
 rw[reverseSlice'_eq];refine gW ?_;have e:mirror (p.map f) i j ((j - i) / 2)=(kas_rev p i j).map f:=kas_swaps_map f _ _ _ _;show Q () (sS κ (mirror (p.map f) i j ((j - i) / 2)) pend mg);rw[e];exact q
theorem Y8 {Q:Unit->SortSt->Prop} (q:Q () (sP κ f (bubble p i (i - j)) pend mg)):TW c (moveDown' i j) Q (sP κ f p pend mg):=by
 rw[moveDown'_eq];refine gW ?_;have e:bubble (p.map f) i (i - j)=(bubble p i (i - j)).map f:=kas_swaps_map f _ _ _ _;show Q () (sS κ (bubble (p.map f) i (i - j)) pend mg);rw[e];exact q
theorem AH {φ:Array Nat->Prop} {jp m:StateT SortSt Sem α} {Q:α->SortSt->Prop} {st:SortSt} (k:(∀p,φ p->TW c jp Q (sP κ f p pend mg))->TW c m Q st) (H:∀p,φ p->TW c jp Q (sP κ f p pend mg)):TW c m Q st:=k H
theorem uB (hj:j<=p.size) (hk:k<i):(kas_rev p i j)[k]? =p[k]?:=by
 have:=getElem?_mirror_all (xs:=p) (i:=i) hj k;rw[ah (by omega)]at this;exact this
theorem UP {a b:Nat} (hb:b<=p.size) (h:Dw O key p a b):Up O key (kas_rev p a b) a b:=by
 intro i j a1 a2 a3;rw[DO hb,DO hb,ai ⟨a1,by omega⟩,ai ⟨by omega,a3⟩];exact h _ _ (by omega) (by omega) (by omega)
theorem M4 {a:Nat} {g:Nat->Option (Option Nat)×Nat->StateT SortSt Sem (ForInStep (Option (Option Nat)×Nat))} {Q:Option (Option Nat)×Nat->SortSt->Prop} (h1:1<=a) (ha:a<=nrem) (hu:Up O key p lo (lo+a))
  (hs:∀x m,1<=m->m<nrem->∀R:ForInStep (Option (Option Nat)×Nat)->SortSt->Prop,R (if O.blt (Ky O key p (lo+m)) (Ky O key p (lo+m - 1))=true then .done (none,m)else .yield (none,m+1)) (sP κ f p pend mg)->TW c (g x (none,m)) R (sP κ f p pend mg))
  (q:∀m,1<=m->m<=nrem->Up O key p lo (lo+m)->(m=nrem\/ O.blt (Ky O key p (lo+m)) (Ky O key p (lo+m - 1))=true)->Q (none,m) (sP κ f p pend mg)):TW c (forIn [a:nrem] (none,a) g) Q (sP κ f p pend mg):=by
 refine fE (fun i (z:Option (Option Nat)×Nat) st'=>st'=sP κ f p pend mg/\z.1=none/\z.2=i/\1<=i/\i<=nrem/\Up O key p lo (lo+i)) ⟨rfl,rfl,rfl,h1,ha,hu⟩ ha ?_ ?_
 .rintro i ⟨r,m⟩ st' hi ⟨rfl,rfl,e,h1,h2,h3⟩;dsimp only at e;subst e;refine hs _ m h1 hi _ ?_;cases e:O.blt (Ky O key p (lo+m)) (Ky O key p (lo+m - 1))with
  |true=>exact q m h1 h2 h3 (.inr e)
  |false=>exact⟨rfl,rfl,rfl,by omega,by omega,h3.more (by omega) e⟩
 .rintro⟨r,m⟩ st' ⟨rfl,rfl,e,h1,h2,h3⟩;dsimp only at e;subst e;exact q m h1 h2 h3 (.inl rfl)
theorem NH (C:Cm c κ O key f n) (hp:mT n p) (hn:lo+nrem<=n) (h1:1<=nrem)
  (q:∀m p',1<=m->m<=nrem->mT n p'->(∀i,i<lo->p'[i]? =p[i]?)->Up O key p' lo (lo+m)->Q (some m) (sP κ f p' pend mg)):TW c (countRun' lo nrem) Q (sP κ f p pend mg):=by
 have sz:=hp.size;refine aI (M4 (lo:=lo) (O:=O) (key:=key) (bj 1) h1 (fun i j a1 a2 a3=>by rw[show i=j by omega];exact iq _) (fun x m b1 b2 R r=>?_) fun m m1 m2 m3 m4=>?_)
 .refine aI (wV C hp (by omega) (by omega) ?_);exact aT (fun e=>aH (by rw[ai e]at r;exact r)) fun e=>aH (by rw[ah e]at r;exact r)
 .refine aT (fun e=>aH (q m p m1 m2 hp (fun _ _=>rfl) m3)) fun e=>?_
  rw[dm]at e;have e:m<nrem:=lx m2 e;have m4:=m4.resolve_left (cw e)
  extract_lets n2 z2 jp
  refine AH (κ:=κ) (f:=f) (pend:=pend) (mg:=mg) (jp:=jp ()) (φ:=fun p1=>mT n p1/\(∀i,i<lo->p1[i]? =p[i]?)/\Dw O key p1 lo (lo+(m+1))) (fun H=>?_) ?_
  .clear_value jp
   refine aT (fun g=>?_) fun g=>H p ⟨hp,fun _ _=>rfl,Dw.more (b:=lo+m) (fun i j a1 a2 a3=>by rw[show i=j by have g:¬m>1:=g;omega];exact iq _) (by omega) (KeyOrd.kle_of_klt m4)⟩
   refine aI (wV C hp (by omega) (by omega) (aT (fun _=>aH (q m p m1 m2 hp (fun _ _=>rfl) m3)) fun e2=>?_));rw[not_eq_true]at e2;have eq:∀k,lo<=k->k<lo+m->Ky O key p k=Ky O key p (lo+m - 1):=fun k k1 k2=>O.total _ _ (lz e2 (m3 lo k (bj _) k1 k2)) (m3 k (lo+m - 1) k1 (by omega) (by omega))
   have ky:∀k,Ky O key (kas_rev p lo (lo+m)) k=Ky O key p k:=qA (by omega) eq;refine aI (FL (H _ ⟨hp.rev _ _,fun i hi=>uB (by omega) hi,Dw.more (b:=lo+m) (fun i j a1 a2 a3=>?_) (by omega) ?_⟩))
   .rw[ky,ky,eq i a1 (by omega),eq j (by omega) a3];exact iq _
   .rw[ky,ky];exact KeyOrd.kle_of_klt m4
  rintro p1 ⟨hp1,lw,dw⟩;clear m4 m3 sz;refine aI (kZ ?_);refine aI (dO (R:=fun(z:Option (Option Nat)×Nat×Nat) st'=>z.1=none/\∃p',st'=sP κ f p' pend mg/\mT n p'/\(∀i,i<lo->p'[i]? =p[i]?)/\1<=z.2.1/\z.2.1<=nrem/\Dw O key p' lo (lo+z.2.1)/\z.2.2+1<=z.2.1/\∀k,lo+z.2.1 - (z.2.2+1)<=k->k<lo+z.2.1->Ky O key p' k=Ky O key p' (lo+z.2.1 - 1))
   (fE (fun i (z:Option (Option Nat)×Nat×Nat) st'=>z.2.1=i/\z.1=none/\∃p',st'=sP κ f p' pend mg/\mT n p'/\(∀i,i<lo->p'[i]? =p[i]?)/\1<=z.2.1/\z.2.1<=nrem/\Dw O key p' lo (lo+z.2.1)/\z.2.2+1<=z.2.1/\∀k,lo+z.2.1 - (z.2.2+1)<=k->k<lo+z.2.1->Ky O key p' k=Ky O key p' (lo+z.2.1 - 1))
    ⟨rfl,rfl,_,rfl,hp1,lw,le_add_left 1 m,e,dw,le_add_left 1 m,fun k k1 k2=>by rw[show k=lo+(m+1) - 1 by dsimp only at k1 k2;omega]⟩ e ?_ ?_) ?_)
  .clear dw lw hp1 e m1 m2;rintro i ⟨r,m,s⟩ st' hi ⟨e1,rfl,p',rfl,hp1,lw,g1,g2,dw,g3,eq⟩;dsimp only at e1 g1 g2 dw g3 eq;subst e1;have sz':=hp1.size;refine aI (wV (i:=lo+m) (j:=lo+m - 1) C hp1 (by omega) (by omega) (aT (fun e=>?_) fun e=>?_))
   .have dw':=Dw.more dw (by omega) (KeyOrd.kle_of_klt e);have e0:∀P:Array Nat,∀k,lo+(m+1) - (0+1)<=k->k<lo+(m+1)->Ky O key P k=Ky O key P (lo+(m+1) - 1):=fun P k k1 k2=>by rw[show k=lo+(m+1) - 1 by omega]
    refine aT (fun _=>aI (FL (i:=lo+m - (s+1)) (j:=lo+m) (aH ⟨rfl,rfl,_,rfl,hp1.rev _ _,fun i hi=>(uB (i:=lo+m - (s+1)) (j:=lo+m) (by omega) (by omega)).trans (lw i hi),le_add_left 1 m,hi,fun i j a1 a2 a3=>?_,le_add_left 1 m,e0 _⟩))) fun _=>aH ⟨rfl,rfl,_,rfl,hp1,lw,le_add_left 1 m,hi,dw',le_add_left 1 m,e0 _⟩
    rw[qA (by omega) eq,qA (by omega) eq];exact dw' i j a1 a2 a3
   .rw[not_eq_true]at e;refine aI (wV (i:=lo+m - 1) (j:=lo+m) C hp1 (by omega) (by omega) (aT (fun _=>aH ⟨rfl,_,rfl,hp1,lw,g1,g2,dw,g3,eq⟩) fun e'=>?_));rw[not_eq_true]at e';have ee:Ky O key p' (lo+m)=Ky O key p' (lo+m - 1):=O.total _ _ e e';refine aH ⟨rfl,rfl,_,rfl,hp1,lw,le_add_left 1 m,hi,Dw.more (b:=lo+m) dw (by omega) (by rw[ee];exact iq _),Nat.succ_le_succ g3,fun k k1 k2=>?_⟩;dsimp only at k1 k2⊢
    rw[show lo+(m+1) - 1=lo+m by omega,ee]
    by_cases ek:k=lo+m
    .rw[ek,ee]
    .exact eq k (by omega) (by omega)
  .rintro⟨r,m,s⟩ st' ⟨_,h⟩;exact h
  .clear dw lw hp1 e m1 m2;rintro⟨r,m,s⟩ st' ⟨e1,p',e2,hp1,lw,g1,g2,dw,g3,eq⟩;dsimp only at e1 g1 g2 dw g3 eq;subst e1 e2;have sz':=hp1.size;refine AH (κ:=κ) (f:=f) (pend:=pend) (mg:=mg) (φ:=fun p2=>mT n p2/\(∀i,i<lo->p2[i]? =p[i]?)/\Dw O key p2 lo (lo+m)) (fun H=>aT (fun _=>aI (FL (i:=lo+m - (s+1)) (j:=lo+m) (H _ ⟨hp1.rev _ _,fun i hi=>(uB (by omega) (by omega)).trans (lw i hi),fun i j a1 a2 a3=>by rw[qA (by omega) eq,qA (by omega) eq];exact dw i j a1 a2 a3⟩))) fun _=>H _ ⟨hp1,lw,dw⟩) ?_;clear hp1 lw dw eq sz' g3;rintro p2 ⟨hp2,lw2,dw2⟩;have sz2:=hp2.size;refine aI (FL (i:=lo) (j:=lo+m) (aI (M4 (lo:=lo) (a:=m) (O:=O) (key:=key) g1 g2 (UP (by omega) dw2) (fun x m' b1 b2 R r=>?_) fun m' b1 b2 b3 b4=>aH (q m' _ b1 b2 (hp2.rev _ _) (fun i hi=>(uB (i:=lo) (j:=lo+m) (by omega) hi).trans (lw2 i hi)) b3))));refine aI (wV (i:=lo+m') (j:=lo+m' - 1) C (hp2.rev _ _) (by omega) (by omega) ?_);exact aT (fun e=>aH (by rw[ai e]at r;exact r)) fun e=>aH (by rw[ah e]at r;exact r)
theorem VT {s t:Nat} (ht:t<p.size) (hs:s<=t) (hl:lo<=s) (up:Up O key p lo t) (g2:∀i,lo<=i->i<s->O.kle (Ky O key p i) (Ky O key p t)) (g3:∀i,s<=i->i<t->O.kle (Ky O key p t) (Ky O key p i)):Up O key (bubble p t (t - s)) lo (t+1):=by
 have e:∀i,Ky O key (bubble p t (t - s)) i=if i=s then Ky O key p t else if s<i/\i<=t then Ky O key p (i - 1)else Ky O key p i:=fun i=>by
  rw[VV ht (Nat.sub_le _ _),Nat.sub_sub_self hs]
 clear ht;intro i j a1 a2 a3;have a3:=Nat.le_of_lt_succ a3;have ki:=e i;have kj:=e j;clear e;rw[ki,kj];clear ki kj
 by_cases cj:j=s
 .rw[ai (c:=j=s) cj]
  by_cases ci:i=s
  .rw[ai ci];exact iq _
  .have h:=lx (cj▸a2) ci;rw[ah ci,ah fun z=>Nat.lt_asymm h z.1];exact g2 i a1 h
 .rw[ah (c:=j=s) cj]
  by_cases cj2:s<j
  .rw[ai (c:=s<j/\j<=t) ⟨cj2,a3⟩];have h1:=Nat.le_sub_one_of_lt cj2;have h3:j - 1<t:=cm (Nat.sub_one_lt (ne_of_gt (Nat.lt_of_le_of_lt (eh _) cj2))) a3
   by_cases ci:i=s
   .rw[ai ci];exact g3 _ h1 h3
   .rw[ah ci]
    by_cases ci2:s<i
    .rw[ai ⟨ci2,gc a2 a3⟩];exact up _ _ (gc hl (Nat.le_sub_one_of_lt ci2)) (Nat.sub_le_sub_right a2 1) h3
    .rw[ah fun z=>ci2 z.1];exact up i _ a1 (gc (le_of_not_lt ci2) h1) h3
  .have h:=lx (le_of_not_lt cj2) cj;have h2:=Nat.lt_of_le_of_lt a2 h;rw[ah (c:=s<j/\j<=t) fun z=>cj2 z.1,ah (c:=i=s) (cw h2),ah (c:=s<i/\i<=t) fun z=>Nat.lt_asymm h2 z.1];exact up i j a1 a2 (cm h hs)
theorem MM {ok:Nat} {Q:Bool->SortSt->Prop} (C:Cm c κ O key f n) (hp:mT n p) (hn:lo+m<=n) (h1:1<=ok) (bS:ok<=m) (hu:Up O key p lo (lo+ok))
  (q:∀p',mT n p'->(∀i,i<lo->p'[i]? =p[i]?)->Up O key p' lo (lo+m)->Q true (sP κ f p' pend mg)):TW c (binarySort' lo m ok) Q (sP κ f p pend mg):=by
 refine aI (fE (fun k (z:Option Bool×Unit) st'=>z.1=none/\∃p',st'=sP κ f p' pend mg/\mT n p'/\(∀i,i<lo->p'[i]? =p[i]?)/\Up O key p' lo (lo+k)) ⟨rfl,p,rfl,hp,fun _ _=>rfl,by rw[Nat.max_eq_left h1];exact hu⟩ (by rw[Nat.max_eq_left h1];exact bS) ?_ ?_)
 .clear h1 bS hu hp q;rintro k ⟨r,u⟩ st' hk ⟨e1,p',rfl,hp',lw,up⟩;have hkn:lo+k<n:=cm (Nat.add_lt_add_left hk lo) hn;clear hn;refine aI (dO (R:=fun(z:Option Bool×Nat×Nat) st'=>z.1=none/\st'=sP κ f p' pend mg/\z.2.1<=k/\(∀i,lo<=i->i<lo+z.2.1->O.kle (Ky O key p' i) (Ky O key p' (lo+k)))/\∀i,lo+z.2.1<=i->i<lo+k->O.kle (Ky O key p' (lo+k)) (Ky O key p' i))
   (fE (fun x (z:Option Bool×Nat×Nat) st'=>z.1=none/\st'=sP κ f p' pend mg/\z.2.1<=z.2.2/\z.2.2<=k/\z.2.2+x<=z.2.1+k/\(∀i,lo<=i->i<lo+z.2.1->O.kle (Ky O key p' i) (Ky O key p' (lo+k)))/\∀i,lo+z.2.2<=i->i<lo+k->O.kle (Ky O key p' (lo+k)) (Ky O key p' i))
    ⟨rfl,rfl,eh _,bj _,le_of_eq (Nat.add_comm k 0),fun i a b=>absurd b (Nat.not_lt.mpr a),fun i a b=>absurd b (Nat.not_lt.mpr a)⟩ (eh _) ?_ ?_) ?_)
  .rintro x ⟨r,l,t⟩ st' hx ⟨rfl,rfl,g1,g2,g3,g4,g5⟩;dsimp only at g1 g2 g3 g4 g5;refine aT (fun e=>aH ⟨rfl,rfl,gc g1 g2,g4,fun i a b=>g5 i (gc (mi e lo) a) b⟩) fun e=>?_
   have e:l<t:=Nat.lt_of_not_le e;have hm:l<=(l+t) / 2/\(l+t) / 2<t:=by clear g1 g2 g3 g4 g5 hx hkn hk;omega
   refine aI (wV (i:=lo+k) (j:=lo+(l+t) / 2) C hp' hkn (lt_trans (Nat.add_lt_add_left (cm hm.2 g2) lo) hkn) ?_);generalize(l+t) / 2=w at hm;have hw:lo+w<lo+k:=Nat.add_lt_add_left (cm hm.2 g2) lo;refine aT (fun b=>aH ⟨rfl,rfl,hm.1,gc (ir hm.2) g2,by dsimp only;omega,g4,fun i a1 a2=>?_⟩) fun b=>aH ⟨rfl,rfl,hm.2,g2,by dsimp only;omega,fun i a0 (a1:i<lo+(w+1))=>?_,g5⟩
   .exact lz (KeyOrd.kle_of_klt b) (up _ _ (le_add_right _ _) a1 a2)
   .rw[not_eq_true]at b;exact lz (up i (lo+w) a0 (Nat.le_of_lt_succ a1) hw) b
  .rintro⟨r,l,t⟩ st' ⟨rfl,rfl,g1,g2,g3,g4,g5⟩;dsimp only at g1 g2 g3 g4 g5;exact⟨rfl,rfl,gc g1 g2,g4,fun i (a1:lo+l<=i) a2=>g5 i (gc (mi (Nat.le_of_add_le_add_right g3) lo) a1) a2⟩
  .rintro⟨r,l,t⟩ st' ⟨e2,e3,g1,g2,g3⟩;dsimp only at e2 g1 g2 g3;subst e2 e3;have sz:=hp'.size;refine aI (Y8 (i:=lo+k) (j:=lo+l) (aH ⟨rfl,_,rfl,hp'.bub _ _,fun i hi=>?_,VT (sz▸hkn) (mi g1 lo) (le_add_right _ _) up g2 g3⟩));have:=getElem?_bubble (xs:=p') (src:=lo+k) (sz▸hkn) (lo+k - (lo+l)) (Nat.sub_le _ _) i;rw[Nat.sub_sub_self (mi g1 lo),ah (cw (cm hi (le_add_right _ _))),ah fun z=>lj _ (cm (lt_trans z.1 hi) (le_add_right _ _))]at this;exact this.trans (lw i hi)
 .rintro⟨r,u⟩ st' ⟨e1,p',rfl,hp',lw,up⟩;dsimp only at e1;subst e1;exact aH (q p' hp' lw up)
end
section
variable {c:Tc} {κ:SortKind} {O:KeyOrd} {key:Nat->O.α} {f:Nat->Keyed} {n mg:Nat} {pend:Array (Nat×Nat×Nat)} {p:Array Nat}
theorem U0 {s' st:SortSt} {Q:PUnit->SortSt->Prop} (h:Q ⟨⟩ s'):TW c (set s') Q st:=gW (f:=fun _=>s') h
theorem F7 {sa:Nat}:∀(ps:List Keyed) (k:Nat) (arr:Array Keyed),sa+k+ps.length<=arr.size->∀i,((ps.zipIdx k).foldl (fun a (x:Keyed×Nat)=>a.setIfInBounds (sa+x.2) x.1) arr)[i]? =if sa+k<=i/\i<sa+k+ps.length then ps[i - (sa+k)]? else arr[i]?
 |[],k,arr,_,i=>by rw[List.zipIdx_nil,List.foldl_nil,ah (by rw[length_nil];omega)]
 | x::ps,k,arr,h,i=>by
  rw[length_cons]at h⊢
  rw[List.zipIdx_cons,foldl_cons,F7 ps (k+1) _ (by rw[Array.size_setIfInBounds];omega) i,Array.getElem?_setIfInBounds]
  by_cases e:sa+k=i
  .subst e;rw[ah (by omega),ai rfl,ai (by omega),ai (by omega),Nat.sub_self];rfl
  .rw[ah e]
   by_cases e2:sa+(k+1)<=i/\i<sa+(k+1)+ps.length
   .rw[ai e2,ai (by omega),show i - (sa+k)=(i - (sa+(k+1)))+1 by omega];rfl
   .rw[ah e2,ah (by omega)]
theorem U7 {lc m:List Nat} (h:m.length=lb.length):(im f m).toList.zipIdx.foldl (fun a (x:Keyed×Nat)=>a.setIfInBounds (la.length+x.2) x.1) (im f (la++lb++lc))=im f (la++m++lc):=by
 apply Array.ext_getElem?;intro i;have e:(im f m).toList=m.map f:=by unfold im;simp
 rw[e,F7 _ _ _ (by rw[a5,aj,bq,bq];omega),mW,mW,aj,Nat.add_zero]
 by_cases c1:la.length<=i/\i<la.length+m.length
 .rw[ai c1,az,de,gu c1.1,gw (by omega)]
 .rw[ah c1];congr 1
  by_cases c2:i<la.length
  .rw[de,de,gw c2,gw c2]
  .rw[gu (by rw[bq];omega),gu (by rw[bq];omega),bq,bq,h]
theorem NP (f:Nat->Keyed) (p:Array Nat):p.map f=im f p.toList:=by unfold im;simp[<-toList_inj]
theorem Up.pw {a b:Nat} (h:Up O key p a b) (hb:b<=p.size):((p.toList.drop a).take (b - a)).Pairwise (kO O key):=by
 rw[kz];intro i j hi hj hij;have hj1:=cm hj (List.length_take_le _ _);have e:∀k,(hk':a+k<p.toList.length)->Ky O key p (a+k)=key (p.toList[a+k]):=fun k hk'=>by
  unfold Ky;rw[ja,<-getElem?_toList,ag hk'];rfl
 have hb':a+j<b:=Nat.add_lt_of_lt_sub' hj1;have l:a+j<p.toList.length:=cm hb' (by rw[length_toList];exact hb);have:=h (a+i) (a+j) (le_add_right _ _) (mi (ir hij) _) hb';rw[e i (lt_trans (Nat.add_lt_add_left hij _) l),e j l]at this;rw[List.getElem_take,List.getElem_take,List.getElem_drop,List.getElem_drop];exact this
theorem WB {n1 n2 pw:Nat} {Q:Bool->SortSt->Prop} (C:Cm c κ O key f n) (hL:∀i∈L,i<n) (hl:L.length=n1+n2) (h1:0<n1) (h2:0<n2) (ha:(L.take n1).Pairwise (kO O key)) (hb:(L.drop n1).Pairwise (kO O key))
  (q:∀L' mg',L'.Perm L->L'.Pairwise (kO O key)->Q true (sS κ (im f L') #[(0,n1+n2,pw)] mg')):TW c (mergeAt' 0) Q (sS κ (im f L) #[(0,n1,pw),(n1,n2,0)] mg):=by
 have lb0:(L.drop n1).length=n2:=by rw[dh];omega
 have la0:(L.take n1).length=n1:=by rw[di];omega
 have g:∀i,i<n1+n2->∃y,L[i]? =some y/\(im f L)[i]? =some (f y)/\y<n:=fun i hi=>⟨L[i],ag (by omega),by rw[mW,ag (by omega)];rfl,hL _ (iu _)⟩
 obtain⟨y,ey,eb,yn⟩:=g n1 (by omega);obtain⟨x,ex,ea,xn⟩:=g (n1 - 1) (by omega);have eyb:(L.drop n1)[0]? =some y:=by rw[jh];exact ey
 have exa:(L.take n1)[n1 - 1]? =some x:=by rw[gf,ai (by omega)];exact ex
 refine aI (eX ?_);refine aI (U0 ?_);have ep:((#[(0,n1,pw),(n1,n2,0)]:Array (Nat×Nat×Nat)).setIfInBounds 0 (0,n1+n2,pw)).eraseIdxIfInBounds (0+1)= #[(0,n1+n2,pw)]:=by
  unfold Array.eraseIdxIfInBounds;rw[dif_pos (by simp)];apply toList_inj.mp;simp
 show TW c _ _ (sS κ (im f L) (((#[(0,n1,pw),(n1,n2,0)]:Array (Nat×Nat×Nat)).setIfInBounds 0 (0,n1+n2,pw)).eraseIdxIfInBounds (0+1)) mg);rw[ep];refine aI (vR eb (aI ?_));refine XF (l:=L) (x:=y) (base:=0) (m:=n1) (j:=0) C hL yn ha (by omega) h1 fun k hk p1 p2=>?_
 rw[gq]at p1 p2;have split1:L=L.take n1++L.drop n1:=(cp n1 L).symm;refine aT (fun e=>?_) fun e=>?_
 .have e:n1 - k=0:=eq_of_beq e;refine aH (q L _ (.refl _) ?_);rw[split1];refine fj.mpr ⟨ha,hb,fun u hu v hv=>xU hb eyb (p1 u (by rw[show k=n1 by omega];exact hu)) v (by rw[gq];exact hv)⟩
 rw[dm]at e;have e:¬n1 - k=0:=e;have kk:k+(n1 - k)=n1:=Nat.add_sub_cancel' hk;refine aI (vR (x:=f x) (by rw[fy,kk];exact ea) (aI ?_));refine XF (l:=L) (x:=x) (base:=n1) (m:=n2) (j:=n2 - 1) C hL xn hb.take (by omega) (by omega) fun k2 hk2 p3 p4=>?_
 rw[fz (l:=L.drop n1) (by omega)]at p4;refine aT (fun e2=>?_) fun e2=>?_
 .have e2:k2=0:=eq_of_beq e2;rw[e2,gq]at p4;refine aH (q L _ (.refl _) ?_);rw[split1];refine fj.mpr ⟨ha,hb,fun u hu v hv=>wY ha exa (p4 v hv) u (by rw[show n1 - 1+1=n1 from Nat.sub_add_cancel h1,fz (by omega)];exact hu)⟩
 rw[dm]at e2;have e2:¬k2=0:=e2;have E1:(im f L).extract (0+k) n1=im f ((L.take n1).drop k):=by rw[gM,fy]
 have E2:(im f L).extract n1 (n1+k2)=im f ((L.drop n1).take k2):=DY _ _;have tk:(L.take n1).take k=L.take k:=by rw[take_take,jq hk]
 have key1:∀l mg',l.Perm ((L.take n1).drop k++(L.drop n1).take k2)->l.Pairwise (kO O key)->Q true (sS κ ((im f l).toList.zipIdx.foldl (fun a (x:Keyed×Nat)=>a.setIfInBounds (0+k+x.2) x.1) (im f L)) #[(0,n1+n2,pw)] mg'):=fun l mg' pm sr=>by
  have eL:L=L.take k++((L.take n1).drop k++(L.drop n1).take k2)++(L.drop n1).drop k2:=by
   conv=>lhs;rw[<-cp n1 L,<-cp k (L.take n1),<-cp k2 (L.drop n1),tk]
   simp only[de]
  have lk:(L.take k).length=k:=by rw[di];omega
  have:=U7 (f:=f) (la:=L.take k) (lb:=(L.take n1).drop k++(L.drop n1).take k2) (lc:=(L.drop n1).drop k2) (m:=l) pm.length_eq;rw[<-eL,lk]at this;rw[fy,this];have inA:∀u∈(L.take n1).drop k,u∈L.take n1:=fun u hu=>jc hu
  have toX:∀u∈L.take n1,kO O key u x:=fun u hu=>wY ha exa (O.irrefl _) u (by rw[show n1 - 1+1=n1 from Nat.sub_add_cancel h1,fz (by omega)];exact hu)
  have fromY:∀v∈L.drop n1,kO O key y v:=fun v hv=>xU hb eyb (O.irrefl _) v (by rw[gq];exact hv)
  have sa:=ha;rw[<-cp k (L.take n1),tk,fj]at sa;have sb:=hb;rw[<-cp k2 (L.drop n1),fj]at sb;refine q _ _ ?_ ?_
  .conv=>rhs;rw[eL]
   exact(ka _ pm).append_right _
  .refine fj.mpr ⟨fj.mpr ⟨sa.1,sr,fun u hu v hv=>?_⟩,sb.2.1,fun u hu v hv=>?_⟩
   .rcases bp.mp (pm.mem_iff.mp hv)with hv|hv
    .exact sa.2.2 u hu v hv
    .exact j5 (p1 u (by rw[take_take,jq hk]at*;exact hu)) (fromY v (fx hv))
   .rcases bp.mp hu with hu|hu
    .exact j5 (toX u (by rw[<-tk]at hu;exact fx hu)) (p4 v hv)
    .rcases bp.mp (pm.mem_iff.mp hu)with hu|hu
     .exact j5 (toX u (inA u hu)) (p4 v hv)
     .exact sb.2.2 u hu v hv
 have pre1:∀v,((L.drop n1).take k2)[0]? =some v->∀u∈(L.take n1).drop k,kO O key v u:=fun v hv u hu=>by
  rw[gf,ai (by omega),eyb]at hv;cases hv;exact p2 u hu
 have pre2:∀u∈((L.take n1).drop k).drop (((L.take n1).drop k).length - 1),∀v∈(L.drop n1).take k2,kO O key v u:=fun u hu v hv=>by
  have lk:((L.take n1).drop k).length=n1 - k:=by rw[dh,la0]
  rw[lk,drop_drop,show k+(n1 - k - 1)=n1 - 1 by rw[<-Nat.add_sub_assoc (Nat.pos_of_ne_zero e),kk],dg (by omega),drop_eq_nil_of_le (by omega)]at hu;rw[ag (by omega)]at exa;rw[cc.mp hu,Option.some.inj exa];exact p3 v hv
 refine aT (fun _=>?_) fun _=>?_
 .refine aI (show TW c (mLo ((im f L).extract (0+k) n1) ((im f L).extract n1 (n1+k2))) _ _ from ?_);rw[E1,E2];exact X5 C ha.drop hb.take (fun i hi=>hL i (fx (jc hi))) (fun i hi=>hL i (jc (fx hi))) (by rw[dh,la0];omega) (by rw[di,lb0];omega) pre1 pre2 fun l mg' pm sr=>aI (gW (aI (eX (aH (key1 l mg' pm sr)))))
 .refine aI (show TW c (mHi ((im f L).extract (0+k) n1) ((im f L).extract n1 (n1+k2))) _ _ from ?_);rw[E1,E2];exact WA C ha.drop hb.take (fun i hi=>hL i (fx (jc hi))) (fun i hi=>hL i (jc (fx hi))) (by rw[dh,la0];omega) (by rw[di,lb0];omega) pre1 pre2 fun l mg' pm sr=>aI (gW (aI (eX (aH (key1 l mg' pm sr)))))
theorem SF {n:Nat} (h2:2<=n) (h:n<128):n<=2*minRun' n n 0/\1<=minRun' n n 0/\minRun' n n 0<=n:=
 (by decide+kernel:∀n:Fin 128,2<=n.1->n.1<=2*minRun' n.1 n.1 0/\1<=minRun' n.1 n.1 0/\minRun' n.1 n.1 0<=n.1) ⟨n,h⟩ h2
theorem pn {lo pw:Nat} (h:m=k):((#[(0,lo,0)]:Array (Nat×Nat×Nat)).modify (1 - 1) fun x=>(x.1,x.2.1,pw)).push (lo,m,0)= #[(0,lo,pw),(lo,k,0)]:=by
 subst h;apply toList_inj.mp;simp
theorem BP {φ:Nat->Array Nat->Prop} {jp:Nat->StateT SortSt Sem α} {m:StateT SortSt Sem α} {Q:α->SortSt->Prop} {st:SortSt} (k:(∀m p,φ m p->TW c (jp m) Q (sP κ f p pend mg))->TW c m Q st) (H:∀m p,φ m p->TW c (jp m) Q (sP κ f p pend mg)):TW c m Q st:=k H
theorem U1 {Q:Unit->SortSt->Prop} (C:Cm c κ O key f n) (h2:2<=n) (h128:n<128) (hp:mT n p) (q:∀L st',L.Perm (List.range n)->L.Pairwise (kO O key)->arrOf st'=im f L->failedOf st'=none->Q () st'):TW c sortRuns' Q (sP κ f p #[] mg):=by
 refine aI (eX ?_)
 extract_lets size mr lo0
 obtain⟨r1,r2,r3⟩:n<=2*mr/\1<=mr/\mr<=n:=by
  have e:size=n:=by show(p.map f).size=n;rw[size_map,hp.size]
  have:=SF h2 h128;rw[<-e]at this⊢
  exact this
 have e:size=n:=by show(p.map f).size=n;rw[size_map,hp.size]
 clear_value size mr
 subst e;refine aI (dO (R:=fun(z:Option Unit×Nat) st'=>z.1=none/\∃p',mT size p'/\((∃pw,Up O key p' 0 size/\st'=sP κ f p' #[(0,size,pw)] mg)\/ (∃n1 n2 pw,n1+n2=size/\1<=n1/\1<=n2/\Up O key p' 0 n1/\Up O key p' n1 size/\st'=sP κ f p' #[(0,n1,pw),(n1,n2,0)] mg)))
  (pZ (fun i (z:Option Unit×Nat) st'=>z.1=none/\∃p',mT size p'/\((i=0/\z.2=0/\st'=sP κ f p' #[] mg)\/ (∃n1,i=1/\z.2=n1/\mr<=n1/\n1<=size/\Up O key p' 0 n1/\st'=sP κ f p' #[(0,n1,0)] mg)\/ (∃n1 n2 pw,z.2=size/\n1+n2=size/\1<=n1/\1<=n2/\Up O key p' 0 n1/\Up O key p' n1 size/\st'=sP κ f p' #[(0,n1,pw),(n1,n2,0)] mg)))
   ⟨rfl,p,hp,.inl ⟨rfl,rfl,rfl⟩⟩ (eh _) ?_ ?_) ?_)
 .clear hp h128 q;refine fun i=>pr2 fun r lo st' hi h R hy hd=>elD h (fun e1 p' hp' h=>?_) (fun e1 p' hp' h=>?_) fun e1 p' hp' h=>?_
  .have e2:=h.1;have e3:=h.2.1;have e4:=h.2.2;clear h;dsimp only at e1 e3;subst e1 e2 e3 e4;refine aT (fun e=>absurd e (Nat.not_le_of_lt hi)) fun _=>?_
   refine aI (NH (lo:=0) C hp' (le_of_eq (fy _)) hi fun m p1 m1 m2 hp1 _ up=>?_);rw[fy]at up;dsimp(config:={zeta:=false}) only
   extract_lets n1 jp force n4
   refine BP (κ:=κ) (f:=f) (pend:= #[]) (mg:=mg) (jp:=jp ()) (φ:=fun m p2=>mT size p2/\mr<=m/\m<=size/\Up O key p2 0 m) (fun H=>?_) ?_
   .clear_value jp
    refine aT (fun e=>?_) fun e=>H m p1 ⟨hp1,le_of_not_lt e,m2,up⟩
    have fo:force=mr:=Nat.min_eq_right r3;have e:m<mr:=e;exact aI (kZ (aI (MM (lo:=0) (m:=force) C hp1 (by omega) m1 (by omega) (by rw[fy];exact up) fun p2 hp2 _ up2=>aT (fun z=>nomatch z) fun _=>H force p2 ⟨hp2,le_of_eq fo.symm,by omega,by rw[fy]at up2;exact up2⟩)))
   .rintro m p2 ⟨hp2,m3,m4,up2⟩;exact aI (eX (aI (gW (aH (hy _ _ ⟨rfl,p2,hp2,.inr (.inl ⟨m,rfl,fy m,m3,m4,up2,rfl⟩)⟩)))))
  .have e2:i=1:=h.choose_spec.1;have e3:=h.choose_spec.2.1;have g1:=h.choose_spec.2.2.1;have g2:=h.choose_spec.2.2.2.1;have g3:=h.choose_spec.2.2.2.2.1;have e4:=h.choose_spec.2.2.2.2.2;dsimp only at e1 e3;rw[<-e3]at g1 g2 g3 e4;clear e3 h;subst e1 e2 e4;refine aT (fun e=>?_) fun e=>?_
   .have e:lo=size:=Nat.le_antisymm g2 e;rw[e]at g3⊢
    exact aH (hd _ _ ⟨rfl,p',hp',.inl ⟨0,g3,rfl⟩⟩)
   have e:lo<size:=Nat.lt_of_not_le e;refine aI (NH (lo:=lo) C hp' (by omega) (by omega) fun m p1 m1 m2 hp1 lw up=>?_);dsimp(config:={zeta:=false}) only
   extract_lets n1 jp force n4
   refine BP (κ:=κ) (f:=f) (pend:= #[(0,lo,0)]) (mg:=mg) (jp:=jp ()) (φ:=fun m p2=>mT size p2/\m=size - lo/\(∀i,i<lo->p2[i]? =p'[i]?)/\Up O key p2 lo size) (fun H=>?_) ?_
   .clear_value jp
    refine aT (fun e5=>?_) fun e5=>?_
    .have fo:force=size - lo:=by show min (size - lo) mr=_;omega
     have e5:m<mr:=e5;exact aI (kZ (aI (MM (lo:=lo) (m:=force) C hp1 (by omega) m1 (by omega) up fun p2 hp2 lw2 up2=>aT (fun z=>nomatch z) fun _=>H force p2 ⟨hp2,fo,fun i hi=>(lw2 i hi).trans (lw i hi),by rw[show lo+force=size by omega]at up2;exact up2⟩)))
    .have e5:¬m<mr:=e5;exact H m p1 ⟨hp1,by omega,lw,by rw[show lo+m=size by omega]at up;exact up⟩
   clear lw up hp1 m1 m2;rintro m p2 ⟨hp2,el,lw3,up2⟩;have up1:Up O key p2 0 lo:=fun i j a1 a2 a3=>by
    rw[uX (lw3 i (by omega)),uX (lw3 j a3)];exact g3 i j a1 a2 a3
   refine aI (eX (aI (dO (fE (Q:=fun(z:Option Unit×Unit) st'=>z.1=none/\st'=sP κ f p2 #[(0,lo,0)] mg) (fun i (z:Option Unit×Unit) st'=>z.1=none/\st'=sP κ f p2 #[(0,lo,0)] mg) ⟨rfl,rfl⟩ (eh _) ?_ fun _ _ h=>h) ?_)))
   .rintro i ⟨r,u⟩ st' hi ⟨e1,e2⟩;rw[e2];exact aI (eX (aH ⟨rfl,rfl⟩))
   .rintro⟨r,u⟩ st' ⟨e1,e2⟩;dsimp only at e1;subst e1 e2;exact aI (gW (aI (gW (aH (hy _ _ ⟨rfl,_,hp2,.inr (.inr ⟨lo,size - lo,_,(cn (lo+·) el).trans (by omega),by omega,by omega,by omega,up1,up2,cn (fun z=>sS κ (Array.map f p2) z mg) (pn el)⟩)⟩)))))
  .obtain⟨n1,n2,pw,e3,g1,g2,g3,g4,g5,e4⟩:=h;dsimp only at e1 e3;subst e1 e3 e4;exact aT (fun _=>aH (hd _ _ ⟨rfl,p',hp',.inr ⟨n1,n2,pw,g1,g2,g3,g4,g5,rfl⟩⟩)) fun e=>absurd (bj _) e
 .rintro⟨r,lo⟩ st' ⟨e1,p',hp',⟨e2,_⟩|⟨n1,e2,_⟩|⟨n1,n2,pw,e3,g1,g2,g3,g4,g5,e4⟩⟩
  .omega
  .omega
  .exact⟨e1,p',hp',.inr ⟨n1,n2,pw,g1,g2,g3,g4,g5,e4⟩⟩
 .rintro⟨r,lo⟩ st' ⟨e1,p',hp',⟨pw,g1,e4⟩|⟨n1,n2,pw,g1,g2,g3,g4,g5,e4⟩⟩
  all_goals
   dsimp only at e1;subst e1 e4;have lp:p'.toList.Perm (List.range size):=by simpa using ku.mp hp'
   have ln:=hp'.size;have ll:=length_toList (xs:=p')
  .have pw:=g1.pw (by omega);rw[gq,sub_zero,fz (by omega)]at pw;refine aI (dO (fE (Q:=fun(z:Option Unit×Unit) st'=>z.1=none/\∃w,st'=sP κ f p' #[(0,size,w)] mg) (fun i (z:Option Unit×Unit) st'=>z.1=none/\∃w,st'=sP κ f p' #[(0,size,w)] mg) ⟨rfl,_,rfl⟩ (eh _) ?_ fun _ _ h=>h) ?_)
   .rintro i ⟨r,u⟩ st' hi ⟨e1,w,e2⟩;rw[e2];exact aI (eX (aT (fun _=>aH ⟨rfl,_,rfl⟩) fun z=>absurd (bj 1) z))
   .rintro⟨r,u⟩ st' ⟨e1,w,e2⟩;dsimp only at e1;subst e1 e2;exact aH (q p'.toList _ lp pw (NP f p') rfl)
  .have a1:=g4.pw (by omega);have a2:=g5.pw (by omega);rw[gq,sub_zero]at a1;rw[fz (by rw[dh];omega)]at a2;refine aI (dO (R:=fun(z:Option Unit×Unit) st'=>z.1=none/\∃L w mg',L.Perm (List.range size)/\L.Pairwise (kO O key)/\st'=sS κ (im f L) #[(0,size,w)] mg')
    (fE (fun i (z:Option Unit×Unit) st'=>z.1=none/\((i=0/\st'=sP κ f p' #[(0,n1,pw),(n1,n2,0)] mg)\/ ∃L w mg',L.Perm (List.range size)/\L.Pairwise (kO O key)/\st'=sS κ (im f L) #[(0,size,w)] mg')) ⟨rfl,.inl ⟨rfl,rfl⟩⟩ (eh _) ?_ ?_) ?_)
   .rintro i ⟨r,u⟩ st' hi ⟨e1,⟨_,e2⟩|⟨L,w,mg',b1,b2,e2⟩⟩
    .rw[e2];refine aI (eX (aT (fun z=>absurd z (show¬2<=1 by decide)) fun _=>?_));refine aI (show TW c (mergeAt' 0) _ (sS κ (p'.map f) #[(0,n1,pw),(n1,n2,0)] mg)from ?_);rw[NP];refine WB C (fun i hi=>mem_range.mp (lp.mem_iff.mp hi)) (by omega) (by omega) (by omega) a1 a2 fun L mg' c1 c2=>?_
     exact aT (fun z=>nomatch z) fun _=>aH ⟨rfl,.inr ⟨L,pw,mg',c1.trans lp,c2,by rw[g1]⟩⟩
    .rw[e2];exact aI (eX (aT (fun _=>aH ⟨rfl,L,w,mg',b1,b2,rfl⟩) fun z=>absurd (bj 1) z))
   .rintro⟨r,u⟩ st' ⟨e1,⟨e2,_⟩|h⟩
    .omega
    .exact⟨e1,h⟩
   .rintro⟨r,u⟩ st' ⟨e1,L,w,mg',b1,b2,e2⟩;dsimp only at e1;subst e1 e2;exact aH (q L _ b1 b2 rfl rfl)
end
section
variable {prog:Program} {w:World} {A:Around} {E:Value->Shared->Prop} {s:Shared}
def zB (prog:Program) (w:World) (A:Around) (vs:List Value) (R:Array Nat->Prop) (s:Shared):Prop:=
 ∃(κ:SortKind) (O:KeyOrd) (key:Nat->O.α),(∀(Q:SortKind->Shared->Prop) (E:Value->Shared->Prop),Q κ s->wpAny (model prog w) A (keyKind' vs.toArray) Q E s)/\
  (∀i j (C:Bool->Shared->Prop),i<vs.length->j<vs.length->C (O.blt (key i) (key j)) s->kas_ask prog w A κ vs i j C s)/\∀p,mT vs.length p->C4 O key p vs.length->R p
theorem R0 {key:Nat->O.α} (h:L.Pairwise (kO O key)):C4 O key L.toArray L.length:=by
 intro i j hij hj;have e:∀k,k<L.length->Ky O key L.toArray k=key (L.getD k 0):=fun k hk=>by
  unfold Ky;rw[ja,List.getElem?_toArray,aq]
 rw[e i (by omega),e j hj];rcases Nat.lt_or_eq_of_le hij with h1|rfl
 .have:=kz.mp h i j (by omega) hj h1;rw[aq,ag (by omega),aq,ag hj];exact this
 .exact iq _
theorem QJ {κ:SortKind} {key:Nat->O.α} (h2:2<=vs.length) (h128:vs.length<128)
  (ak:∀i j (C:Bool->Shared->Prop),i<vs.length->j<vs.length->C (O.blt (key i) (key j)) s->kas_ask prog w A κ vs i j C s) (hR:∀p,mT vs.length p->C4 O key p vs.length->R p):
  wpAny (model prog w) A ((sortRuns').run (SortSt.mk' κ (vs.toArray.zip vs.toArray) #[] 7 none)) (fun r s'=>s'=s/\∃p:Array Nat,(mT vs.length p/\R p)/\arrOf r.2=p.map (kas_item (vs.toArray.zip vs.toArray))/\failedOf r.2=none) E s:=by
 have est:SortSt.mk' κ (vs.toArray.zip vs.toArray) #[] 7 none=sP κ (kas_item (vs.toArray.zip vs.toArray)) (List.range vs.length).toArray #[] 7:=by
  have e:=kas_range (vs.toArray.zip vs.toArray);rw[show(vs.toArray.zip vs.toArray).size=vs.length by simp]at e;show SortSt.mk' κ (vs.toArray.zip vs.toArray) #[] 7 none=SortSt.mk' κ ((List.toArray (List.range vs.length)).map (kas_item (vs.toArray.zip vs.toArray))) #[] 7 none;rw[e]
 rw[est];refine U1 (c:=⟨prog,w,A,E,s⟩) (κ:=κ) (O:=O) (key:=key) (Q:=fun _ st'=>∃p:Array Nat,(mT vs.length p/\R p)/\arrOf st'=p.map (kas_item (vs.toArray.zip vs.toArray))/\failedOf st'=none) (fun i j hi hj C hC=>?_) h2 h128 (Array.Perm.refl _) fun L st' pm sr ar fl=>?_
 .rw[kat_item rfl,kat_item rfl];exact ak i j C hi hj hC
 .have pm':mT vs.length L.toArray:=ku.mpr (by simpa using pm);have hu:=R0 sr;rw[pm.length_eq,eu]at hu;exact⟨L.toArray,⟨pm',hR _ pm' hu⟩,by rw[ar];unfold im;simp,fl⟩
theorem xV {a:Addr} {P:PySem.Fin->Shared->Prop} (ho:s.heap.get? a=some (seqObj "list" vs.toArray n)) (h64:vs.length<128)
  (hk:2<=vs.length->∀h':Heap,(∀b o,b≠a->s.heap.get? b=some o->h'.get? b=some o)->zB prog w A vs R {s with heap:=h'}) (hR:vs.length<2->R (List.range vs.length).toArray)
  (h:∀(out:Array Value) (p:Array Nat),mT vs.length p->R p->out.toList=p.toList.map (fun i=>vs.getD i Value.none)->P (.done (.ret .none)) {s with heap:=sortedHeap s.heap a vs out}):wpAny (model prog w) A (Builtin.«list.sort» ⟨[.ref a],[]⟩) P E s:=by
 have la:a<s.heap.objs.size:=cv ho;have small:vs.length<=sizeLine:=by rw[lr];omega
 obtain⟨e1,k1⟩:∃e1,(s.heap.update a (Obj.mapSeq fun _=>(#[]:Array Value))).get? a=some (seqObj "list" #[] e1):=⟨_,get?_update_seq ho fun _=> #[]⟩;generalize hU:s.heap.update a (Obj.mapSeq fun _=>(#[]:Array Value))=U at k1;have zU:U.objs.size=s.heap.objs.size:=by rw[<-hU];exact Heap.size_update ..
 have kp:∀b o,b≠a->s.heap.get? b=some o->((U.push (seqObj "tuple" vs.toArray 0)).push (seqObj "list" #[] 0)).get? b=some o:=fun b o nb gb=>by
  refine au _ (au _ ?_);rw[<-hU,Heap.get?_update_ne _ _ _ _ nb];exact gb
 have k2:((U.push (seqObj "tuple" vs.toArray 0)).push (seqObj "list" #[] 0)).get? a=some (seqObj "list" #[] e1):=au _ (au _ k1);rw[list_sort_plain];refine af (listItems_at ho rfl (af (listUpdate_at ho rfl ?_ (by simpa using small) (eh _))));have k1':=k1;rw[<-hU]at k1';refine af (seqEpoch_at k1' rfl (af (wpAny_newTuple (af (wpAny_newList (ig ?_) (eh _))) (by simpa using small))));rw[hU];show wpAny (model prog w) A _ P E {s with heap:=(U.push (seqObj "tuple" vs.toArray 0)).push (seqObj "list" #[] 0)};have fin:∀(out:Array Value) (p:Array Nat),mT vs.length p->R p->out.toList=p.toList.map (fun i=>vs.getD i Value.none)->P (.done (.ret .none)) {s with heap:=((U.push (seqObj "tuple" vs.toArray 0)).push (seqObj "list" #[] 0)).update a (Obj.mapSeq fun _=>out)}:=fun out p h1 h2 h3=>by
  have:=h out p h1 h2 h3;unfold sortedHeap at this;rw[hU]at this;exact this
 dsimp only
 by_cases h2:vs.toArray.size<2
 .rw[ai h2,ai h2];refine af (ay ?_);rw[StateT.run_pure];refine af (ay ?_);dsimp only;have ev:((vs.toArray.zip vs.toArray).map fun x=>x.2).toList=vs:=by simp[List.map_snd_zip]
  refine af (seqEpoch_at k2 rfl (af (listUpdate_at k2 rfl ?_ (eh _) ?_)))
  .simp only[bne_self_eq_false,false_eq_true,if_false];exact ay (fin _ (List.range vs.length).toArray (Array.Perm.refl _) (hR (by rw[cf]at h2;exact h2)) (by rw[show(arrOf (SortSt.mk' general' (vs.toArray.zip vs.toArray) #[] 7 none))=vs.toArray.zip vs.toArray from rfl,ev,toList_toArray,IK]))
  .rw[<-length_toList,show(arrOf (SortSt.mk' general' (vs.toArray.zip vs.toArray) #[] 7 none))=vs.toArray.zip vs.toArray from rfl,ev];exact le_succ_of_le small
 .rw[ah h2,ah h2];have l2:2<=vs.length:=by rw[cf]at h2;omega
  obtain⟨κ,O,key,kd,ak,hRR⟩:=hk l2 _ kp;refine af (kd _ _ ?_);refine af (dk (QJ l2 h64 ak hRR) ?_ fun _ _ e=>e);rintro⟨⟨⟩,st'⟩ s' ⟨rfl,p,⟨hp,hr⟩,ar,fl⟩;dsimp only;have out:=kat_snds rfl ar;have pm:=hp.perm;rw[out];refine af (seqEpoch_at k2 rfl (af (listUpdate_at k2 rfl ?_ (eh _) ?_)))
  .rw[fl];simp only[bne_self_eq_false,false_eq_true,if_false];exact ay (fin _ p hp hr (by simp))
  .rw[cf,pm.length_eq];exact le_succ_of_le small
theorem AW {l:Addr} {Q:Value->Shared->Prop} (hl:s.heap.IsList l vs.toArray) (h64:vs.length<128)
  (hk:2<=vs.length->∀h':Heap,(∀b o,s.heap.get? b=some o->h'.get? b=some o)->zB prog w A.in1.in1 vs R {s with heap:=h'}) (hR:vs.length<2->R (List.range vs.length).toArray)
  (h:∀(out:Array Value) (p:Array Nat),mT vs.length p->R p->out.toList=p.toList.map (fun i=>vs.getD i Value.none)->Q (.ref (s.heap.objs.size+1)) {s with heap:=sortedAll s.heap vs out}):wpAny (model prog w) A (call (.builtin "sorted") [.ref l]) Q E s:=by
 have small:vs.length<=sizeLine:=by rw[lr];omega
 refine Calls.call_function_entry kind_sorted plain_sorted entry_sorted (args_sorted1 _) ?_;unfold Builtin.«sorted»;refine af (m:=checkCount "sorted" 1 1 _) (ay (af (collect_list hl (af (wpAny_newList ?_ (by simpa using small))) (by simpa using small))));generalize hU:(s.heap.push (seqObj "list" #[] 0)).update s.heap.objs.size (Obj.mapSeq (·++vs.toArray))=U;have zU:U.objs.size=s.heap.objs.size+1:=by rw[<-hU,Heap.size_update];exact size_push' ..
 have kU:∀b o,s.heap.get? b=some o->U.get? b=some o:=fun b o gb=>by
  rw[<-hU,Heap.get?_update_ne _ _ _ _ (cw (cv gb))];exact au _ gb
 have at':(U.push (seqObj "list" vs.toArray 0)).get? (s.heap.objs.size+1)=some (seqObj "list" vs.toArray 0):=by rw[<-zU];exact dc _ rfl
 show wpAny _ _ _ _ _ {s with heap:=U.push (seqObj "list" vs.toArray 0)};rw[zU];refine af (ig (iz slot_list_sort ⟨_,at',rfl⟩ entry_list_sort ?bd (args_list_sort _)))
 case bd=>
  refine xV at' h64 (fun l2 h' kp=>hk l2 h' fun b o gb=>kp b o (cw (gm (cv gb))) (au _ (kU b o gb))) hR fun out p p1 p2 p3=>⟨_,rfl,ay ⟨_,rfl,?_⟩⟩
  have:=h out p p1 p2 p3;unfold sortedAll at this;rw[hU]at this;exact this
end
section
variable {prog:Program} {w:World} {A:Around} {E:Value->Shared->Prop} {s:Shared}
theorem tQ:∀{vs:List Value} {ss:List Str},StrsAre vs ss->∀i,i<vs.length->∃x t,vs.getD i Value.none= .str x t/\ss.getD i ""=x
 |_,_,.nil,i,h=>absurd h (Nat.not_lt_zero _)
 |_,_,.cons x t _,0,_=>⟨x,t,rfl,rfl⟩
 |_,_,.cons x t r,i+1,h=>by
  obtain⟨y,u,e1,e2⟩:=tQ r i (by simpa using h);exact⟨y,u,by simpa using e1,by simpa using e2⟩
theorem UC {vs:List Value} (hS:StrsAre vs ss) (h2:2<=vs.length):zB prog w A vs (fun p=>C4 strKind.toKeyOrd (fun i=>(ss.getD i "").cps.toList) p vs.length) s:=by
 refine⟨oneType',strKind.toKeyOrd,fun i=>(ss.getD i "").cps.toList,fun Q E q=>?_,fun i j C hi hj hC=>?_,fun p _ h=>h⟩
 .match vs,hS,h2 with
  |v1::v2::rest,hS,_=>exact wpAny_of_eq (keyKind_strs hS) q
 .obtain⟨x,t,e1,e2⟩:=tQ hS i hi;obtain⟨y,u,e3,e4⟩:=tQ hS j hj;unfold kas_ask;rw[e1,e3,keyLt'_oneType];have hC:C (decide ((ss.getD i "").cps.toList<(ss.getD j "").cps.toList)) s:=hC;rw[e2,e4]at hC;exact oneLt_str hC
theorem wM (hS:StrsAre vs ss):∀{ix:List Nat},(∀i∈ix,i<vs.length)->StrsAre (ix.map fun i=>vs.getD i Value.none) (ix.map fun i=>ss.getD i "")
 |[],_=>.nil
 |i::ix,h=>by
  obtain⟨x,t,e1,e2⟩:=tQ hS i (h i (.head _));rw[cq,cq,e1,e2];exact .cons x t (wM hS fun j hj=>h j (.tail _ hj))
end
end L2
namespace L2
open PySem PySem.Spec PyProof.Rows
variable {r r' r'':Bool} {A:KeyOrd}
section
open PySem.W
variable {X:Cx} {pins:List (Addr×Obj)} {σ:St} {H:Hp} {s:Shared} {k:Nat}
theorem u6 {ys:List V} {vs:List Value} (r:Vals ys vs):∀ps:List Nat,(∀i∈ps,i<vs.length)->Vals (ps.map fun i=>ys.getD i .bH) (ps.map fun i=>vs.getD i Value.none)
 |[],_=>.nil
 |i::ps,h=>by
  have hlen:=r.length;have hi:=h i bf;obtain⟨x,hx,rx⟩:=r.get' (show vs[i]? =some vs[i] by simp);refine .cons ?_ (u6 r ps fun j hj=>h j (ax _ hj));dsimp only;rw[aq,hx,aq,ag hi];exact rx
end
noncomputable def D7:KeyOrd where
 α:=Int
 blt a b:=decide (a<b)
 irrefl a:=decide_eq_false (by omega)
 trans a b c h1 h2:=decide_eq_true (by have:=ao h1;have:=ao h2;omega)
 negTrans a b c h:=by
  have h:=ao h
  by_cases g:a<b
  .exact .inl (decide_eq_true g)
  .exact .inr (decide_eq_true (by omega))
 total a b h1 h2:=by have:=gd h1;have:=gd h2;omega
theorem zI {a b:A.α} (h:A.blt a b=true):A.blt b a=false:=KeyOrd.klt_asymm (O:=A) h
theorem eM {A:KeyOrd} (a b:A.α):(A.blt a b=true/\A.blt b a=false)\/ (A.blt b a=true/\A.blt a b=false)\/ (a=b):=by
 cases h1:A.blt a b with
 |true=>exact .inl ⟨rfl,zI h1⟩
 |false=>
  cases h2:A.blt b a with
  |true=>exact .inr (.inl ⟨rfl,rfl⟩)
  |false=>exact .inr (.inr (A.total a b h1 h2))
noncomputable def fQ (A:KeyOrd) (a b:A.α) (r:Bool):Bool:=A.blt a b||(!A.blt b a && r)
theorem dM {a b:A.α} (h:A.blt a b=true):fQ A a b r=true:=by unfold fQ;rw[h];rfl
theorem j4 {a b:A.α} (h:A.blt b a=true):fQ A a b r=false:=by unfold fQ;rw[h,zI h];rfl
theorem fW {a:A.α}:fQ A a a r=r:=by unfold fQ;rw[A.irrefl];rfl
theorem AK {A:KeyOrd} {a b c:A.α} (hr:r=true->r'=true->r''=true) (h1:fQ A a b r=true) (h2:fQ A b c r'=true):fQ A a c r''=true:=by
 rcases eM (A:=A) a b with⟨x,_⟩|⟨x,_⟩|x
 .rcases eM (A:=A) b c with⟨y,_⟩|⟨y,_⟩|y
  .exact dM (A.trans _ _ _ x y)
  .rw[j4 y]at h2;cases h2
  .rw[<-y];exact dM x
 .rw[j4 x]at h1;cases h1
 .subst x;rw[fW]at h1;rcases eM (A:=A) a c with⟨y,_⟩|⟨y,_⟩|y
  .exact dM y
  .rw[j4 y]at h2;cases h2
  .subst y;rw[fW]at h2⊢
   exact hr h1 h2
theorem HK {A:KeyOrd} {a b c:A.α} (hr:r''=true->r=true\/ r'=true) (h:fQ A a c r''=true):fQ A a b r=true\/ fQ A b c r'=true:=by
 rcases eM (A:=A) a b with⟨x,_⟩|⟨x,_⟩|x
 .exact .inl (dM x)
 .right;rcases eM (A:=A) a c with⟨y,_⟩|⟨y,_⟩|y
  .exact dM (A.trans _ _ _ x y)
  .rw[j4 y]at h;cases h
  .rw[<-y];exact dM x
 .subst x;rcases eM (A:=A) a c with⟨y,_⟩|⟨y,_⟩|y
  .exact .inr (dM y)
  .rw[j4 y]at h;cases h
  .subst y;rw[fW]at h⊢
   rw[fW];exact hr h
theorem BF {A:KeyOrd} {a b:A.α} (h1:fQ A a b r=false) (h2:fQ A b a r'=false):a=b/\r=false/\r'=false:=by
 rcases eM (A:=A) a b with⟨x,_⟩|⟨x,_⟩|x
 .rw[dM x]at h1;cases h1
 .rw[dM x]at h2;cases h2
 .subst x;rw[fW]at h1 h2;exact⟨rfl,h1,h2⟩
noncomputable def jL (A:KeyOrd):List A.α->List A.α->Bool
 |[],[]=>false
 |[],_::_=>true
 |_::_,[]=>false
 |x::xs,y::ys=>fQ A x y (jL A xs ys)
theorem xS:∀xs:List A.α,jL A xs xs=false
 |[]=>rfl
 |x::xs=>by unfold jL;rw[fW];exact xS xs
theorem sE:∀xs ys zs:List A.α,jL A xs ys=true->jL A ys zs=true->jL A xs zs=true
 |[],[],_,h,_=>by cases h
 |[],_::_,[],_,h=>by cases h
 |[],_::_,_::_,_,_=>rfl
 |_::_,[],_,h,_=>by cases h
 |_::_,_::_,[],_,h=>by cases h
 |x::xs,y::ys,z::zs,h1,h2=>AK (sE xs ys zs) h1 h2
theorem xJ:∀xs ys zs:List A.α,jL A xs zs=true->jL A xs ys=true\/ jL A ys zs=true
 |[],[],zs,h=>.inr h
 |[],_::_,_,_=>.inl rfl
 |_::_,_,[],h=>by cases h
 |_::_,[],_::_,_=>.inr rfl
 |x::xs,y::ys,z::zs,h=>HK (xJ xs ys zs) h
theorem sQ:∀xs ys:List A.α,jL A xs ys=false->jL A ys xs=false->xs=ys
 |[],[],_,_=>rfl
 |[],_::_,h,_=>by cases h
 |_::_,[],_,h=>by cases h
 |x::xs,y::ys,h1,h2=>by
  obtain⟨a,b,c⟩:=BF h1 h2;rw[a,sQ xs ys b c]
noncomputable def YN (A:KeyOrd):KeyOrd:=⟨List A.α,jL A,xS,sE,xJ,sQ⟩
theorem GL {a b:Str} (h:a.cps.toList=b.cps.toList):a=b:=by
 cases a with
 |mk x=>
  cases b with
  |mk y=>congr 1;exact toList_inj.mp h
end L2
namespace Mr
open PySem L2
variable {a l:Addr} {e ei:En} {fa:FA} {f fb fv:FE} {fg:FG} {fi:FI} {fc:FT} {o ob:HO} {H H' H1 H2:Hp} {k:Key} {kvs:List (Key×PV)} {ys:List (Key×V)} {ms:List (Nat×Nat)} {ks:List Kd} {cap:List Nat} {ps:List PV} {xs:List V} {i j n:Nat} {p:PV} {s:Sl} {σ:St} {ta:TA} {t tb tv:TE} {g:TG} {wi:TI} {u:TS} {c:TT} {α β:Type} {v:V} {W:WS} {E:XK} {L L1 M O Z Z':aJ}
inductive PV where
 |bH|bl (b:Bool)|int (i:Int)|str (x:Str)|ty (n:String)
 |tup (xs:List PV)|lst (xs:List PV)|a9 (kvs:List (Key×PV))
abbrev aJ:=Addr->Prop
def aS (A B:aJ):aJ:=fun a=>A a\/ B a
def one (l:Addr):aJ:=fun a=>a=l
def cL:aJ:=fun _=>False
structure WS where
 w:Nat->aJ
 old:aJ
instance:CoeFun WS (fun _=>Nat->aJ):=⟨WS.w⟩
def aw (W:WS):aJ:=fun a=>∃i,W i a
def TupAt (K:Frag) (H:Hp) (a:Addr) (xs:List V):Prop:=H a=some (.tup xs)\/
  ∃(o:Obj) (its:Array Value) (n:Nat),K.lookup a=some o/\o.cls= .type "tuple"/\o.dict=none/\o.data= .seq its n/\its.size<=sizeLine/\Vals xs its.toList
def XJ (K:Frag) (a:Addr) (xs:List V):Prop:=
  ∃(o:Obj) (its:Array Value) (n:Nat),K.lookup a=some o/\o.cls= .type "list"/\o.dict=none/\o.data= .seq its n/\its.size<=sizeLine/\Vals xs its.toList
theorem TupAt.sq {K:Frag} (h:TupAt K H a xs):pK K H a xs:=h.elim pK.of fun⟨o,its,n,a,b,_,c⟩=>.inr ⟨o,its,n,a,b,c⟩
mutual
inductive Rep (K:Frag) (Z:aJ) (H:Hp):PV->V->Prop
 |bH:Rep K Z H .bH .bH
 |bl (b:Bool):Rep K Z H (.bl b) (.bl b)
 |int (i:Int):Rep K Z H (.int i) (.int i)
 |str (x:Str):Rep K Z H (.str x) (.str x)
 |ty (n:String):Rep K Z H (.ty n) (.ty n)
 |tup {a:Addr} {xs:List V} {ps:List PV}:TupAt K H a xs->bC K Z H ps xs->Rep K Z H (.tup ps) (.ref a)
 |lst {a:Addr} {xs:List V} {ps:List PV}:Rd H a (.lst xs)->¬Z a->bC K Z H ps xs->Rep K Z H (.lst ps) (.ref a)
 |a9 {a:Addr} {ep:Nat} {ys:List (Key×V)} {kvs:List (Key×PV)}:Rd H a (.dK ys ep)->¬Z a->ys.map (·.1)=kvs.map (·.1)->bC K Z H (kvs.map (·.2)) (ys.map (·.2))->Rep K Z H (.a9 kvs) (.ref a)
inductive bC (K:Frag) (Z:aJ) (H:Hp):List PV->List V->Prop
 |nil:bC K Z H [] []
 |cons {p:PV} {v:V} {ps:List PV} {vs:List V}:Rep K Z H p v->bC K Z H ps vs->bC K Z H (p::ps) (v::vs)
end
structure cO (Z Z':aJ) (H H':Hp):Prop where
 tup:∀a xs,H a=some (.tup xs)->H' a=some (.tup xs)
 obj:∀a o,H a=some o->¬Z a->H' a=some o/\¬Z' a
theorem cO.rd (k:cO Z Z' H H') (h:Rd H a o) (n:¬Z a):Rd H' a o/\¬Z' a:=by
 rcases h with h|⟨u,h⟩
 .exact⟨.inl (k.obj _ _ h n).1,(k.obj _ _ h n).2⟩
 .exact⟨.inr ⟨u,(k.obj _ _ h n).1⟩,(k.obj _ _ h n).2⟩
mutual
theorem Rep.aL {K:Frag} {Z Z':aJ} {H H':Hp} (k:cO Z Z' H H'):∀{p:PV} {v:V},Rep K Z H p v->Rep K Z' H' p v
 |_,_,.bH=>.bH
 |_,_,.bl b=>.bl b
 |_,_,.int b=>.int b
 |_,_,.str b=>.str b
 |_,_,.ty b=>.ty b
 |_,_,.tup h r=>.tup (h.elim (fun h=>.inl (k.tup _ _ h)) .inr) (bC.aL k r)
 |_,_,.lst h n r=>.lst (k.rd h n).1 (k.rd h n).2 (bC.aL k r)
 |_,_,.a9 h n e r=>.a9 (k.rd h n).1 (k.rd h n).2 e (bC.aL k r)
theorem bC.aL {K:Frag} {Z Z':aJ} {H H':Hp} (k:cO Z Z' H H'):∀{p:List PV} {v:List V},bC K Z H p v->bC K Z' H' p v
 |_,_,.nil=>.nil
 |_,_,.cons h r=>.cons (Rep.aL k h) (bC.aL k r)
end
theorem cO.same (s:aV H H'):cO Z Z H H':=⟨fun _ _ h=>s _ _ h,fun _ _ h n=>⟨s _ _ h,n⟩⟩
theorem cO.less (h:∀a,Z' a->Z a):cO Z Z' H H:=⟨fun _ _ h=>h,fun _ _ e n=>⟨e,fun z=>n (h _ z)⟩⟩
theorem cO.new (s:aV H H') (hl:H l=none):cO Z (aS Z (one l)) H H':=
 ⟨fun _ _ h=>s _ _ h,fun a o h n=>⟨s _ _ h,fun z=>z.elim n fun e=>by rw[show a=l from e,hl]at h;cases h⟩⟩
theorem bC.length {K:Frag}:∀{ps:List PV} {vs:List V},bC K Z H ps vs->ps.length=vs.length
 |_,_,.nil=>rfl
 |_,_,.cons _ r=>by rw[length_cons,length_cons,bC.length r]
theorem bC.get {K:Frag}:∀{ps:List PV} {vs:List V} {i:Nat} {p:PV},bC K Z H ps vs->ps[i]? =some p->∃v,vs[i]? =some v/\Rep K Z H p v
 |_,_,_,_,.nil,h=>by simp at h
 |_,_,0,_,.cons h _,e=>by simp at e;subst e;exact⟨_,rfl,h⟩
 |_,_,i+1,_,.cons _ r,e=>by
  obtain⟨v,h1,h2⟩:=bC.get (i:=i) r (by simpa using e);exact⟨v,by simpa using h1,h2⟩
theorem bC.app {K:Frag}:∀{ps qs:List PV} {vs ws:List V},bC K Z H ps vs->bC K Z H qs ws->bC K Z H (ps++qs) (vs++ws)
 |_,_,_,_,.nil,s=>s
 |_,_,_,_,.cons h r,s=>.cons h (bC.app r s)
theorem bC.drop {K:Frag}:∀{ps:List PV} {vs:List V} (n:Nat),bC K Z H ps vs->bC K Z H (ps.drop n) (vs.drop n)
 |_,_,0,h=>h
 |_,_,_+1,.nil=>.nil
 |_,_,n+1,.cons _ r=>bC.drop n r
theorem bC.take {K:Frag}:∀{ps:List PV} {vs:List V} (n:Nat),bC K Z H ps vs->bC K Z H (ps.take n) (vs.take n)
 |_,_,0,_=>.nil
 |_,_,_+1,.nil=>.nil
 |_,_,n+1,.cons h r=>.cons h (bC.take n r)
theorem bC.set {K:Frag} (h:Rep K Z H p v):∀{ps:List PV} {vs:List V} (n:Nat),bC K Z H ps vs->bC K Z H (ps.set n p) (vs.set n v)
 |_,_,_,.nil=>.nil
 |_,_,0,.cons _ r=>.cons h r
 |_,_,n+1,.cons q r=>.cons q (bC.set h n r)
def LstAt (K:Frag) (H:Hp) (a:Addr) (xs:List V):Prop:=Rd H a (.lst xs)\/ XJ K a xs
theorem LstAt.sq {K:Frag} (h:LstAt K H a xs):iW K H a xs:=h
inductive Red (K:Frag) (Z:aJ) (H:Hp):PV->V->Prop
 |rep {p:PV} {v:V}:Rep K Z H p v->Red K Z H p v
 |lst {a:Addr} {xs:List V} {ps:List PV}:LstAt K H a xs->bC K Z H ps xs->Red K Z H (.lst ps) (.ref a)
 |a9 {a:Addr} {ep:Nat} {ys:List (Key×V)} {kvs:List (Key×PV)}:Rd H a (.dK ys ep)->ys.map (·.1)=kvs.map (·.1)->bC K Z H (kvs.map (·.2)) (ys.map (·.2))->Red K Z H (.a9 kvs) (.ref a)
section
variable {K:Frag} {Z:aJ} {H:Hp} {v:V}
theorem Red.int {i:Int} (h:Red K Z H (.int i) v):v= .int i:=by cases h with|rep h=>cases h;rfl
theorem Red.str {i:Str} (h:Red K Z H (.str i) v):v= .str i:=by cases h with|rep h=>cases h;rfl
theorem Red.bl {i:Bool} (h:Red K Z H (.bl i) v):v= .bl i:=by cases h with|rep h=>cases h;rfl
theorem Red.bH (h:Red K Z H .bH v):v= .bH:=by cases h with|rep h=>cases h;rfl
theorem Red.tup (h:Red K Z H (.tup ps) v):∃a xs,v= .ref a/\TupAt K H a xs/\bC K Z H ps xs:=by
 cases h with|rep h=>cases h with|tup h r=>exact⟨_,_,rfl,h,r⟩
theorem Red.qS (h:Red K Z H (.lst ps) v):∃a xs,v= .ref a/\LstAt K H a xs/\bC K Z H ps xs:=by
 cases h with
 |rep h=>cases h with|lst h _ r=>exact⟨_,_,rfl,.inl h,r⟩
 |lst h r=>exact⟨_,_,rfl,h,r⟩
theorem Red.BB (h:Red K Z H (.a9 kvs) v):∃a ys,v= .ref a/\E4 H a ys/\ys.map (·.1)=kvs.map (·.1)/\bC K Z H (kvs.map (·.2)) (ys.map (·.2)):=by
 cases h with
 |rep h=>cases h with|a9 h _ e r=>exact⟨_,_,rfl,⟨_,h⟩,e,r⟩
 |a9 h e r=>exact⟨_,_,rfl,⟨_,h⟩,e,r⟩
end
inductive Sl where
 |val (p:PV)|own (p:PV)|loc (p:PV)|bor (p:PV)
noncomputable def Sl.pv:Sl->PV
 | .val p=>p| .own p=>p| .loc p=>p| .bor p=>p
noncomputable def Sl.cU:Sl->Bool
 | .own _=>true| .loc _=>true|_=>false
abbrev En:=List (Option Sl)
inductive gN (K:Frag) (Z:aJ) (H:Hp) (a:Addr):PV->Prop
 |lst {xs:List V} {ps:List PV}:H a=some (.lst xs)->bC K Z H ps xs->gN K Z H a (.lst ps)
 |a9 {ep:Nat} {ys:List (Key×V)} {kvs:List (Key×PV)}:H a=some (.dK ys ep)->ys.map (·.1)=kvs.map (·.1)->bC K Z H (kvs.map (·.2)) (ys.map (·.2))->gN K Z H a (.a9 kvs)
theorem gN.red {K:Frag} (h:gN K Z H a p):Red K Z H p (.ref a):=by
 cases h with
 |lst e r=>exact .lst (.inl (.inl e)) r
 |a9 e k r=>exact .a9 (.inl e) k r
theorem gN.rep {K:Frag} (h:gN K Z H a p) (n:¬Z a):Rep K Z H p (.ref a):=by
 cases h with
 |lst e r=>exact .lst (.inl e) n r
 |a9 e k r=>exact .a9 (.inl e) n k r
theorem gN.there {K:Frag} (h:gN K Z H a p):∃o,H a=some o/\∀xs,o≠ .tup xs:=by
 cases h with
 |lst e r=>exact⟨_,e,fun _ z=>nomatch z⟩
 |a9 e k r=>exact⟨_,e,fun _ z=>nomatch z⟩
theorem gN.aL {K:Frag} (k:cO Z Z' H H') (e:∀o,H a=some o->H' a=some o) (h:gN K Z H a p):gN K Z' H' a p:=by
 cases h with
 |lst h r=>exact .lst (e _ h) (r.aL k)
 |a9 h q r=>exact .a9 (e _ h) q (r.aL k)
inductive yB (K:Frag) (Z:aJ) (W:WS) (L:aJ) (H:Hp) (a:Addr):PV->Prop
 |lst {xs:List V} {ps:List PV}:Rd H a (.lst xs)->W.old a->¬aw W a->¬L a->bC K Z H ps xs->yB K Z W L H a (.lst ps)
 |eN {xs:List V} {ps:List PV}:XJ K a xs->bC K Z H ps xs->yB K Z W L H a (.lst ps)
 |a9 {ep:Nat} {ys:List (Key×V)} {kvs:List (Key×PV)}:Rd H a (.dK ys ep)->W.old a->¬aw W a->¬L a->ys.map (·.1)=kvs.map (·.1)->bC K Z H (kvs.map (·.2)) (ys.map (·.2))->yB K Z W L H a (.a9 kvs)
theorem yB.red {K:Frag} (h:yB K Z W L H a p):Red K Z H p (.ref a):=by
 cases h with
 |lst e _ _ _ r=>exact .lst (.inl e) r
 |eN e r=>exact .lst (.inr e) r
 |a9 e _ _ _ k r=>exact .a9 e k r
def jN (K:Frag) (Z:aJ) (W:WS) (L:aJ) (H:Hp) (i:Nat) (v:V):Sl->Prop
 | .val p=>Rep K Z H p v
 | .own p=>∃a,v= .ref a/\W i a/\gN K Z H a p
 | .loc p=>∃a,v= .ref a/\L a/\gN K Z H a p
 | .bor p=>∃a,v= .ref a/\yB K Z W L H a p
theorem jN.red {K:Frag} {s:Sl} (h:jN K Z W L H i v s):Red K Z H s.pv v:=by
 cases s with
 |val p=>exact .rep h
 |own p=>obtain⟨a,rfl,_,c⟩:=h;exact c.red
 |loc p=>obtain⟨a,rfl,_,c⟩:=h;exact c.red
 |bor p=>obtain⟨a,rfl,c⟩:=h;exact c.red
structure aO (K:Frag) (Z:aJ) (W:WS) (L:aJ) (H:Hp) (σ:St) (e:En):Prop where
 len:e.length=σ.length
 at':∀(i:Nat) s,e[i]? =some (some s)->∃v,σ[i]? =some (some v)/\jN K Z W L H i v s
 qD:∀(i j:Nat) s t,i≠j->e[i]? =some (some s)->e[j]? =some (some t)->s.cU=true->t.cU=true->σ[i]?≠σ[j]?
structure jB (O M:aJ) (W:WS) (L:aJ) (H:Hp):Prop where
 old:∀a,O a->H a≠none
 mo:∀a,M a->O a
 wm:∀i a,W i a->M a
 loc:∀a,L a->H a≠none/\¬O a
structure bV (W:WS) (L:aJ) (H H':Hp):Prop where
 obj:∀a o,H a=some o->¬aw W a->¬L a->H' a=some o
 tup:∀a xs,H a=some (.tup xs)->H' a=some (.tup xs)
 b7:∀a,H a≠none->H' a≠none
theorem bV.refl:bV W L H H:=⟨fun _ _ h _ _=>h,fun _ _ h=>h,fun _ h=>h⟩
theorem bV.trans (a:bV W L H H1) (b:bV W L H1 H2):bV W L H H2:=⟨fun c o h n m=>b.obj c o (a.obj c o h n m) n m,fun c o h=>b.tup c o (a.tup c o h),fun c h=>b.b7 c (a.b7 c h)⟩
theorem bV.same {H:Hp} (s:aV H H'):bV W L H H':=⟨fun _ _ h _ _=>s _ _ h,fun _ _ h=>s _ _ h,fun a h=>by
 cases e:H a with
 |none=>exact absurd e h
 |some o=>rw[s _ _ e];exact fun z=>nomatch z⟩
theorem jB.keep (o:jB O M W L H) (d:∀a,H a≠none->H' a≠none):jB O M W L H':=⟨fun a h=>d a (o.old a h),o.mo,o.wm,fun a h=>⟨d a (o.loc a h).1,(o.loc a h).2⟩⟩
theorem bV.aL (o:jB O M W L H) (k:bV W L H H'):cO (aS M L) (aS M L) H H':=
 ⟨k.tup,fun a u h n=>⟨k.obj a u h (fun⟨i,z⟩=>n (.inl (o.wm i a z))) fun z=>n (.inr z),n⟩⟩
theorem aO.aL {K:Frag} {e:En} (h:aO K Z W L H σ e) (k:cO Z Z' H H') (ow:∀a o,aw W a\/ L a->H a=some o->H' a=some o) (bo:∀a o,H a=some o->¬aw W a->¬L a->H' a=some o):aO K Z' W L H' σ e:=
 ⟨h.len,fun i s q=>by
  obtain⟨v,h1,h2⟩:=h.at' i s q;refine⟨v,h1,?_⟩;cases s with
  |val p=>exact Rep.aL k h2
  |own p=>obtain⟨a,e,w,c⟩:=h2;exact⟨a,e,w,c.aL k fun o q=>ow a o (.inl ⟨_,w⟩) q⟩
  |loc p=>obtain⟨a,e,w,c⟩:=h2;exact⟨a,e,w,c.aL k fun o q=>ow a o (.inr w) q⟩
  |bor p=>
   obtain⟨a,e,c⟩:=h2;refine⟨a,e,?_⟩;cases c with
   |lst e od n m r=>exact .lst (e.elim (fun e=>.inl (bo _ _ e n m)) fun⟨u,e⟩=>.inr ⟨u,bo _ _ e n m⟩) od n m (r.aL k)
   |eN e r=>exact .eN e (r.aL k)
   |a9 e od n m kk r=>exact .a9 (e.elim (fun e=>.inl (bo _ _ e n m)) fun⟨u,e⟩=>.inr ⟨u,bo _ _ e n m⟩) od n m kk (r.aL k),h.qD⟩
theorem aO.same {K:Frag} (h:aO K Z W L H σ e) (s:aV H H'):aO K Z W L H' σ e:=h.aL (.same s) (fun a o _ q=>s a o q) fun a o q _ _=>s a o q
def RY (σ:St) (e:En) (a:Addr):Prop:=∀(i:Nat) s,e[i]? =some (some s)->s.cU=true->σ[i]?≠some (some (.ref a))
theorem Rd.ne (h:Rd H a o) (hl:H l=none):a≠l:=by
 rintro rfl;rcases h with h|⟨_,h⟩<;>(rw[hl]at h;cases h)
theorem aO.new {K:Frag} {e:En} (h:aO K (aS M L) W L H σ e) (s:aV H H') (hl:H l=none):aO K (aS M (aS L (one l))) W (aS L (one l)) H' σ e/\RY σ e l:=by
 have k:cO (aS M L) (aS M (aS L (one l))) H H':=⟨fun _ _ h=>s _ _ h,fun a o h n=>⟨s _ _ h,fun z=>by
  rcases z with z|z|z
  .exact n (.inl z)
  .exact n (.inr z)
  .rw[show a=l from z,hl]at h;cases h⟩⟩
 refine⟨⟨h.len,fun i sl q=>?_,h.qD⟩,fun i sl q hm e=>?_⟩
 .obtain⟨v,h1,h2⟩:=h.at' i sl q;refine⟨v,h1,?_⟩;cases sl with
  |val p=>exact Rep.aL k h2
  |own p=>obtain⟨a,e,w,c⟩:=h2;exact⟨a,e,w,c.aL k fun o q=>s _ _ q⟩
  |loc p=>obtain⟨a,e,w,c⟩:=h2;exact⟨a,e,.inl w,c.aL k fun o q=>s _ _ q⟩
  |bor p=>
   obtain⟨a,e,c⟩:=h2;refine⟨a,e,?_⟩;cases c with
   |lst e od n m r=>exact .lst (e.elim (fun e=>.inl (s _ _ e)) fun⟨u,e⟩=>.inr ⟨u,s _ _ e⟩) od n (fun z=>z.elim m (Rd.ne e hl)) (r.aL k)
   |eN e r=>exact .eN e (r.aL k)
   |a9 e od n m kk r=>exact .a9 (e.elim (fun e=>.inl (s _ _ e)) fun⟨u,e⟩=>.inr ⟨u,s _ _ e⟩) od n (fun z=>z.elim m (Rd.ne e hl)) kk (r.aL k)
 .obtain⟨v,h1,h2⟩:=h.at' i sl q;rw[h1]at e;cases e;cases sl with
  |val p=>cases hm
  |bor p=>cases hm
  |own p=>obtain⟨a,e,w,c⟩:=h2;cases e;obtain⟨o,e,_⟩:=c.there;rw[hl]at e;cases e
  |loc p=>obtain⟨a,e,w,c⟩:=h2;cases e;obtain⟨o,e,_⟩:=c.there;rw[hl]at e;cases e
theorem aO.YQ {K:Frag} {e:En} (h:aO K (aS M (aS L (one l))) W (aS L (one l)) H σ e) (f:RY σ e l):aO K (aS M L) W L H σ e:=by
 have k:cO (aS M (aS L (one l))) (aS M L) H H:=.less fun a z=>z.elim .inl fun z=>.inr (.inl z)
 refine⟨h.len,fun i sl q=>?_,h.qD⟩;obtain⟨v,h1,h2⟩:=h.at' i sl q;refine⟨v,h1,?_⟩;cases sl with
 |val p=>exact Rep.aL k h2
 |own p=>obtain⟨a,e,w,c⟩:=h2;exact⟨a,e,w,c.aL k fun o q=>q⟩
 |loc p=>
  obtain⟨a,e,w,c⟩:=h2;refine⟨a,e,w.elim id fun z=>?_,c.aL k fun o q=>q⟩;exfalso;have z:a=l:=z;subst z e;exact f i _ q rfl h1
 |bor p=>
  obtain⟨a,e,c⟩:=h2;refine⟨a,e,?_⟩;cases c with
  |lst e od n m r=>exact .lst e od n (fun z=>m (.inl z)) (r.aL k)
  |eN e r=>exact .eN e (r.aL k)
  |a9 e od n m kk r=>exact .a9 e od n (fun z=>m (.inl z)) kk (r.aL k)
inductive Bv where
 |val (p:PV)|slot (i:Nat)|new (p:PV)
noncomputable def rd (e:En) (i:Nat):Option PV:=match e[i]? with
 |some (some s)=>some s.pv
 |_=>none
noncomputable def Bv.get (e:En):Bv->Option PV
 | .val p=>some p
 | .new p=>some p
 | .slot i=>rd e i
noncomputable def Bv.weak:Bv->Bv
 | .new p=>.val p
 |b=>b
noncomputable def Bv.put:Bv->Option PV
 | .val p=>some p
 | .new p=>some p
 | .slot _=>none
def RB (K:Frag) (O M:aJ) (W:WS) (L:aJ) (H:Hp) (σ:St) (e:En) (v:V):Bv->Prop
 | .val p=>aO K (aS M L) W L H σ e/\Rep K (aS M L) H p v
 | .slot i=>aO K (aS M L) W L H σ e/\σ[i]? =some (some v)
 | .new p=>∃a,v= .ref a/\¬O a/\¬L a/\aO K (aS M (aS L (one a))) W (aS L (one a)) H σ e/\RY σ e a/\gN K (aS M (aS L (one a))) H a p
theorem RB.weak {K:Frag} {b:Bv} (o:jB O M W L H) (h:RB K O M W L H σ e v b):RB K O M W L H σ e v b.weak:=by
 cases b with
 |val p=>exact h
 |slot i=>exact h
 |new p=>
  obtain⟨a,rfl,n1,n2,h1,hf,h2⟩:=h;exact⟨h1.YQ hf,(h2.aL (.less fun _ z=>z.elim .inl fun z=>.inr (.inl z)) fun _ q=>q).rep fun z=>z.elim (fun z=>n1 (o.mo _ z)) n2⟩
theorem RB.en {K:Frag} {b:Bv} (o:jB O M W L H) (h:RB K O M W L H σ e v b):aO K (aS M L) W L H σ e:=by
 cases b with
 |val p=>exact h.1
 |slot i=>exact h.1
 |new p=>exact(RB.weak (b:=.new p) o h).1
def RV (K:Frag) (Z:aJ) (H:Hp) (σ:St) (v:V):Bv->Prop
 | .val p=>Rep K Z H p v
 | .slot i=>σ[i]? =some (some v)
 | .new _=>False
theorem RB.rv {K:Frag} {b:Bv} (o:jB O M W L H) (h:RB K O M W L H σ e v b):RV K (aS M L) H σ v b.weak:=by
 have h:=h.weak o;cases b with
 |val p=>exact h.2
 |slot i=>exact h.2
 |new p=>exact h.2
theorem RV.keep {K:Frag} {b:Bv} (o:jB O M W L H) (k:bV W L H H') (h:RV K (aS M L) H σ v b):RV K (aS M L) H' σ v b:=by
 cases b with
 |val p=>exact Rep.aL (k.aL o) h
 |slot i=>exact h
 |new p=>exact h
theorem aO.rd {K:Frag} {e:En} {i:Nat} (h:aO K Z W L H σ e) (g:rd e i=some p) (hv:σ[i]? =some (some v)):Red K Z H p v:=by
 unfold Mr.rd at g;cases q:e[i]? with
 |none=>rw[q]at g;cases g
 | some s=>
  cases s with
  |none=>rw[q]at g;cases g
  |some s=>
   rw[q]at g;cases g;obtain⟨w,h1,h2⟩:=h.at' i s q;rw[hv]at h1;cases h1;exact h2.red
theorem RV.red {K:Frag} {b:Bv} (h:RV K Z H σ v b) (he:aO K Z W L H σ e) (g:b.get e=some p):Red K Z H p v:=by
 cases b with
 |val q=>cases g;exact .rep h
 |slot i=>exact he.rd g h
 |new q=>exact h.elim
abbrev FE:=En->Option (Bv×En)
abbrev FT:=En->Option (Bool×En)
abbrev FA:=En->Option (List Bv×En)
def Fr (H:Hp) (v:V):Bv->Prop
 | .new _=>∀a,v= .ref a->H a=none
 |_=>True
theorem Fr.back {H:Hp} {b:Bv} (d:∀a,H a≠none->H1 a≠none) (h:Fr H1 v b):Fr H v b:=by
 cases b with
 |val p=>trivial
 |slot i=>trivial
 |new p=>
  intro a e;cases z:H a with
  |none=>rfl
  |some o=>exact absurd (h a e) (d a (by rw[z];exact fun z=>nomatch z))
def Ref (K:Frag) (t:TE) (f:FE):Prop:=∀(O M:aJ) (W:WS) (L:aJ) (σ:St) (H:Hp) (e e':En) (b:Bv) (Q:VK),jB O M W L H->aO K (aS M L) W L H σ e->f e=some (b,e')->
 (∀v H',bV W L H H'->RB K O M W L H' σ e' v b->Fr H v b->Q v H')->t σ H Q
def mU (K:Frag) (t:TT) (f:FT):Prop:=∀(O M:aJ) (W:WS) (L:aJ) (σ:St) (H:Hp) (e e':En) (b:Bool) (Q:Bool->Hp->Prop),jB O M W L H->aO K (aS M L) W L H σ e->f e=some (b,e')->
 (∀H',bV W L H H'->aO K (aS M L) W L H' σ e'->Q b H')->t σ H Q
inductive z8 (K:Frag) (Z:aJ) (H:Hp) (σ:St):List Bv->List V->Prop
 |nil:z8 K Z H σ [] []
 |cons {b:Bv} {v:V} {bs:List Bv} {vs:List V}:RV K Z H σ v b->z8 K Z H σ bs vs->z8 K Z H σ (b::bs) (v::vs)
def qZ (K:Frag) (t:TA) (f:FA):Prop:=∀(O M:aJ) (W:WS) (L:aJ) (σ:St) (H:Hp) (e e':En) (bs:List Bv) (Q:List V->Hp->Prop),jB O M W L H->aO K (aS M L) W L H σ e->f e=some (bs,e')->
 (∀vs H',bV W L H H'->aO K (aS M L) W L H' σ e'->z8 K (aS M L) H' σ bs vs->Q vs H')->t σ H Q
noncomputable def bE (r:Option (α×En)) (k:α->En->Option β):Option β:=match r with
 |some (a,e)=>k a e
 |none=>none
noncomputable def bO (r:Option α) (k:α->Option β):Option β:=match r with
 |some a=>k a
 |none=>none
theorem aM {r:Option (α×En)} {k:α->En->Option β} {b:β} (h:bE r k=some b):∃a e,r=some (a,e)/\k a e=some b:=by
 cases r with
 |none=>cases h
 |some x=>exact⟨x.1,x.2,rfl,h⟩
theorem aE {r:Option α} {k:α->Option β} {b:β} (h:bO r k=some b):∃a,r=some a/\k a=some b:=by
 cases r with
 |none=>cases h
 |some x=>exact⟨x,rfl,h⟩
theorem AR {a:α} {k:α->En->Option β}:bE (some (a,e)) k=k a e:=rfl
theorem sU {a:α} {k:α->Option β}:bO (some a) k=k a:=rfl
noncomputable def bB (c:Bool) (x y:β):β:=match c with|true=>x|false=>y
noncomputable def aZ (c:Bool) (k:Option β):Option β:=match c with|true=>k|false=>none
theorem aK {c:Bool} {k:Option β} {b:β} (h:aZ c k=some b):c=true/\k=some b:=by
 cases c with
 |false=>cases h
 |true=>exact⟨rfl,h⟩
def RN (K:Frag) (Z:aJ) (H H':Hp) (v:V):Bv->Prop
 | .val p=>Rep K Z H' p v
 | .new p=>∃a,v= .ref a/\H a=none/\gN K (aS Z (one a)) H' a p
 | .slot _=>False
theorem RN.rb {K:Frag} {b:Bv} (o:jB O M W L H) (he:aO K (aS M L) W L H σ e) (s:aV H H') (h:RN K (aS M L) H H' v b):RB K O M W L H' σ e v b:=by
 cases b with
 |val p=>exact⟨he.same s,h⟩
 |slot i=>exact h.elim
 |new p=>
  obtain⟨a,rfl,n,c⟩:=h;have w:=he.new s n;exact⟨a,rfl,fun z=>o.old a z n,fun z=>(o.loc a z).1 n,w.1,w.2,c.aL (.less fun _ z=>by rcases z with z|z|z;exact .inl (.inl z);exact .inl (.inr z);exact .inr z) fun _ q=>q⟩
theorem RN.fr {K:Frag} {H0:Hp} {b:Bv} (d:∀a,H0 a≠none->H a≠none) (h:RN K Z H H' v b):Fr H0 v b:=by
 refine Fr.back d ?_;cases b with
 |val p=>trivial
 |slot i=>trivial
 |new p=>
  obtain⟨a,rfl,n,c⟩:=h;intro a' e;cases e;exact n
def cY (K:Frag) (r:R2) (g:PV->PV->Option Bv):Prop:=∀(Z:aJ) (H:Hp) (x y:V) (p q:PV) (b:Bv) (Q:VK),Red K Z H p x->Red K Z H q y->g p q=some b->(∀v H',aV H H'->RN K Z H H' v b->Q v H')->r x y H Q
def ZJ (K:Frag) (r:V->Hp->VK->Prop) (g:PV->Option Bv):Prop:=∀(Z:aJ) (H:Hp) (x:V) (p:PV) (b:Bv) (Q:VK),Red K Z H p x->g p=some b->(∀v H',aV H H'->RN K Z H H' v b->Q v H')->r x H Q
inductive vY (K:Frag) (Z:aJ) (H:Hp):List PV->List V->Prop
 |nil:vY K Z H [] []
 |cons {p:PV} {v:V} {ps:List PV} {vs:List V}:Red K Z H p v->vY K Z H ps vs->vY K Z H (p::ps) (v::vs)
def lL (K:Frag) (r:List V->Hp->VK->Prop) (g:List PV->Option Bv):Prop:=∀(Z:aJ) (H:Hp) (vs:List V) (ps:List PV) (b:Bv) (Q:VK),vY K Z H ps vs->g ps=some b->(∀v H',aV H H'->RN K Z H H' v b->Q v H')->r vs H Q
def VY (K:Frag) (r:V->List V->Hp->VK->Prop) (g:PV->List PV->Option Bv):Prop:=∀(Z:aJ) (H:Hp) (x:V) (vs:List V) (p:PV) (ps:List PV) (b:Bv) (Q:VK),Red K Z H p x->vY K Z H ps vs->g p ps=some b->(∀v H',aV H H'->RN K Z H H' v b->Q v H')->r x vs H Q
noncomputable def getL (e:En):List Bv->Option (List PV)
 |[]=>some []
 |b::bs=>bO (b.get e) fun p=>bO (getL e bs) fun ps=>some (p::ps)
theorem z8.red {K:Frag} (he:aO K Z W L H σ e):∀{bs:List Bv} {vs:List V} {ps:List PV},z8 K Z H σ bs vs->getL e bs=some ps->vY K Z H ps vs
 |_,_,_,.nil,g=>by cases g;exact .nil
 |_,_,_,.cons h r,g=>by
  obtain⟨p,g1,g⟩:=aE g;obtain⟨ps,g2,g⟩:=aE g;cases g;exact .cons (h.red he g1) (z8.red he r g2)
section
variable {K:Frag}
noncomputable def aC (i:Nat):FE:=fun e=>match e[i]? with
 |some (some (.val p))=>some (.val p,e)
 |some (some _)=>some (.slot i,e)
 |_=>none
theorem Q5 (i:Nat):Ref K (AQ i) (aC i):=by
 intro O M W L σ H e e' b Q o he hf q;unfold aC at hf;cases g:e[i]? with
 |none=>rw[g]at hf;cases hf
 | some s=>
  cases s with
  |none=>rw[g]at hf;cases hf
  |some s=>
   rw[g]at hf;obtain⟨v,h1,h2⟩:=he.at' i s g;cases s with
   |val p=>cases hf;exact⟨v,h1,q v H .refl ⟨he,h2⟩ trivial⟩
   |own p=>cases hf;exact⟨v,h1,q v H .refl ⟨he,h1⟩ trivial⟩
   |loc p=>cases hf;exact⟨v,h1,q v H .refl ⟨he,h1⟩ trivial⟩
   |bor p=>cases hf;exact⟨v,h1,q v H .refl ⟨he,h1⟩ trivial⟩
noncomputable def fC (p:PV):FE:=fun e=>some (.val p,e)
theorem FR (h:∀Z H,Rep K Z H p v):Ref K (tC v) (fC p):=by
 intro O M W L σ H e e' b Q o he hf q;cases hf;exact q v H .refl ⟨he,h _ _⟩ trivial
theorem QB (i:Int):Ref K (tC (.int i)) (fC (.int i)):=FR fun _ _=>.int i
theorem RO (i:Str):Ref K (tC (.str i)) (fC (.str i)):=FR fun _ _=>.str i
theorem XH (i:Bool):Ref K (tC (.bl i)) (fC (.bl i)):=FR fun _ _=>.bl i
theorem PX:Ref K (tC .bH) (fC .bH):=FR fun _ _=>.bH
noncomputable def bA (g:PV->PV->Option Bv) (fa fb:FE):FE:=fun e=>bE (fa e) fun x e1=>bE (fb e1) fun y e2=>bO (x.weak.get e2) fun p=>bO (y.weak.get e2) fun q=>bO (g p q) fun b=>some (b,e2)
theorem W3 {r:R2} {g:PV->PV->Option Bv} {ta:TE} {fa:FE} (hg:cY K r g) (ha:Ref K ta fa) (hb:Ref K tb fb):Ref K (YF r ta tb) (bA g fa fb):=by
 intro O M W L σ H e e' b Q o he hf q;obtain⟨x,e1,f1,hf⟩:=aM hf;obtain⟨y,e2,f2,hf⟩:=aM hf;obtain⟨p,g1,hf⟩:=aE hf;obtain⟨p',g2,hf⟩:=aE hf;obtain⟨c,g3,hf⟩:=aE hf;cases hf;refine ha O M W L σ H e e1 x _ o he f1 fun v1 H1 k1 r1 fr=>?_
 have o1:=o.keep k1.b7;refine hb O M W L σ H1 e1 _ y _ o1 (r1.en o1) f2 fun v2 H2 k2 r2 fr=>?_
 have o2:=o1.keep k2.b7;have en:=r2.en o2;refine hg _ H2 v1 v2 p p' _ Q (((r1.rv o1).keep o1 k2).red en g1) ((r2.rv o2).red en g2) g3 fun v H' s rn=>?_
 exact q v H' ((k1.trans k2).trans (.same s)) (rn.rb o2 en s) (rn.fr (k1.trans k2).b7)
noncomputable def fUn (g:PV->Option Bv) (fa:FE):FE:=fun e=>bE (fa e) fun x e1=>bO (x.weak.get e1) fun p=>bO (g p) fun b=>some (b,e1)
theorem UZ {r:V->Hp->VK->Prop} {g:PV->Option Bv} {ta:TE} {fa:FE} (hg:ZJ K r g) (ha:Ref K ta fa):Ref K (tUn r ta) (fUn g fa):=by
 intro O M W L σ H e e' b Q o he hf q;obtain⟨x,e1,f1,hf⟩:=aM hf;obtain⟨p,g1,hf⟩:=aE hf;obtain⟨c,g3,hf⟩:=aE hf;cases hf;refine ha O M W L σ H e _ x _ o he f1 fun v1 H1 k1 r1 fr=>?_
 have o1:=o.keep k1.b7;have en:=r1.en o1;refine hg _ H1 v1 p _ Q ((r1.rv o1).red en g1) g3 fun v H' s rn=>?_
 exact q v H' (k1.trans (.same s)) (rn.rb o1 en s) (rn.fr k1.b7)
noncomputable def aN:FA:=fun e=>some ([],e)
noncomputable def aB (fa:FE) (fr:FA):FA:=fun e=>bE (fa e) fun x e1=>bE (fr e1) fun xs e2=>some (x.weak::xs,e2)
theorem RJ:qZ K tF aN:=by
 intro O M W L σ H e e' b Q o he hf q;cases hf;exact q [] H .refl he .nil
theorem KP {ta:TE} {tr:TA} {fa:FE} {fr:FA} (ha:Ref K ta fa) (hr:qZ K tr fr):qZ K (dD ta tr) (aB fa fr):=by
 intro O M W L σ H e e' b Q o he hf q;obtain⟨x,e1,f1,hf⟩:=aM hf;obtain⟨xs,e2,f2,hf⟩:=aM hf;cases hf;refine ha O M W L σ H e e1 x _ o he f1 fun v1 H1 k1 r1 fr=>?_
 have o1:=o.keep k1.b7;refine hr O M W L σ H1 e1 _ xs _ o1 (r1.en o1) f2 fun vs H2 k2 en2 r2=>?_
 exact q (v1::vs) H2 (k1.trans k2) en2 (.cons ((r1.rv o1).keep o1 k2) r2)
noncomputable def gZ (g:List PV->Option Bv) (fa:FA):FE:=fun e=>bE (fa e) fun xs e1=>bO (getL e1 xs) fun ps=>bO (g ps) fun b=>some (b,e1)
theorem VZ {r:List V->Hp->VK->Prop} {g:List PV->Option Bv} (hg:lL K r g) (ha:qZ K ta fa):Ref K (tCB r ta) (gZ g fa):=by
 intro O M W L σ H e e' b Q o he hf q;obtain⟨x,e1,f1,hf⟩:=aM hf;obtain⟨p,g1,hf⟩:=aE hf;obtain⟨c,g3,hf⟩:=aE hf;cases hf;refine ha O M W L σ H e _ x _ o he f1 fun v1 H1 k1 en r1=>?_
 have o1:=o.keep k1.b7;refine hg _ H1 v1 p _ Q (r1.red en g1) g3 fun v H' s rn=>?_
 exact q v H' (k1.trans (.same s)) (rn.rb o1 en s) (rn.fr k1.b7)
noncomputable def fBM (g:PV->List PV->Option Bv) (fo:FE) (fa:FA):FE:=fun e=>bE (fo e) fun x e0=>match x with
 | .val (.str z)=>bE (fa e0) fun xs e1=>bO (getL e1 xs) fun ps=>bO (g (.str z) ps) fun b=>some (b,e1)
 |_=>none
theorem X2 {r:V->List V->Hp->VK->Prop} {g:PV->List PV->Option Bv} {to:TE} {fo:FE} (hg:VY K r g) (ho:Ref K to fo) (ha:qZ K ta fa):Ref K (YE K "str" r to ta) (fBM g fo fa):=by
 intro O M W L σ H e e' b Q o he hf q;obtain⟨x,e0,f0,hf⟩:=aM hf;cases x with
 |slot i=>cases hf
 |new p=>cases hf
 | val p=>
  cases p with
  |str z=>
   obtain⟨xs,e1,f1,hf⟩:=aM hf;obtain⟨p,g1,hf⟩:=aE hf;obtain⟨c,g3,hf⟩:=aE hf;cases hf;refine ho O M W L σ H e e0 _ _ o he f0 fun v0 H0 k0 r0 fr=>?_
   have o0:=o.keep k0.b7;obtain⟨en0,r0⟩:=r0;cases r0;refine⟨rfl,ha O M W L σ H0 e0 _ xs _ o0 en0 f1 fun v1 H1 k1 en r1=>?_⟩;have o1:=o0.keep k1.b7;refine hg _ H1 (.str z) v1 (.str z) p _ Q (.rep (.str z)) (r1.red en g1) g3 fun v H' s rn=>?_
   exact q v H' ((k0.trans k1).trans (.same s)) (rn.rb o1 en s) (rn.fr (k0.trans k1).b7)
  |_=>cases hf
noncomputable def putL:List Bv->Option (List PV)
 |[]=>some []
 |b::bs=>bO b.put fun p=>bO (putL bs) fun ps=>some (p::ps)
theorem z8.put:∀{bs:List Bv} {vs:List V} {ps:List PV},z8 K Z H σ bs vs->putL bs=some ps->bC K Z H ps vs
 |_,_,_,.nil,g=>by cases g;exact .nil
 |b::_,_,_,.cons h r,g=>by
  obtain⟨p,g1,g⟩:=aE g;obtain⟨ps,g2,g⟩:=aE g;cases g;cases b with
  |val p=>cases g1;exact .cons h (z8.put r g2)
  |slot i=>cases g1
  |new p=>exact h.elim
theorem gT (h:decide (n<1000000)=true):n<sizeLine:=szt (by have:=ao h;omega)
noncomputable def dN (fa:FA):FE:=fun e=>bE (fa e) fun xs e1=>bO (putL xs) fun ps=>aZ (decide (ps.length<1000000)) (some (.val (.tup ps),e1))
theorem PF (ha:qZ K ta fa):Ref K (MH ta) (dN fa):=by
 intro O M W L σ H e e' b Q o he hf q;obtain⟨x,e1,f1,hf⟩:=aM hf;obtain⟨ps,g1,hf⟩:=aE hf;obtain⟨g2,hf⟩:=aK hf;cases hf;refine ha O M W L σ H e _ x _ o he f1 fun vs H1 k1 en r1=>?_
 have rl:=r1.put g1;refine⟨by rw[<-rl.length];exact ir (gT g2),fun p hp=>?_⟩;have s:aV H1 (upd H1 p (.tup vs)):=aV.upd hp;exact q _ _ (k1.trans (.same s)) ⟨en.same s,.tup (.inl aU) (rl.aL (.same s))⟩ trivial
noncomputable def gB (fa:FA):FE:=fun e=>bE (fa e) fun xs e1=>bO (putL xs) fun ps=>aZ (decide (ps.length<1000000)) (some (.new (.lst ps),e1))
theorem PD (ha:qZ K ta fa):Ref K (MR ta) (gB fa):=by
 intro O M W L σ H e e' b Q o he hf q;obtain⟨x,e1,f1,hf⟩:=aM hf;obtain⟨ps,g1,hf⟩:=aE hf;obtain⟨g2,hf⟩:=aK hf;cases hf;refine ha O M W L σ H e _ x _ o he f1 fun vs H1 k1 en r1=>?_
 have o1:=o.keep k1.b7;have rl:=r1.put g1;refine⟨by rw[<-rl.length];exact ir (gT g2),fun p hp=>?_⟩;have s:aV H1 (upd H1 p (.lst vs)):=aV.upd hp;exact q _ _ (k1.trans (.same s)) ⟨p,rfl,fun z=>o1.old p z hp,fun z=>(o1.loc p z).1 hp,(en.new s hp).1,(en.new s hp).2,.lst aU (rl.aL ⟨fun _ _ h=>s _ _ h,fun a o h n=>⟨s _ _ h,fun z=>by
  rcases z with z|z|z
  .exact n (.inl z)
  .exact n (.inr z)
  .rw[show a=p from z,hp]at h;cases h⟩⟩)⟩ (Fr.back (b:=.new (.lst ps)) k1.b7 fun a e=>by cases e;exact hp)
noncomputable def vL:FE:=fun e=>some (.new (.a9 []),e)
theorem LV:Ref K DL vL:=by
 intro O M W L σ H e e' b Q o he hf q;cases hf;intro p hp;have s:aV H (upd H p (.dK [] 0)):=aV.upd hp;exact q _ _ (.same s) ⟨p,rfl,fun z=>o.old p z hp,fun z=>(o.loc p z).1 hp,(he.new s hp).1,(he.new s hp).2,.a9 aU rfl .nil⟩ fun a e=>by cases e;exact hp
noncomputable def bX (f:FE):FT:=fun e=>bE (f e) fun b e1=>match b with
 | .val (.bl c)=>some (c,e1)
 |_=>none
theorem CI (h:Ref K t f):mU K (TX t) (bX f):=by
 intro O M W L σ H e e' b Q o he hf q;obtain⟨x,e1,f1,hf⟩:=aM hf;cases x with
 |slot i=>cases hf
 |new p=>cases hf
 | val p=>
  cases p with
  |bl c=>
   cases hf;refine h O M W L σ H e _ _ _ o he f1 fun v1 H1 k1 r1 fr=>?_
   obtain⟨en,r⟩:=r1;cases r;exact⟨b,rfl,q H1 k1 en⟩
  |_=>cases hf
theorem UW (h:Ref K t f):mU K (tB t) (bX f):=CI h
noncomputable def EG (f g:FT):FT:=fun e=>bE (f e) fun b e1=>bB b (g e1) (some (false,e1))
noncomputable def OO (f:FT):FT:=fun e=>bE (f e) fun b e1=>some (!b,e1)
theorem RW {t u:TT} {f g:FT} (h:mU K t f) (h2:mU K u g):mU K (aaP t u) (EG f g):=by
 intro O M W L σ H e e' b Q o he hf q;obtain⟨x,e1,f1,hf⟩:=aM hf;refine h O M W L σ H e _ _ _ o he f1 fun H1 k1 en=>?_
 cases x with
 |true=>rw[ai rfl];exact h2 O M W L σ H1 e1 _ _ _ (o.keep k1.b7) en hf fun H2 k2 en2=>q H2 (k1.trans k2) en2
 |false=>cases hf;rw[ah av];exact q H1 k1 en
theorem OJ {t:TT} {f:FT} (h:mU K t f):mU K (YV t) (OO f):=by
 intro O M W L σ H e e' b Q o he hf q;obtain⟨x,e1,f1,hf⟩:=aM hf;cases hf;exact h O M W L σ H e _ _ _ o he f1 fun H1 k1 en=>q H1 k1 en
noncomputable def iI:FT:=fun e=>some (true,e)
theorem ME:mU K TR iI:=by
 intro O M W L σ H e e' b Q o he hf q;cases hf;exact q H .refl he
noncomputable def acE:Bv->Option Bool
 | .val (.bl c)=>some c
 |_=>none
noncomputable def TB (fc:FT) (fa fb:FE):FE:=fun e=>bE (fc e) fun b e1=>bB b (fa e1) (fb e1)
theorem UX {tc:TT} {ta:TE} {fa:FE} (hc:mU K tc fc) (ha:Ref K ta fa) (hb:Ref K tb fb):Ref K (tIf tc ta tb) (TB fc fa fb):=by
 intro O M W L σ H e e' b Q o he hf q;obtain⟨x,e1,f1,hf⟩:=aM hf;refine hc O M W L σ H e _ _ _ o he f1 fun H1 k1 en=>?_
 cases x with
 |true=>rw[ai rfl];exact ha O M W L σ H1 e1 _ _ _ (o.keep k1.b7) en hf fun v2 H2 k2 r2 fr=>q v2 H2 (k1.trans k2) r2 (fr.back k1.b7)
 |false=>rw[ah av];exact hb O M W L σ H1 e1 _ _ _ (o.keep k1.b7) en hf fun v2 H2 k2 r2 fr=>q v2 H2 (k1.trans k2) r2 (fr.back k1.b7)
abbrev FO:=En->Option (Option Int×En)
def Q3 (K:Frag) (t:TO) (f:FO):Prop:=∀(O M:aJ) (W:WS) (L:aJ) (σ:St) (H:Hp) (e e':En) (b:Option Int) (Q:Option Int->Hp->Prop),jB O M W L H->aO K (aS M L) W L H σ e->f e=some (b,e')->
 (∀H',bV W L H H'->aO K (aS M L) W L H' σ e'->Q b H')->t σ H Q
noncomputable def eW:FO:=fun e=>some (none,e)
noncomputable def jM (f:FE):FO:=fun e=>bE (f e) fun b e1=>match b with
 | .val (.int i)=>some (some i,e1)
 |_=>none
theorem DC:Q3 K EX eW:=by
 intro O M W L σ H e e' b Q o he hf q;cases hf;exact q H .refl he
theorem K8 (h:Ref K t f):Q3 K (SX t) (jM f):=by
 intro O M W L σ H e e' b Q o he hf q;obtain⟨x,e1,f1,hf⟩:=aM hf;cases x with
 |slot i=>cases hf
 |new p=>cases hf
 | val p=>
  cases p with
  |int c=>
   cases hf;refine h O M W L σ H e _ _ _ o he f1 fun v1 H1 k1 r1 fr=>?_
   obtain⟨en,r⟩:=r1;cases r;exact⟨c,rfl,q H1 k1 en⟩
  |_=>cases hf
def ZH (K:Frag) (r:V->Option Int->Option Int->Hp->VK->Prop) (g:PV->Option Int->Option Int->Option Bv):Prop:=∀(Z:aJ) (H:Hp) (x:V) (p:PV) (lo hi:Option Int) (b:Bv) (Q:VK),Red K Z H p x->g p lo hi=some b->(∀v H',aV H H'->RN K Z H H' v b->Q v H')->r x lo hi H Q
noncomputable def JM (g:PV->Option Int->Option Int->Option Bv) (fa:FE) (fl fh:FO):FE:=fun e=>bE (fa e) fun x e1=>bE (fl e1) fun lo e2=>bE (fh e2) fun hi e3=>bO (x.weak.get e3) fun p=>bO (g p lo hi) fun b=>some (b,e3)
theorem T3 {r:V->Option Int->Option Int->Hp->VK->Prop} {g:PV->Option Int->Option Int->Option Bv} {ta:TE} {tl th:TO} {fa:FE} {fl fh:FO} (hg:ZH K r g) (ha:Ref K ta fa) (hl:Q3 K tl fl) (hh:Q3 K th fh):Ref K (tSl r ta tl th) (JM g fa fl fh):=by
 intro O M W L σ H e e' b Q o he hf q;obtain⟨x,e1,f1,hf⟩:=aM hf;obtain⟨lo,e2,f2,hf⟩:=aM hf;obtain⟨hi,e3,f3,hf⟩:=aM hf;obtain⟨p,g1,hf⟩:=aE hf;obtain⟨c,g3,hf⟩:=aE hf;cases hf;refine ha O M W L σ H e e1 x _ o he f1 fun v1 H1 k1 r1 fr=>?_
 have o1:=o.keep k1.b7;refine hl O M W L σ H1 e1 e2 lo _ o1 (r1.en o1) f2 fun H2 k2 en2=>?_
 have o2:=o1.keep k2.b7;refine hh O M W L σ H2 e2 _ hi _ o2 en2 f3 fun H3 k3 en3=>?_
 have o3:=o2.keep k3.b7;refine hg _ H3 v1 p lo hi _ Q ((((r1.rv o1).keep o1 k2).keep o2 k3).red en3 g1) g3 fun v H' s rn=>?_
 exact q v H' (((k1.trans k2).trans k3).trans (.same s)) (rn.rb o3 en3 s) (rn.fr ((k1.trans k2).trans k3).b7)
end
inductive Out where
 |nx (e:En)|rt (b:Bv) (e:En)|bk (e:En)|ct (e:En)
abbrev FS:=En->Option Out
structure l7 (W:WS) (L L':aJ) (H H':Hp):Prop where
 obj:∀a o,H a=some o->¬aw W a->¬L a->H' a=some o
 tup:∀a xs,H a=some (.tup xs)->H' a=some (.tup xs)
 b7:∀a,H a≠none->H' a≠none
 new:∀a,L' a->L a\/ H a=none
theorem l7.refl:l7 W L L H H:=⟨fun _ _ h _ _=>h,fun _ _ h=>h,fun _ h=>h,fun _ h=>.inl h⟩
theorem l7.keep (k:bV W L H H'):l7 W L L H H':=⟨k.obj,k.tup,k.b7,fun _ h=>.inl h⟩
theorem l7.trans {L2:aJ} {H:Hp} (a:l7 W L L1 H H1) (b:l7 W L1 L2 H1 H2):l7 W L L2 H H2:=
 ⟨fun c o h n m=>b.obj c o (a.obj c o h n m) n fun z=>(a.new c z).elim m fun z=>(by rw[h]at z;cases z),fun c xs h=>b.tup c xs (a.tup c xs h),fun c h=>b.b7 c (a.b7 c h),fun c h=>by
  rcases b.new c h with z|z
  .exact a.new c z
  .refine .inr ?_;cases e:H c with
   |none=>rfl
   |some o=>exact absurd z (a.b7 c (by rw[e];exact fun z=>nomatch z))⟩
def OV (K:Frag) (O M:aJ) (W:WS) (L:aJ) (H:Hp) (D:Ends):Out->Prop
 | .nx e'=>∀L' σ' H',l7 W L L' H H'->jB O M W L' H'->aO K (aS M L') W L' H' σ' e'->D.nx σ' H'
 | .bk e'=>∀L' σ' H',l7 W L L' H H'->jB O M W L' H'->aO K (aS M L') W L' H' σ' e'->D.bk σ' H'
 | .ct e'=>∀L' σ' H',l7 W L L' H H'->jB O M W L' H'->aO K (aS M L') W L' H' σ' e'->D.ct σ' H'
 | .rt b e'=>∀L' σ' H' v,l7 W L L' H H'->jB O M W L' H'->RB K O M W L' H' σ' e' v b->D.rt v H'
theorem OV.later {K:Frag} {D:Ends} {r:Out} (g:l7 W L L1 H H1) (h:OV K O M W L H D r):OV K O M W L1 H1 D r:=by
 cases r with
 |nx e=>exact fun L' σ' H' g'=>h L' σ' H' (g.trans g')
 |bk e=>exact fun L' σ' H' g'=>h L' σ' H' (g.trans g')
 |ct e=>exact fun L' σ' H' g'=>h L' σ' H' (g.trans g')
 |rt b e=>exact fun L' σ' H' v g'=>h L' σ' H' v (g.trans g')
def eF (K:Frag) (t:TS) (f:FS):Prop:=∀(O M:aJ) (W:WS) (L:aJ) (σ:St) (H:Hp) (e:En) (r:Out) (D:Ends),jB O M W L H->aO K (aS M L) W L H σ e->f e=some r->OV K O M W L H D r->t D σ H
section
variable {K:Frag}
noncomputable def dY:FS:=fun e=>some (.nx e)
theorem N9:eF K BS dY:=by
 intro O M W L σ H e r D o he hf q;cases hf;exact q L σ H .refl o he
noncomputable def aY (f g:FS):FS:=fun e=>match f e with
 |some (.nx e1)=>g e1
 |r=>r
theorem RD {t:TS} {f g:FS} (h1:eF K t f) (h2:eF K u g):eF K (vV t u) (aY f g):=by
 intro O M W L σ H e r D o he hf q;unfold aY at hf;cases c:f e with
 |none=>rw[c]at hf;cases hf
 |some r1=>
  rw[c]at hf;cases r1 with
  |nx e1=>exact h1 O M W L σ H e _ _ o he c fun L' σ' H' g' o' he'=>h2 O M W L' σ' H' e1 r D o' he' hf (q.later g')
  |rt b e1=>cases hf;exact h1 O M W L σ H e _ _ o he c q
  |bk e1=>cases hf;exact h1 O M W L σ H e _ _ o he c q
  |ct e1=>cases hf;exact h1 O M W L σ H e _ _ o he c q
noncomputable def c9 (f:FE):FS:=fun e=>bE (f e) fun b e1=>some (.rt b e1)
theorem O9 (h:Ref K t f):eF K (UB t) (c9 f):=by
 intro O M W L σ H e r D o he hf q;obtain⟨x,e1,f1,hf⟩:=aM hf;cases hf;exact h O M W L σ H e _ _ _ o he f1 fun v H' k rb fr=>q L σ H' v (.keep k) (o.keep k.b7) rb
noncomputable def wG (fc:FT) (f g:FS):FS:=fun e=>bE (fc e) fun b e1=>bB b (f e1) (g e1)
theorem PN {t:TS} {f g:FS} (hc:mU K c fc) (h1:eF K t f) (h2:eF K u g):eF K (VJ c t u) (wG fc f g):=by
 intro O M W L σ H e r D o he hf q;obtain⟨x,e1,f1,hf⟩:=aM hf;refine hc O M W L σ H e _ _ _ o he f1 fun H1 k1 en=>?_
 cases x with
 |true=>rw[ai rfl];exact h1 O M W L σ H1 e1 r D (o.keep k1.b7) en hf (q.later (.keep k1))
 |false=>rw[ah av];exact h2 O M W L σ H1 e1 r D (o.keep k1.b7) en hf (q.later (.keep k1))
theorem c7 {l:List α} {x y:α} (h:(l.set i x)[j]? =some y):(i=j/\i<l.length/\x=y)\/ (i≠j/\l[j]? =some y):=by
 by_cases e:i=j
 .subst e;have hl:i<l.length:=by
   have:=(ae.mp h).1;simpa using this
  rw[dz hl]at h;exact .inl ⟨rfl,hl,Option.some.inj h⟩
 .rw[df e]at h;exact .inr ⟨e,h⟩
theorem aO.put {e:En} (h:aO K Z W L H σ e) (hm:s.cU=false) (hs:jN K Z W L H i v s):aO K Z W L H (σ.set i (some v)) (e.set i (some s)):=by
 refine⟨by rw[jn,jn];exact h.len,fun j t q=>?_,fun j k s1 s2 hjk q1 q2 m1 m2=>?_⟩
 .rcases c7 q with⟨rfl,hl,e⟩|⟨hn,q⟩
  .cases e;exact⟨v,by rw[dz (by rw[<-h.len];exact hl)],hs⟩
  .rw[df hn];exact h.at' j t q
 .rcases c7 q1 with⟨rfl,hl,e⟩|⟨hn1,q1⟩
  .cases e;rw[hm]at m1;cases m1
  .rcases c7 q2 with⟨rfl,hl,e⟩|⟨hn2,q2⟩
   .cases e;rw[hm]at m2;cases m2
   .rw[df hn1,df hn2];exact h.qD j k s1 s2 hjk q1 q2 m1 m2
theorem aO.putL {e:En} (h:aO K (aS M (aS L (one a))) W (aS L (one a)) H σ e) (hf:RY σ e a) (hc:gN K (aS M (aS L (one a))) H a p):
  aO K (aS M (aS L (one a))) W (aS L (one a)) H (σ.set i (some (.ref a))) (e.set i (some (.loc p))):=by
 refine⟨by rw[jn,jn];exact h.len,fun j t q=>?_,fun j k s1 s2 hjk q1 q2 m1 m2=>?_⟩
 .rcases c7 q with⟨rfl,hl,e⟩|⟨hn,q⟩
  .cases e;exact⟨_,by rw[dz (by rw[<-h.len];exact hl)],a,rfl,.inr rfl,hc⟩
  .rw[df hn];exact h.at' j t q
 .rcases c7 q1 with⟨rfl,hl,e⟩|⟨hn1,q1⟩
  .rcases c7 q2 with⟨rfl,hl,e⟩|⟨hn2,q2⟩
   .exact absurd rfl hjk
   .rw[df hn2,dz (by rw[<-h.len];exact hl)];exact fun z=>hf k s2 q2 m2 z.symm
  .rcases c7 q2 with⟨rfl,hl,e⟩|⟨hn2,q2⟩
   .rw[df hn1,dz (by rw[<-h.len];exact hl)];exact fun z=>hf j s1 q1 m1 z
   .rw[df hn1,df hn2];exact h.qD j k s1 s2 hjk q1 q2 m1 m2
noncomputable def cK (i:Nat) (f:FE):FS:=fun e=>bE (f e) fun b e1=>match b with
 | .val p=>some (.nx (e1.set i (some (.val p))))
 | .new p=>some (.nx (e1.set i (some (.val p))))
 | .slot j=>match e1[j]? with
  |some (some (.bor p))=>some (.nx (e1.set i (some (.bor p))))
  |_=>none
theorem RH (h:Ref K t f):eF K (mF t (eE i)) (cK i f):=by
 intro O M W L σ H e r D o he hf q;obtain⟨x,e1,f1,hf⟩:=aM hf;refine h O M W L σ H e _ _ _ o he f1 fun v H' k rb fr=>?_
 have o1:=o.keep k.b7;cases x with
 |val p=>cases hf;exact q L _ H' (.keep k) o1 (aO.put rb.1 rfl rb.2)
 |new p=>cases hf;have rb:=rb.weak o1;exact q L _ H' (.keep k) o1 (aO.put (s:=.val p) rb.1 rfl rb.2)
 | slot j=>
  dsimp only at hf;cases c:e1[j]? with
  |none=>rw[c]at hf;cases hf
  | some s=>
   cases s with
   |none=>rw[c]at hf;cases hf
   | some s=>
    rw[c]at hf;cases s with
    |bor p=>
     cases hf;obtain⟨u,h1,h2⟩:=rb.1.at' j _ c;rw[rb.2]at h1;cases h1;exact q L _ H' (.keep k) o1 (aO.put (s:=.bor p) rb.1 rfl h2)
    |_=>cases hf
noncomputable def eJ (i:Nat) (f:FE):FS:=fun e=>bE (f e) fun b e1=>match b with
 | .new p=>some (.nx (e1.set i (some (.loc p))))
 |_=>none
theorem KR (h:Ref K t f):eF K (mF t (eE i)) (eJ i f):=by
 intro O M W L σ H e r D o he hf q;obtain⟨x,e1,f1,hf⟩:=aM hf;cases x with
 |val p=>cases hf
 |slot j=>cases hf
 |new p=>
  cases hf;refine h O M W L σ H e _ _ _ o he f1 fun v H' k rb fr=>?_
  obtain⟨a,rfl,nO,nL,en,fe,c⟩:=rb;obtain⟨ob,hob,_⟩:=c.there;have o1:=o.keep k.b7;have new:H a=none:=fr a rfl;exact q (aS L (one a)) _ H' ⟨k.obj,k.tup,k.b7,fun b z=>z.elim .inl fun z=>.inr (by rw[show b=a from z];exact new)⟩ ⟨o1.old,o1.mo,o1.wm,fun b z=>z.elim (o1.loc b) fun z=>(by rw[show b=a from z];exact⟨(by rw[hob];exact fun z=>nomatch z),nO⟩)⟩ (aO.putL en fe c)
noncomputable def rel (i:Nat) (e:En):Option En:=match e[i]? with
 |some (some (.loc p))=>some (e.set i (some (.val p)))
 |some (some (.val p))=>some e
 |_=>none
theorem aO.rel {e:En} {i:Nat} (o:jB O M W L H) (h:aO K (aS M L) W L H σ e) (hi:e[i]? =some (some (.loc p))):∃L',(∀a,L' a->L a)/\aO K (aS M L') W L' H σ (e.set i (some (.val p))):=by
 obtain⟨v,h1,a,rfl,la,c⟩:=h.at' i _ hi;refine⟨fun b=>L b/\b≠a,fun b z=>z.1,by rw[jn];exact h.len,fun j t q=>?_,fun j k s1 s2 hjk q1 q2 m1 m2=>?_⟩
 .have k:cO (aS M L) (aS M fun b=>L b/\b≠a) H H:=.less fun b z=>z.elim .inl fun z=>.inr z.1
  rcases c7 q with⟨rfl,hl,e⟩|⟨hn,q⟩
  .cases e;refine⟨_,h1,(c.aL k fun _ q=>q).rep fun z=>?_⟩;rcases z with z|z
   .exact(o.loc a la).2 (o.mo a z)
   .exact z.2 rfl
  .obtain⟨v,g1,g2⟩:=h.at' j t q;refine⟨v,g1,?_⟩;cases t with
   |val p=>exact Rep.aL k g2
   |own p=>obtain⟨b,e,w,c⟩:=g2;exact⟨b,e,w,c.aL k fun o q=>q⟩
   |loc p=>
    obtain⟨b,e,w,c⟩:=g2;refine⟨b,e,⟨w,fun z=>?_⟩,c.aL k fun o q=>q⟩;subst z;subst e;exact h.qD i j _ _ hn hi q rfl rfl (h1.trans g1.symm)
   |bor p=>
    obtain⟨b,e,c⟩:=g2;refine⟨b,e,?_⟩;cases c with
    |lst e od n m r=>exact .lst e od n (fun z=>m z.1) (r.aL k)
    |eN e r=>exact .eN e (r.aL k)
    |a9 e od n m kk r=>exact .a9 e od n (fun z=>m z.1) kk (r.aL k)
 .rcases c7 q1 with⟨rfl,hl,e⟩|⟨hn1,q1⟩
  .cases e;cases m1
  .rcases c7 q2 with⟨rfl,hl,e⟩|⟨hn2,q2⟩
   .cases e;cases m2
   .exact h.qD j k s1 s2 hjk q1 q2 m1 m2
noncomputable def QO (i:Nat) (f:FS):FS:=fun e=>bO (rel i e) f
theorem Q6 {t:TS} {f:FS} (i:Nat) (h:eF K t f):eF K t (QO i f):=by
 intro O M W L σ H e r D o he hf q;obtain⟨e1,f1,hf⟩:=aE hf;unfold Mr.rel at f1;cases c:e[i]? with
 |none=>rw[c]at f1;cases f1
 | some s=>
  cases s with
  |none=>rw[c]at f1;cases f1
  | some s=>
   rw[c]at f1;cases s with
   |loc p=>
    cases f1;obtain⟨L',hL,en⟩:=he.rel o c;refine h O M W L' σ H _ r D ⟨o.old,o.mo,o.wm,fun a z=>o.loc a (hL a z)⟩ en hf (q.later ⟨fun _ _ h _ _=>h,fun _ _ h=>h,fun _ h=>h,fun a z=>.inl (hL a z)⟩)
   |val p=>cases f1;exact h O M W L σ H _ r D o he hf q
   |_=>cases f1
noncomputable def b9 (e:En) (i:Nat) (p:PV):En:=match e[i]? with
 |some (some (.own _))=>e.set i (some (.own p))
 |_=>e.set i (some (.loc p))
noncomputable def ownAt (e:En) (i:Nat):Option PV:=match e[i]? with
 |some (some (.own p))=>some p
 |some (some (.loc p))=>some p
 |_=>none
theorem bL (h:ownAt e i=some p):(e[i]? =some (some (.own p))\/ e[i]? =some (some (.loc p))):=by
 unfold ownAt at h;split at h
 .cases h;exact .inl (by assumption)
 .cases h;exact .inr (by assumption)
 .cases h
theorem aO.own {i:Nat} (h:aO K Z W L H σ e) (g:ownAt e i=some p):∃a,σ[i]? =some (some (.ref a))/\(aw W a\/ L a)/\gN K Z H a p:=by
 rcases bL g with g|g
 .obtain⟨v,h1,a,rfl,w,c⟩:=h.at' i _ g;exact⟨a,h1,.inl ⟨i,w⟩,c⟩
 .obtain⟨v,h1,a,rfl,w,c⟩:=h.at' i _ g;exact⟨a,h1,.inr w,c⟩
theorem cO.write (z:Z a) (h:H a=some ob) (nt:∀xs,ob≠ .tup xs):cO Z Z H (upd H a o):=
 ⟨fun b xs e=>by rw[aQ (J3 e h fun z=>nt _ z.symm)];exact e,fun b u e n=>⟨by rw[aQ (fun q:b=a=>n (by rw[q];exact z))];exact e,n⟩⟩
theorem aO.write {i:Nat} {q:PV} (wm:∀i a,W i a->M a) (h:aO K (aS M L) W L H σ e) (g:ownAt e i=some p) (ha:σ[i]? =some (some (.ref a))) (c:gN K (aS M L) (upd H a ob) a q):
  aO K (aS M L) W L (upd H a ob) σ (b9 e i q):=by
 obtain⟨a',h1,hz,c0⟩:=h.own g;rw[ha]at h1;cases h1;have za:aS M L a:=hz.elim (fun⟨i,w⟩=>.inl (wm i a w)) .inr;obtain⟨o0,e0,nt⟩:=c0.there;have k:cO (aS M L) (aS M L) H (upd H a ob):=.write za e0 nt;have hl:i<e.length:=by
  rcases bL g with g|g<;>exact(ae.mp g).1
 have hm:∃s,e[i]? =some (some s)/\s.cU=true:=by
  rcases bL g with g|g<;>exact⟨_,g,rfl⟩
 obtain⟨s0,hs0,hm0⟩:=hm;have key:∀s',(b9 e i q)[i]? =some (some s')->∃v,σ[i]? =some (some v)/\jN K (aS M L) W L (upd H a ob) i v s':=fun s' z=>by
  unfold b9 at z;rcases bL g with g|g
  .rw[g]at z;rw[dz hl]at z;cases z;obtain⟨v,h1,a',rfl,w,_⟩:=h.at' i _ g;rw[ha]at h1;cases h1
   exact⟨_,ha,a,rfl,w,c⟩
  .rw[g]at z;rw[dz hl]at z;cases z;obtain⟨v,h1,a',rfl,w,_⟩:=h.at' i _ g;rw[ha]at h1;cases h1
   exact⟨_,ha,a,rfl,w,c⟩
 have oth:∀j,i≠j->(b9 e i q)[j]? =e[j]?:=fun j hj=>by
  unfold b9;rcases bL g with g|g<;>(rw[g];exact df hj)
 refine⟨?_,fun j t z=>?_,fun j l s1 s2 hjk q1 q2 m1 m2=>?_⟩
 .rw[<-h.len];unfold b9;rcases bL g with g|g<;>(rw[g];exact jn)
 .by_cases hj:i=j
  .subst hj;exact key t z
  .rw[oth j hj]at z;obtain⟨v,g1,g2⟩:=h.at' j t z;refine⟨v,g1,?_⟩;cases t with
   |val p=>exact Rep.aL k g2
   |own p=>
    obtain⟨b,e',w,c⟩:=g2;subst e';have hb:b≠a:=fun z'=>h.qD i j s0 _ hj hs0 z hm0 rfl (by rw[ha,g1,z'])
    exact⟨b,rfl,w,c.aL k fun o q=>by rw[aQ hb];exact q⟩
   |loc p=>
    obtain⟨b,e',w,c⟩:=g2;subst e';have hb:b≠a:=fun z'=>h.qD i j s0 _ hj hs0 z hm0 rfl (by rw[ha,g1,z'])
    exact⟨b,rfl,w,c.aL k fun o q=>by rw[aQ hb];exact q⟩
   | bor p=>
    obtain⟨b,e',c⟩:=g2;refine⟨b,e',?_⟩;cases c with
    |lst e od n m r=>
     have hb:b≠a:=fun z'=>hz.elim (fun w=>n (z'▸w)) fun w=>m (z'▸w)
     exact .lst (e.elim (fun e=>.inl (by rw[aQ hb];exact e)) fun⟨u,e⟩=>.inr ⟨u,by rw[aQ hb];exact e⟩) od n m (r.aL k)
    |eN e r=>exact .eN e (r.aL k)
    |a9 e od n m kk r=>
     have hb:b≠a:=fun z'=>hz.elim (fun w=>n (z'▸w)) fun w=>m (z'▸w)
     exact .a9 (e.elim (fun e=>.inl (by rw[aQ hb];exact e)) fun⟨u,e⟩=>.inr ⟨u,by rw[aQ hb];exact e⟩) od n m kk (r.aL k)
 .have cU:∀(j:Nat) (s:Sl),(b9 e i q)[j]? =some (some s)->s.cU=true->∃s':Sl,e[j]? =some (some s')/\s'.cU=true:=fun j s z m=>by
   by_cases hj:i=j
   .subst hj;exact⟨s0,hs0,hm0⟩
   .rw[oth j hj]at z;exact⟨s,z,m⟩
  obtain⟨t1,w1,n1⟩:=cU j s1 q1 m1;obtain⟨t2,w2,n2⟩:=cU l s2 q2 m2;exact h.qD j l t1 t2 hjk w1 w2 n1 n2
theorem bV.write (hz:aw W a\/ L a) (h:H a=some ob) (nt:∀xs,ob≠ .tup xs):bV W L H (upd H a o):=
 ⟨fun b u e n m=>by rw[aQ (fun q:b=a=>hz.elim (fun z=>n (by rw[q];exact z)) fun z=>m (by rw[q];exact z))];exact e,fun b xs e=>by rw[aQ (J3 e h fun z=>nt _ z.symm)];exact e,fun b e=>by
  by_cases hb:b=a
  .subst hb;rw[aU];exact fun z=>nomatch z
  .rw[aQ hb];exact e⟩
noncomputable def rS (i:Nat) (f:FE):FS:=fun e=>bO (ownAt e i) fun p0=>match p0 with
 | .lst _=>bE (f e) fun b e1=>bO b.put fun p=>match ownAt e1 i with
  |some (.lst ps)=>aZ (decide (ps.length<1000000)) (some (.nx (b9 e1 i (.lst (ps++[p])))))
  |_=>none
 |_=>none
theorem RB.put {b:Bv} (o:jB O M W L H) (h:RB K O M W L H σ e v b) (g:b.put=some p):aO K (aS M L) W L H σ e/\Rep K (aS M L) H p v:=by
 have h:=h.weak o;cases b with
 |val q=>cases g;exact h
 |new q=>cases g;exact h
 |slot i=>cases g
theorem OP {i:Nat} (h:Ref K t f):eF K (KN (YE K "list" t9 (AQ i) (dD t tF))) (rS i f):=by
 intro O M W L σ H e r D o he hf q;obtain⟨p0,g0,hf⟩:=aE hf;cases p0 with
 | lst ps0=>
  obtain⟨x,e1,f1,hf⟩:=aM hf;obtain⟨p,g1,hf⟩:=aE hf;cases c:ownAt e1 i with
  |none=>rw[c]at hf;cases hf
  | some q1=>
   rw[c]at hf;cases q1 with
   | lst ps=>
    obtain⟨g2,hf⟩:=aK hf;cases hf;obtain⟨a,ha,hz,ct⟩:=he.own g0;refine⟨_,ha,.inl ⟨rfl,?_⟩,?_⟩
    .cases ct with|lst e r=>exact⟨_,iW.of e⟩
    refine h O M W L σ H e _ _ _ o he f1 fun v H' k rb fr=>?_
    have o1:=o.keep k.b7;obtain⟨en,rp⟩:=rb.put o1 g1;obtain⟨a',ha',hz',ct'⟩:=en.own c;rw[ha]at ha';cases ha';cases ct' with
    |lst e2 r2=>
     rename_i xs;refine⟨a,xs,v,rfl,rfl,e2,by rw[<-r2.length];exact gT g2,?_⟩;have kw:bV W L H' (upd H' a (.lst (xs++[v]))):=.write hz e2 fun _ z=>nomatch z
     have st:cO (aS M L) (aS M L) H' (upd H' a (.lst (xs++[v]))):=.write (hz.elim (fun⟨i,w⟩=>.inl (o.wm i a w)) .inr) e2 fun _ z=>nomatch z
     exact q L σ _ (.keep (k.trans kw)) (o1.keep kw.b7) (aO.write o.wm en c ha (.lst aU ((r2.aL st).app (.cons (rp.aL st) .nil))))
   |_=>cases hf
 |_=>cases hf
noncomputable def uK (i:Nat) (fi fv:FE):FS:=fun e=>bE (fv e) fun b e1=>bO b.put fun p=>bO (ownAt e1 i) fun _=>bE (fi e1) fun k e2=>match k with
 | .val (.int k)=>match ownAt e2 i with
  |some (.lst ps)=>bO (uC ps.length k) fun j=>some (.nx (b9 e2 i (.lst (ps.set j p))))
  |_=>none
 |_=>none
theorem HX {i:Nat} {ti:TE} {fi:FE} (hv:Ref K tv fv) (hi:Ref K ti fi):eF K (mF tv (JA (AQ i) ti SN)) (uK i fi fv):=by
 intro O M W L σ H e r D o he hf q;obtain⟨x,e1,f1,hf⟩:=aM hf;obtain⟨p,g1,hf⟩:=aE hf;obtain⟨p0,g0,hf⟩:=aE hf;obtain⟨y,e2,f2,hf⟩:=aM hf;cases y with
 |slot i=>cases hf
 |new p=>cases hf
 | val y=>
  cases y with
  | int k=>
   dsimp only at hf;cases c:ownAt e2 i with
   |none=>rw[c]at hf;cases hf
   | some q1=>
    rw[c]at hf;cases q1 with
    | lst ps=>
     obtain⟨j,g2,hf⟩:=aE hf;cases hf;refine hv O M W L σ H e _ _ _ o he f1 fun v H1 k1 rb fr=>?_
     have o1:=o.keep k1.b7;obtain⟨en,rp⟩:=rb.put o1 g1;obtain⟨a,ha,_,_⟩:=en.own g0;refine⟨_,ha,hi O M W L σ H1 e1 _ _ _ o1 en f2 fun v2 H2 k2 rb2 fr2=>?_⟩;obtain⟨en2,r2⟩:=rb2;cases r2;have o2:=o1.keep k2.b7;obtain⟨a',ha',hz,ct⟩:=en2.own c;rw[ha]at ha';cases ha';cases ct with
     |lst e3 r3=>
      rename_i xs;refine⟨a,xs,k,j,rfl,rfl,e3,by rw[<-r3.length];exact g2,?_⟩;have kw:bV W L H2 (upd H2 a (.lst (xs.set j v))):=.write hz e3 fun _ z=>nomatch z
      have st:cO (aS M L) (aS M L) H2 (upd H2 a (.lst (xs.set j v))):=.write (hz.elim (fun⟨i,w⟩=>.inl (o.wm i a w)) .inr) e3 fun _ z=>nomatch z
      exact q L σ _ (.keep ((k1.trans k2).trans kw)) (o2.keep kw.b7) (aO.write o.wm en2 c ha (.lst aU ((r3.aL st).set ((rp.aL (k2.aL o1)).aL st) j)))
    |_=>cases hf
  |_=>cases hf
end
noncomputable def bY (kvs:List (Key×PV)) (k:Key):Option PV:=(kvs.find? fun kv=>decide (kv.1=k)).map (·.2)
noncomputable def e8 (kvs:List (Key×PV)) (k:Key) (v:PV):List (Key×PV):=
 if(kvs.any fun kv=>decide (kv.1=k))=true then kvs.map (fun kv=>if kv.1=k then(kv.1,v)else kv)else kvs++[(k,v)]
section
variable {K:Frag} {Z:aJ} {H:Hp}
def dF (K:Frag) (Z:aJ) (H:Hp) (kvs:List (Key×PV)) (ys:List (Key×V)):Prop:=ys.map (·.1)=kvs.map (·.1)/\bC K Z H (kvs.map (·.2)) (ys.map (·.2))
theorem dF.cases {kvs:List (Key×PV)} {ys:List (Key×V)} (h:dF K Z H kvs ys):(kvs=[]/\ys=[])\/ ∃k p v r s,kvs=(k,p)::r/\ys=(k,v)::s/\Rep K Z H p v/\dF K Z H r s:=by
 obtain⟨h1,h2⟩:=h;cases kvs with
 |nil=>
  cases ys with
  |nil=>exact .inl ⟨rfl,rfl⟩
  |cons y ys=>cases h1
 | cons x kvs=>
  cases ys with
  |nil=>cases h1
  |cons y ys=>
   obtain⟨a,p⟩:=x;obtain⟨b,v⟩:=y;rw[cq,cq]at h1;have h1':=List.cons.inj h1;have e:b=a:=h1'.1;subst e;cases h2 with
   |cons h2 r2=>exact .inr ⟨b,p,v,kvs,ys,rfl,rfl,h2,h1'.2,r2⟩
theorem dF.cons {r:List (Key×PV)} {s:List (Key×V)} (h:Rep K Z H p v) (hr:dF K Z H r s):dF K Z H ((k,p)::r) ((k,v)::s):=
 ⟨by rw[cq,cq,hr.1],.cons h hr.2⟩
theorem dF.val:∀{kvs:List (Key×PV)} {ys:List (Key×V)} (k:Key),dF K Z H kvs ys->(bY kvs k=none/\dB ys k=none)\/ ∃p v,bY kvs k=some p/\dB ys k=some v/\Rep K Z H p v
 |[],ys,k,h=>by
  rcases h.cases with⟨_,rfl⟩|⟨_,_,_,_,_,e,_⟩
  .exact .inl ⟨rfl,rfl⟩
  .cases e
 | x::kvs,ys,k,h=>by
  rcases h.cases with⟨e,_⟩|⟨j,p,v,r,s,e,e',hp,hr⟩
  .cases e
  .cases e;subst e'
   by_cases hj:j=k
   .exact .inr ⟨p,v,by simp[bY,find?_cons,hj],by simp[dB,find?_cons,hj],hp⟩
   .have a:bY ((j,p)::kvs) k=bY kvs k:=by simp[bY,find?_cons,hj]
    have b:dB ((j,v)::s) k=dB s k:=by simp[dB,find?_cons,hj]
    rw[a,b];exact dF.val k hr
theorem dF.any (k:Key) (h:dF K Z H kvs ys):(kvs.any fun kv=>decide (kv.1=k))=ys.any fun kv=>decide (kv.1=k):=by
 have e1:(kvs.any fun kv=>decide (kv.1=k))=(kvs.map (·.1)).any fun j=>decide (j=k):=by rw[any_map];rfl
 have e2:(ys.any fun kv=>decide (kv.1=k))=(ys.map (·.1)).any fun j=>decide (j=k):=by rw[any_map];rfl
 rw[e1,e2,h.1]
theorem dF.CT (hp:Rep K Z H p v) (k:Key):∀{kvs:List (Key×PV)} {ys:List (Key×V)},dF K Z H kvs ys->dF K Z H (kvs.map fun kv=>if kv.1=k then(kv.1,p)else kv) (ys.map fun kv=>if kv.1=k then(kv.1,v)else kv)
 |[],ys,h=>by
  rcases h.cases with⟨_,rfl⟩|⟨_,_,_,_,_,e,_⟩
  .exact h
  .cases e
 | x::kvs,ys,h=>by
  rcases h.cases with⟨e,_⟩|⟨j,q,u,r,s,e,e',hq,hr⟩
  .cases e
  .cases e;subst e';rw[cq,cq]
   by_cases hj:j=k
   .rw[ai hj,ai hj];exact .cons hp (dF.CT hp k hr)
   .rw[ah hj,ah hj];exact .cons hq (dF.CT hp k hr)
theorem dF.put (k:Key) (h:dF K Z H kvs ys) (hp:Rep K Z H p v):dF K Z H (e8 kvs k p) (putK ys k v):=by
 unfold e8 putK;rw[h.any k];split
 .exact h.CT hp k
 .exact⟨by rw[bu,bu,h.1];rfl,by rw[bu,bu];exact h.2.app (.cons hp .nil)⟩
end
noncomputable def keyOf:PV->Option Key
 | .int i=>some (.inl i)
 | .str x=>some (.inr x)
 |_=>none
section
variable {K:Frag}
theorem Red.key {p:PV} (h:Red K Z H p v) (g:keyOf p=some k):v=kV k:=by
 cases p with
 |int i=>cases g;exact h.int
 |str i=>cases g;exact h.str
 |_=>cases g
noncomputable def iL (i:Nat) (fk fv:FE):FS:=fun e=>bE (fv e) fun b e1=>bO b.put fun p=>bO (ownAt e1 i) fun _=>bE (fk e1) fun k e2=>bO (k.weak.get e2) fun kp=>bO (keyOf kp) fun key=>match ownAt e2 i with
  |some (.a9 kvs)=>aZ (decide (kvs.length<1000000)) (some (.nx (b9 e2 i (.a9 (e8 kvs key p)))))
  |_=>none
theorem LF {i:Nat} {tk:TE} {fk:FE} (hv:Ref K tv fv) (hk:Ref K tk fk):eF K (L2.iL (AQ i) tk tv) (iL i fk fv):=by
 intro O M W L σ H e r D o he hf q;obtain⟨x,e1,f1,hf⟩:=aM hf;obtain⟨p,g1,hf⟩:=aE hf;obtain⟨p0,g0,hf⟩:=aE hf;obtain⟨y,e2,f2,hf⟩:=aM hf;obtain⟨kp,g3,hf⟩:=aE hf;obtain⟨key,g4,hf⟩:=aE hf;cases c:ownAt e2 i with
 |none=>rw[c]at hf;cases hf
 | some q1=>
  rw[c]at hf;cases q1 with
  | a9 kvs=>
   obtain⟨g2,hf⟩:=aK hf;cases hf;refine hv O M W L σ H e _ _ _ o he f1 fun v H1 k1 rb fr=>?_
   have o1:=o.keep k1.b7;obtain⟨en,rp⟩:=rb.put o1 g1;obtain⟨a,ha,_,_⟩:=en.own g0;refine⟨_,ha,hk O M W L σ H1 e1 _ _ _ o1 en f2 fun v2 H2 k2 rb2 fr2=>?_⟩;have o2:=o1.keep k2.b7;have en2:=rb2.en o2;have ek:=((rb2.rv o2).red en2 g3).key g4;subst ek;obtain⟨a',ha',hz,ct⟩:=en2.own c;rw[ha]at ha';cases ha';cases ct with
   |a9 e3 kk r3=>
    rename_i ys;have hl:ys.length=kvs.length:=by have:=cn List.length kk;simpa using this
    refine⟨a,rfl,.inl ⟨_,_,⟨_,e3⟩,rfl,by rw[hl];exact gT g2,fun ep=>?_⟩⟩;have kw:bV W L H2 (upd H2 a (.dK (putK ys key v) ep)):=.write hz e3 fun _ z=>nomatch z
    have st:cO (aS M L) (aS M L) H2 (upd H2 a (.dK (putK ys key v) ep)):=.write (hz.elim (fun⟨i,w⟩=>.inl (o.wm i a w)) .inr) e3 fun _ z=>nomatch z
    have rd:dF K (aS M L) (upd H2 a (.dK (putK ys key v) ep)) (e8 kvs key p) (putK ys key v):=dF.put key ⟨kk,r3.aL st⟩ ((rp.aL (k2.aL o1)).aL st);exact q L σ _ (.keep ((k1.trans k2).trans kw)) (o2.keep kw.b7) (aO.write o.wm en2 c ha (.a9 aU rd.1 rd.2))
  |_=>cases hf
abbrev FG:=PV->En->Option En
abbrev JK:=List PV->En->Option En
def zD (K:Frag) (g:TG) (f:FG):Prop:=∀(O M:aJ) (W:WS) (L:aJ) (σ:St) (H:Hp) (e e':En) (p:PV) (v:V) (Q:St->Hp->Prop),jB O M W L H->aO K (aS M L) W L H σ e->Rep K (aS M L) H p v->f p e=some e'->(∀σ',aO K (aS M L) W L H σ' e'->Q σ' H)->g v σ H Q
def EM (K:Frag) (g:DE) (f:JK):Prop:=∀(O M:aJ) (W:WS) (L:aJ) (σ:St) (H:Hp) (e e':En) (p:List PV) (v:List V) (Q:St->Hp->Prop),jB O M W L H->aO K (aS M L) W L H σ e->bC K (aS M L) H p v->f p e=some e'->(∀σ',aO K (aS M L) W L H σ' e'->Q σ' H)->g v σ H Q
noncomputable def a6 (i:Nat):FG:=fun p e=>some (e.set i (some (.val p)))
theorem JI (i:Nat):zD K (eE i) (a6 i):=by
 intro O M W L σ H e e' p v Q o he hp hf q;cases hf;exact q _ (aO.put he rfl hp)
noncomputable def n6:JK:=fun ps e=>match ps with|[]=>some e|_=>none
noncomputable def cM (f:FG) (g:JK):JK:=fun ps e=>match ps with|p::ps=>bO (f p e) (g ps)|[]=>none
theorem MO:EM K N4 n6:=by
 intro O M W L σ H e e' p v Q o he hp hf q;cases p with
 |nil=>cases hf;cases hp;exact⟨rfl,q σ he⟩
 |cons p ps=>cases hf
theorem IB {gs:DE} {f:FG} {fs:JK} (h1:zD K g f) (h2:EM K gs fs):EM K (sD g gs) (cM f fs):=by
 intro O M W L σ H e e' p v Q o he hp hf q;cases p with
 |nil=>cases hf
 |cons p ps=>
  obtain⟨e1,f1,hf⟩:=aE hf;cases hp with
  |cons hp hr=>exact⟨_,_,rfl,h1 O M W L σ H e e1 p _ _ o he hp f1 fun σ' he'=>h2 O M W L σ' H e1 e' ps _ _ o he' hr hf q⟩
noncomputable def oF (n:Nat) (f:JK):FG:=fun p e=>match p with
 | .tup ps=>aZ (decide (ps.length=n)) (f ps e)
 |_=>none
theorem NS {g:DE} {f:JK} (h:EM K g f):zD K (I0 K n g) (oF n f):=by
 intro O M W L σ H e e' p v Q o he hp hf q;cases p with
 |tup ps=>
  obtain⟨g1,hf⟩:=aK hf;cases hp with
  |tup ha hr=>exact⟨_,_,rfl,ha.sq,by rw[<-hr.length];exact ao g1,h O M W L σ H e e' ps _ Q o he hr hf q⟩
 |_=>cases hf
noncomputable def W9 (f:FE) (fg:FG):FS:=fun e=>bE (f e) fun b e1=>bO b.put fun p=>bO (fg p e1) fun e2=>some (.nx e2)
theorem OT (h:Ref K t f) (hg:zD K g fg):eF K (mF t g) (W9 f fg):=by
 intro O M W L σ H e r D o he hf q;obtain⟨x,e1,f1,hf⟩:=aM hf;obtain⟨p,g1,hf⟩:=aE hf;obtain⟨e2,f2,hf⟩:=aE hf;cases hf;refine h O M W L σ H e _ _ _ o he f1 fun v H1 k1 rb fr=>?_
 have o1:=o.keep k1.b7;obtain⟨en,rp⟩:=rb.put o1 g1;exact hg O M W L σ H1 e1 e2 p v _ o1 en rp f2 fun σ' he'=>q L σ' H1 (.keep k1) o1 he'
noncomputable def OW (i j:Nat) (fa:FA):FS:=fun e=>bE (fa e) fun bs e1=>bO (putL bs) fun ps=>match ps with
 |[p,q]=>some (.nx ((e1.set i (some (.val p))).set j (some (.val q))))
 |_=>none
theorem PZ (h:qZ K ta fa):eF K (Z7 i j ta) (OW i j fa):=by
 intro O M W L σ H e r D o he hf q;obtain⟨x,e1,f1,hf⟩:=aM hf;obtain⟨ps,g1,hf⟩:=aE hf
 match ps,g1,hf with
 | [p,p'],g1,hf=>
  cases hf;refine h O M W L σ H e _ _ _ o he f1 fun vs H1 k1 en rv=>?_
  have rl:=rv.put g1;cases rl with
  | cons h1 rl=>
   cases rl with
   |cons h2 rl=>
    cases rl;exact⟨_,_,rfl,q L _ H1 (.keep k1) (o.keep k1.b7) (aO.put (aO.put en rfl h1) rfl h2)⟩
def NG (K:Frag) (M L Wr:aJ) (H:Hp) (J:It) (items:List PV):Prop:=∀L' H',(∀a o,H a=some o->¬Wr a->H' a=some o)->(∀a xs,H a=some (.tup xs)->H' a=some (.tup xs))->(∀a,L' a->L a\/ H a=none)->
 (∀k p,items[k]? =some p->J.go k H'/\∀x H3,J.YI k H' x H3->aV H' H3/\Rep K (aS M L') H3 p x)/\J.stop items.length H'
abbrev FI:=(Nat->Bool)->En->Option (List PV×En)
def wD (K:Frag) (wi:TI) (f:FI):Prop:=∀(st:Nat->Bool) (O M:aJ) (W:WS) (L:aJ) (σ:St) (H:Hp) (e e':En) (ps:List PV) (R:It->Hp->Prop),jB O M W L H->aO K (aS M L) W L H σ e->f st e=some (ps,e')->
 (∀J H',bV W L H H'->aO K (aS M L) W L H' σ e'->
  (∀Wr:aJ,(∀a,Wr a->aw W a\/ L a)->(∀(i:Nat) a s,st i=true->e'[i]? =some (some s)->s.cU=true->σ[i]? =some (some (.ref a))->¬Wr a)->NG K M L Wr H' J ps)->R J H')->wi σ H R
noncomputable def oD (body:PV->En->Option Out):List PV->En->Option Out
 |[],e=>some (.nx e)
 |x::xs,e=>match body x e with
  |some (.nx e1)=>oD body xs e1
  |some (.ct e1)=>oD body xs e1
  |some (.bk e1)=>some (.nx e1)
  |some (.rt b e1)=>some (.rt b e1)
  |none=>none
noncomputable def nZ (fi:FI) (fg:FG) (fb:FS):FS:=fun e=>bE (fi (fun _=>false) e) fun ps e1=>oD (fun x e=>bO (fg x e) fb) ps e1
theorem OZ {tb:TS} {fg:FG} {fb:FS} (hi:wD K wi fi) (hg:zD K g fg) (hb:eF K tb fb):eF K (X6 wi g tb) (nZ fi fg fb):=by
 intro O M W L σ H e r D o he hf q;obtain⟨ps,e1,f1,hf⟩:=aM hf;refine hi (fun _=>false) O M W L σ H e e1 ps _ o he f1 fun J H1 k1 en it=>?_
 have it:=it (aS (aw W) L) (fun a z=>z) fun i a s z=>nomatch z
 have o1:=o.keep k1.b7;have q1:=q.later (.keep k1)
 let N:Nat->St->Hp->Prop:=fun i σ' H'=>∃L' e',l7 W L L' H1 H'/\jB O M W L' H'/\aO K (aS M L') W L' H' σ' e'/\oD (fun x e=>bO (fg x e) fb) (ps.drop i) e'=some r
 refine⟨fun i m σ' H'=>m=ps.length - i/\i<=ps.length/\N i σ' H',⟨ps.length,by simp,eh _,L,e1,.refl,o1,en,by rw[gq];exact hf⟩,?_⟩;rintro i m σ2 H2 ⟨rfl,hil,L2,e2,g2,o2,en2,f2⟩;obtain⟨itm,its⟩:=it L2 H2 (fun a ob h n=>g2.obj a ob h (fun z=>n (.inl z)) fun z=>n (.inr z)) g2.tup g2.new
 by_cases hlt:i<ps.length
 .refine .inr ?_;obtain⟨go,yl⟩:=itm i ps[i] (by simp[hlt]);refine⟨go,N (i+1),fun σ' H' n=>⟨ps.length - (i+1),by omega,rfl,hlt,n⟩,fun x H3 y=>?_⟩;obtain⟨s3,rp⟩:=yl x H3 y;rw[dg hlt]at f2;unfold oD at f2;have k3:bV W L2 H2 H3:=.same s3;have o3:=o2.keep k3.b7;have g3:l7 W L L2 H1 H3:=g2.trans (.keep k3);cases c1:fg ps[i] e2 with
  |none=>rw[c1]at f2;cases f2
  | some e3=>
   rw[c1]at f2;refine hg O M W L2 σ2 H3 e2 e3 _ x _ o3 (en2.same s3) rp c1 fun σ3 en3=>?_
   cases c2:fb e3 with
   |none=>rw[sU,c2]at f2;cases f2
   |some r1=>
    rw[sU,c2]at f2;refine hb O M W L2 σ3 H3 e3 r1 _ o3 en3 c2 ?_;cases r1 with
    |nx e4=>exact fun L' σ' H' g' o' en'=>⟨L',e4,g3.trans g',o',en',f2⟩
    |ct e4=>exact fun L' σ' H' g' o' en'=>⟨L',e4,g3.trans g',o',en',f2⟩
    |bk e4=>cases f2;exact fun L' σ' H' g' o' en'=>q1 L' σ' H' (g3.trans g') o' en'
    |rt b e4=>cases f2;exact fun L' σ' H' v g' o' en'=>q1 L' σ' H' v (g3.trans g') o' en'
 .have e:i=ps.length:=by omega
  subst e;rw[drop_length]at f2;cases f2;exact .inl ⟨its,q1 L2 σ2 H2 g2 o2 en2⟩
noncomputable def mL (fc:FT) (fb:FS):Nat->En->Option Out
 |0,_=>none
 | n+1,e=>bE (fc e) fun b e1=>match b with
  |false=>some (.nx e1)
  |true=>match fb e1 with
   |some (.nx e2)=>mL fc fb n e2
   |some (.ct e2)=>mL fc fb n e2
   |some (.bk e2)=>some (.nx e2)
   |some (.rt b e2)=>some (.rt b e2)
   |none=>none
theorem JB {tb:TS} {fb:FS} (n:Nat) (hc:mU K c fc) (hb:eF K tb fb):eF K (MF c tb) (mL fc fb n):=by
 intro O M W L σ H e r D o he hf q
 let N:Nat->St->Hp->Prop:=fun m σ' H'=>∃L' e',l7 W L L' H H'/\jB O M W L' H'/\aO K (aS M L') W L' H' σ' e'/\mL fc fb m e'=some r
 refine⟨N,⟨n,L,e,.refl,o,he,hf⟩,?_⟩;rintro m σ2 H2 ⟨L2,e2,g2,o2,en2,f2⟩;cases m with
 |zero=>cases f2
 | succ m=>
  obtain⟨b,e3,c1,f2⟩:=aM f2;refine hc O M W L2 σ2 H2 e2 e3 b _ o2 en2 c1 fun H3 k3 en3=>?_
  have o3:=o2.keep k3.b7;have g3:l7 W L L2 H H3:=g2.trans (.keep k3);cases b with
  |false=>cases f2;rw[ah av];exact q L2 σ2 H3 g3 o3 en3
  | true=>
   rw[ai rfl];refine⟨N m,fun σ' H' z=>⟨m,lt_succ_self m,z⟩,?_⟩;dsimp only at f2;cases c2:fb e3 with
   |none=>rw[c2]at f2;cases f2
   |some r1=>
    rw[c2]at f2;refine hb O M W L2 σ2 H3 e3 r1 _ o3 en3 c2 ?_;cases r1 with
    |nx e4=>exact fun L' σ' H' g' o' en'=>⟨L',e4,g3.trans g',o',en',f2⟩
    |ct e4=>exact fun L' σ' H' g' o' en'=>⟨L',e4,g3.trans g',o',en',f2⟩
    |bk e4=>cases f2;exact fun L' σ' H' g' o' en'=>q L' σ' H' (g3.trans g') o' en'
    |rt b e4=>cases f2;exact fun L' σ' H' v g' o' en'=>q L' σ' H' v (g3.trans g') o' en'
end
noncomputable def EH (e:En) (ms:List (Nat×Nat)) (i j:Nat):Option Sl:=match e[i]? with
 |some (some (.val p))=>some (.val p)
 |some (some (.bor p))=>some (.bor p)
 |some (some (.own p))=>if ms.contains (i,j)then some (.own p)else if ms.any (fun z=>z.1==i)then none else some (.bor p)
 |some (some (.loc p))=>if ms.contains (i,j)then some (.own p)else if ms.any (fun z=>z.1==i)then none else some (.bor p)
 |_=>none
noncomputable def yI (e:En) (ms:List (Nat×Nat)):Nat->List Nat->En
 |_,[]=>[]
 |j,i::r=>EH e ms i j::yI e ms (j+1) r
noncomputable def tH (k:Nat) (cap:List Nat) (ms:List (Nat×Nat)) (e:En):En:=List.replicate k none++yI e ms k cap
theorem BL:∀{cap:List Nat} {j q:Nat},(yI e ms j cap)[q]? =(cap[q]?).map fun i=>EH e ms i (j+q)
 |[],j,q=>by simp[yI]
 |i::r,j,0=>by simp[yI]
 |i::r,j,q+1=>by
  rw[yI,List.getElem?_cons_succ,BL,List.getElem?_cons_succ];congr 1;funext i;rw[show j+1+q=j+(q+1) by omega]
theorem BJ:∀{cap:List Nat} {j:Nat},(yI e ms j cap).length=cap.length
 |[],j=>rfl
 |i::r,j=>by rw[yI,length_cons,length_cons,BJ]
theorem vD {k:Nat} {cap:List Nat} {j:Nat} (h:(tH k cap ms e)[j]? =some (some s)):∃q i,j=k+q/\cap[q]? =some i/\EH e ms i j=some s:=by
 unfold tH at h
 by_cases hj:j<k
 .rw[gw (by simpa using hj),md]at h;split at h<;>cases h
 .rw[gu (by simpa using hj),gx,BL]at h;cases q:cap[j - k]? with
  |none=>rw[q]at h;cases h
  |some i=>
   rw[q]at h;have h':EH e ms i (k+(j - k))=some s:=Option.some.inj h;rw[show k+(j - k)=j by omega]at h';exact⟨j - k,i,by omega,q,h'⟩
theorem uT {k:Nat} {q:Nat} (h:cap[q]? =some i) (hv:σ[i]? =some (some v)):(e9 k cap σ)[k+q]? =some (some v):=by
 unfold e9;rw[gu (by simp),gx,az,show k+q - k=q by omega,h];show some ((σ[i]?).getD none)=_;rw[hv];rfl
noncomputable def oE (fg:FG) (ft:FT) (fe:FE):List PV->En->Option (List PV×En)
 |[],e=>some ([],e)
 |x::xs,e=>bO (fg x e) fun e1=>bE (ft e1) fun b e2=>match b with
  |false=>oE fg ft fe xs e2
  |true=>bE (fe e2) fun r e3=>bO r.put fun p=>bE (oE fg ft fe xs e3) fun ys e4=>some (p::ys,e4)
noncomputable def mI (ei:En):List (Nat×Nat)->En->Option En
 |[],e=>some e
 |(i,j)::r,e=>bO (ownAt ei j) fun p=>bO (ownAt e i) fun _=>mI ei r (b9 e i p)
noncomputable def iB (fi:FI) (k:Nat) (cap:List Nat) (ms:List (Nat×Nat)) (fg:FG) (ft:FT) (fe:FE):FE:=fun e=>
 bE (fi (fun i=>!(ms.any fun z=>z.1==i)) e) fun items e1=>aZ (decide (items.length<1000000)) (bE (oE fg ft fe items (tH k cap ms e1)) fun ys ei=>bO (mI ei ms e1) fun e2=>some (.new (.lst ys),e2))
structure DV (K:Frag) (Z:aJ) (W:WS) (L:aJ) (H:Hp) (σ:St) (T:Nat->Prop) (e:En):Prop where
 len:e.length=σ.length
 at':∀(i:Nat) s,e[i]? =some (some s)->∃v,σ[i]? =some (some v)/\((¬T i\/ s.cU=false)->jN K Z W L H i v s)/\(s.cU=true->∃a,v= .ref a/\((∃p,s= .own p/\W i a)\/ ∃p,s= .loc p/\L a))
 qD:∀(i j:Nat) s t,i≠j->e[i]? =some (some s)->e[j]? =some (some t)->s.cU=true->t.cU=true->σ[i]?≠σ[j]?
theorem qH {K:Frag}:∀{ms:List (Nat×Nat)} {e e':En},DV K Z W L H σ (fun i=>∃j,(i,j)∈ms) e->(∀i j p a,(i,j)∈ms->ownAt ei j=some p->σ[i]? =some (some (.ref a))->gN K Z H a p)->mI ei ms e=some e'->aO K Z W L H σ e'
 |[],e,e',h,hc,g=>by
  cases g;exact⟨h.len,fun i s q=>let⟨v,h1,h2,_⟩:=h.at' i s q;⟨v,h1,h2 (.inl fun⟨j,z⟩=>nomatch z)⟩,h.qD⟩
 | (i,j)::r,e,e',h,hc,g=>by
  obtain⟨p,g1,g⟩:=aE g;obtain⟨p0,g2,g⟩:=aE g;refine qH (e:=b9 e i p) ?_ (fun i' j' p' a' hm=>hc i' j' p' a' (ax _ hm)) g;have hl:i<e.length:=by
   rcases bL g2 with g|g<;>exact(ae.mp g).1
  have oth:∀l,i≠l->(b9 e i p)[l]? =e[l]?:=fun l hj=>by
   unfold b9;rcases bL g2 with g|g<;>(rw[g];exact df hj)
  have own:∃s0 s1 a,e[i]? =some (some s0)/\s0.cU=true/\(b9 e i p)[i]? =some (some s1)/\σ[i]? =some (some (.ref a))/\jN K Z W L H i (.ref a) s1/\((∃p,s1= .own p/\W i a)\/ ∃p,s1= .loc p/\L a):=by
   rcases bL g2 with g|g
   .obtain⟨v,h1,_,h3⟩:=h.at' i _ g;obtain⟨a,rfl,h4⟩:=h3 rfl;have c:=hc i j p a bf g1 h1;rcases h4 with⟨q,e1,w⟩|⟨q,e1,w⟩
    .exact⟨_,.own p,a,g,rfl,by unfold b9;rw[g];exact dz hl,h1,⟨a,rfl,w,c⟩,.inl ⟨p,rfl,w⟩⟩
    .cases e1
   .obtain⟨v,h1,_,h3⟩:=h.at' i _ g;obtain⟨a,rfl,h4⟩:=h3 rfl;have c:=hc i j p a bf g1 h1;rcases h4 with⟨q,e1,w⟩|⟨q,e1,w⟩
    .cases e1
    .exact⟨_,.loc p,a,g,rfl,by unfold b9;rw[g];exact dz hl,h1,⟨a,rfl,w,c⟩,.inr ⟨p,rfl,w⟩⟩
  obtain⟨s0,s1,a,hs0,hm0,hs1,ha,hrep,hwl⟩:=own;refine⟨?_,fun l s q=>?_,fun l1 l2 t1 t2 hn q1 q2 m1 m2=>?_⟩
  .rw[<-h.len];unfold b9;rcases bL g2 with g|g<;>(rw[g];exact jn)
  .by_cases hil:i=l
   .subst hil;rw[hs1]at q;cases q;exact⟨_,ha,fun _=>hrep,fun _=>⟨a,rfl,hwl⟩⟩
   .rw[oth l hil]at q;obtain⟨v,h1,h2,h3⟩:=h.at' l s q;refine⟨v,h1,fun z=>h2 (z.elim (fun z=>.inl fun⟨j',hm⟩=>?_) .inr),h3⟩;rcases br.mp hm with hm|hm
    .cases hm;exact hil rfl
    .exact z ⟨j',hm⟩
  .have cU:∀(l:Nat) (s:Sl),(b9 e i p)[l]? =some (some s)->s.cU=true->∃s':Sl,e[l]? =some (some s')/\s'.cU=true:=fun l s z m=>by
    by_cases hj:i=l
    .subst hj;exact⟨s0,hs0,hm0⟩
    .rw[oth l hj]at z;exact⟨s,z,m⟩
   obtain⟨u1,w1,n1⟩:=cU l1 t1 q1 m1;obtain⟨u2,w2,n2⟩:=cU l2 t2 q2 m2;exact h.qD l1 l2 u1 u2 hn w1 w2 n1 n2
theorem kX:∀{ms:List (Nat×Nat)} {e e':En},mI ei ms e=some e'->∀(i:Nat) (s:Sl),e'[i]? =some (some s)->s.cU=true->∃s':Sl,e[i]? =some (some s')/\s'.cU=true
 |[],e,e',g=>by cases g;exact fun i s h m=>⟨s,h,m⟩
 | (i,j)::r,e,e',g=>by
  obtain⟨p,g1,g⟩:=aE g;obtain⟨p0,g2,g⟩:=aE g;intro l s h m;obtain⟨s',h',m'⟩:=kX g l s h m
  by_cases hj:i=l
  .subst hj;rcases bL g2 with g|g<;>exact⟨_,g,rfl⟩
  .have oth:(b9 e i p)[l]? =e[l]?:=by
    unfold b9;rcases bL g2 with g|g<;>(rw[g];exact df hj)
   rw[oth]at h';exact⟨s',h',m'⟩
section
variable {K:Frag}
noncomputable def JN (ms:List (Nat×Nat)) (e1:En) (σ:St) (H1:Hp):WS:=⟨fun j a=>∃i s,(i,j)∈ms/\e1[i]? =some (some s)/\s.cU=true/\σ[i]? =some (some (.ref a)),fun a=>H1 a≠none⟩
section
variable {O M L:aJ} {W:WS} {σ:St} {H1:Hp} {e1:En} {l:Addr} {ms:List (Nat×Nat)} {k:Nat} {cap:List Nat} {ob0:HO}
theorem D9 (en:aO K (aS M L) W L H1 σ e1):∀(i:Nat) s a,e1[i]? =some (some s)->s.cU=true->σ[i]? =some (some (.ref a))->(aw W a\/ L a)/\∃ob,H1 a=some ob/\∀xs,ob≠ .tup xs:=fun i s a hs hm ha=>by
 obtain⟨v,h1,h2⟩:=en.at' i s hs;rw[ha]at h1;cases h1;cases s with
 |val p=>cases hm
 |bor p=>cases hm
 |own p=>obtain⟨b,e,w,c⟩:=h2;cases e;exact⟨.inl ⟨i,w⟩,c.there⟩
 |loc p=>obtain⟨b,e,w,c⟩:=h2;cases e;exact⟨.inr w,c.there⟩
theorem xT (en:aO K (aS M L) W L H1 σ e1):∀a,aw (JN ms e1 σ H1) a->(aw W a\/ L a)/\∃ob,H1 a=some ob/\∀xs,ob≠ .tup xs:=fun a ⟨j,i,s,hm,hs,hmine,ha⟩=>D9 en i s a hs hmine ha
theorem aaL (hl:H1 l=none):cO (aS M L) (aS (aS M (aS L (one l))) cL) H1 (upd H1 l ob0):=⟨fun a xs h=>aV.upd hl _ _ h,fun a ob h n=>⟨aV.upd hl _ _ h,fun z=>by
 rcases z with(z|z|z)|z
 .exact n (.inl z)
 .exact n (.inr z)
 .exact bJ h hl z
 .exact z⟩⟩
theorem YL (o1:jB O M W L H1) (en:aO K (aS M L) W L H1 σ e1):∀H2,(∀a,H1 a≠none\/ a=l->H2 a≠none)->jB (fun a=>H1 a≠none\/ a=l) (aS M (aS L (one l))) (JN ms e1 σ H1) cL H2:=fun H2 d=>⟨d,fun a z=>by
  rcases z with z|z|z
  .exact .inl (o1.old a (o1.mo a z))
  .exact .inl (o1.loc a z).1
  .exact .inr z,fun j a z=>by
  rcases(xT en a ⟨j,z⟩).1 with⟨i,w⟩|z
  .exact .inl (o1.wm i a w)
  .exact .inr (.inl z),fun a z=>z.elim⟩
theorem enI (hms:∀i j1 j2,(i,j1)∈ms->(i,j2)∈ms->j1=j2) (en:aO K (aS M L) W L H1 σ e1) (hl:H1 l=none):aO K (aS (aS M (aS L (one l))) cL) (JN ms e1 σ H1) cL (upd H1 l ob0) (e9 k cap σ) (tH k cap ms e1):=by
 have s0:aV H1 (upd H1 l ob0):=aV.upd hl;have k0:=aaL (M:=M) (L:=L) (ob0:=ob0) hl;have wsub:=xT (ms:=ms) en;have lenS:(tH k cap ms e1).length=(e9 k cap σ).length:=by
  unfold tH e9;rw[bq,bq,BJ,aj,gx,gx]
 have lend:∀(i:Nat) s p a,e1[i]? =some (some s)->(s= .own p\/ s= .loc p)->σ[i]? =some (some (.ref a))->gN K (aS M L) H1 a p->¬(∃j,(i,j)∈ms)->yB K (aS (aS M (aS L (one l))) cL) (JN ms e1 σ H1) cL (upd H1 l ob0) a p:=fun i s p a hs hp ha c nm=>by
  have hm:s.cU=true:=by rcases hp with rfl|rfl<;>rfl
  have nw:¬aw (JN ms e1 σ H1) a:=fun⟨j,i',s',hm',hs',hmine',ha'⟩=>by
   have ne:i'≠i:=fun z=>nm ⟨j,z▸hm'⟩
   exact en.qD i' i s' s ne hs' hs hmine' hm (by rw[ha',ha])
  have c':=c.aL k0 fun ob h=>s0 _ _ h
  cases c' with
  |lst h r=>exact .lst (.inl h) (by obtain⟨ob,h1,_⟩:=c.there;show H1 a≠none;rw[h1];exact fun z=>nomatch z) nw (fun z=>z) r
  |a9 h kk r=>exact .a9 (.inl h) (by obtain⟨ob,h1,_⟩:=c.there;show H1 a≠none;rw[h1];exact fun z=>nomatch z) nw (fun z=>z) kk r
 have bors:∀p a,yB K (aS M L) W L H1 a p->yB K (aS (aS M (aS L (one l))) cL) (JN ms e1 σ H1) cL (upd H1 l ob0) a p:=fun p a c=>by
  cases c with
  |lst h od n m r=>exact .lst (h.elim (fun h=>.inl (s0 _ _ h)) fun⟨u,h⟩=>.inr ⟨u,s0 _ _ h⟩) (fun z=>Rd.ne h z rfl) (fun z=>(wsub a z).1.elim n m) (fun z=>z) (r.aL k0)
  |eN h r=>exact .eN h (r.aL k0)
  |a9 h od n m kk r=>exact .a9 (h.elim (fun h=>.inl (s0 _ _ h)) fun⟨u,h⟩=>.inr ⟨u,s0 _ _ h⟩) (fun z=>Rd.ne h z rfl) (fun z=>(wsub a z).1.elim n m) (fun z=>z) kk (r.aL k0)
 have row:∀(i j:Nat) s,EH e1 ms i j=some s->∃v,σ[i]? =some (some v)/\jN K (aS (aS M (aS L (one l))) cL) (JN ms e1 σ H1) cL (upd H1 l ob0) j v s/\(s.cU=true->(i,j)∈ms/\∃s',e1[i]? =some (some s')/\s'.cU=true):=fun i j s h=>by
  unfold EH at h;have nc:∀{p:PV},ms.contains (i,j)=true->(i,j)∈ms:=fun z=>contains_iff_mem.mp z
  cases c:e1[i]? with
  |none=>rw[c]at h;cases h
  | some s'=>
   cases s' with
   |none=>rw[c]at h;cases h
   | some s'=>
    rw[c]at h;obtain⟨v,h1,h2⟩:=en.at' i s' c;refine⟨v,h1,?_⟩;cases s' with
    |val p=>cases h;exact⟨Rep.aL k0 h2,fun z=>nomatch z⟩
    |bor p=>cases h;obtain⟨a,e,c⟩:=h2;exact⟨⟨a,e,bors p a c⟩,fun z=>nomatch z⟩
    | own p=>
     obtain⟨a,e,w,ct⟩:=h2;subst e;dsimp only at h;cases d:ms.contains (i,j)with
     |true=>
      rw[d,ai rfl]at h;cases h;have hm:=contains_iff_mem.mp d;exact⟨⟨a,rfl,⟨i,_,hm,c,rfl,h1⟩,ct.aL k0 fun ob h=>s0 _ _ h⟩,fun _=>⟨hm,_,rfl,rfl⟩⟩
     | false=>
      rw[d,ah av]at h;cases d2:ms.any (fun z=>z.1==i)with
      |true=>rw[d2,ai rfl]at h;cases h
      |false=>
       rw[d2,ah av]at h;cases h;refine⟨⟨a,rfl,lend i _ p a c (.inl rfl) h1 ct fun⟨j',hm'⟩=>?_⟩,fun z=>nomatch z⟩;have:(ms.any fun z=>z.1==i)=true:=iw.mpr ⟨(i,j'),hm',by simp⟩;rw[d2]at this;cases this
    | loc p=>
     obtain⟨a,e,w,ct⟩:=h2;subst e;dsimp only at h;cases d:ms.contains (i,j)with
     |true=>
      rw[d,ai rfl]at h;cases h;have hm:=contains_iff_mem.mp d;exact⟨⟨a,rfl,⟨i,_,hm,c,rfl,h1⟩,ct.aL k0 fun ob h=>s0 _ _ h⟩,fun _=>⟨hm,_,rfl,rfl⟩⟩
     | false=>
      rw[d,ah av]at h;cases d2:ms.any (fun z=>z.1==i)with
      |true=>rw[d2,ai rfl]at h;cases h
      |false=>
       rw[d2,ah av]at h;cases h;refine⟨⟨a,rfl,lend i _ p a c (.inr rfl) h1 ct fun⟨j',hm'⟩=>?_⟩,fun z=>nomatch z⟩;have:(ms.any fun z=>z.1==i)=true:=iw.mpr ⟨(i,j'),hm',by simp⟩;rw[d2]at this;cases this
 refine⟨lenS,fun j s hj=>?_,fun j1 j2 s t hn h1 h2 m1 m2=>?_⟩
 .obtain⟨q,i,rfl,hc,hs⟩:=vD hj;obtain⟨v,h1,h2,_⟩:=row i _ s hs;exact⟨v,uT hc h1,h2⟩
 .obtain⟨q1,i1,rfl,c1,hs1⟩:=vD h1;obtain⟨q2,i2,rfl,c2,hs2⟩:=vD h2;obtain⟨v1,a1,_,b1⟩:=row i1 _ s hs1;obtain⟨v2,a2,_,b2⟩:=row i2 _ t hs2;obtain⟨w1,s1,d1,n1⟩:=b1 m1;obtain⟨w2,s2,d2,n2⟩:=b2 m2;rw[uT c1 a1,uT c2 a2];have ne:i1≠i2:=fun z=>by subst z;exact hn (hms _ _ _ w1 w2)
  have:=en.qD i1 i2 s1 s2 ne d1 d2 n1 n2;rw[a1,a2]at this;exact this
theorem enW {M':aJ} {W':WS} {H5:Hp} {σ:St} {e:En} (en5:aO K (aS M' cL) W' cL H5 σ e) (nlw:¬aw W' l) (old:W'.old l->False) (stw:cO (aS M' cL) (aS M' cL) H5 (upd H5 l o)):aO K (aS M' cL) W' cL (upd H5 l o) σ e:=by
 refine⟨en5.len,fun j s hj=>?_,en5.qD⟩;obtain⟨u,g1,g2⟩:=en5.at' j s hj;refine⟨u,g1,?_⟩;cases s with
 |val p=>exact Rep.aL stw g2
 |own p=>
  obtain⟨a,e,w,c⟩:=g2;exact⟨a,e,w,c.aL stw fun ob h=>by rw[aQ (fun z:a=l=>nlw (by rw[<-z];exact⟨j,w⟩))];exact h⟩
 |loc p=>obtain⟨a,e,w,c⟩:=g2;exact w.elim
 |bor p=>
  obtain⟨a,e,c⟩:=g2;refine⟨a,e,?_⟩;have ne:W'.old a->a≠l:=fun od z=>old (z▸od)
  cases c with
  |lst h od n m r=>exact .lst (h.elim (fun h=>.inl (by rw[aQ (ne od)];exact h)) fun⟨u,h⟩=>.inr ⟨u,by rw[aQ (ne od)];exact h⟩) od n m (r.aL stw)
  |eN h r=>exact .eN h (r.aL stw)
  |a9 h od n m kk r=>exact .a9 (h.elim (fun h=>.inl (by rw[aQ (ne od)];exact h)) fun⟨u,h⟩=>.inr ⟨u,by rw[aQ (ne od)];exact h⟩) od n m kk (r.aL stw)
theorem JQ (en:aO K (aS M L) W L H1 σ e1) (hl:H1 l=none) (kk:bV (JN ms e1 σ H1) (one l) (upd H1 l ob0) H2):bV W L H1 H2:=⟨fun a ob h n m=>kk.obj a ob (aV.upd hl _ _ h) (fun z=>(xT en a z).1.elim n m) (bJ h hl),fun a xs h=>kk.tup a xs (aV.upd hl _ _ h),fun a h=>kk.b7 a (by
 cases e:H1 a with
 |none=>exact absurd e h
 |some u=>rw[aV.upd hl _ _ e];exact fun z=>nomatch z)⟩
theorem enO {e' ei:En} {σ2:St} (hms2:∀i1 i2 j,(i1,j)∈ms->(i2,j)∈ms->i1=i2) (o1:jB O M W L H1) (en:aO K (aS M L) W L H1 σ e1) (hl:H1 l=none) (kk:bV (JN ms e1 σ H1) (one l) (upd H1 l ob0) H2)
  (en2:aO K (aS (aS M (aS L (one l))) cL) (JN ms e1 σ H1) cL H2 σ2 ei) (f3:mI ei ms e1=some e'):aO K (aS M (aS L (one l))) W (aS L (one l)) H2 σ e':=by
 have s0:aV H1 (upd H1 l ob0):=aV.upd hl;have zl:∀a ob,H1 a=some ob->a≠l:=fun a ob h=>bJ h hl
 have wsub:=xT (ms:=ms) en;have ML:∀a,(aw W a\/ L a)->aS M L a:=fun a z=>z.elim (fun⟨i,w⟩=>.inl (o1.wm i a w)) .inr
 have kout:=JQ en hl kk;have kf:cO (aS M L) (aS M (aS L (one l))) H1 H2:=⟨kout.tup,fun a ob h n=>⟨kk.obj a ob (s0 _ _ h) (fun z=>n (ML a (wsub a z).1)) (zl a ob h),fun z=>by
  rcases z with z|z|z
  .exact n (.inl z)
  .exact n (.inr z)
  .exact zl a ob h z⟩⟩
 have pend:DV K (aS M (aS L (one l))) W (aS L (one l)) H2 σ (fun i=>∃j,(i,j)∈ms) e1:=by
  refine⟨en.len,fun i s hs=>?_,en.qD⟩;obtain⟨v,h1,h2⟩:=en.at' i s hs;have keepM:∀a,s.cU=true->¬(∃j,(i,j)∈ms)->v= .ref a->∀ob,H1 a=some ob->H2 a=some ob:=fun a hm nt ev ob h=>by
   subst ev;refine kk.obj a ob (s0 _ _ h) (fun⟨j,i',s',hm',hs',hmine',ha'⟩=>?_) (zl a ob h);have ne:i'≠i:=fun z=>nt ⟨j,z▸hm'⟩
   exact en.qD i' i s' s ne hs' hs hmine' hm (by rw[ha',h1])
  refine⟨v,h1,fun z=>?_,fun hm=>?_⟩
  .cases s with
   |val p=>exact Rep.aL kf h2
   |own p=>
    obtain⟨a,e,w,c⟩:=h2;exact⟨a,e,w,c.aL kf fun ob h=>keepM a rfl (z.elim id fun z=>nomatch z) e ob h⟩
   |loc p=>
    obtain⟨a,e,w,c⟩:=h2;exact⟨a,e,.inl w,c.aL kf fun ob h=>keepM a rfl (z.elim id fun z=>nomatch z) e ob h⟩
   |bor p=>
    obtain⟨a,e,c⟩:=h2;refine⟨a,e,?_⟩;cases c with
    |lst h od n m r=>exact .lst (h.elim (fun h=>.inl (kout.obj _ _ h n m)) fun⟨u,h⟩=>.inr ⟨u,kout.obj _ _ h n m⟩) od n (fun z=>z.elim m (Rd.ne h hl)) (r.aL kf)
    |eN h r=>exact .eN h (r.aL kf)
    |a9 h od n m kk r=>exact .a9 (h.elim (fun h=>.inl (kout.obj _ _ h n m)) fun⟨u,h⟩=>.inr ⟨u,kout.obj _ _ h n m⟩) od n (fun z=>z.elim m (Rd.ne h hl)) kk (r.aL kf)
  .cases s with
   |val p=>cases hm
   |bor p=>cases hm
   |own p=>obtain⟨a,e,w,c⟩:=h2;exact⟨a,e,.inl ⟨p,rfl,w⟩⟩
   |loc p=>obtain⟨a,e,w,c⟩:=h2;exact⟨a,e,.inr ⟨p,rfl,.inl w⟩⟩
 exact qH pend (fun i j p a hm hp ha=>by
  rcases bL hp with g|g
  .obtain⟨v,h1,a',rfl,⟨i',s',hm',_,_,ha'⟩,c⟩:=en2.at' j _ g;have ei:=hms2 i i' j hm hm';subst ei;rw[ha]at ha';cases ha';exact c.aL (.less fun a z=>.inl z) fun _ h=>h
  .obtain⟨v,h1,a',rfl,w,c⟩:=en2.at' j _ g;exact w.elim) f3
end
theorem L6 {tt:TT} {te:TE} {k:Nat} (ms:List (Nat×Nat)) {ft:FT} {fe:FE} (hms:∀i j1 j2,(i,j1)∈ms->(i,j2)∈ms->j1=j2) (hms2:∀i1 i2 j,(i1,j)∈ms->(i2,j)∈ms->i1=i2) (hi:wD K wi fi) (hg:zD K g fg) (ht:mU K tt ft) (he:Ref K te fe):Ref K (wW wi k cap g tt te) (iB fi k cap ms fg ft fe):=by
 intro O M W L σ H e e' b Q o hen hf q;obtain⟨items,e1,f1,hf⟩:=aM hf;obtain⟨hsz,hf⟩:=aK hf;obtain⟨ys,ei,f2,hf⟩:=aM hf;obtain⟨e2,f3,hf⟩:=aE hf;cases hf;have hsz:=ao hsz;refine hi (fun i=>!(ms.any fun z=>z.1==i)) O M W L σ H e e1 items _ o hen f1 fun J H1 k1 en it=>?_
 have o1:=o.keep k1.b7
 let W':WS:=JN ms e1 σ H1
 have wsub:=xT (ms:=ms) en;have it:=it (aw W') (fun a z=>(wsub a z).1) fun i a s hst hs hm ha ⟨j,i',s',hm',hs',hmine',ha'⟩=>by
  have ne:i'≠i:=fun z=>by
   subst z;have:(ms.any fun z=>z.1==i')=true:=iw.mpr ⟨(i',j),hm',by simp⟩;rw[this]at hst;cases hst
  exact en.qD i' i s' s ne hs' hs hmine' hm (by rw[ha',ha])
 intro l hl;have zl:∀a ob,H1 a=some ob->a≠l:=fun a ob h=>bJ h hl
 let M':aJ:=aS M (aS L (one l))
 let O':aJ:=fun a=>H1 a≠none\/ a=l
 have s0:aV H1 (upd H1 l (.lst [])):=aV.upd hl;have okc0:=YL (l:=l) (ms:=ms) o1 en;have en0:=enI (k:=k) (cap:=cap) (ob0:=.lst []) hms en hl;have dl:∀a xs,H1 a=some (.tup xs)->a≠l:=fun a xs h=>zl a _ h
 let N:Nat->St->Hp->Prop:=fun i σ' H'=>∃ei' acc rest vs,bV W' (one l) (upd H1 l (.lst [])) H'/\H' l=some (.lst vs)/\bC K (aS M' cL) H' acc vs/\aO K (aS M' cL) W' cL H' σ' ei'/\acc.length<=i/\
  oE fg ft fe (items.drop i) ei'=some (rest,ei)/\ys=acc++rest
 have k0':∀H',bV W' (one l) (upd H1 l (.lst [])) H'->∀a,H1 a≠none\/ a=l->H' a≠none:=fun H' kk a z=>kk.b7 a (by
  rcases z with z|z
  .cases e:H1 a with
   |none=>exact absurd e z
   |some u=>rw[s0 _ _ e];exact fun z=>nomatch z
  .rw[z,aU];exact fun z=>nomatch z)
 refine⟨fun i m σ' H'=>m=items.length - i/\i<=items.length/\N i σ' H',⟨items.length,by simp,eh _,tH k cap ms e1,[],ys,[],.refl,aU,.nil,en0,bj _,by rw[gq];exact f2,rfl⟩,?_⟩;rintro i m σ2 H2 ⟨rfl,hil,ei2,acc,rest,vs,kk,hl2,ra,en2,hacc,f4,hys⟩;have oki:=okc0 H2 (k0' H2 kk);obtain⟨itm,its⟩:=it (aS L (one l)) H2 (fun a ob h n=>kk.obj a ob (s0 _ _ h) n (zl a ob h)) (fun a xs h=>kk.tup a xs (s0 _ _ h)) (fun a z=>z.elim .inl fun z=>.inr (by rw[show a=l from z];exact hl))
 by_cases hlt:i<items.length
 .refine .inr ?_;obtain⟨go,yl⟩:=itm i items[i] (by simp[hlt]);refine⟨go,N (i+1),fun σ' H' n=>⟨items.length - (i+1),by omega,rfl,hlt,n⟩,fun x H3 y=>?_⟩;obtain⟨s3,rp⟩:=yl x H3 y;rw[dg hlt]at f4;obtain⟨e4,c1,f4⟩:=aE f4;have oki3:=oki.keep (H':=H3) (bV.same (W:=W') (L:=cL) s3).b7;have rp':Rep K (aS M' cL) H3 items[i] x:=rp.aL (.less fun a z=>z.elim id fun z=>z.elim);refine hg O' M' W' cL σ2 H3 ei2 e4 _ x _ oki3 (en2.same s3) rp' c1 fun σ3 en3=>?_
  obtain⟨b,e5,c2,f4⟩:=aM f4;refine ht O' M' W' cL σ3 H3 e4 e5 b _ oki3 en3 c2 fun H4 k4 en4=>?_
  have oki4:=oki3.keep k4.b7;have nlw:¬aw W' l:=fun z=>by obtain⟨_,ob,h,_⟩:=wsub l z;rw[hl]at h;cases h
  have kL:∀{A B:Hp},bV W' cL A B->bV W' (one l) A B:=fun k=>⟨fun a ob h n m=>k.obj a ob h n fun z=>z,k.tup,k.b7⟩
  have st:∀{A B:Hp},bV W' cL A B->jB O' M' W' cL A->cO (aS M' cL) (aS M' cL) A B:=fun k ok=>k.aL ok
  have k34:bV W' cL H2 H4:=(bV.same s3).trans k4;cases b with
  |false=>
   rw[ah av];exact⟨e5,acc,rest,vs,kk.trans (kL k34),k34.obj l _ hl2 nlw (fun z=>z),ra.aL (st k34 oki),en4,le_succ_of_le hacc,f4,hys⟩
  |true=>
   rw[ai rfl];obtain⟨rv,e6,c3,f4⟩:=aM f4;obtain⟨p,c4,f4⟩:=aE f4;obtain⟨rest',e7,c5,f4⟩:=aM f4;cases f4;refine he O' M' W' cL σ3 H4 e5 e6 rv _ oki4 en4 c3 fun v H5 k5 rb fr=>?_
   have oki5:=oki4.keep k5.b7;obtain⟨en5,rp5⟩:=rb.put oki5 c4;have k35:bV W' cL H2 H5:=k34.trans k5;have hl5:=k35.obj l _ hl2 nlw (fun z=>z);have ra5:=ra.aL (st k35 oki);refine⟨vs,hl5,szt (by have:=ra.length;omega),?_⟩;have stw:cO (aS M' cL) (aS M' cL) H5 (upd H5 l (.lst (vs++[v]))):=.write (.inl (.inr (.inr rfl))) hl5 fun _ z=>nomatch z
   have kw:bV W' (one l) H5 (upd H5 l (.lst (vs++[v]))):=.write (.inr rfl) hl5 fun _ z=>nomatch z
   refine⟨e6,acc++[p],rest',vs++[v],(kk.trans (kL k35)).trans kw,aU,(ra5.aL stw).app (.cons (rp5.aL stw) .nil),?_,by rw[bq];exact Nat.succ_le_succ hacc,c5,by rw[hys,de];rfl⟩;exact enW en5 nlw (fun od=>od hl) stw
 .have e:i=items.length:=by omega
  subst e;rw[drop_length]at f4;cases f4;rw[gj]at hys;subst hys;have kout:=JQ en hl kk;have enf:=enO hms2 o1 en hl kk en2 f3;refine .inl ⟨its,q _ _ (k1.trans kout) ⟨l,rfl,fun z=>o1.old l z hl,fun z=>(o1.loc l z).1 hl,enf,fun i s hs hm e=>?_,.lst hl2 (ra.aL (.less fun a z=>.inl z))⟩ (Fr.back (b:=.new (.lst _)) k1.b7 fun a e=>by cases e;exact hl)⟩;obtain⟨s',hs',hm'⟩:=kX f3 i s hs hm;obtain⟨_,ob,h,_⟩:=D9 en i s' l hs' hm' e;rw[hl]at h;cases h
end
inductive Kd where
 |v|b|m
 deriving DecidableEq
noncomputable def DH:Kd->PV->Sl
 | .v,p=>.val p
 | .m,p=>.own p
 | .b,.lst ps=>.bor (.lst ps)
 | .b,.a9 ps=>.bor (.a9 ps)
 | .b,p=>.val p
noncomputable def nX:List Kd->List PV->En
 |k::ks,p::ps=>some (DH k p)::nX ks ps
 |_,_=>[]
noncomputable def pU (ks:List Kd) (vs:List V) (H:Hp):WS:=⟨fun i a=>ks[i]? =some .m/\vs[i]? =some (.ref a),fun a=>H a≠none⟩
noncomputable def KG:List Kd->List V->List V
 | .m::ks,v::vs=>v::KG ks vs
 |_::ks,_::vs=>KG ks vs
 |_,_=>[]
def B8 (K:Frag) (Z:aJ) (H:Hp) (ks:List Kd) (vs:List V) (qs:List PV):Prop:=∀(n:Nat) v q,(KG ks vs)[n]? =some v->qs[n]? =some q->∃a,v= .ref a/\gN K Z H a q
def ZC (K:Frag) (M:aJ) (H H':Hp) (ks:List Kd) (vs:List V) (r:PV) (qs:List PV) (v:V):Bool->Prop
 |false=>Rep K M H' r v/\B8 K M H' ks vs qs
 |true=>∃a,v= .ref a/\H a=none/\gN K (aS M (one a)) H' a r/\B8 K (aS M (one a)) H' ks vs qs
abbrev FN:=List PV->Option (PV×List PV)
def YA (K:Frag) (ks:List Kd) (fr:Bool) (f:FN):Sp:=fun vs H Q _=>∃(M:aJ) (ps:List PV) (r:PV) (qs:List PV),(∀a,M a->H a≠none)/\vs.length=ks.length/\ps.length=ks.length/\
 (∀(i:Nat) k p v,ks[i]? =some k->ps[i]? =some p->vs[i]? =some v->jN K M (pU ks vs H) cL H i v (DH k p))/\
 (∀(i j:Nat),i≠j->ks[i]? =some .m->ks[j]? =some .m->vs[i]?≠vs[j]?)/\(∀i a,pU ks vs H i a->M a)/\
 f ps=some (r,qs)/\∀v H',bV (pU ks vs H) cL H H'->ZC K M H H' ks vs r qs v fr->Q v H'
noncomputable def Z3 (e:En):Bool->Bv->Option PV
 |false,.val p=>some p
 |_,.new p=>some p
 |_,.slot i=>match e[i]? with
  |some (some (.loc p))=>some p
  |_=>none
 |true,.val _=>none
noncomputable def sA (e:En):Nat->List Kd->Option (List PV)
 |_,[]=>some []
 |j,.m::ks=>match e[j]? with
  |some (some (.own q))=>bO (sA e (j+1) ks) fun qs=>some (q::qs)
  |_=>none
 |j,_::ks=>sA e (j+1) ks
noncomputable def WK (ks:List Kd) (fr:Bool):Out->Option (PV×List PV)
 | .rt b e=>bO (Z3 e fr b) fun r=>bO (sA e 0 ks) fun qs=>some (r,qs)
 | .nx e=>match fr with
  |false=>bO (sA e 0 ks) fun qs=>some (.bH,qs)
  |true=>none
 |_=>none
noncomputable def tG (ks:List Kd) (nl:Nat) (fr:Bool) (g:FS):FN:=fun ps=>bO (g (nX ks ps++List.replicate nl none)) (WK ks fr)
theorem CN:∀{ks:List Kd} {ps:List PV} {i:Nat} {s:Sl},(nX ks ps)[i]? =some (some s)->∃k p,ks[i]? =some k/\ps[i]? =some p/\s=DH k p
 |[],ps,i,s,h=>by simp[nX]at h
 |k::ks,[],i,s,h=>by simp[nX]at h
 |k::ks,p::ps,0,s,h=>by simp[nX]at h;exact⟨k,p,rfl,rfl,h.symm⟩
 |k::ks,p::ps,i+1,s,h=>by
  rw[nX,List.getElem?_cons_succ]at h;obtain⟨k',p',h1,h2,h3⟩:=CN h;exact⟨k',p',by simpa using h1,by simpa using h2,h3⟩
theorem AX:∀{ks:List Kd} {ps:List PV},ps.length=ks.length->(nX ks ps).length=ks.length
 |[],ps,h=>rfl
 |k::ks,[],h=>by simp at h
 |k::ks,p::ps,h=>by rw[nX,length_cons,length_cons,AX (by simpa using h)]
theorem nM:∀{ks:List Kd} {vs:List V} {j:Nat} {qs:List PV} {n:Nat} {v:V} {q:PV},sA e j ks=some qs->(KG ks vs)[n]? =some v->qs[n]? =some q->∃i,ks[i]? =some .m/\vs[i]? =some v/\e[j+i]? =some (some (.own q))
 |[],vs,j,qs,n,v,q,h,h1,h2=>by cases h;simp at h2
 | .m::ks,[],j,qs,n,v,q,h,h1,h2=>by simp[KG]at h1
 | .v::ks,[],j,qs,n,v,q,h,h1,h2=>by simp[KG]at h1
 | .b::ks,[],j,qs,n,v,q,h,h1,h2=>by simp[KG]at h1
 | .v::ks,x::vs,j,qs,n,v,q,h,h1,h2=>by
  obtain⟨i,a,b,c⟩:=nM (ks:=ks) (vs:=vs) (j:=j+1) h h1 h2;exact⟨i+1,by simpa using a,by simpa using b,by rw[show j+(i+1)=j+1+i by omega];exact c⟩
 | .b::ks,x::vs,j,qs,n,v,q,h,h1,h2=>by
  obtain⟨i,a,b,c⟩:=nM (ks:=ks) (vs:=vs) (j:=j+1) h h1 h2;exact⟨i+1,by simpa using a,by simpa using b,by rw[show j+(i+1)=j+1+i by omega];exact c⟩
 | .m::ks,x::vs,j,qs,n,v,q,h,h1,h2=>by
  unfold sA at h;split at h
  .rename_i q0 he;obtain⟨qs',g,h⟩:=aE h;cases h;cases n with
   |zero=>
    simp[KG]at h1 h2;subst h1 h2;exact⟨0,rfl,rfl,he⟩
   |succ n=>
    obtain⟨i,a,b,c⟩:=nM (ks:=ks) (vs:=vs) (j:=j+1) g (by simpa [KG]using h1) (by simpa using h2);exact⟨i+1,by simpa using a,by simpa using b,by rw[show j+(i+1)=j+1+i by omega];exact c⟩
  .cases h
section
variable {K:Frag}
theorem jN.cL {s:Sl} (h:jN K M W L H i v s):jN K (aS M cL) W L H i v s:=by
 have k:cO M (aS M Mr.cL) H H:=.less fun a z=>z.elim id fun z=>z.elim
 cases s with
 |val p=>exact Rep.aL k h
 |own p=>obtain⟨a,e,w,c⟩:=h;exact⟨a,e,w,c.aL k fun _ h=>h⟩
 |loc p=>obtain⟨a,e,w,c⟩:=h;exact⟨a,e,w,c.aL k fun _ h=>h⟩
 |bor p=>
  obtain⟨a,e,c⟩:=h;refine⟨a,e,?_⟩;cases c with
  |lst e od n m r=>exact .lst e od n m (r.aL k)
  |eN e r=>exact .eN e (r.aL k)
  |a9 e od n m kk r=>exact .a9 e od n m kk (r.aL k)
theorem UY {nl:Nat} {fr:Bool} {t:TS} {g:FS} {N:List Str} (h:eF K t g) (hN:N.length=ks.length+nl) {vs:List V} {Q:VK} (hs:YA K ks fr (tG ks nl fr g) vs H Q E):t {nx:=fun _ H'=>Q .bH H',rt:=Q} (L2.start N vs) H:=by
 obtain⟨M,ps,r,qs,hM,hvl,hpl,har,hdis,hwm,hf,q⟩:=hs;obtain⟨out,g1,hf⟩:=aE hf
 let O:aJ:=fun a=>H a≠none
 have o:jB O M (pU ks vs H) cL H:=⟨fun a h=>h,hM,hwm,fun a z=>z.elim⟩;have hvN:N.length - vs.length=nl:=by omega
 have st:∀(i:Nat) v,vs[i]? =some v->(L2.start N vs)[i]? =some (some v):=fun i v hv=>by
  unfold L2.start;have hi:=(ae.mp hv).1;rw[gw (by simpa using hi),az,hv];rfl
 have sl:∀(i:Nat) s,(nX ks ps++List.replicate nl none)[i]? =some (some s)->∃k p v,ks[i]? =some k/\ps[i]? =some p/\vs[i]? =some v/\s=DH k p:=fun i s hi=>by
  by_cases hl:i<(nX ks ps).length
  .rw[gw hl]at hi;obtain⟨k,p,h1,h2,h3⟩:=CN hi;have:i<vs.length:=by have:=(ae.mp h1).1;omega
   exact⟨k,p,vs[i],h1,h2,by simp,h3⟩
  .rw[gu (by omega),md]at hi;split at hi<;>cases hi
 have mk:∀k p,(DH k p).cU=true->k= .m:=fun k p hm=>by
  cases k with
  |v=>cases hm
  |m=>rfl
  |b=>cases p<;>cases hm
 have en:aO K (aS M cL) (pU ks vs H) cL H (L2.start N vs) (nX ks ps++List.replicate nl none):=by
  refine⟨?_,fun i s hi=>?_,fun i j s s' hij h1 h2 m1 m2=>?_⟩
  .unfold L2.start;rw[bq,bq,gx,gx,AX hpl,aj,hvN,hvl]
  .obtain⟨k,p,v,h1,h2,h3,rfl⟩:=sl i s hi;exact⟨v,st i v h3,(har i k p v h1 h2 h3).cL⟩
  .obtain⟨k,p,v,a1,a2,a3,rfl⟩:=sl i s h1;obtain⟨k',p',v',b1,b2,b3,rfl⟩:=sl j s' h2;rw[st i v a3,st j v' b3];have e1:=mk _ _ m1;have e2:=mk _ _ m2;subst e1 e2;have:=hdis i j hij a1 b1;rw[a3,b3]at this;exact fun z=>this (by cases z;rfl)
 have gk:∀{L':aJ} {H':Hp},l7 (pU ks vs H) cL L' H H'->bV (pU ks vs H) cL H H':=fun gr=>⟨gr.obj,gr.tup,gr.b7⟩
 have mu:∀{Z Zf:aJ} {L':aJ} {H':Hp} {σ':St} {e':En} {qs:List PV},aO K Z (pU ks vs H) L' H' σ' e'->(∀a,Zf a->Z a)->sA e' 0 ks=some qs->B8 K Zf H' ks vs qs:=fun en' hz hm n v q' h1 h2=>by
  obtain⟨i,a1,a2,a3⟩:=nM hm h1 h2;rw[fy]at a3;obtain⟨u,h3,a,rfl,⟨_,w⟩,c⟩:=en'.at' i _ a3;rw[a2]at w;cases w;exact⟨a,rfl,c.aL (.less hz) fun _ h=>h⟩
 refine h O M (pU ks vs H) cL (L2.start N vs) H _ out _ o en g1 ?_;cases out with
 |bk e'=>cases hf
 |ct e'=>cases hf
 | nx e'=>
  cases fr with
  |true=>cases hf
  |false=>
   obtain⟨qs',g2,hf⟩:=aE hf;cases hf;exact fun L' σ' H' gr o' en'=>q .bH H' (gk gr) ⟨.bH,mu en' (fun a z=>.inl z) g2⟩
 | rt b e'=>
  obtain⟨r',g2,hf⟩:=aE hf;obtain⟨qs',g3,hf⟩:=aE hf;cases hf;intro L' σ' H' v gr o' rb;refine q v H' (gk gr) ?_;cases b with
  | val p=>
   cases fr with
   |true=>cases g2
   |false=>
    cases g2;exact⟨rb.2.aL (.less fun a z=>.inl z),mu rb.1 (fun a z=>.inl z) g3⟩
  | new p=>
   cases fr with
   |false=>
    cases g2;have rb:=rb.weak o';exact⟨Rep.aL (.less fun a z=>.inl z) rb.2,mu rb.1 (fun a z=>.inl z) g3⟩
   |true=>
    cases g2;obtain⟨a,rfl,n1,n2,en',fe,c⟩:=rb;exact⟨a,rfl,cz n1,c.aL (.less fun a z=>z.elim .inl fun z=>.inr (.inr z)) fun _ h=>h,mu en' (fun a z=>z.elim .inl fun z=>.inr (.inr z)) g3⟩
  | slot i=>
   have g2':(match e'[i]? with|some (some (.loc p))=>some p|_=>none)=some r:=by
    cases fr<;>exact g2
   cases c:e'[i]? with
   |none=>rw[c]at g2';cases g2'
   | some s=>
    cases s with
    |none=>rw[c]at g2';cases g2'
    | some s=>
     rw[c]at g2';cases s with
     |loc p=>
      cases g2';obtain⟨u,h1,a,rfl,la,ct⟩:=rb.1.at' i _ c;have:=rb.2;rw[h1]at this;cases this;have nO:H a=none:=cz (o'.loc a la).2;cases fr with
      |false=>exact⟨(ct.aL (.less fun a z=>.inl z) fun _ h=>h).rep fun z=>absurd nO (hM a z),mu rb.1 (fun a z=>.inl z) g3⟩
      |true=>exact⟨a,rfl,nO,ct.aL (.less fun b z=>z.elim .inl fun z=>.inr (by rw[show b=a from z];exact la)) fun _ h=>h,mu rb.1 (fun b z=>z.elim .inl fun z=>.inr (by rw[show b=a from z];exact la)) g3⟩
     |_=>cases g2'
noncomputable def DB (e:En):Kd->Bv->Option PV
 | .v,b=>b.put
 | .b,b=>b.get e
 | .m,.slot i=>ownAt e i
 | .m,_=>none
noncomputable def GW (e:En):List Kd->List Bv->Option (List PV)
 |[],[]=>some []
 |k::ks,b::bs=>bO (DB e k b) fun p=>bO (GW e ks bs) fun ps=>some (p::ps)
 |_,_=>none
noncomputable def bW:List Kd->List Bv->List Nat
 | .m::ks,.slot i::bs=>i::bW ks bs
 |_::ks,_::bs=>bW ks bs
 |_,_=>[]
noncomputable def oI:List Kd->List Bv->List Nat
 | .b::ks,.slot i::bs=>i::oI ks bs
 |_::ks,_::bs=>oI ks bs
 |_,_=>[]
noncomputable def resB (r:PV):Bool->Bv
 |true=>.new r
 |false=>.val r
noncomputable def bM (ks:List Kd) (fr:Bool) (f:FN) (fa:FA):FE:=fun e=>bE (fa e) fun bs e1=>bO (GW e1 ks bs) fun ps=>
 aZ (decide ((bW ks bs).Nodup) && (oI ks bs).all fun i=>!(bW ks bs).contains i) (bO (f ps) fun rq=>bO (mI (rq.2.map fun q=>some (.own q)) (bW ks bs).zipIdx e1) fun e2=>some (resB rq.1 fr,e2))
theorem BA:∀{ks:List Kd} {bs:List Bv} {ps:List PV},GW e ks bs=some ps->ps.length=ks.length/\bs.length=ks.length/\∀(i:Nat) k b p,ks[i]? =some k->bs[i]? =some b->ps[i]? =some p->DB e k b=some p
 |[],[],ps,h=>by cases h;exact⟨rfl,rfl,fun i k b p h=>by simp at h⟩
 |[],_::_,ps,h=>by cases h
 |_::_,[],ps,h=>by cases h
 |k::ks,b::bs,ps,h=>by
  obtain⟨p,g1,h⟩:=aE h;obtain⟨ps',g2,h⟩:=aE h;cases h;obtain⟨a1,a2,a3⟩:=BA g2;refine⟨by rw[length_cons,length_cons,a1],by rw[length_cons,length_cons,a2],fun i k' b' p' h1 h2 h3=>?_⟩;cases i with
  |zero=>simp at h1 h2 h3;subst h1 h2 h3;exact g1
  |succ i=>exact a3 i k' b' p' (by simpa using h1) (by simpa using h2) (by simpa using h3)
theorem z8.get:∀{bs:List Bv} {vs:List V} {i:Nat} {v:V},z8 K Z H σ bs vs->vs[i]? =some v->∃b,bs[i]? =some b/\RV K Z H σ v b
 |_,_,_,_,.nil,h=>by simp at h
 |_,_,0,_,.cons h _,e=>by simp at e;subst e;exact⟨_,rfl,h⟩
 |_,_,i+1,_,.cons _ r,e=>by
  obtain⟨b,h1,h2⟩:=z8.get (i:=i) r (by simpa using e);exact⟨b,by simpa using h1,h2⟩
theorem z8.length:∀{bs:List Bv} {vs:List V},z8 K Z H σ bs vs->bs.length=vs.length
 |_,_,.nil=>rfl
 |_,_,.cons _ r=>by rw[length_cons,length_cons,z8.length r]
theorem nU:∀{ks:List Kd} {bs:List Bv} {i j:Nat},ks[i]? =some .m->bs[i]? =some (.slot j)->∃n:Nat,(bW ks bs)[n]? =some j
 |[],bs,i,j,h,_=>by simp at h
 |k::ks,[],i,j,_,h=>by simp at h
 |k::ks,b::bs,0,j,h1,h2=>by simp at h1 h2;subst h1 h2;exact⟨0,rfl⟩
 | k::ks,b::bs,i+1,j,h1,h2=>by
  obtain⟨n,h⟩:=nU (ks:=ks) (bs:=bs) (i:=i) (by simpa using h1) (by simpa using h2);cases k with
  |v=>exact⟨n,h⟩
  |b=>exact⟨n,h⟩
  |m=>
   cases b with
   |val p=>exact⟨n,h⟩
   |new p=>exact⟨n,h⟩
   |slot l=>exact⟨n+1,by simpa [bW]using h⟩
theorem wX:∀{ks:List Kd} {bs:List Bv} {i j:Nat},ks[i]? =some .b->bs[i]? =some (.slot j)->j∈oI ks bs
 |[],bs,i,j,h,_=>by simp at h
 |k::ks,[],i,j,_,h=>by simp at h
 |k::ks,b::bs,0,j,h1,h2=>by simp at h1 h2;subst h1 h2;exact bf
 | k::ks,b::bs,i+1,j,h1,h2=>by
  have h:=wX (ks:=ks) (bs:=bs) (i:=i) (j:=j) (by simpa using h1) (by simpa using h2);cases k with
  |v=>exact h
  |m=>exact h
  |b=>
   cases b with
   |val p=>exact h
   |new p=>exact h
   |slot l=>exact ax _ h
theorem vN:∀{ks:List Kd} {bs:List Bv} {i1 i2 j:Nat},(bW ks bs).Nodup->i1≠i2->ks[i1]? =some .m->ks[i2]? =some .m->bs[i1]? =some (.slot j)->bs[i2]? =some (.slot j)->False
 |[],bs,i1,i2,j,_,_,h,_,_,_=>by simp at h
 |k::ks,[],i1,i2,j,_,_,_,_,h,_=>by simp at h
 |k::ks,b::bs,0,0,j,_,n,_,_,_,_=>n rfl
 |k::ks,b::bs,0,i2+1,j,nd,n,h1,h2,h3,h4=>by
  simp at h1 h3;subst h1 h3;obtain⟨q,h⟩:=nU (ks:=ks) (bs:=bs) (i:=i2) (j:=j) (by simpa using h2) (by simpa using h4);rw[bW,fw]at nd;exact nd.1 (ba h)
 |k::ks,b::bs,i1+1,0,j,nd,n,h1,h2,h3,h4=>by
  simp at h2 h4;subst h2 h4;obtain⟨q,h⟩:=nU (ks:=ks) (bs:=bs) (i:=i1) (j:=j) (by simpa using h1) (by simpa using h3);rw[bW,fw]at nd;exact nd.1 (ba h)
 | k::ks,b::bs,i1+1,i2+1,j,nd,n,h1,h2,h3,h4=>by
  refine vN (ks:=ks) (bs:=bs) (i1:=i1) (i2:=i2) (j:=j) ?_ (fun z=>n (by rw[z])) (by simpa using h1) (by simpa using h2) (by simpa using h3) (by simpa using h4);cases k with
  |v=>exact nd
  |b=>exact nd
  |m=>
   cases b with
   |val p=>exact nd
   |new p=>exact nd
   |slot l=>rw[bW,fw]at nd;exact nd.2
theorem qQ:∀{ks:List Kd} {bs:List Bv} {vs:List V} {ps:List PV} {n j:Nat},z8 K Z H σ bs vs->GW e ks bs=some ps->(bW ks bs)[n]? =some j->∃v,(KG ks vs)[n]? =some v/\σ[j]? =some (some v)
 |[],bs,vs,ps,n,j,r,g,h=>by cases bs<;>simp[bW]at h
 |k::ks,[],vs,ps,n,j,r,g,h=>by simp[bW]at h
 | k::ks,b::bs,vs,ps,n,j,r,g,h=>by
  obtain⟨p,g1,g⟩:=aE g;obtain⟨ps',g2,g⟩:=aE g;cases r with
  | cons h0 r=>
   cases k with
   |v=>exact qQ (ks:=ks) r g2 (by simpa [bW]using h)
   |b=>exact qQ (ks:=ks) r g2 (by simpa [bW]using h)
   | m=>
    cases b with
    |val p=>cases g1
    |new p=>cases g1
    | slot l=>
     cases n with
     |zero=>simp[bW]at h;subst h;exact⟨_,rfl,h0⟩
     |succ n=>
      obtain⟨v,a,b⟩:=qQ (n:=n) r g2 (by simpa [bW]using h);exact⟨v,by simpa [KG]using a,b⟩
theorem JS {fr:Bool} {f:FN} (ha:qZ K ta fa):Ref K (GB (YA K ks fr f) [] E ta) (bM ks fr f fa):=by
 intro O M W L σ H e e' b Q o he hf q;obtain⟨bs,e1,f1,hf⟩:=aM hf;obtain⟨ps,g1,hf⟩:=aE hf;obtain⟨g2,hf⟩:=aK hf;obtain⟨⟨r,qs⟩,g3,hf⟩:=aE hf;obtain⟨e2,g4,hf⟩:=aE hf;cases hf;rw[bz]at g2;have nd:=ao g2.1;have nb:∀i∈oI ks bs,i∉bW ks bs:=fun i hi hm=>by
  have:=bb.mp g2.2 i hi;rw[contains_iff_mem.mpr hm]at this;cases this
 refine ha O M W L σ H e e1 bs _ o he f1 fun vs H1 k1 en rv=>?_
 have o1:=o.keep k1.b7;obtain⟨pl,bl,ap⟩:=BA g1;have vl:=rv.length;show YA K ks fr f (vs++[]) H1 Q E;rw[gj];have wr:∀i a,pU ks vs H1 i a->∃j,bs[i]? =some (.slot j)/\σ[j]? =some (some (.ref a))/\j∈bW ks bs/\∃p,ownAt e1 j=some p:=fun i a ⟨h1,h2⟩=>by
  obtain⟨b,hb,rb⟩:=rv.get h2;have hi:i<ks.length:=(ae.mp h1).1;have hp:ps[i]? =some (ps[i]'(by omega)):=ag (by omega);have:=ap i _ b _ h1 hb hp;cases b with
  |val p=>cases this
  |new p=>cases this
  |slot j=>
   obtain⟨n,hn⟩:=nU h1 hb;exact⟨j,hb,rb,ba hn,_,this⟩
 have wml:∀i a,pU ks vs H1 i a->(aw W a\/ L a)/\∃j s,e1[j]? =some (some s)/\s.cU=true/\σ[j]? =some (some (.ref a))/\j∈bW ks bs:=fun i a h=>by
  obtain⟨j,_,hs,hm,p,hp⟩:=wr i a h;obtain⟨a',ha',hz,_⟩:=en.own hp;rw[hs]at ha';cases ha';refine⟨hz,j,?_⟩;rcases bL hp with g|g
  .exact⟨_,g,rfl,hs,hm⟩
  .exact⟨_,g,rfl,hs,hm⟩
 have ML:∀a,(aw W a\/ L a)->aS M L a:=fun a z=>z.elim (fun⟨i,w⟩=>.inl (o.wm i a w)) .inr
 have nn:∀{a:Addr} {o:HO},Rd H1 a o->H1 a≠none:=fun h=>h.elim (fun h=>by rw[h];exact fun z=>nomatch z) fun⟨u,h⟩=>by rw[h];exact fun z=>nomatch z
 refine⟨aS M L,ps,r,qs,fun a z=>z.elim (fun z=>o1.old a (o1.mo a z)) fun z=>(o1.loc a z).1,by omega,by omega,fun i k p v h1 h2 h3=>?_,fun i j hij h1 h2 z=>?_,fun i a z=>ML a (wml i a z).1,g3,fun v H' kc res=>?_⟩
 .obtain⟨b,hb,rb⟩:=rv.get h3;have hone:=ap i k b p h1 hb h2;cases k with
  |v=>
   cases b with
   |val p'=>cases hone;exact rb
   |new p'=>exact rb.elim
   |slot j=>cases hone
  | m=>
   cases b with
   |val p'=>cases hone
   |new p'=>cases hone
   |slot j=>
    obtain⟨a,hs,hz,c⟩:=en.own hone;have rb':σ[j]? =some (some v):=rb;rw[hs]at rb';cases rb';exact⟨a,rfl,⟨h1,h3⟩,c⟩
  | b=>
   have lendR:∀p,Rep K (aS M L) H1 p v->jN K (aS M L) (pU ks vs H1) cL H1 i v (DH .b p):=fun p hr=>by
    cases hr with
    |lst h n r=>exact⟨_,rfl,.lst h (nn h) (fun⟨i',w⟩=>n (ML _ (wml i' _ w).1)) (fun z=>z) r⟩
    |a9 h n kk r=>exact⟨_,rfl,.a9 h (nn h) (fun⟨i',w⟩=>n (ML _ (wml i' _ w).1)) (fun z=>z) kk r⟩
    |bH=>exact Rep.bH
    |bl b=>exact Rep.bl b
    |int b=>exact Rep.int b
    |str b=>exact Rep.str b
    |ty b=>exact Rep.ty b
    |tup h r=>exact Rep.tup h r
   cases b with
   |val p'=>cases hone;exact lendR _ rb
   |new p'=>exact rb.elim
   | slot j=>
    have hone:rd e1 j=some p:=hone;unfold Mr.rd at hone;cases c:e1[j]? with
    |none=>rw[c]at hone;cases hone
    | some s=>
     cases s with
     |none=>rw[c]at hone;cases hone
     | some s=>
      rw[c]at hone;cases hone;obtain⟨u,hs,sr⟩:=en.at' j s c;have rb':σ[j]? =some (some v):=rb;rw[hs]at rb';cases rb';have nm:j∉bW ks bs:=nb j (wX h1 hb);have nw:∀a,s.cU=true->σ[j]? =some (some (.ref a))->¬aw (pU ks vs H1) a:=fun a hm ha ⟨i',w⟩=>by
       obtain⟨_,j',s',hs',hm',ha',hj'⟩:=wml i' a w;have ne:j≠j':=fun z=>nm (z▸hj')
       exact en.qD j j' s s' ne c hs' hm hm' (by rw[ha,ha'])
      cases s with
      |val p=>exact lendR p sr
      |own p=>
       obtain⟨a,e,w,ct⟩:=sr;subst e;cases ct with
       |lst h r=>exact⟨a,rfl,.lst (.inl h) (nn (.inl h)) (nw a rfl hs) (fun z=>z) r⟩
       |a9 h kk r=>exact⟨a,rfl,.a9 (.inl h) (nn (.inl h)) (nw a rfl hs) (fun z=>z) kk r⟩
      |loc p=>
       obtain⟨a,e,w,ct⟩:=sr;subst e;cases ct with
       |lst h r=>exact⟨a,rfl,.lst (.inl h) (nn (.inl h)) (nw a rfl hs) (fun z=>z) r⟩
       |a9 h kk r=>exact⟨a,rfl,.a9 (.inl h) (nn (.inl h)) (nw a rfl hs) (fun z=>z) kk r⟩
      |bor p=>
       obtain⟨a,e,ct⟩:=sr;subst e;cases ct with
       |lst h od n m r=>exact⟨a,rfl,.lst h (nn h) (fun⟨i',w⟩=>(wml i' a w).1.elim n m) (fun z=>z) r⟩
       |eN h r=>exact⟨a,rfl,.eN h r⟩
       |a9 h od n m kk r=>exact⟨a,rfl,.a9 h (nn h) (fun⟨i',w⟩=>(wml i' a w).1.elim n m) (fun z=>z) kk r⟩
 .
  have hi:i<ks.length:=(ae.mp h1).1;have hj:j<ks.length:=(ae.mp h2).1;have vi:vs[i]? =some (vs[i]'(by omega)):=ag (by omega);have vj:vs[j]? =some (vs[j]'(by omega)):=ag (by omega);have key:∀(i:Nat) (v:V),ks[i]? =some Kd.m->vs[i]? =some v->∃(j:Nat) (a:Addr),v= .ref a/\bs[i]? =some (Bv.slot j)/\σ[j]? =some (some v)/\∃p,ownAt e1 j=some p:=fun i v h1 h3=>by
   obtain⟨b,hb,rb⟩:=rv.get h3;have hi:i<ks.length:=(ae.mp h1).1;have:=ap i _ b _ h1 hb (ag (show i<ps.length by omega));cases b with
   |val p=>cases this
   |new p=>cases this
   |slot l=>
    obtain⟨a,ha,_,_⟩:=en.own this;have rb':σ[l]? =some (some v):=rb;rw[ha]at rb';cases rb';exact⟨l,a,rfl,hb,ha,_,this⟩
  obtain⟨l1,a1,x1,y1,z1,p1,w1⟩:=key i _ h1 vi;obtain⟨l2,a2,x2,y2,z2,p2,w2⟩:=key j _ h2 vj
  by_cases hl:l1=l2
  .subst hl;exact vN nd hij h1 h2 y1 y2
  .have m1:∃s,e1[l1]? =some (some s)/\s.cU=true:=by rcases bL w1 with g|g<;>exact⟨_,g,rfl⟩
   have m2:∃s,e1[l2]? =some (some s)/\s.cU=true:=by rcases bL w2 with g|g<;>exact⟨_,g,rfl⟩
   obtain⟨s1,b1,c1⟩:=m1;obtain⟨s2,b2,c2⟩:=m2;refine en.qD l1 l2 s1 s2 hl b1 b2 c1 c2 ?_;rw[z1,z2,<-Option.some.inj (vi.symm.trans (z.trans vj))]
 .
  have kout:bV W L H1 H':=⟨fun a ob h n m=>kc.obj a ob h (fun⟨i,w⟩=>(wml i a w).1.elim n m) (fun z=>z),kc.tup,kc.b7⟩;have pend:∀(Zf Lf:aJ),(∀a ob,H1 a=some ob->¬aS M L a->¬Zf a)->(∀a,L a->Lf a)->(∀a ob,H1 a=some ob->¬L a->¬Lf a)->DV K Zf W Lf H' σ (fun i=>∃j,(i,j)∈(bW ks bs).zipIdx) e1:=fun Zf Lf hz hL hL2=>by
   have kf:cO (aS M L) Zf H1 H':=⟨kc.tup,fun a ob h n=>⟨kc.obj a ob h (fun⟨i,w⟩=>n (ML a (wml i a w).1)) (fun z=>z),hz a ob h n⟩⟩;refine⟨en.len,fun i s hs=>?_,en.qD⟩;obtain⟨u,h1,h2⟩:=en.at' i s hs;have keepM:∀a,s.cU=true->¬(∃j,(i,j)∈(bW ks bs).zipIdx)->u= .ref a->∀ob,H1 a=some ob->H' a=some ob:=fun a hm nt ev ob h=>by
    subst ev;refine kc.obj a ob h (fun⟨i',w⟩=>?_) (fun z=>z);obtain⟨_,j',s',hs',hm',ha',hj'⟩:=wml i' a w;obtain⟨n,hn⟩:=du hj';have ne:j'≠i:=fun z=>nt ⟨n,by rw[<-z];exact List.mem_zipIdx_iff_getElem?.mpr hn⟩
    exact en.qD j' i s' s ne hs' hs hm' hm (by rw[ha',h1])
   have rk:∀{a:Addr} {o:HO},Rd H1 a o->¬L a->¬Lf a:=fun h n=>h.elim (fun h=>hL2 _ _ h n) fun⟨u,h⟩=>hL2 _ _ h n
   refine⟨u,h1,fun z=>?_,fun hm=>?_⟩
   .cases s with
    |val p=>exact Rep.aL kf h2
    |own p=>obtain⟨a,e,w,c⟩:=h2;exact⟨a,e,w,c.aL kf fun ob h=>keepM a rfl (z.elim id fun z=>nomatch z) e ob h⟩
    |loc p=>obtain⟨a,e,w,c⟩:=h2;exact⟨a,e,hL a w,c.aL kf fun ob h=>keepM a rfl (z.elim id fun z=>nomatch z) e ob h⟩
    |bor p=>
     obtain⟨a,e,c⟩:=h2;refine⟨a,e,?_⟩;cases c with
     |lst h od n m r=>exact .lst (h.elim (fun h=>.inl (kout.obj _ _ h n m)) fun⟨u,h⟩=>.inr ⟨u,kout.obj _ _ h n m⟩) od n (rk h m) (r.aL kf)
     |eN h r=>exact .eN h (r.aL kf)
     |a9 h od n m kk r=>exact .a9 (h.elim (fun h=>.inl (kout.obj _ _ h n m)) fun⟨u,h⟩=>.inr ⟨u,kout.obj _ _ h n m⟩) od n (rk h m) kk (r.aL kf)
   .cases s with
    |val p=>cases hm
    |bor p=>cases hm
    |own p=>obtain⟨a,e,w,c⟩:=h2;exact⟨a,e,.inl ⟨p,rfl,w⟩⟩
    |loc p=>obtain⟨a,e,w,c⟩:=h2;exact⟨a,e,.inr ⟨p,rfl,hL a w⟩⟩
  have back:∀(Zf:aJ),B8 K Zf H' ks vs qs->∀i j p a,(i,j)∈(bW ks bs).zipIdx->ownAt (qs.map fun q=>some (.own q)) j=some p->σ[i]? =some (some (.ref a))->gN K Zf H' a p:=fun Zf mu i j p a hm hp ha=>by
   have hm':=List.mem_zipIdx_iff_getElem?.mp hm;obtain⟨v',a1,a2⟩:=qQ rv g1 hm';dsimp only at a2;rw[ha]at a2;cases a2;have hq:qs[j]? =some p:=by
    rcases bL hp with g|g
    .rw[az]at g;cases c:qs[j]? with
     |none=>rw[c]at g;cases g
     |some q'=>rw[c]at g;cases g;rfl
    .rw[az]at g;cases c:qs[j]? with
     |none=>rw[c]at g;cases g
     |some q'=>rw[c]at g;cases g
   obtain⟨a',e,c⟩:=mu j _ p a1 hq;cases e;exact c
  cases fr with
  |false=>
   obtain⟨rr,mu⟩:=res;exact q v H' (k1.trans kout) ⟨qH (pend (aS M L) L (fun _ _ _ n=>n) (fun _ z=>z) fun _ _ _ n=>n) (back _ mu) g4,rr⟩ trivial
  | true=>
   obtain⟨a,rfl,na,c,mu⟩:=res;have sub:∀b,aS M (aS L (one a)) b->aS (aS M L) (one a) b:=fun b z=>by
    rcases z with z|z|z
    .exact .inl (.inl z)
    .exact .inl (.inr z)
    .exact .inr z
   have ne:∀b ob,H1 b=some ob->b≠a:=fun b ob h=>bJ h na
   have mu':B8 K (aS M (aS L (one a))) H' ks vs qs:=fun n v q' h1 h2=>by
    obtain⟨a',e,c⟩:=mu n v q' h1 h2;exact⟨a',e,c.aL (.less sub) fun _ h=>h⟩
   refine q _ H' (k1.trans kout) ⟨a,rfl,fun z=>o1.old a z na,fun z=>(o1.loc a z).1 na,qH (pend (aS M (aS L (one a))) (aS L (one a)) (fun b ob h n z=>?_) (fun _ z=>.inl z) fun b ob h n z=>z.elim n (ne b ob h)) (back _ mu') g4,fun i s hs hm e=>?_,c.aL (.less sub) fun _ h=>h⟩ (Fr.back (b:=.new r) k1.b7 fun b e=>by cases e;exact na)
   .rcases z with z|z|z
    .exact n (.inl z)
    .exact n (.inr z)
    .exact ne b ob h z
   .obtain⟨s',hs',hm'⟩:=kX g4 i s hs hm;obtain⟨u,h1,h2⟩:=en.at' i s' hs';rw[e]at h1;cases h1;cases s' with
    |val p=>cases hm'
    |bor p=>cases hm'
    |own p=>obtain⟨b,e,w,c⟩:=h2;cases e;obtain⟨ob,h,_⟩:=c.there;rw[na]at h;cases h
    |loc p=>obtain⟨b,e,w,c⟩:=h2;cases e;obtain⟨ob,h,_⟩:=c.there;rw[na]at h;cases h
end
end Mr
namespace Mr
open PySem PySem.Spec L2 PyProof.Rows
variable {a:Addr} {ys:Array Value} {X:Cx} {f:FE} {h:Heap} {H:Hp} {g':Int->Int->PV} {g:Int->Int->V} {ps:List PV} {vs xs:List V} {k n:Nat} {p q:PV} {r r':R2} {t:TE} {u v:Value} {W:WS} {L M O Wr Z:aJ}
mutual
inductive Lies (h:Heap):PV->Value->Prop
 |bH:Lies h .bH .none
 |bl (b:Bool):Lies h (.bl b) (.bool b)
 |int (i:Int) (t:Tok):Lies h (.int i) (.int i t)
 |str (x:Str) (t:Tok):Lies h (.str x) (.str x t)
 |tup {a:Addr} {its:List Value} {ps:List PV}:IsTup h a its.toArray->bN h ps its->Lies h (.tup ps) (.ref a)
 |lst {a:Addr} {its:List Value} {ps:List PV}:h.IsList a its.toArray->bN h ps its->Lies h (.lst ps) (.ref a)
inductive bN (h:Heap):List PV->List Value->Prop
 |nil:bN h [] []
 |cons {p:PV} {v:Value} {ps:List PV} {vs:List Value}:Lies h p v->bN h ps vs->bN h (p::ps) (v::vs)
end
noncomputable def jK:Nat->PV->Bool
 |_,.bH=>true
 |_,.bl _=>true
 |_,.int _=>true
 |_,.str _=>true
 |n+1,.tup ps=>ps.all (jK n)
 |n+1,.lst ps=>ps.all (jK n)
 |_,_=>false
section
variable {X:Cx} {pins:List (Addr×Obj)} {σ:L2.St} {H:Hp} {s:Shared}
theorem Rep.lies (I:Inv X pins σ H s):∀{n:Nat} {p:PV} {x:V} {v:Value},jK n p=true->Rep X.K Z H p x->RelV x v->Lies s.heap p v
 |n,.bH,x,v,ok,h,r=>by cases h;cases r;exact .bH
 |n,.bl b,x,v,ok,h,r=>by cases h;cases r;exact .bl b
 |n,.int b,x,v,ok,h,r=>by cases h;obtain⟨t,rfl⟩:=r;exact .int b t
 |n,.str b,x,v,ok,h,r=>by cases h;obtain⟨t,rfl⟩:=r;exact .str b t
 |n,.ty b,x,v,ok,h,r=>by cases n<;>cases ok
 |n,.a9 b,x,v,ok,h,r=>by cases n<;>cases ok
 |0,.tup ps,x,v,ok,h,r=>by cases ok
 |0,.lst ps,x,v,ok,h,r=>by cases ok
 | n+1,.tup ps,x,v,ok,h,r=>by
  cases h with
  | tup h rl=>
   cases r;obtain⟨its,rv,pl,_⟩:=I.tuple h.sq;have key:∀(ps:List PV) (xs:List V) (its:List Value),ps.all (jK n)=true->bC X.K Z H ps xs->Vals xs its->bN s.heap ps its:=fun ps=>by
    induction ps with
    |nil=>intro xs its _ h1 h2;cases h1;cases h2;exact .nil
    | cons p ps ih=>
     intro xs its ha h1 h2;rw[all_cons,bz]at ha;cases h1 with
     |cons h1 r1=>
      cases h2 with
      |cons h2 r2=>exact .cons (Rep.lies I (n:=n) ha.1 h1 h2) (ih _ _ ha.2 r1 r2)
   exact .tup pl (key ps _ its ok rl rv)
 | n+1,.lst ps,x,v,ok,h,r=>by
  cases h with
  | lst h nz rl=>
   cases r;obtain⟨its,rv,pl,_⟩:=I.list (show iW X.K H _ _ from .inl h);have key:∀(ps:List PV) (xs:List V) (its:List Value),ps.all (jK n)=true->bC X.K Z H ps xs->Vals xs its->bN s.heap ps its:=fun ps=>by
    induction ps with
    |nil=>intro xs its _ h1 h2;cases h1;cases h2;exact .nil
    | cons p ps ih=>
     intro xs its ha h1 h2;rw[all_cons,bz]at ha;cases h1 with
     |cons h1 r1=>
      cases h2 with
      |cons h2 r2=>exact .cons (Rep.lies I (n:=n) ha.1 h1 h2) (ih _ _ ha.2 r1 r2)
   exact .lst pl.isList (key ps _ its ok rl rv)
theorem bC.lies (I:Inv X pins σ H s):∀{ps:List PV} {xs:List V} {its:List Value},ps.all (jK n)=true->bC X.K Z H ps xs->Vals xs its->bN s.heap ps its
 |[],_,_,_,h1,h2=>by cases h1;cases h2;exact .nil
 | p::ps,_,_,ha,h1,h2=>by
  rw[all_cons,bz]at ha;cases h1 with
  |cons h1 r1=>
   cases h2 with
   |cons h2 r2=>exact .cons (Rep.lies I (n:=n) ha.1 h1 h2) (bC.lies I ha.2 r1 r2)
theorem Red.lies (I:Inv X pins σ H s) {n:Nat} {x:V} (ok:jK n p=true) (h:Red X.K Z H p x) (r:RelV x v):Lies s.heap p v:=by
 cases h with
 |rep h=>exact h.lies I ok r
 | lst h rl=>
  cases r;cases n with
  |zero=>cases ok
  |succ n=>
   obtain⟨its,rv,pl,_⟩:=I.list h.sq;exact .lst pl.isList (bC.lies I (n:=n) ok rl rv)
 |a9 h e r=>cases n<;>cases ok
end
mutual
noncomputable def cA:PV->PV->Bool
 | .bH,.bH=>true
 | .bl a,.bl b=>a==b
 | .bl a,.int b=>(if a then 1 else 0)==b
 | .int a,.bl b=>a==(if b then 1 else 0)
 | .int a,.int b=>a==b
 | .str a,.str b=>a==b
 | .tup xs,.tup ys=>cZ xs ys
 | .lst xs,.lst ys=>cZ xs ys
 |_,_=>false
noncomputable def cZ:List PV->List PV->Bool
 |[],[]=>true
 |x::xs,y::ys=>cA x y && cZ xs ys
 |_,_=>false
end
theorem nP {xs ys:List PV}:cA (.tup xs) (.tup ys)=cZ xs ys:=by rw[cA]
theorem tJ {xs ys:List PV}:cA (.lst xs) (.lst ys)=cZ xs ys:=by rw[cA]
theorem bN.length:∀{ps:List PV} {vs:List Value},bN h ps vs->ps.length=vs.length
 |_,_,.nil=>rfl
 |_,_,.cons _ r=>by rw[length_cons,length_cons,bN.length r]
theorem bN.get:∀{ps:List PV} {vs:List Value} {i:Nat} {v:Value},bN h ps vs->vs[i]? =some v->∃p,ps[i]? =some p/\Lies h p v
 |_,_,_,_,.nil,e=>by simp at e
 |_,_,0,_,.cons q _,e=>by simp at e;subst e;exact⟨_,rfl,q⟩
 |_,_,i+1,_,.cons _ r,e=>by
  obtain⟨v,h1,h2⟩:=bN.get (i:=i) r (by simpa using e);exact⟨v,by simpa using h1,h2⟩
theorem FJ {xs:Array Value} (h1:IsTup h a xs) (h2:IsTup h a ys):xs=ys:=by
 obtain⟨o,g,_,n,d⟩:=h1;obtain⟨o',g',_,n',d'⟩:=h2;rw[g]at g';cases g';rw[d]at d';injection d'
theorem FK {xs:Array Value} (h1:h.IsList a xs) (h2:h.IsList a ys):xs=ys:=by
 obtain⟨o,g,_,n,d⟩:=h1;obtain⟨o',g',_,n',d'⟩:=h2;rw[g]at g';cases g';rw[d]at d';injection d'
theorem tV {xs:Array Value} (h1:IsTup h a xs) (h2:h.IsList a ys):False:=by
 obtain⟨o,g,c,n,d⟩:=h1;obtain⟨o',g',c',n',d'⟩:=h2;rw[g]at g';cases g';rw[c]at c';exact absurd c' (by decide)
mutual
theorem Lies.same {h:Heap}:∀{p:PV} {v:Value},Lies h p v->∀{q:PV},Lies h q v->cA p q=true
 |_,_,.bH,q,k=>by cases k;rfl
 |_,_,.bl b,q,k=>by cases k;exact gV b
 |_,_,.int i t,q,k=>by cases k;exact gV i
 |_,_,.str i t,q,k=>by cases k;exact gV i
 | _,_,.tup ht r,q,k=>by
  cases k with
  |tup ht' r'=>
   have e:_=_:=FJ ht ht';have e:=cn Array.toList e;simp only[toList_toArray]at e;subst e;unfold cA;exact bN.same r r'
  |lst hl r'=>exact(tV ht hl).elim
 | _,_,.lst ht r,q,k=>by
  cases k with
  |tup ht' r'=>exact(tV ht' ht).elim
  |lst hl r'=>
   have e:=cn Array.toList (FK ht hl);simp only[toList_toArray]at e;subst e;unfold cA;exact bN.same r r'
theorem bN.same {h:Heap}:∀{p:List PV} {v:List Value},bN h p v->∀{q:List PV},bN h q v->cZ p q=true
 |_,_,.nil,q,k=>by cases k;rfl
 |_,_,.cons h1 r1,q,k=>by
  cases k with
  |cons h2 r2=>unfold cZ;rw[Lies.same h1 h2,bN.same r1 r2];rfl
end
mutual
theorem Lies.fn {h:Heap}:∀{p:PV} {v:Value},Lies h p v->∀{q:PV},Lies h q v->p=q
 |_,_,.bH,q,k=>by cases k;rfl
 |_,_,.bl b,q,k=>by cases k;rfl
 |_,_,.int i t,q,k=>by cases k;rfl
 |_,_,.str i t,q,k=>by cases k;rfl
 | _,_,.tup ht r,q,k=>by
  cases k with
  |tup ht' r'=>
   have e:=cn Array.toList (FJ ht ht');simp only[toList_toArray]at e;subst e;rw[bN.fn r r']
  |lst hl r'=>exact(tV ht hl).elim
 | _,_,.lst ht r,q,k=>by
  cases k with
  |tup ht' r'=>exact(tV ht' ht).elim
  |lst hl r'=>
   have e:=cn Array.toList (FK ht hl);simp only[toList_toArray]at e;subst e;rw[bN.fn r r']
theorem bN.fn {h:Heap}:∀{p:List PV} {v:List Value},bN h p v->∀{q:List PV},bN h q v->p=q
 |_,_,.nil,q,k=>by cases k;rfl
 |_,_,.cons h1 r1,q,k=>by
  cases k with
  |cons h2 r2=>rw[Lies.fn h1 h2,bN.fn r1 r2]
end
theorem dX:∀{ps qs:List PV},((List.range (min ps.length qs.length)).all (fun j=>cA (ps.getD j .bH) (qs.getD j .bH)) && ps.length==qs.length)=cZ ps qs
 |[],[]=>rfl
 |[],_::_=>by unfold cZ;simp
 |_::_,[]=>by unfold cZ;simp
 | p::ps,q::qs=>by
  have ih:=dX (ps:=ps) (qs:=qs);unfold cZ;rw[<-ih];have e:min (p::ps).length (q::qs).length=min ps.length qs.length+1:=by simp only[length_cons];omega
  rw[e,List.range_succ_eq_map,all_cons,List.all_map];have e2:((p::ps).length==(q::qs).length)=(ps.length==qs.length):=by
   rw[Bool.eq_iff_iff];simp
  rw[e2,Bool.and_assoc];rfl
section
variable {A:Around} {s:Shared}
theorem toArr {vs:List Value} {j:Nat} (h:j<vs.toArray.size):vs[j]? =some (vs.toArray[j]):=by simp at h⊢
theorem y6:∀(n:Nat) (A:Around) {p q:PV} {v u:Value},A.units+n<cLine->jK n p=true->jK n q=true->Lies s.heap p v->Lies s.heap q u->SeqAt.EqAt A s v u (cA p q):=by
 intro n
 induction n with
 | zero=>
  intro A p q v u hu o1 o2 h1 h2;cases h1 with
  |tup _ _=>cases o1
  |lst _ _=>cases o1
  |bH=>
   cases h2 with
   |tup _ _=>cases o2
   |lst _ _=>cases o2
   |bH=>exact .same _
   |bl b=>exact .none_bool b
   |int b t=>exact .none_int b t
   |str b t=>exact .none_str b t
  |bl a=>
   cases h2 with
   |tup _ _=>cases o2
   |lst _ _=>cases o2
   |bH=>exact .bool_none a
   |bl b=>exact .bool_bool a b
   |int b t=>exact .bool_int a b t
   |str b t=>exact .bool_str a b t
  |int a t'=>
   cases h2 with
   |tup _ _=>cases o2
   |lst _ _=>cases o2
   |bH=>exact .int_none a t'
   |bl b=>exact .int_bool a t' b
   |int b t=>exact .int_int a t' b t
   |str b t=>exact .int_str a t' b t
  |str a t'=>
   cases h2 with
   |tup _ _=>cases o2
   |lst _ _=>cases o2
   |bH=>exact .str_none a t'
   |bl b=>exact .str_bool a t' b
   |int b t=>exact .str_int a t' b t
   |str b t=>exact .str_str a t' b t
 | succ n ih=>
  intro A p q v u hu o1 o2 h1 h2;have hu0:A.units<cLine:=by omega
  have hin:A.in1.units=A.units+1:=rfl;have els:∀{ps qs:List PV} {vs us:List Value},ps.all (jK n)=true->qs.all (jK n)=true->bN s.heap ps vs->bN s.heap qs us->∀(j:Nat) (g1:j<vs.toArray.size) (g2:j<us.toArray.size),SeqAt.EqAt A.in1 s vs.toArray[j] us.toArray[j] (cA (ps.getD j .bH) (qs.getD j .bH)):=fun{ps qs vs us} a1 a2 l1 l2 j g1 g2=>by
   obtain⟨x,ex,rx⟩:=l1.get (toArr g1);obtain⟨y,ey,ry⟩:=l2.get (toArr g2);rw[aq,aq,ex,ey];exact ih A.in1 (by omega) (bb.mp a1 _ (ba ex)) (bb.mp a2 _ (ba ey)) rx ry
  cases h1 with
  | tup ht r=>
   cases h2 with
   | tup ht' r'=>
    rename_i a its ps a' its' ps'
    by_cases hab:a=a'
    .subst hab;rw[Lies.same (.tup ht r) (.tup ht' r')];exact .same _
    .refine .of_refs hab ?_;have e:cA (.tup ps) (.tup ps')=((List.range (min its.toArray.size its'.toArray.size)).all (fun j=>cA (ps.getD j .bH) (ps'.getD j .bH)) && its.toArray.size==its'.toArray.size):=by
      rw[nP,<-dX,r.length,r'.length,cf,cf]
     rw[e];exact SeqAt.RcAt.tuples (e:=fun j=>cA (ps.getD j .bH) (ps'.getD j .bH)) ht ht' hu0 (els o1 o2 r r')
   |lst hl r'=>exact .tuple_list ht hl hu0
   |bH=>exact .tuple_none ht hu0
   |bl b=>exact .tuple_bool b ht hu0
   |int b t=>exact .tuple_int b t ht hu0
   |str b t=>exact .tuple_str b t ht hu0
  | lst ht r=>
   cases h2 with
   |tup ht' r'=>exact .list_tuple ht ht' hu0
   | lst ht' r'=>
    rename_i a its ps a' its' ps'
    by_cases hab:a=a'
    .subst hab;rw[Lies.same (.lst ht r) (.lst ht' r')];exact .same _
    .refine .of_refs hab ?_
     by_cases hsz:its.length=its'.length
     .have e:cA (.lst ps) (.lst ps')=(List.range its.toArray.size).all (fun j=>cA (ps.getD j .bH) (ps'.getD j .bH)):=by
       rw[tJ,<-dX,r.length,r'.length,cf,<-hsz,Nat.min_self,gV,Bool.and_true]
      rw[e];exact SeqAt.RcAt.lists (e:=fun j=>cA (ps.getD j .bH) (ps'.getD j .bH)) ht ht' (by simp[hsz]) hu0 (els o1 o2 r r')
     .have e:cA (.lst ps) (.lst ps')=false:=by
       rw[tJ,<-dX,r.length,r'.length,show(its.length==its'.length)=false by simp[hsz],Bool.and_false]
      rw[e];exact SeqAt.RcAt.lists_lengths ht ht' (by simp[hsz]) hu0
   |bH=>exact .list_none ht hu0
   |bl b=>exact .list_bool b ht hu0
   |int b t=>exact .list_int b t ht hu0
   |str b t=>exact .list_str b t ht hu0
  |bH=>
   cases h2 with
   |tup ht' r'=>exact .none_tuple ht' hu0
   |lst hl r'=>exact .none_list hl hu0
   |bH=>exact .same _
   |bl b=>exact .none_bool b
   |int b t=>exact .none_int b t
   |str b t=>exact .none_str b t
  |bl a=>
   cases h2 with
   |tup ht' r'=>exact .bool_tuple a ht' hu0
   |lst hl r'=>exact .bool_list a hl hu0
   |bH=>exact .bool_none a
   |bl b=>exact .bool_bool a b
   |int b t=>exact .bool_int a b t
   |str b t=>exact .bool_str a b t
  |int a t'=>
   cases h2 with
   |tup ht' r'=>exact .int_tuple a t' ht' hu0
   |lst hl r'=>exact .int_list a t' hl hu0
   |bH=>exact .int_none a t'
   |bl b=>exact .int_bool a t' b
   |int b t=>exact .int_int a t' b t
   |str b t=>exact .int_str a t' b t
  |str a t'=>
   cases h2 with
   |tup ht' r'=>exact .str_tuple a t' ht' hu0
   |lst hl r'=>exact .str_list a t' hl hu0
   |bH=>exact .str_none a t'
   |bl b=>exact .str_bool a t' b
   |int b t=>exact .str_int a t' b t
   |str b t=>exact .str_str a t' b t
theorem MS {A:Around} (hu:A.units+(n+1)<cLine) (o1:jK (n+1) p=true) (o2:jK (n+1) q=true) (h1:Lies s.heap p v) (h2:Lies s.heap q u):SeqAt.RcAt A s v u (cA p q)/\SeqAt.RcNeAt A s v u (!cA p q):=by
 have hu0:A.units<cLine:=by omega
 have hin:A.in1.units=A.units+1:=rfl;have els:∀{ps qs:List PV} {vs us:List Value},ps.all (jK n)=true->qs.all (jK n)=true->bN s.heap ps vs->bN s.heap qs us->∀(j:Nat) (g1:j<vs.toArray.size) (g2:j<us.toArray.size),SeqAt.EqAt A.in1 s vs.toArray[j] us.toArray[j] (cA (ps.getD j .bH) (qs.getD j .bH)):=fun{ps qs vs us} a1 a2 l1 l2 j g1 g2=>by
  obtain⟨x,ex,rx⟩:=l1.get (toArr g1);obtain⟨y,ey,ry⟩:=l2.get (toArr g2);rw[aq,aq,ex,ey];exact y6 n A.in1 (by omega) (bb.mp a1 _ (ba ex)) (bb.mp a2 _ (ba ey)) rx ry
 cases h1 with
 | tup ht r=>
  cases h2 with
  | tup ht' r'=>
   rename_i a its ps a' its' ps';have e:cA (.tup ps) (.tup ps')=((List.range (min its.toArray.size its'.toArray.size)).all (fun j=>cA (ps.getD j .bH) (ps'.getD j .bH)) && its.toArray.size==its'.toArray.size):=by
    rw[nP,<-dX,r.length,r'.length,cf,cf]
   rw[e];exact⟨SeqAt.RcAt.tuples (e:=fun j=>cA (ps.getD j .bH) (ps'.getD j .bH)) ht ht' hu0 (els o1 o2 r r'),SeqAt.RcNeAt.tuples (e:=fun j=>cA (ps.getD j .bH) (ps'.getD j .bH)) ht ht' hu0 (els o1 o2 r r')⟩
  |lst hl r'=>exact⟨.tuple_list ht hl hu0,.tuple_list ht hl hu0⟩
  |bH=>exact⟨.tuple_none ht hu0,.tuple_none ht hu0⟩
  |bl b=>exact⟨.tuple_bool b ht hu0,.tuple_bool b ht hu0⟩
  |int b t=>exact⟨.tuple_int b t ht hu0,.tuple_int b t ht hu0⟩
  |str b t=>exact⟨.tuple_str b t ht hu0,.tuple_str b t ht hu0⟩
 | lst ht r=>
  cases h2 with
  |tup ht' r'=>exact⟨.list_tuple ht ht' hu0,.list_tuple ht ht' hu0⟩
  | lst ht' r'=>
   rename_i a its ps a' its' ps'
   by_cases hsz:its.length=its'.length
   .have e:cA (.lst ps) (.lst ps')=(List.range its.toArray.size).all (fun j=>cA (ps.getD j .bH) (ps'.getD j .bH)):=by
     rw[tJ,<-dX,r.length,r'.length,cf,<-hsz,Nat.min_self,gV,Bool.and_true]
    rw[e];exact⟨SeqAt.RcAt.lists (e:=fun j=>cA (ps.getD j .bH) (ps'.getD j .bH)) ht ht' (by simp[hsz]) hu0 (els o1 o2 r r'),SeqAt.RcNeAt.lists (e:=fun j=>cA (ps.getD j .bH) (ps'.getD j .bH)) ht ht' (by simp[hsz]) hu0 (els o1 o2 r r')⟩
   .have e:cA (.lst ps) (.lst ps')=false:=by
     rw[tJ,<-dX,r.length,r'.length,show(its.length==its'.length)=false by simp[hsz],Bool.and_false]
    rw[e];exact⟨SeqAt.RcAt.lists_lengths ht ht' (by simp[hsz]) hu0,SeqAt.RcNeAt.lists_lengths ht ht' (by simp[hsz]) hu0⟩
  |bH=>exact⟨.list_none ht hu0,.list_none ht hu0⟩
  |bl b=>exact⟨.list_bool b ht hu0,.list_bool b ht hu0⟩
  |int b t=>exact⟨.list_int b t ht hu0,.list_int b t ht hu0⟩
  |str b t=>exact⟨.list_str b t ht hu0,.list_str b t ht hu0⟩
 |bH=>
  cases h2 with
  |tup ht' r'=>exact⟨.none_tuple ht' hu0,.none_tuple ht' hu0⟩
  |lst hl r'=>exact⟨.none_list hl hu0,.none_list hl hu0⟩
  |bH=>exact⟨.none_none,.none_none⟩
  |bl b=>exact⟨.none_bool b,.none_bool b⟩
  |int b t=>exact⟨.none_int b t,.none_int b t⟩
  |str b t=>exact⟨.none_str b t,.none_str b t⟩
 |bl a=>
  cases h2 with
  |tup ht' r'=>exact⟨.bool_tuple a ht' hu0,.bool_tuple a ht' hu0⟩
  |lst hl r'=>exact⟨.bool_list a hl hu0,.bool_list a hl hu0⟩
  |bH=>exact⟨.bool_none a,.bool_none a⟩
  |bl b=>exact⟨.bool_bool a b,.bool_bool a b⟩
  |int b t=>exact⟨.bool_int a b t,.bool_int a b t⟩
  |str b t=>exact⟨.bool_str a b t,.bool_str a b t⟩
 |int a t'=>
  cases h2 with
  |tup ht' r'=>exact⟨.int_tuple a t' ht' hu0,.int_tuple a t' ht' hu0⟩
  |lst hl r'=>exact⟨.int_list a t' hl hu0,.int_list a t' hl hu0⟩
  |bH=>exact⟨.int_none a t',.int_none a t'⟩
  |bl b=>exact⟨.int_bool a t' b,.int_bool a t' b⟩
  |int b t=>exact⟨.int_int a t' b t,.int_int a t' b t⟩
  |str b t=>exact⟨.int_str a t' b t,.int_str a t' b t⟩
 |str a t'=>
  cases h2 with
  |tup ht' r'=>exact⟨.str_tuple a t' ht' hu0,.str_tuple a t' ht' hu0⟩
  |lst hl r'=>exact⟨.str_list a t' hl hu0,.str_list a t' hl hu0⟩
  |bH=>exact⟨.str_none a t',.str_none a t'⟩
  |bl b=>exact⟨.str_bool a t' b,.str_bool a t' b⟩
  |int b t=>exact⟨.str_int a t' b t,.str_int a t' b t⟩
  |str b t=>exact⟨.str_str a t' b t,.str_str a t' b t⟩
end
def QP (K:Frag) (neg:Bool):R2:=fun x y H Q=>∃p q,Red K cL H p x/\Red K cL H q y/\jK 9 p=true/\jK 9 q=true/\Q (.bl (if neg then !cA p q else cA p q)) H
noncomputable def DG:PV->Option (List PV)
 | .lst ps=>some ps
 | .tup ps=>some ps
 |_=>none
def QA (K:Frag) (neg:Bool):R2:=fun x y H Q=>∃p q ps,Red K cL H p x/\Red K cL H q y/\DG q=some ps/\jK 8 p=true/\ps.all (jK 8)=true/\Q (.bl (if neg then !ps.any (fun z=>cA z p)else ps.any fun z=>cA z p)) H
section
variable {X:Cx} {k:Nat}
theorem D4 (K:Frag) (hr:c8 k X.A) (hK:X.K=K:=by rfl):g9 X (compareOp .Eq) (QP K false):=by
 subst hK;intro pins s σ H x y v u Q I rx ry h;obtain⟨p,q,h1,h2,o1,o2,hQ⟩:=h;exact(MS (n:=8) (by have:=hr.un;omega) o1 o2 (h1.lies I o1 rx) (h2.lies I o2 ry)).1 _ _ _ _ (jH I hQ rfl)
theorem M8 (K:Frag) (hr:c8 k X.A) (hK:X.K=K:=by rfl):g9 X (compareOp .NotEq) (QP K true):=by
 subst hK;intro pins s σ H x y v u Q I rx ry h;obtain⟨p,q,h1,h2,o1,o2,hQ⟩:=h;exact(MS (n:=8) (by have:=hr.un;omega) o1 o2 (h1.lies I o1 rx) (h2.lies I o2 ry)).2 _ _ _ _ (jH I hQ rfl)
theorem bN.any {e:Value->Bool} {f:PV->Bool} (he:∀{q:PV} {y:Value},Lies h q y->e y=f q):∀{ps:List PV} {its:List Value},bN h ps its->its.any e=ps.any f
 |_,_,.nil=>rfl
 |_,_,.cons h r=>by rw[any_cons,any_cons,he h,bN.any he r]
theorem zR {s:Shared} {A:Around} (hu:A.units+8<cLine) (op:jK 8 p=true) (hp:Lies s.heap p u) {its:List Value} (ops:ps.all (jK 8)=true) (hl:bN s.heap ps its):
  ∃e:Value->Bool,(∀y,y∈its.toArray->SeqAt.EqAt A s y u (e y))/\its.toArray.any e=ps.any fun z=>cA z p:=by
 classical
 let e:Value->Bool:=fun y=>if c:∃q,Lies s.heap q y then cA c.choose p else false
 have he:∀{q:PV} {y:Value},Lies s.heap q y->e y=cA q p:=fun{q y} h=>by
  have c:∃q,Lies s.heap q y:=⟨q,h⟩;show(if c:∃q,Lies s.heap q y then cA c.choose p else false)=_;rw[dif_pos c,Lies.fn c.choose_spec h]
 refine⟨e,fun y hy=>?_,?_⟩
 .obtain⟨j,hj⟩:=du (show y∈its by simpa using hy);obtain⟨q,h1,h2⟩:=hl.get hj;rw[he h2];exact y6 8 A hu (bb.mp ops _ (ba h1)) op h2 hp
 .rw[List.any_toArray];exact bN.any (fun h=>he h) hl
theorem abM (K:Frag) (hr:c8 k X.A) (hK:X.K=K:=by rfl):g9 X (compareOp .In) (QA K false):=by
 subst hK;intro pins s σ H x y v u Q I rx ry h;obtain⟨p,q,ps,h1,h2,hi,o1,o2,hQ⟩:=h;have hu:X.A.in1.units+8<cLine:=by have:=hr.un;show X.A.units+1+8<_;omega
 have lp:=h1.lies I o1 rx;cases q with
 | lst qs=>
  cases hi;cases h2.lies I (n:=9) (p:=.lst _) o2 ry with
  |lst hl r=>
   obtain⟨e,e1,e2⟩:=zR hu o1 lp o2 r;exact SeqAt.in_listAt e hl e1 (by rw[e2];exact jH I hQ rfl)
 | tup qs=>
  cases hi;cases h2.lies I (n:=9) (p:=.tup _) o2 ry with
  |tup hl r=>
   obtain⟨e,e1,e2⟩:=zR hu o1 lp o2 r;exact SeqAt.in_tupleAt e hl e1 (by rw[e2];exact jH I hQ rfl)
 |_=>cases hi
theorem P7 (K:Frag) (hr:c8 k X.A) (hK:X.K=K:=by rfl):g9 X (compareOp .NotIn) (QA K true):=by
 subst hK;intro pins s σ H x y v u Q I rx ry h;obtain⟨p,q,ps,h1,h2,hi,o1,o2,hQ⟩:=h;have hu:X.A.in1.units+8<cLine:=by have:=hr.un;show X.A.units+1+8<_;omega
 have lp:=h1.lies I o1 rx;cases q with
 | lst qs=>
  cases hi;cases h2.lies I (n:=9) (p:=.lst _) o2 ry with
  |lst hl r=>
   obtain⟨e,e1,e2⟩:=zR hu o1 lp o2 r;exact SeqAt.notIn_listAt e hl e1 (by rw[e2];exact jH I hQ rfl)
 | tup qs=>
  cases hi;cases h2.lies I (n:=9) (p:=.tup _) o2 ry with
  |tup hl r=>
   obtain⟨e,e1,e2⟩:=zR hu o1 lp o2 r;exact SeqAt.notIn_tupleAt e hl e1 (by rw[e2];exact jH I hQ rfl)
 |_=>cases hi
end
section
variable {K:Frag}
theorem cY.or {g g':PV->PV->Option Bv} (h:cY K r g) (h':cY K r' g'):cY K (fun x y H Q=>r x y H Q\/ r' x y H Q) (fun p q=>(g p q).or (g' p q)):=by
 intro Z H x y p q b Q hp hq hg k;have hg:(g p q).or (g' p q)=some b:=hg;cases c:g p q with
 |some b'=>rw[c]at hg;cases hg;exact .inl (h Z H x y p q _ Q hp hq c k)
 |none=>rw[c]at hg;exact .inr (h' Z H x y p q b Q hp hq hg k)
theorem lL.or {r r':List V->Hp->VK->Prop} {g g':List PV->Option Bv} (h:lL K r g) (h':lL K r' g'):lL K (fun x H Q=>r x H Q\/ r' x H Q) (fun p=>(g p).or (g' p)):=by
 intro Z H x p b Q hp hg k;have hg:(g p).or (g' p)=some b:=hg;cases c:g p with
 |some b'=>rw[c]at hg;cases hg;exact .inl (h Z H x p _ Q hp c k)
 |none=>rw[c]at hg;exact .inr (h' Z H x p b Q hp hg k)
noncomputable def gI (C:Int->Int->Bool) (g:Int->Int->PV):PV->PV->Option Bv
 | .int i,.int j=>aZ (C i j) (some (.val (g i j)))
 |_,_=>none
theorem L4 {C:Int->Int->Prop} {D:Int->Int->Bool} (hD:∀i j,D i j=true->C i j) (hg:∀i j Z H,Rep K Z H (g' i j) (g i j)):cY K (rI C g) (gI D g'):=by
 intro Z H x y p q b Q hp hq h k;cases p with
 | int i=>
  cases q with
  |int j=>
   obtain⟨c,h⟩:=aK h;cases h;exact⟨i,j,hp.int,hq.int,hD i j c,k _ H (aV.refl _) (hg i j Z H)⟩
  |_=>cases h
 |_=>cases h
noncomputable def X7 (g:Int->Int->PV):PV->PV->Option Bv
 | .int i,.int j=>some (.val (g i j))
 |_,_=>none
theorem BQ (hg:∀i j Z H,Rep K Z H (g' i j) (g i j)):cY K (HM g) (X7 g'):=by
 intro Z H x y p q b Q hp hq h k;cases p with
 |int i=>
  cases q with
  |int j=>cases h;exact⟨i,j,hp.int,hq.int,k _ H (aV.refl _) (hg i j Z H)⟩
  |_=>cases h
 |_=>cases h
noncomputable def JA:PV->PV->Option Bv:=X7 fun i j=>.int (i - j)
theorem MG:cY K (HM fun i j=>.int (i - j)) JA:=BQ fun _ _ _ _=>.int _
noncomputable def wR (i j:Int):Bool:=decide ((-18446744073709551616<i/\i<18446744073709551616)\/ (-18446744073709551616<j/\j<18446744073709551616))
noncomputable def mY:PV->PV->Option Bv:=gI wR fun i j=>.int (i*j)
theorem LQ:cY K (rI R8 fun i j=>.int (i*j)) mY:=L4 (fun i j h=>by have:=ao h;show(-(2^64)<i/\i<2^64)\/ (-(2^64)<j/\j<2^64);omega) fun _ _ _ _=>.int _
noncomputable def J7:PV->PV->Option Bv:=gI (fun _ j=>decide (0<j/\j<1000000000000000000000000)) fun i j=>.int (i / j)
theorem KY:cY K (rI SW fun i j=>.int (i / j)) J7:=L4 (fun i j h=>by have:=ao h;show 0<j/\j<2^200;omega) fun _ _ _ _=>.int _
noncomputable def nV:PV->PV->Option Bv:=gI (fun _ j=>decide (0<j)) fun i j=>.int (i % j)
theorem MA:cY K (rI (fun _ j=>0<j) fun i j=>.int (i % j)) nV:=L4 (fun _ _ h=>ao h) fun _ _ _ _=>.int _
noncomputable def sT:PV->PV->Option Bv:=gI (fun i j=>decide (0<=j/\(Builtin.Int.intBits i:Int)*j<=2^27)) fun i j=>.int (i^j.toNat)
theorem NQ:cY K (rI (fun i j=>0<=j/\(Builtin.Int.intBits i:Int)*j<=2^27) fun i j=>.int (i^j.toNat)) sT:=L4 (fun _ _ h=>ao h) fun _ _ _ _=>.int _
noncomputable def XI:PV->Option Bv
 | .int i=>some (.val (.int (-i)))
 |_=>none
theorem JW:ZJ K (rU fun i=>.int (-i)) XI:=by
 intro Z H x p b Q hp h k;cases p with
 |int i=>cases h;exact⟨i,hp.int,k _ H (aV.refl _) (Rep.int (-i))⟩
 |_=>cases h
noncomputable def J6:PV->PV->Option Bv
 | .str i,.str j=>aZ (decide (i.length+j.length<1000000)) (some (.val (.str (i++j))))
 |_,_=>none
theorem R6:cY K (fun x y H Q=>∃i j,x= .str i/\y= .str j/\i.length+j.length<=sizeLine/\Q (.str (i++j)) H) J6:=by
 intro Z H x y p q b Q hp hq h k;cases p with
 | str i=>
  cases q with
  |str j=>
   obtain⟨c,h⟩:=aK h;cases h;exact⟨i,j,hp.str,hq.str,ir (gT c),k _ H (aV.refl _) (Rep.str (i++j))⟩
  |_=>cases h
 |_=>cases h
def NO (K:Frag):R2:=fun x y H Q=>∃a b xs ys,x= .ref a/\y= .ref b/\iW K H a xs/\iW K H b ys/\xs.length+ys.length<=sizeLine/\∀p,H p=none->Q (.ref p) (upd H p (.lst (xs++ys)))
theorem abA (K:Frag) (hK:X.K=K:=by rfl):g9 X (binaryOp .Add) (NO K):=by
 subst hK;intro pins s σ H x y v u Q I rx ry h;obtain⟨a,b,xs,ys,rfl,rfl,ha,hb,hz,q⟩:=h;cases rx;cases ry;obtain⟨its,r1,p1,_⟩:=I.list ha;obtain⟨its2,r2,p2,_⟩:=I.list hb;obtain⟨⟨cls,dd,data,sl⟩,ho,hc,n,hd⟩:=id p1.isList;obtain⟨⟨cls2,dd2,data2,sl2⟩,ho2,hc2,n2,hd2⟩:=id p2.isList;simp only at hc hd hc2 hd2;subst hc hd hc2 hd2;have l1:=r1.length;have l2:=r2.length;have e:its.toArray++its2.toArray=(its++its2).toArray:=by simp
 refine concat_meets ⟨_,ho,rfl⟩ ⟨_,ho2,rfl⟩ noFill_list_add seq_list_add PySem.F.slot_list_add PySem.F.entry_list_add (PySem.F.args_list_add_2 _ _) (list_addW a b its.toArray its2.toArray n n2 dd dd2 sl sl2 (by simp only[cf];omega)) ⟨ho,ho2,?_⟩;rw[e];exact⟨.ref s.heap.objs.size,_,I.laid (t':=s.toks) (o:=.lst (xs++ys)) (fun b ob q=>au _ q) (bj _) ⟨by rw[bq];exact hz,its++its2,0,r1.append r2,dc _ rfl⟩,rfl,q _ (I.bS.fresh (bj _))⟩
noncomputable def LR:PV->PV->Option Bv
 | .lst i,.lst j=>aZ (decide (i.length+j.length<1000000)) (some (.new (.lst (i++j))))
 |_,_=>none
theorem MT (hl:H a=none) (r:bC K Z H ps xs):RN K Z H (upd H a (.lst xs)) (.ref a) (.new (.lst ps)):=
 ⟨a,rfl,hl,.lst aU (r.aL (.new (aV.upd hl) hl))⟩
theorem RL:cY K (NO K) LR:=by
 intro Z H x y p q b Q hp hq h k;cases p with
 | lst i=>
  cases q with
  |lst j=>
   obtain⟨c,h⟩:=aK h;cases h;obtain⟨a,xs,rfl,ha,ra⟩:=hp.qS;obtain⟨a',ys,rfl,ha',ra'⟩:=hq.qS;exact⟨a,a',xs,ys,rfl,rfl,ha.sq,ha'.sq,by rw[<-ra.length,<-ra'.length];exact ir (gT c),fun l hl=>k _ _ (aV.upd hl) (MT hl (ra.app ra'))⟩
  |_=>cases h
 |_=>cases h
def LB (K:Frag):R2:=fun x y H Q=>∃a b xs ys,x= .ref a/\y= .ref b/\TupAt K H a xs/\TupAt K H b ys/\xs.length+ys.length<=sizeLine/\∀p H',aV H H'->TupAt K H' p (xs++ys)->Q (.ref p) H'
theorem ab1 (K:Frag) (hK:X.K=K:=by rfl):g9 X (binaryOp .Add) (LB K):=by
 subst hK;intro pins s σ H x y v u Q I rx ry h;obtain⟨a,b,xs,ys,rfl,rfl,ha,hb,hz,q⟩:=h;cases rx;cases ry;obtain⟨its,r1,p1,_⟩:=I.tuple ha.sq;obtain⟨its2,r2,p2,_⟩:=I.tuple hb.sq;refine HT.QG p1 p2 (fun z=>⟨.ref b,H,I,rfl,q b H (aV.refl _) (by rw[r1.EZ.mp z];exact hb)⟩) (fun z=>⟨.ref a,H,I,rfl,q a H (aV.refl _) (by rw[r2.EZ.mp z,gj];exact ha)⟩) (fun _ _=>?_) (by rw[<-r1.length,<-r2.length];exact hz);refine⟨.ref s.heap.objs.size,_,I.laid (t':=s.toks) (o:=.tup (xs++ys)) (fun b ob q=>au _ q) (bj _) ?_,rfl,q _ _ (aV.upd (I.bS.fresh (bj _))) (.inl aU)⟩;exact⟨by rw[bq];exact hz,_,r1.append r2,tE.new _ _⟩
noncomputable def NI:PV->PV->Option Bv
 | .tup i,.tup j=>aZ (decide (i.length+j.length<1000000)) (some (.val (.tup (i++j))))
 |_,_=>none
theorem PH:cY K (LB K) NI:=by
 intro Z H x y p q b Q hp hq h k;cases p with
 | tup i=>
  cases q with
  |tup j=>
   obtain⟨c,h⟩:=aK h;cases h;obtain⟨a,xs,rfl,ha,ra⟩:=hp.tup;obtain⟨a',ys,rfl,ha',ra'⟩:=hq.tup;exact⟨a,a',xs,ys,rfl,rfl,ha,ha',by rw[<-ra.length,<-ra'.length];exact ir (gT c),fun l H' s t=>k _ _ s (Rep.tup t ((ra.app ra').aL (.same s)))⟩
  |_=>cases h
 |_=>cases h
theorem g9.or {f:Value->Value->Sem Value} (h:g9 X f r) (h':g9 X f r'):g9 X f (fun x y H Q=>r x y H Q\/ r' x y H Q):=by
 intro pins s σ H x y v u Q I rx ry q;rcases q with q|q
 .exact h pins s σ H x y v u Q I rx ry q
 .exact h' pins s σ H x y v u Q I rx ry q
def SR (K:Frag):R2:=fun x y H Q=>HM (fun i j=>.int (i+j)) x y H Q\/ ((∃i j,x= .str i/\y= .str j/\i.length+j.length<=sizeLine/\Q (.str (i++j)) H)\/ (NO K x y H Q\/ LB K x y H Q))
theorem jX (K:Frag) (hK:X.K=K:=by rfl):g9 X (binaryOp .Add) (SR K):=g9.or WE (g9.or D5 (g9.or (abA K hK) (ab1 K hK)))
noncomputable def gE:PV->PV->Option Bv:=fun p q=>(X7 (fun i j=>.int (i+j)) p q).or ((J6 p q).or ((LR p q).or (NI p q)))
theorem M7:cY K (SR K) gE:=cY.or (BQ fun _ _ _ _=>.int _) (cY.or R6 (cY.or RL PH))
noncomputable def OE:PV->PV->Option Bv:=fun p q=>aZ (jK 9 p && jK 9 q) (some (.val (.bl (cA p q))))
theorem Red.any {v:V} (h:Red K Z H p v):Red K cL H p v:=by
 have k:cO Z cL H H:=.less fun a z=>z.elim
 cases h with
 |rep h=>exact .rep (h.aL k)
 |lst h r=>exact .lst h (r.aL k)
 |a9 h e r=>exact .a9 h e (r.aL k)
theorem SS:cY K (QP K false) OE:=by
 intro Z H x y p q b Q hp hq h k;obtain⟨c,h⟩:=aK h;rw[bz]at c;cases h;exact⟨p,q,hp.any,hq.any,c.1,c.2,k _ H (aV.refl _) (Rep.bl _)⟩
noncomputable def T8:PV->PV->Option Bv:=fun p q=>aZ (jK 9 p && jK 9 q) (some (.val (.bl (!cA p q))))
theorem SU:cY K (QP K true) T8:=by
 intro Z H x y p q b Q hp hq h k;obtain⟨c,h⟩:=aK h;rw[bz]at c;cases h;exact⟨p,q,hp.any,hq.any,c.1,c.2,k _ H (aV.refl _) (Rep.bl _)⟩
noncomputable def W2 (neg:Bool):PV->PV->Option Bv:=fun p q=>bO (DG q) fun ps=>aZ (jK 8 p && ps.all (jK 8)) (some (.val (.bl (if neg then !ps.any (fun z=>cA z p)else ps.any fun z=>cA z p))))
theorem V3 (neg:Bool):cY K (QA K neg) (W2 neg):=by
 intro Z H x y p q b Q hp hq h k;obtain⟨ps,g,h⟩:=aE h;obtain⟨c,h⟩:=aK h;rw[bz]at c;cases h;exact⟨p,q,ps,hp.any,hq.any,g,c.1,c.2,k _ H (aV.refl _) (Rep.bl _)⟩
noncomputable def V1 (neg:Bool):PV->PV->Option Bv
 | .str i,.str j=>some (.val (.bl (if neg then !(!(Builtin.Str.occurrences j i 0 j.length 1).isEmpty)else !(Builtin.Str.occurrences j i 0 j.length 1).isEmpty)))
 |_,_=>none
def Z1 (neg:Bool):R2:=fun x y H Q=>∃i j,x= .str i/\y= .str j/\Q (.bl (if neg then !(!(Builtin.Str.occurrences j i 0 j.length 1).isEmpty)else !(Builtin.Str.occurrences j i 0 j.length 1).isEmpty)) H
theorem U5 (neg:Bool):cY K (Z1 neg) (V1 neg):=by
 intro Z H x y p q b Q hp hq h k;cases p with
 |str i=>
  cases q with
  |str j=>cases h;exact⟨i,j,hp.str,hq.str,k _ H (aV.refl _) (Rep.bl _)⟩
  |_=>cases h
 |_=>cases h
noncomputable def UN (neg:Bool):PV->PV->Option Bv
 |p,.a9 kvs=>bO (keyOf p) fun k=>some (.val (.bl (if neg then !(bY kvs k).isSome else(bY kvs k).isSome)))
 |_,_=>none
def O0 (neg:Bool):R2:=fun x y H Q=>∃a kvs k,y= .ref a/\E4 H a kvs/\x=kV k/\Q (.bl (if neg then !(dB kvs k).isSome else(dB kvs k).isSome)) H
theorem inD (hr:c8 k X.A):g9 X (compareOp .In) (O0 false):=by
 intro pins s σ H x y v u Q I rx ry h;obtain⟨a,kvs,key,rfl,ha,rfl,q⟩:=h;cases ry;exact acG (by have:=hr.un;omega) I (.inl ⟨kvs,key,ha,rfl,rfl⟩) rx fun s' I'=>⟨.bl _,H,I',rfl,q⟩
theorem W5 (hr:c8 k X.A):g9 X (compareOp .NotIn) (O0 true):=by
 intro pins s σ H x y v u Q I rx ry h;obtain⟨a,kvs,key,rfl,ha,rfl,q⟩:=h;cases ry;exact O2 (by have:=hr.un;omega) I (.inl ⟨kvs,key,ha,rfl,rfl⟩) rx fun s' I'=>⟨.bl _,H,I',rfl,q⟩
theorem X0 (neg:Bool):cY K (O0 neg) (UN neg):=by
 intro Z H x y p q b Q hp hq h k;cases q with
 | a9 kvs=>
  obtain⟨key,g,h⟩:=aE h;cases h;obtain⟨a,ys,rfl,ha,e,r⟩:=hq.BB;refine⟨a,ys,key,rfl,ha,hp.key g,?_⟩;have es:(dB ys key).isSome=(bY kvs key).isSome:=by
   rcases dF.val key ⟨e,r⟩with⟨h1,h2⟩|⟨p',v',h1,h2,_⟩
   .rw[h1,h2];rfl
   .rw[h1,h2];rfl
  rw[es];exact k _ H (aV.refl _) (Rep.bl _)
 |_=>cases h
def US (K:Frag) (neg:Bool):R2:=fun x y H Q=>Z1 neg x y H Q\/ (QA K neg x y H Q\/ O0 neg x y H Q)
theorem inX (K:Frag) (hr:c8 k X.A) (hK:X.K=K:=by rfl):g9 X (compareOp .In) (US K false):=g9.or G4 (g9.or (abM K hr hK) (inD hr))
theorem qX (K:Frag) (hr:c8 k X.A) (hK:X.K=K:=by rfl):g9 X (compareOp .NotIn) (US K true):=g9.or zS (g9.or (P7 K hr hK) (W5 hr))
noncomputable def IX (neg:Bool):PV->PV->Option Bv:=fun p q=>(V1 neg p q).or ((W2 neg p q).or (UN neg p q))
theorem TY (neg:Bool):cY K (US K neg) (IX neg):=cY.or (U5 neg) (cY.or (V3 neg) (X0 neg))
noncomputable def LK (f:Str->Str->Bool):PV->PV->Option Bv
 | .str i,.str j=>some (.val (.bl (f i j)))
 |_,_=>none
theorem SM {f:Str->Str->Bool}:cY K (fun x y H Q=>∃i j,x= .str i/\y= .str j/\Q (.bl (f i j)) H) (LK f):=by
 intro Z H x y p q b Q hp hq h k;cases p with
 |str i=>
  cases q with
  |str j=>cases h;exact⟨i,j,hp.str,hq.str,k _ H (aV.refl _) (Rep.bl _)⟩
  |_=>cases h
 |_=>cases h
def aaE:R2:=fun x y H Q=>HM (fun i j=>.bl (decide (i<j))) x y H Q\/ ∃i j,x= .str i/\y= .str j/\Q (.bl (decide (i.cps.toList<j.cps.toList))) H
theorem ltX:g9 X (compareOp .Lt) aaE:=g9.or ZU IQ
noncomputable def gLt:PV->PV->Option Bv:=fun p q=>(X7 (fun i j=>.bl (decide (i<j))) p q).or (LK (fun i j=>decide (i.cps.toList<j.cps.toList)) p q)
theorem TZ:cY K aaE gLt:=cY.or (BQ fun _ _ _ _=>.bl _) SM
noncomputable def gGt:PV->PV->Option Bv:=X7 fun i j=>.bl (decide (j<i))
theorem SQ:cY K (HM fun i j=>.bl (decide (j<i))) gGt:=BQ fun _ _ _ _=>.bl _
noncomputable def gGe:PV->PV->Option Bv:=X7 fun i j=>.bl (decide (j<=i))
theorem S6:cY K (HM fun i j=>.bl (decide (j<=i))) gGe:=BQ fun _ _ _ _=>.bl _
noncomputable def isNone:PV->Bool
 | .bH=>true
 |_=>false
theorem Red.isNone {v:V} (h:Red K Z H p v):decide (v= .bH)=Mr.isNone p:=by
 cases h with
 |rep h=>cases h<;>rfl
 |lst h r=>rfl
 |a9 h e r=>rfl
noncomputable def W7 (neg:Bool):PV->PV->Option Bv
 |p,.bH=>some (.val (.bl (if neg then !isNone p else isNone p)))
 |_,_=>none
theorem CL:cY K (fun x y H Q=>y= .bH/\Q (.bl (!decide (x= .bH))) H) (W7 true):=by
 intro Z H x y p q b Q hp hq h k;cases q with
 |bH=>cases h;exact⟨hq.bH,by rw[hp.isNone];exact k _ H (aV.refl _) (Rep.bl _)⟩
 |_=>cases h
noncomputable def dA:PV->PV->Option Bv
 | .lst ps,.int i=>bO (oB ps i) fun p=>some (.val p)
 | .tup ps,.int i=>bO (oB ps i) fun p=>some (.val p)
 | .str z,.int i=>aZ (decide (z.length<1000000)) (bO (oB z.cps.toList i) fun c=>some (.val (.str ⟨#[c]⟩)))
 | .a9 kvs,p=>bO (keyOf p) fun k=>bO (bY kvs k) fun q=>some (.val q)
 |_,_=>none
theorem bC.oB {ps:List PV} {i:Int} (r:bC K Z H ps xs) (h:L2.oB ps i=some p):∃v,L2.oB xs i=some v/\Rep K Z H p v:=by
 unfold L2.oB at h⊢
 rw[<-r.length];cases c:uC ps.length i with
 |none=>rw[c]at h;cases h
 |some j=>rw[c]at h;exact r.get h
def YZ:R2:=fun x y H Q=>∃a kvs k v,x= .ref a/\E4 H a kvs/\y=kV k/\dB kvs k=some v/\Q v H
theorem ixD (hr:c8 k X.A):CQ X YZ:=by
 intro value slice pins s σ H x y v u Q I rx ry h hs;obtain⟨a,kvs,key,w,rfl,ha,rfl,hv,q⟩:=h;cases rx;have g:zO H a (kV key) (some w):=.inl ⟨kvs,key,ha,rfl,hv.symm⟩;have hT:=BU I g;unfold subscriptTail;refine af ?_;rw[getitemInPython_of_ne hT.not_modules];refine af (wpAny_specialOf hT PySem.F.slot_dict_getitem.lookup ?_);have fin:wpAny (model X.prog X.w) X.A (subscripted slice false (.ref a) u) (fun r s₃=>wpAny (model X.prog X.w) X.A (letTemporaryGo value (.ref a) r>>=fun _=>pure r) (EP X pins σ Q) X.xe s₃) X.xe s:=by
  rw[hs];exact wpAny_operating (dk (G3 (by have:=hr.un;omega) I g ry fun w' s3 I3 rw'=>(⟨w,H,I3,rw',q⟩:EP X pins σ Q w' s3)) (fun r s₃ h₃=>af (wpAny_letTemporaryGo (ay h₃))) fun _ _ x=>x)
 first
  |exact ay (af fin)
  |exact af (ay (af fin))
  |exact af fin
def aaO (K:Frag):R2:=fun x y H Q=>WL K x y H Q\/ (WO K x y H Q\/ (Z6 x y H Q\/ YZ x y H Q))
theorem dQ (K:Frag) (hr:c8 k X.A) (hK:X.K=K:=by rfl):CQ X (aaO K):=CQ.or (ixL K hK) (CQ.or (ixT K hK) (CQ.or WI (ixD hr)))
theorem TC:cY K (aaO K) dA:=by
 intro Z H x y p q b Q hp hq h k;cases p with
 | lst ps=>
  cases q with
  |int i=>
   obtain⟨p,g,h⟩:=aE h;cases h;obtain⟨a,xs,rfl,ha,ra⟩:=hp.qS;obtain⟨v,hv,rv⟩:=ra.oB g;exact .inl ⟨a,xs,i,v,rfl,hq.int,ha.sq,hv,k _ H (aV.refl _) rv⟩
  |_=>cases h
 | tup ps=>
  cases q with
  |int i=>
   obtain⟨p,g,h⟩:=aE h;cases h;obtain⟨a,xs,rfl,ha,ra⟩:=hp.tup;obtain⟨v,hv,rv⟩:=ra.oB g;exact .inr (.inl ⟨a,xs,i,v,rfl,hq.int,ha.sq,hv,k _ H (aV.refl _) rv⟩)
  |_=>cases h
 | str z=>
  cases q with
  |int i=>
   obtain⟨c,h⟩:=aK h;obtain⟨p,g,h⟩:=aE h;cases h;exact .inr (.inr (.inl ⟨z,i,p,hp.str,hq.int,ir (gT c),g,k _ H (aV.refl _) (Rep.str _)⟩))
  |_=>cases h
 | a9 kvs=>
  have h:(bO (keyOf q) fun k=>bO (bY kvs k) fun q=>some (Bv.val q))=some b:=by cases q<;>exact h
  obtain⟨key,g,h⟩:=aE h;obtain⟨p,g2,h⟩:=aE h;cases h;obtain⟨a,ys,rfl,ha,e,r⟩:=hp.BB;rcases dF.val key ⟨e,r⟩with⟨h1,h2⟩|⟨p',v',h1,h2,h3⟩
  .rw[h1]at g2;cases g2
  .rw[h1]at g2;cases g2;exact .inr (.inr (.inr ⟨a,ys,key,v',rfl,ha,hq.key g,h2,k _ H (aV.refl _) h3⟩))
 |_=>cases q<;>cases h
noncomputable def wJ (xs:List PV) (lo hi:Option Int):List PV:=(xs.drop (HT.dG xs.length 0 lo)).take (HT.dG xs.length xs.length hi - HT.dG xs.length 0 lo)
theorem bC.cut (r:bC K Z H ps xs) (lo hi:Option Int):bC K Z H (wJ ps lo hi) (u4 xs lo hi):=by
 unfold wJ u4;rw[<-r.length];exact(r.drop _).take _
def ZQ (K:Frag):V->Option Int->Option Int->Hp->VK->Prop:=fun x lo hi H Q=>∃a xs,x= .ref a/\TupAt K H a xs/\∀p H',aV H H'->TupAt K H' p (u4 xs lo hi)->Q (.ref p) H'
theorem abR (K:Frag) (hK:X.K=K:=by rfl):G1 X (ZQ K):=by
 subst hK;intro pins s σ H x v vl vu lo hi sl Q I rx hs pl pu h;obtain⟨a,xs,rfl,hx,q⟩:=h
 by_cases hw:HT.dG xs.length 0 lo=0/\HT.dG xs.length xs.length hi=xs.length
 .cases rx;obtain⟨its,r,ht,hz⟩:=I.tuple hx.sq;have hlen:its.toArray.size=xs.length:=by rw[cf];exact r.length.symm
  refine⟨"tuple",_,PyProof.Rows.slot_tuple_getitem.lookup,ht.typeIs,?_⟩;refine HT.qK ht hs pl pu (by rw[hlen];exact hw) ⟨.ref a,H,I,rfl,q a H (aV.refl _) ?_⟩;have e:u4 xs lo hi=xs:=by unfold u4;rw[hw.1,hw.2,gq,sub_zero,dq]
  rw[e];exact hx
 .exact UK pins s σ H (.ref a) v vl vu lo hi sl Q I rx hs pl pu ⟨a,xs,rfl,hx.sq,hw,fun p hp=>q p _ (aV.upd hp) (.inl aU)⟩
def NY (K:Frag):V->Option Int->Option Int->Hp->VK->Prop:=fun x lo hi H Q=>XO K x lo hi H Q\/ (ZQ K x lo hi H Q\/ (∃z,x= .str z/\z.length<=sizeLine/\Q (.str (Txt.slice z lo hi)) H))
theorem OX (K:Frag) (hK:X.K=K:=by rfl):G1 X (NY K):=G1.or (slL K hK) (G1.or (abR K hK) XW)
noncomputable def JJ:PV->Option Int->Option Int->Option Bv
 | .lst ps,lo,hi=>some (.new (.lst (wJ ps lo hi)))
 | .tup ps,lo,hi=>some (.val (.tup (wJ ps lo hi)))
 | .str z,lo,hi=>aZ (decide (z.length<1000000)) (some (.val (.str (Txt.slice z lo hi))))
 |_,_,_=>none
theorem TJ:ZH K (NY K) JJ:=by
 intro Z H x p lo hi b Q hp h k;cases p with
 |lst ps=>
  cases h;obtain⟨a,xs,rfl,ha,ra⟩:=hp.qS;exact .inl ⟨a,xs,rfl,ha.sq,fun l hl=>k _ _ (aV.upd hl) (MT hl (ra.cut lo hi))⟩
 |tup ps=>
  cases h;obtain⟨a,xs,rfl,ha,ra⟩:=hp.tup;exact .inr (.inl ⟨a,xs,rfl,ha,fun l H' s t=>k _ _ s (Rep.tup t ((ra.cut lo hi).aL (.same s)))⟩)
 |str z=>
  obtain⟨c,h⟩:=aK h;cases h;exact .inr (.inr ⟨z,hp.str,ir (gT c),k _ H (aV.refl _) (Rep.str _)⟩)
 |_=>cases h
theorem vY.one (h:vY K Z H [p] vs):∃v,vs=[v]/\Red K Z H p v:=by
 cases h with|cons h r=>cases r;exact⟨_,rfl,h⟩
theorem vY.two (h:vY K Z H [p,q] vs):∃v u,vs=[v,u]/\Red K Z H p v/\Red K Z H q u:=by
 cases h with|cons h r=>cases r with|cons h' r=>cases r;exact⟨_,_,rfl,h,h'⟩
noncomputable def l9:List PV->Option Bv
 |[.lst ps]=>some (.val (.int ps.length))
 |[.tup ps]=>some (.val (.int ps.length))
 |[.str z]=>aZ (decide (z.length<1000000)) (some (.val (.int z.length)))
 |_=>none
def S2 (K:Frag):List V->Hp->VK->Prop:=fun xs H Q=>(∃p ys,xs=[.ref p]/\(iW K H p ys\/ pK K H p ys)/\Q (.int ys.length) H)\/ ∃z,xs=[.str z]/\z.length<=sizeLine/\Q (.int z.length) H
theorem rW (K:Frag) (hK:X.K=K:=by rfl):cS X (.builtin "len") (S2 K):=by subst hK;exact cS.or zW yT
theorem LM:lL K (S2 K) l9:=by
 intro Z H vs ps b Q hp h k;unfold l9 at h;split at h
 .cases h;obtain⟨v,rfl,hv⟩:=hp.one;obtain⟨a,xs,rfl,ha,ra⟩:=hv.qS;exact .inl ⟨a,xs,rfl,.inl ha.sq,k _ H (aV.refl _) (by rw[ra.length];exact Rep.int _)⟩
 .cases h;obtain⟨v,rfl,hv⟩:=hp.one;obtain⟨a,xs,rfl,ha,ra⟩:=hv.tup;exact .inl ⟨a,xs,rfl,.inr ha.sq,k _ H (aV.refl _) (by rw[ra.length];exact Rep.int _)⟩
 .obtain⟨c,h⟩:=aK h;cases h;obtain⟨v,rfl,hv⟩:=hp.one;exact .inr ⟨_,by rw[hv.str],ir (gT c),k _ H (aV.refl _) (Rep.int _)⟩
 .cases h
noncomputable def iF:List PV->Option Bv
 |[.lst ps]=>some (.val (.tup ps))
 |[.tup ps]=>some (.val (.tup ps))
 |_=>none
def S8 (K:Frag):List V->Hp->VK->Prop:=fun xs H Q=>∃p ys,xs=[.ref p]/\((iW K H p ys/\∀l,H l=none->Q (.ref l) (upd H l (.tup ys)))\/ (pK K H p ys/\Q (.ref p) H))
theorem uD (K:Frag) (hK:X.K=K:=by rfl):cS X (.type "tuple") (S8 K):=by subst hK;exact wC
theorem F8:lL K (S8 K) iF:=by
 intro Z H vs ps b Q hp h k;unfold iF at h;split at h
 .cases h;obtain⟨v,rfl,hv⟩:=hp.one;obtain⟨a,xs,rfl,ha,ra⟩:=hv.qS;exact⟨a,xs,rfl,.inl ⟨ha.sq,fun l hl=>k _ _ (aV.upd hl) (Rep.tup (.inl aU) (ra.aL (.same (aV.upd hl))))⟩⟩
 .cases h;obtain⟨v,rfl,hv⟩:=hp.one;obtain⟨a,xs,rfl,ha,ra⟩:=hv.tup;exact⟨a,xs,rfl,.inr ⟨ha.sq,k _ H (aV.refl _) (Rep.tup ha ra)⟩⟩
 .cases h
noncomputable def FU:List PV->Option Bv
 |[.int i,.int j]=>some (.val (.int (if j>i then j else i)))
 |_=>none
theorem E6:lL K (fun xs H Q=>∃i j,xs=[.int i,.int j]/\Q (.int (if j>i then j else i)) H) FU:=by
 intro Z H vs ps b Q hp h k;unfold FU at h;split at h
 .cases h;obtain⟨v,u,rfl,hv,hu⟩:=hp.two;exact⟨_,_,by rw[hv.int,hu.int],k _ H (aV.refl _) (Rep.int _)⟩
 .cases h
noncomputable def FY:List PV->Option Bv
 |[.int i,.int j]=>some (.val (.int (if j<i then j else i)))
 |_=>none
theorem GF:lL K (fun xs H Q=>∃i j,xs=[.int i,.int j]/\Q (.int (if j<i then j else i)) H) FY:=by
 intro Z H vs ps b Q hp h k;unfold FY at h;split at h
 .cases h;obtain⟨v,u,rfl,hv,hu⟩:=hp.two;exact⟨_,_,by rw[hv.int,hu.int],k _ H (aV.refl _) (Rep.int _)⟩
 .cases h
noncomputable def EL:List PV->Option Bv
 |[.int i]=>some (.val (.int i))
 |[.bl k]=>some (.val (.int (if k then 1 else 0)))
 |_=>none
theorem EU:lL K (fun xs H Q=>(∃i,xs=[.int i]/\Q (.int i) H)\/ ∃k,xs=[.bl k]/\Q (.int (if k then 1 else 0)) H) EL:=by
 intro Z H vs ps b Q hp h k;unfold EL at h;split at h
 .cases h;obtain⟨v,rfl,hv⟩:=hp.one;exact .inl ⟨_,by rw[hv.int],k _ H (aV.refl _) (Rep.int _)⟩
 .cases h;obtain⟨v,rfl,hv⟩:=hp.one;exact .inr ⟨_,by rw[hv.bl],k _ H (aV.refl _) (Rep.int _)⟩
 .cases h
noncomputable def AA:List PV->Option Bv
 |[.int i]=>aZ (decide (i.natAbs.log2<1920)) (some (.val (.str (toString i))))
 |_=>none
theorem F9:lL K (fun xs H Q=>∃i,xs=[.int i]/\i.natAbs.log2<1920/\Q (.str (toString i)) H) AA:=by
 intro Z H vs ps b Q hp h k;unfold AA at h;split at h
 .obtain⟨c,h⟩:=aK h;cases h;obtain⟨v,rfl,hv⟩:=hp.one;exact⟨_,by rw[hv.int],ao c,k _ H (aV.refl _) (Rep.str _)⟩
 .cases h
noncomputable def u7:List PV->Option (List Str)
 |[]=>some []
 | .str x::ps=>bO (u7 ps) fun xs=>some (x::xs)
 |_=>none
theorem pO:∀{ps:List PV} {xs:List Str},u7 ps=some xs->ps=xs.map PV.str
 |[],xs,h=>by cases h;rfl
 | p::ps,xs,h=>by
  cases p with
  |str x=>
   obtain⟨ys,g,h⟩:=aE h;cases h;rw[pO g];rfl
  |_=>cases h
theorem nR (xs:List Str):u7 (xs.map PV.str)=some xs:=by
 induction xs with
 |nil=>rfl
 |cons x xs ih=>rw[cq,u7,ih];rfl
theorem bC.strs:∀{xs:List Str} {vs:List V},bC K Z H (xs.map PV.str) vs->vs=xs.map V.str
 |[],vs,h=>by cases h;rfl
 |x::xs,vs,h=>by cases h with|cons h r=>cases h;rw[bC.strs r];rfl
noncomputable def BM:PV->List PV->Option Bv
 | .str z,[.lst ps]=>bO (u7 ps) fun xs=>aZ (decide ((xs.map (·.length)).sum+xs.length*z.length<1000000)) (some (.val (.str (Txt.join z xs))))
 |_,_=>none
theorem GJ:VY K (rJoin K) BM:=by
 intro Z H x vs p ps b Q hp hps h k;unfold BM at h;split at h
 .obtain⟨xs,g,h⟩:=aE h;obtain⟨c,h⟩:=aK h;cases h;obtain⟨v,rfl,hv⟩:=hps.one;obtain⟨a,ys,rfl,ha,ra⟩:=hv.qS;rw[pO g]at ra;rw[ra.strs]at ha;refine⟨_,a,xs,hp.str,rfl,ha.sq,?_,k _ H (aV.refl _) (Rep.str _)⟩;have:=ao c;omega
 .cases h
noncomputable def fY:PV->Option (List PV)
 | .lst ps=>some ps
 | .tup ps=>some ps
 | .str z=>some (z.cps.toList.map fun c=>.str ⟨#[c]⟩)
 |_=>none
noncomputable def zA (f:FE):FI:=fun st e=>bE (f e) fun b e1=>match b with
 | .slot i=>match e1[i]? with
  |some (some (.bor p))=>bO (fY p) fun ps=>some (ps,e1)
  |some (some (.own p))=>aZ (st i) (bO (fY p) fun ps=>some (ps,e1))
  |some (some (.loc p))=>aZ (st i) (bO (fY p) fun ps=>some (ps,e1))
  |_=>none
 | .val p=>bO (fY p) fun ps=>some (ps,e1)
 | .new p=>bO (fY p) fun ps=>some (ps,e1)
def V6 (K:Frag) (tl:TE):TI:=fun σ H R=>tl σ H fun x H1=>(∃a,x= .ref a/\(∃xs,iW K H1 a xs)/\R (Itl K a) H1)\/ ((∃a,x= .ref a/\(∃xs,pK K H1 a xs)/\R (Itt K a) H1)\/ ∃z,x= .str z/\R (X9 z) H1)
theorem cT (K:Frag) {tg l:Expr} {tl:TE} (hl:PE X l tl) (hK:X.K=K:=by rfl):PI X tg l (V6 K tl):=by
 subst hK;intro pins s σ H R I h;refine cD (hl pins s σ H _ I h) fun v s1 ⟨x,H1,I1,r1,q1⟩=>?_
 rcases q1 with⟨a,e,⟨xs,hq⟩,q⟩|⟨a,e,⟨xs,hq⟩,q⟩|⟨z,e,q⟩
 .subst e;cases r1;obtain⟨its,rv,p,hz⟩:=I1.list hq;refine wpAny_pyIter_list p.isList ?_;refine⟨s1.heap.objs.size,[s1.heap.objs.size],_,_,H1,rfl,I1.kept (t':=s1.toks) fun b o e=>au _ e,HC a _,⟨_,dc _ rfl,rfl,rfl⟩,fun b hb=>?_,q⟩;have e:b=s1.heap.objs.size:=by simpa using hb
  subst e;exact I1.wI (bj _) (I1.bS.fresh (bj _))
 .subst e;cases r1;obtain⟨its,rv,p,hz⟩:=I1.tuple hq;refine wpAny_pyIter_tuple (show s1.heap.IsTuple a its.toArray from p) ?_;refine⟨s1.heap.objs.size,[s1.heap.objs.size],_,_,H1,rfl,I1.kept (t':=s1.toks) fun b o e=>au _ e,CV a _,⟨_,dc _ rfl,rfl,rfl⟩,fun b hb=>?_,q⟩;have e:b=s1.heap.objs.size:=by simpa using hb
  subst e;exact I1.wI (bj _) (I1.bS.fresh (bj _))
 .subst e;obtain⟨t,rfl⟩:=r1;cases ha:z.cps.all (·<128)with
  |true=>
   refine wpAny_pyIter_ascii ha ?_;refine⟨s1.heap.objs.size,[s1.heap.objs.size],_,_,H1,rfl,I1.kept (t':=s1.toks) fun b o e=>au _ e,IY z t _,⟨_,dc _ rfl,rfl,rfl⟩,fun b hb=>?_,q⟩;have e:b=s1.heap.objs.size:=by simpa using hb
   subst e;exact I1.wI (bj _) (I1.bS.fresh (bj _))
  |false=>
   refine wpAny_pyIter_wide ha ?_;refine⟨s1.heap.objs.size,[s1.heap.objs.size],_,_,H1,rfl,I1.kept (t':=s1.toks) fun b o e=>au _ e,G6 z t _,⟨_,dc _ rfl,rfl,rfl⟩,fun b hb=>?_,q⟩;have e:b=s1.heap.objs.size:=by simpa using hb
   subst e;exact I1.wI (bj _) (I1.bS.fresh (bj _))
theorem yX {L':aJ} {H':Hp} (o:jB O M W L H) (hw:∀a,Wr a->aw W a\/ L a) (k1:∀a ob,H a=some ob->¬Wr a->H' a=some ob) (k2:∀a xs,H a=some (.tup xs)->H' a=some (.tup xs)) (k3:∀a,L' a->L a\/ H a=none):cO (aS M L) (aS M L') H H':=
 ⟨k2,fun a ob h n=>⟨k1 a ob h fun z=>n ((hw a z).elim (fun⟨i,w⟩=>.inl (o.wm i a w)) .inr),fun z=>z.elim (fun z=>n (.inl z)) fun z=>(k3 a z).elim (fun z=>n (.inr z)) fun z=>by rw[h]at z;cases z⟩⟩
theorem pN (o:jB O M W L H) (hw:∀a,Wr a->aw W a\/ L a) (ha:(Rd H a (.lst xs)/\¬Wr a)\/ XJ K a xs) (r:bC K (aS M L) H ps xs):NG K M L Wr H (Itl K a) ps:=by
 intro L' H' k1 k2 k3;have st:=yX o hw k1 k2 k3;have sq:iW K H' a xs:=by
  rcases ha with⟨h|⟨u,h⟩,n⟩|h
  .exact .inl (.inl (k1 _ _ h n))
  .exact .inl (.inr ⟨u,k1 _ _ h n⟩)
  .exact .inr h
 refine⟨fun k p hp=>?_,xs,sq,by rw[r.length];exact bj _⟩;obtain⟨v,hv,rv⟩:=r.get hp;refine⟨⟨xs,v,sq,hv⟩,fun x H3 y=>?_⟩;obtain⟨e,y⟩:=y;subst e;have:=y xs sq;rw[hv]at this;cases this;exact⟨aV.refl _,rv.aL st⟩
theorem UA (o:jB O M W L H) (hw:∀a,Wr a->aw W a\/ L a) (ha:TupAt K H a xs) (r:bC K (aS M L) H ps xs):NG K M L Wr H (Itt K a) ps:=by
 intro L' H' k1 k2 k3;have st:=yX o hw k1 k2 k3;have sq:pK K H' a xs:=TupAt.sq (ha.elim (fun h=>.inl (k2 _ _ h)) .inr);refine⟨fun k p hp=>?_,xs,sq,by rw[r.length];exact bj _⟩;obtain⟨v,hv,rv⟩:=r.get hp;refine⟨⟨xs,v,sq,hv⟩,fun x H3 y=>?_⟩;obtain⟨e,y⟩:=y;subst e;have:=y xs sq;rw[hv]at this;cases this;exact⟨aV.refl _,rv.aL st⟩
theorem V7 {z:Str}:NG K M L Wr H (X9 z) (z.cps.toList.map fun c=>.str ⟨#[c]⟩):=by
 intro L' H' k1 k2 k3;refine⟨fun k p hp=>?_,by simp[X9]⟩;rw[az]at hp;cases c:z.cps.toList[k]? with
 |none=>rw[c]at hp;cases hp
 |some d=>
  rw[c]at hp;cases hp;have hk:k<z.cps.size:=by simpa using(ae.mp c).1
  refine⟨hk,fun x H3 y=>?_⟩;obtain⟨e,d',h1,h2⟩:=y;subst e h2;rw[<-getElem?_toList,c]at h1;cases h1;exact⟨aV.refl _,.str _⟩
theorem XR (h:Ref K t f):wD K (V6 K t) (zA f):=by
 intro st O M W L σ H e e' ps R o he hf q;obtain⟨x,e1,f1,hf⟩:=aM hf;refine h O M W L σ H e e1 x _ o he f1 fun v H1 k1 rb fr=>?_
 have o1:=o.keep k1.b7;have en:=rb.en o1;have vals:∀p,Rep K (aS M L) H1 p v->fY p=some ps->e1=e'->(∃a,v= .ref a/\(∃xs,iW K H1 a xs)/\R (Itl K a) H1)\/ ((∃a,v= .ref a/\(∃xs,pK K H1 a xs)/\R (Itt K a) H1)\/ ∃z,v= .str z/\R (X9 z) H1):=fun p hp hi ee=>by
  subst ee;cases hp with
  |lst ha n r=>
   cases hi;exact .inl ⟨_,rfl,⟨_,.inl ha⟩,q _ H1 k1 en fun Wr hw _=>pN o1 hw (.inl ⟨ha,fun z=>n ((hw _ z).elim (fun⟨i,w⟩=>.inl (o.wm i _ w)) .inr)⟩) r⟩
  |tup ha r=>
   cases hi;exact .inr (.inl ⟨_,rfl,⟨_,ha.sq⟩,q _ H1 k1 en fun Wr hw _=>UA o1 hw ha r⟩)
  |str z=>
   cases hi;exact .inr (.inr ⟨z,rfl,q _ H1 k1 en fun Wr hw _=>V7⟩)
  |_=>cases hi
 cases x with
 |val p=>
  obtain⟨ps',g,hf⟩:=aE hf;cases hf;exact vals p rb.2 g rfl
 |new p=>
  obtain⟨ps',g,hf⟩:=aE hf;cases hf;exact vals p (rb.weak o1).2 g rfl
 | slot i=>
  dsimp only at hf;cases c:e1[i]? with
  |none=>rw[c]at hf;cases hf
  | some s=>
   cases s with
   |none=>rw[c]at hf;cases hf
   | some s=>
    rw[c]at hf;obtain⟨u,hu,sr⟩:=rb.1.at' i s c;have:=rb.2;rw[hu]at this;cases this;cases s with
    |val p=>cases hf
    |bor p=>
     obtain⟨ps',g,hf⟩:=aE hf;cases hf;obtain⟨a,rfl,lt⟩:=sr;cases lt with
     |lst ha od n m r=>cases g;exact .inl ⟨a,rfl,⟨_,.inl ha⟩,q _ H1 k1 en fun Wr hw _=>pN o1 hw (.inl ⟨ha,fun z=>(hw _ z).elim n m⟩) r⟩
     |eN ha r=>cases g;exact .inl ⟨a,rfl,⟨_,.inr ha⟩,q _ H1 k1 en fun Wr hw _=>pN o1 hw (.inr ha) r⟩
     |a9 ha od n m kk r=>cases g
    |own p=>
     obtain⟨hst,hf⟩:=aK hf;obtain⟨ps',g,hf⟩:=aE hf;cases hf;obtain⟨a,rfl,w,ct⟩:=sr;cases ct with
     |lst ha r=>cases g;exact .inl ⟨a,rfl,⟨_,iW.of ha⟩,q _ H1 k1 en fun Wr hw hs=>pN o1 hw (.inl ⟨.inl ha,hs i a _ hst c rfl hu⟩) r⟩
     |a9 ha kk r=>cases g
    |loc p=>
     obtain⟨hst,hf⟩:=aK hf;obtain⟨ps',g,hf⟩:=aE hf;cases hf;obtain⟨a,rfl,w,ct⟩:=sr;cases ct with
     |lst ha r=>cases g;exact .inl ⟨a,rfl,⟨_,iW.of ha⟩,q _ H1 k1 en fun Wr hw hs=>pN o1 hw (.inl ⟨.inl ha,hs i a _ hst c rfl hu⟩) r⟩
     |a9 ha kk r=>cases g
theorem KJ {lo:Int}:NG K M L Wr H (YD lo n) ((List.range n).map fun k:Nat=>.int (lo+(k:Int))):=by
 intro L' H' k1 k2 k3;refine⟨fun k p hp=>?_,by simp[YD]⟩;rw[az]at hp
 by_cases hk:k<n
 .rw[getElem?_range hk]at hp;cases hp;refine⟨hk,fun x H3 y=>?_⟩;obtain⟨e,y⟩:=y;subst e y;exact⟨aV.refl _,.int _⟩
 .rw[List.getElem?_eq_none (by simpa using hk)]at hp;cases hp
end
section
variable {K:Frag}
theorem RI {f:FN} {Q:VK} {E:XK} (hf:∀ns:List Int,ns.length<=63->f [.lst (ns.map PV.int)]=some (.bl true,[])) (h:AM K vs H Q E):YA K [.b] false f vs H Q E:=by
 obtain⟨a,ns,rfl,hS,hl,q⟩:=h;have rl:∀(Z:aJ) (ms:List Int),bC K Z H (ms.map PV.int) (ms.map V.int):=fun Z ms=>by
  induction ms with
  |nil=>exact .nil
  |cons m ms ih=>exact .cons (.int m) ih
 refine⟨cL,[.lst (ns.map PV.int)],.bl true,[],fun a z=>z.elim,rfl,rfl,fun i k p v h1 h2 h3=>?_,fun i j hij h1 h2=>?_,fun i a ⟨h1,_⟩=>?_,hf ns hl,fun v H' k r=>?_⟩
 .cases i with
  | zero=>
   cases h1;cases h2;cases h3;have nw:¬aw (pU [.b] [.ref a] H) a:=fun⟨i,h,_⟩=>by
    cases i with
    |zero=>cases h
    |succ i=>simp at h
   rcases hS with h|h
   .refine⟨a,rfl,.lst h ?_ nw (fun z=>z) (rl _ ns)⟩;rcases h with h|⟨u,h⟩
    .show H a≠none;rw[h];exact fun z=>nomatch z
    .show H a≠none;rw[h];exact fun z=>nomatch z
   .exact⟨a,rfl,.eN h (rl _ ns)⟩
  |succ i=>simp at h1
 .cases i with
  |zero=>cases h1
  |succ i=>simp at h1
 .cases i with
  |zero=>cases h1
  |succ i=>simp at h1
 .obtain⟨r,_⟩:=r;cases r;exact q H'
noncomputable def kdOf:PV->Option L2.Kd
 | .bH=>some .bH
 | .bl _=>some .bl
 | .int _=>some .int
 | .str _=>some .str
 | .lst _=>some .lst
 | .tup _=>some .tup
 | .a9 _=>some .a9
 | .ty _=>none
noncomputable def acJ (k:L2.Kd):String->Option Bool
 |"str"=>some (decide (k= .str))
 |"tuple"=>some (decide (k= .tup))
 |"int"=>some (decide (k= .int)||decide (k= .bl))
 |"bool"=>some (decide (k= .bl))
 |_=>none
noncomputable def WX:PV->Option Bool
 | .bH=>some false
 | .bl b=>some b
 | .int i=>some (i !=0)
 | .str y=>aZ (decide (y.length<1000000)) (some ((y.length:Int) !=0))
 | .lst ps=>some (!ps.isEmpty)
 | .tup ps=>some (!ps.isEmpty)
 |_=>none
noncomputable def O6 (f:FE):FT:=fun e=>bE (f e) fun b e1=>bO (b.weak.get e1) fun p=>bO (WX p) fun c=>some (c,e1)
theorem bC.empty (r:bC K Z H ps xs):ps.isEmpty=xs.isEmpty:=by cases r<;>rfl
theorem P6 (h:Ref K t f):mU K (fun σ H Q=>t σ H fun x H'=>∃k,QR K x H' k/\Q k H') (O6 f):=by
 intro O M W L σ H e e' b Q o he hf q;obtain⟨x,e1,f1,hf⟩:=aM hf;obtain⟨p,g1,hf⟩:=aE hf;obtain⟨c,g2,hf⟩:=aE hf;cases hf;refine h O M W L σ H e _ _ _ o he f1 fun v1 H1 k1 r1 fr=>?_
 have o1:=o.keep k1.b7;have en:=r1.en o1;have rd:=(r1.rv o1).red en g1;refine⟨b,?_,q H1 k1 en⟩;cases p with
 |bH=>cases g2;rw[rd.bH];rfl
 |bl y=>cases g2;rw[rd.bl];rfl
 |int y=>cases g2;rw[rd.int];rfl
 |str y=>obtain⟨c,g2⟩:=aK g2;cases g2;rw[rd.str];exact⟨ir (gT c),rfl⟩
 |lst ps=>cases g2;obtain⟨a,xs,rfl,ha,ra⟩:=rd.qS;exact .inl ⟨xs,ha.sq,by rw[ra.empty]⟩
 |tup ps=>cases g2;obtain⟨a,xs,rfl,ha,ra⟩:=rd.tup;exact .inr (.inl ⟨xs,ha.sq,by rw[ra.empty]⟩)
 |ty y=>cases g2
 |a9 y=>cases g2
end
theorem xK (K:Frag) {a:Expr} {ta:TE} (ha:PE X a ta) (he:∀whole,isTrue a X.env whole=(do let v<-whole;standAt a.pos;holding [v] (truthy v))) (hK:X.K=K:=by rfl):
  PT X a (fun σ H Q=>ta σ H fun x H'=>∃k,QR K x H' k/\Q k H'):=by subst hK;exact L0 ha he
theorem HF {K:Frag} {wi:TI} {g:TG} {tt:TT} {te:TE} {fi:FI} {cap:List Nat} (ms:List (Nat×Nat)) {fg:FG} {ft:FT} {fe:FE} (hms:(ms.all fun z=>ms.all fun z'=>(z.1==z'.1)==(z.2==z'.2))=true) (hi:wD K wi fi) (hg:zD K g fg) (ht:mU K tt ft) (he:Ref K te fe):Ref K (wW wi k cap g tt te) (iB fi k cap ms fg ft fe):=by
 have key:∀z∈ms,∀z'∈ms,(z.1==z'.1)=(z.2==z'.2):=fun z hz z' hz'=>by
  have:=bb.mp (bb.mp hms z hz) z' hz';simpa using this
 refine L6 ms (fun i j1 j2 h1 h2=>?_) (fun i1 i2 j h1 h2=>?_) hi hg ht he
 .have:=key _ h1 _ h2;simpa using this
 .have:=key _ h1 _ h2;simpa using this
theorem XA (i:Nat) (e:En):aC i e=(match e[i]? with
 |some (some (.val p))=>some (.val p,e)
 |some (some _)=>some (.slot i,e)
 |_=>none):=rfl
theorem abJ (p:PV) (e:En):fC p e=some (.val p,e):=rfl
theorem Y2 (g:PV->PV->Option Bv) (fa fb:FE) (e:En):bA g fa fb e=bE (fa e) fun x e1=>bE (fb e1) fun y e2=>bO (x.weak.get e2) fun p=>bO (y.weak.get e2) fun q=>bO (g p q) fun b=>some (b,e2):=rfl
theorem YY (g:PV->Option Bv) (fa:FE) (e:En):fUn g fa e=bE (fa e) fun x e1=>bO (x.weak.get e1) fun p=>bO (g p) fun b=>some (b,e1):=rfl
theorem VS (e:En):aN e=some ([],e):=rfl
theorem P5 (fa:FE) (fr:FA) (e:En):aB fa fr e=bE (fa e) fun x e1=>bE (fr e1) fun xs e2=>some (x.weak::xs,e2):=rfl
theorem Y7 (g:List PV->Option Bv) (fa:FA) (e:En):gZ g fa e=bE (fa e) fun xs e1=>bO (getL e1 xs) fun ps=>bO (g ps) fun b=>some (b,e1):=rfl
theorem YO (g:PV->List PV->Option Bv) (fo:FE) (fa:FA) (e:En):fBM g fo fa e=(bE (fo e) fun x e0=>match x with
 | .val (.str z)=>bE (fa e0) fun xs e1=>bO (getL e1 xs) fun ps=>bO (g (.str z) ps) fun b=>some (b,e1)
 |_=>none):=rfl
theorem WR (fa:FA) (e:En):dN fa e=bE (fa e) fun xs e1=>bO (putL xs) fun ps=>aZ (decide (ps.length<1000000)) (some (.val (.tup ps),e1)):=rfl
theorem WT (fa:FA) (e:En):gB fa e=bE (fa e) fun xs e1=>bO (putL xs) fun ps=>aZ (decide (ps.length<1000000)) (some (.new (.lst ps),e1)):=rfl
theorem O8 (f:FE) (e:En):bX f e=(bE (f e) fun b e1=>match b with
 | .val (.bl c)=>some (c,e1)
 |_=>none):=rfl
theorem UL (f g:FT) (e:En):EG f g e=bE (f e) fun b e1=>bB b (g e1) (some (false,e1)):=rfl
theorem XS (f:FT) (e:En):OO f e=bE (f e) fun b e1=>some (!b,e1):=rfl
theorem RZ (e:En):iI e=some (true,e):=rfl
theorem ZP (fc:FT) (fa fb:FE) (e:En):TB fc fa fb e=bE (fc e) fun b e1=>bB b (fa e1) (fb e1):=rfl
theorem G5 (e:En):eW e=some (none,e):=rfl
theorem R7 (f:FE) (e:En):jM f e=(bE (f e) fun b e1=>match b with
 | .val (.int i)=>some (some i,e1)
 |_=>none):=rfl
theorem Y5 (g:PV->Option Int->Option Int->Option Bv) (fa:FE) (fl fh:FO) (e:En):JM g fa fl fh e=bE (fa e) fun x e1=>bE (fl e1) fun lo e2=>bE (fh e2) fun hi e3=>bO (x.weak.get e3) fun p=>bO (g p lo hi) fun b=>some (b,e3):=rfl
theorem RT (e:En):dY e=some (.nx e):=rfl
theorem XY (f:FE) (e:En):c9 f e=bE (f e) fun b e1=>some (.rt b e1):=rfl
theorem Y6 (fc:FT) (f g:FS) (e:En):wG fc f g e=bE (fc e) fun b e1=>bB b (f e1) (g e1):=rfl
theorem U9 (i:Nat) (f:FE) (e:En):cK i f e=(bE (f e) fun b e1=>match b with
 | .val p=>some (.nx (e1.set i (some (.val p))))
 | .new p=>some (.nx (e1.set i (some (.val p))))
 | .slot j=>match e1[j]? with
  |some (some (.bor p))=>some (.nx (e1.set i (some (.bor p))))
  |_=>none):=rfl
theorem PY (i:Nat) (f:FE) (e:En):eJ i f e=(bE (f e) fun b e1=>match b with
 | .new p=>some (.nx (e1.set i (some (.loc p))))
 |_=>none):=rfl
theorem WQ (i:Nat) (f:FS) (e:En):QO i f e=bO (rel i e) f:=rfl
theorem U8 (i:Nat) (f:FE) (e:En):rS i f e=(bO (ownAt e i) fun p0=>match p0 with
 | .lst _=>bE (f e) fun b e1=>bO b.put fun p=>match ownAt e1 i with
  |some (.lst ps)=>aZ (decide (ps.length<1000000)) (some (.nx (b9 e1 i (.lst (ps++[p])))))
  |_=>none
 |_=>none):=rfl
theorem MD (i:Nat) (fi fv:FE) (e:En):uK i fi fv e=(bE (fv e) fun b e1=>bO b.put fun p=>bO (ownAt e1 i) fun _=>bE (fi e1) fun k e2=>match k with
 | .val (.int k)=>match ownAt e2 i with
  |some (.lst ps)=>bO (uC ps.length k) fun j=>some (.nx (b9 e2 i (.lst (ps.set j p))))
  |_=>none
 |_=>none):=rfl
theorem RR (i:Nat) (fk fv:FE) (e:En):iL i fk fv e=(bE (fv e) fun b e1=>bO b.put fun p=>bO (ownAt e1 i) fun _=>bE (fk e1) fun k e2=>bO (k.weak.get e2) fun kp=>bO (keyOf kp) fun key=>match ownAt e2 i with
  |some (.a9 kvs)=>aZ (decide (kvs.length<1000000)) (some (.nx (b9 e2 i (.a9 (e8 kvs key p)))))
  |_=>none):=rfl
theorem J5 (i:Nat) (p:PV) (e:En):a6 i p e=some (e.set i (some (.val p))):=rfl
theorem QS (ps:List PV) (e:En):n6 ps e=match ps with|[]=>some e|_=>none:=rfl
theorem L8 (f:FG) (g:JK) (ps:List PV) (e:En):cM f g ps e=match ps with|p::ps=>bO (f p e) (g ps)|[]=>none:=rfl
theorem QT (n:Nat) (f:JK) (p:PV) (e:En):oF n f p e=(match p with
 | .tup ps=>aZ (decide (ps.length=n)) (f ps e)
 |_=>none):=rfl
theorem X4 (f:FE) (fg:FG) (e:En):W9 f fg e=bE (f e) fun b e1=>bO b.put fun p=>bO (fg p e1) fun e2=>some (.nx e2):=rfl
theorem X3 (i j:Nat) (fa:FA) (e:En):OW i j fa e=(bE (fa e) fun bs e1=>bO (putL bs) fun ps=>match ps with
 |[p,q]=>some (.nx ((e1.set i (some (.val p))).set j (some (.val q))))
 |_=>none):=rfl
theorem ZL (f:FE) (st:Nat->Bool) (e:En):zA f st e=(bE (f e) fun b e1=>match b with
 | .slot i=>match e1[i]? with
  |some (some (.bor p))=>bO (fY p) fun ps=>some (ps,e1)
  |some (some (.own p))=>aZ (st i) (bO (fY p) fun ps=>some (ps,e1))
  |some (some (.loc p))=>aZ (st i) (bO (fY p) fun ps=>some (ps,e1))
  |_=>none
 | .val p=>bO (fY p) fun ps=>some (ps,e1)
 | .new p=>bO (fY p) fun ps=>some (ps,e1)):=rfl
theorem VE (f:FE) (e:En):O6 f e=bE (f e) fun b e1=>bO (b.weak.get e1) fun p=>bO (WX p) fun c=>some (c,e1):=rfl
theorem P9 (e:En):vL e=some (.new (.a9 []),e):=rfl
end Mr
namespace L2
open PySem PySem.Spec PyProof.Rows
variable {a:Expr} {p pos:Pos} {ta:TA}
noncomputable def Z0 (K:Frag) (a:Addr):It:=
 ⟨fun i H=>∃xs x,iW K H a xs/\xs[i]? =some x,fun i H v H'=>∃t,H t=none/\v= .ref t/\∀xs,iW K H a xs->∃x,xs[i]? =some x/\H'=upd H t (.tup [.int i,x]),fun i H=>∃xs,iW K H a xs/\xs.length=i⟩
theorem DN {P:Program} {w:World} {K:Frag} {elts:List Expr} {x1} (a it e:Addr) (hei:e≠it):Turn P w K (.Tuple elts x1 pos) (Z0 K a) [e,it] e (fun i h=>(∃old,IsEnum h e it i old)/\h.IsListIter it a i)where
 mem:=by simp
 obj:=fun i h st b hb=>by
  obtain⟨⟨old,he⟩,o,ho,c,d⟩:=st;rcases br.mp hb with z|z
  .subst z;exact⟨_,he,fun v z=>by cases z⟩
  .have z:b=it:=by simpa using z
   subst z;exact⟨o,ho,fun v z=>by rw[d]at z;cases z⟩
 keep:=fun i h h' st k=>⟨let⟨old,he⟩:=st.1;⟨old,k e (by simp) _ he⟩,st.2.at fun o q=>k it (by simp) o q⟩
 item:=by
  intro X hP hw hK hc i pins s σ H E I hf st hg;subst hP hw hK;obtain⟨xs,x,hq,hx⟩:=hg;obtain⟨its,rv,p,hz⟩:=I.list hq;obtain⟨u,hu,ru⟩:=rv.get hx;obtain⟨⟨old,he⟩,ht⟩:=st;have hne:a≠it:=fun z=>by
   obtain⟨o,ho,c,_⟩:=ht;obtain⟨o',_,ho',c',_,_⟩:=p;subst z;rw[ho]at ho';cases ho'
   rw[c]at c';exact absurd (Value.type.inj c') (by decide)
  have hae:a≠e:=fun z=>by
   obtain⟨o',_,ho',c',_,_⟩:=p;subst z;rw[he]at ho';cases ho'
   exact absurd (Value.type.inj c') (by decide)
  have hlt:i<its.toArray.size:=by have:=(ae.mp hu).1;simpa using this
  refine wpAny_pyNext_enum_itemD (Draws.list (A:=X.A.in1) (by exact I.ok.hd hc) it a hne its.toArray) he ⟨ht,p.isList⟩ hlt hei (by simp[hei,Ne.symm hae]) fun v h' tk hPv ho' st' htup hsz hk=>?_
  have ev:v=u:=by
   have h1:its[i]? =some v:=by simpa using hPv
   rw[hu]at h1;exact(Option.some.inj h1).symm
  subst ev;refine⟨_,rfl,wpAny_letOwnedTupleGo_enum (s:={s with heap:=h',toks:=tk+1}) ho' fun h2 he2 sb=>?_⟩;have hTe:s.heap.objs.size≠e:=fun z=>by
   have:=cv he;rw[<-z]at this;exact lj _ this
  have hTi:s.heap.objs.size≠it:=fun z=>by
   obtain⟨o,ho,_⟩:=ht;have:=cv ho;rw[<-z]at this;exact lj _ this
  have hk2:∀b o,b∉[e,it]->s.heap.get? b=some o->h2.get? b=some o:=fun b o hb q=>
   sb.extBut b o (fun z=>hb (by simp[z])) (hk b o (fun z=>hb (by simp[z])) (fun z=>hb (by simp[z])) q)
  have I1:Inv X pins σ H {s with heap:=h2,toks:=tk+1}:=I.FF hk2 hf;have hfr:H s.heap.objs.size=none:=I.bS.fresh (bj _);have htup2:h2.get? s.heap.objs.size=some {cls:=.type "tuple",data:=.seq #[.int i tk,v]}:=sb.extBut _ _ hTe htup;have I2:Inv X pins σ (upd H s.heap.objs.size (.tup [.int i,x])) {s with heap:=h2,toks:=tk+1}:=by
   refine I.un2 hk2 hf hfr (by simp[hTe,hTi]) ⟨by show 2<=sizeLine;decide,[.int i tk,v],.cons ⟨_,rfl⟩ (.cons ru .nil),tE.of htup2⟩ (fun b hb o q=>?_);rcases br.mp hb with r|r
   .subst r;exact⟨_,he2⟩
   .have r:b=it:=by simpa using r
    subst r;obtain⟨o',ho',_⟩:=st'.1.extBut sb.extBut (Ne.symm hei);exact⟨o',ho'⟩
  refine⟨.ref s.heap.objs.size,_,I2,rfl,⟨s.heap.objs.size,hfr,rfl,fun ys hy=>⟨x,by rw[I.AE hy hq];exact hx,rfl⟩⟩,⟨⟨_,he2⟩,st'.1.extBut sb.extBut (Ne.symm hei)⟩,fun b hb=>?_⟩;have hbT:b≠s.heap.objs.size:=fun z=>by
   rcases br.mp hb with r|r
   .exact hTe (z▸r)
   .have r:b=it:=by simpa using r
    exact hTi (z▸r)
  rw[aQ hbT];exact(hf b hb).1
 done:=by
  intro X hP hw hK hc i pins s σ H E I hf st hg;subst hP hw hK;obtain⟨xs,hq,hx⟩:=hg;obtain⟨its,rv,p,hz⟩:=I.list hq;obtain⟨⟨old,he⟩,ht⟩:=st;have hl:=rv.length;have hne:a≠it:=fun z=>by
   obtain⟨o,ho,c,_⟩:=ht;obtain⟨o',_,ho',c',_,_⟩:=p;subst z;rw[ho]at ho';cases ho'
   rw[c]at c';exact absurd (Value.type.inj c') (by decide)
  have ei:(i:Nat)=its.toArray.size:=by simp;omega
  subst ei;obtain⟨f0,f1,f2,f3,f4,f5⟩:=hf it (by simp);exact wpAny_pyNext_enum_endD (Draws.list (A:=X.A.in1) (by exact I.ok.hd hc) it a hne its.toArray) he ⟨ht,p.isList⟩ fun h' eb=>⟨rfl,I.turned (t':=s.toks) (fun b o hb e=>eb b o hb e) f0 f1 f3 f4 f5⟩
 self:=fun _ _ _ _ _ st h=>let⟨_,he⟩:=st.1;wpAny_pyIter_enum he h
section
variable {X:Cx} {elts:List Expr} {x1:Nat} {tpos:Pos}
def yU (K:Frag) (ta:TA):TI:=fun σ H R=>ta σ H fun vs H1=>(∃a xs,vs=[.ref a]/\pK K H1 a xs/\R (Ite K a) H1)\/ ∃a xs,vs=[.ref a]/\iW K H1 a xs/\R (Z0 K a) H1
theorem LX (hg:Gl X "enumerate") (hm:X.mg "enumerate"=none) (ha:PA X [a] ta) (hs:starEach [a] X.env=[(false,eval a X.env)]:=by rfl):PI X (.Tuple elts x1 tpos) (.Call (.Name "enumerate" p) [a] [] pos) (yU X.K ta):=by
 intro pins s σ H R I h;refine Call_ (vF I hg hm y7 (ju (cD (ha pos pins s σ H _ I h) fun us s1 ⟨vs,H1,I1,r1,q1⟩=>?_) hs rfl));rcases q1 with⟨t,xs,e,hq,q⟩|⟨t,xs,e,hq,q⟩
 .subst e;obtain⟨u,rfl,rx⟩:=vals1 r1;cases rx;obtain⟨its,rv,pt,hz⟩:=I1.tuple hq;refine hJ (show s1.heap.IsTuple t its.toArray from pt) fun h' he ht hsz hk=>?_
  have I2:Inv X pins σ H1 {s1 with heap:=h'}:=I1.kept (t':=s1.toks) hk;refine wpAny_pyIter_enum (s:={s1 with heap:=h'}) he ?_;refine⟨s1.heap.objs.size+1,[s1.heap.objs.size+1,s1.heap.objs.size],_,_,H1,rfl,I2,DI t s1.heap.objs.size (s1.heap.objs.size+1) (Nat.succ_ne_self _),⟨⟨_,he⟩,ht⟩,fun b hb=>?_,q⟩;rcases br.mp hb with r|r
  .subst r;exact I1.wI (jf _) (I1.bS.fresh (jf _))
  .have r:b=s1.heap.objs.size:=by simpa using r
   subst r;exact I1.wI (bj _) (I1.bS.fresh (bj _))
 .subst e;obtain⟨u,rfl,rx⟩:=vals1 r1;cases rx;obtain⟨its,rv,pt,hz⟩:=I1.list hq;refine call_enumerate_list pt.isList fun h' he ht hsz hk=>?_
  have I2:Inv X pins σ H1 {s1 with heap:=h'}:=I1.kept (t':=s1.toks) hk;refine wpAny_pyIter_enum (s:={s1 with heap:=h'}) he ?_;refine⟨s1.heap.objs.size+1,[s1.heap.objs.size+1,s1.heap.objs.size],_,_,H1,rfl,I2,DN t s1.heap.objs.size (s1.heap.objs.size+1) (Nat.succ_ne_self _),⟨⟨_,he⟩,ht⟩,fun b hb=>?_,q⟩;rcases br.mp hb with r|r
  .subst r;exact I1.wI (jf _) (I1.bS.fresh (jf _))
  .have r:b=s1.heap.objs.size:=by simpa using r
   subst r;exact I1.wI (bj _) (I1.bS.fresh (bj _))
theorem GQ (K:Frag) (hg:Gl X "enumerate") (hm:X.mg "enumerate"=none) (ha:PA X [a] ta) (h:X.K=K:=by rfl) (hs:starEach [a] X.env=[(false,eval a X.env)]:=by rfl):
  PI X (.Tuple elts x1 tpos) (.Call (.Name "enumerate" p) [a] [] pos) (yU K ta):=h▸LX hg hm ha hs
end
end L2
namespace Mr
open PySem PySem.Spec L2 PyProof.Rows
variable {fa:FA} {a b:Str}
section
variable {K:Frag}
noncomputable def N7 (fa:FA):FI:=fun _ e=>bE (fa e) fun bs e1=>match bs with
 |[.val (.tup ps)]=>some (ps.zipIdx.map fun z=>.tup [.int (z.2:Int),z.1],e1)
 |[.val (.lst ps)]=>some (ps.zipIdx.map fun z=>.tup [.int (z.2:Int),z.1],e1)
 |_=>none
theorem K2 {ta:TA} (h:qZ K ta fa):wD K (yU K ta) (N7 fa):=by
 intro st O M W L σ H e e' ps R o he hf q;obtain⟨x,e1,f1,hf⟩:=aM hf;refine h O M W L σ H e e1 x _ o he f1 fun vs H1 k1 en rv=>?_
 have o1:=o.keep k1.b7;split at hf
 .rename_i ps0;cases hf;cases rv with
  | cons h r=>
   cases r;cases h with
   | tup ha ra=>
    rename_i a xs;refine .inl ⟨a,xs,rfl,ha.sq,q _ H1 k1 en fun Wr hw _=>?_⟩;intro L' H' j1 j2 j3;have st:=yX o1 hw j1 j2 j3;have sq:pK K H' a xs:=TupAt.sq (ha.elim (fun h=>.inl (j2 _ _ h)) .inr);refine⟨fun k p hp=>?_,xs,sq,by rw[aj,km,ra.length]⟩;rw[az,ke]at hp;cases c:ps0[k]? with
    |none=>rw[c]at hp;cases hp
    |some p0=>
     rw[c]at hp;cases hp;obtain⟨v,hv,rv⟩:=ra.get c;refine⟨⟨xs,v,sq,hv⟩,fun x H3 y=>?_⟩;obtain⟨t,ht,rfl,y⟩:=y;obtain⟨x',hx',rfl⟩:=y xs sq;rw[hv]at hx';cases hx';refine⟨aV.upd ht,.tup (.inl aU) (.cons ?_ (.cons ((rv.aL st).aL (.same (aV.upd ht))) .nil))⟩;rw[fy];exact .int _
 .rename_i ps0;cases hf;cases rv with
  | cons h r=>
   cases r;cases h with
   | lst ha n ra=>
    rename_i a xs;refine .inr ⟨a,xs,rfl,.inl ha,q _ H1 k1 en fun Wr hw _=>?_⟩;intro L' H' j1 j2 j3;have st:=yX o1 hw j1 j2 j3;have nw:¬Wr a:=fun z=>n ((hw _ z).elim (fun⟨i,w⟩=>.inl (o.wm i _ w)) .inr)
    have sq:iW K H' a xs:=by
     rcases ha with h|⟨u,h⟩
     .exact .inl (.inl (j1 _ _ h nw))
     .exact .inl (.inr ⟨u,j1 _ _ h nw⟩)
    refine⟨fun k p hp=>?_,xs,sq,by rw[aj,km,ra.length]⟩;rw[az,ke]at hp;cases c:ps0[k]? with
    |none=>rw[c]at hp;cases hp
    |some p0=>
     rw[c]at hp;cases hp;obtain⟨v,hv,rv⟩:=ra.get c;refine⟨⟨xs,v,sq,hv⟩,fun x H3 y=>?_⟩;obtain⟨t,ht,rfl,y⟩:=y;obtain⟨x',hx',rfl⟩:=y xs sq;rw[hv]at hx';cases hx';refine⟨aV.upd ht,.tup (.inl aU) (.cons ?_ (.cons ((rv.aL st).aL (.same (aV.upd ht))) .nil))⟩;rw[fy];exact .int _
 .cases hf
theorem Q4 {st:Nat->Bool} {e:En}:N7 fa st e=bE (fa e) fun bs e1=>match bs with
 |[.val (.tup ps)]=>some (ps.zipIdx.map fun z=>.tup [.int (z.2:Int),z.1],e1)
 |[.val (.lst ps)]=>some (ps.zipIdx.map fun z=>.tup [.int (z.2:Int),z.1],e1)
 |_=>none:=rfl
end
section
variable {K:Frag}
def zX (a b:Str):Prop:=¬b.cps.toList<a.cps.toList
theorem xD {c:Str} (h:zX a b) (h':zX b c):zX a c:=not_lt.mpr (List.le_trans (not_lt.mp h) (not_lt.mp h'))
theorem LY {a b:Str} (h:zX a b) (h':zX b a):a=b:=by
 have:=List.le_antisymm (not_lt.mp h) (not_lt.mp h');exact Str.ext' (by cases a;cases b;simp at this;exact this)
theorem sF:∀{x:Str} {r:List Str},risingS x r=true->(x::r).Pairwise zX
 |x,[],_=>List.pairwise_singleton _ _
 | x,y::r,h=>by
  have h:(!ltCps y.cps.toList x.cps.toList && risingS y r)=true:=h;rw[bz]at h;have ih:=sF h.2;have hxy:zX x y:=by
   have:=h.1;rw[ltCps_eq]at this;simpa [zX]using this
  refine ik.mpr ⟨fun z hz=>?_,ih⟩;rcases br.mp hz with e|e
  .rw[e];exact hxy
  .exact xD hxy ((ik.mp ih).1 z e)
theorem CK {l:List Str} (h:sortedS l=true):l.Pairwise zX:=by
 cases l with
 |nil=>exact .nil
 |cons x r=>exact sF h
theorem mZ:∀{a b:List Str},a.Pairwise zX->b.Pairwise zX->a.Perm b->a=b
 |[],b,_,_,p=>(List.Perm.nil_eq p)
 |x::a,[],_,_,p=>absurd p.symm.nil_eq (by simp)
 | x::a,y::b,ha,hb,p=>by
  have hx:=(ik.mp ha).1;have hy:=(ik.mp hb).1;have e:x=y:=by
   rcases br.mp (p.mem_iff.mp bf)with z|z
   .exact z
   .rcases br.mp (p.mem_iff.mpr bf)with w|w
    .exact w.symm
    .exact LY (hx y w) (hy x z)
  subst e;rw[mZ (ik.mp ha).2 (ik.mp hb).2 p.cons_inv]
noncomputable def ZN (a b:Str):Bool:=!ltCps b.cps.toList a.cps.toList
theorem nS:ZN a b=true↔zX a b:=by
 unfold ZN zX;rw[ltCps_eq];simp
noncomputable def cI (ss:List Str):List Str:=ss.mergeSort ZN
theorem pR (ss:List Str):(cI ss).Pairwise zX:=by
 have:=List.pairwise_mergeSort (le:=ZN) (fun a b c h1 h2=>nS.mpr (xD (nS.mp h1) (nS.mp h2))) (fun a b=>by
  rw[Bool.or_eq_true,nS,nS]
  by_cases h:zX a b
  .exact .inl h
  .right;unfold zX at h⊢
   have h:=Classical.not_not.mp h;exact not_lt.mpr (List.le_of_lt h)) ss
 exact this.imp fun h=>nS.mp h
theorem dI (ss:List Str):(cI ss).Perm ss:=List.mergeSort_perm ss ZN
theorem z9 {ss out:List Str} (hp:out.Perm ss) (hs:sortedS out=true):cI ss=out:=mZ (pR ss) (CK hs) ((dI ss).trans hp.symm)
noncomputable def rN:List PV->Option Bv
 |[.lst ps]=>bO (u7 ps) fun ss=>aZ (decide (ss.length<64)) (some (.new (.lst ((cI ss).map PV.str))))
 |_=>none
theorem bC.ofStrs {Z:aJ} {H:Hp}:∀(ss:List Str),bC K Z H (ss.map PV.str) (ss.map V.str)
 |[]=>.nil
 |s::ss=>.cons (.str s) (bC.ofStrs ss)
theorem LO:lL K (DF K) rN:=by
 intro Z H vs ps b Q hp h k;unfold rN at h;split at h
 .obtain⟨ss,g,h⟩:=aE h;obtain⟨c,h⟩:=aK h;cases h;obtain⟨v,rfl,hv⟩:=hp.one;obtain⟨a,ys,rfl,ha,ra⟩:=hv.qS;rw[pO g]at ra;rw[ra.strs]at ha;refine⟨a,ss,rfl,ha.sq,ao c,fun l out h1 h2 hl=>?_⟩;rw[z9 h1 h2]at k;exact k _ _ (aV.upd hl) (MT hl (bC.ofStrs out))
 .cases h
end
end Mr
namespace Mr
open PySem L2
variable {Q:Bv×En->Prop} {e:En} {fg:FG} {fi:FI} {ft:FT} {ks:List Kd} {x y:List PV}
structure Mark {α:Type} (Q:α->Prop):Type where
def Wp {α:Type} (r:Option α) (Q:α->Prop) (u:Mark Q:=⟨⟩):Prop:=∃a,r=some a/\Q a
section
variable {α β:Type} {Q:β->Prop}
theorem abH:uC 1 0=some 0:=by decide
theorem abS:uC 2 0=some 0:=by decide
theorem abF:uC 2 1=some 1:=by decide
theorem acD:uC 3 0=some 0:=by decide
theorem acF:uC 3 1=some 1:=by decide
theorem acK:uC 3 2=some 2:=by decide
theorem ab3:uC 4 0=some 0:=by decide
theorem ab4:uC 4 1=some 1:=by decide
theorem acO:uC 4 2=some 2:=by decide
theorem aa9:uC 4 3=some 3:=by decide
theorem LI {a b c d:Nat}:(((a,b):Nat×Nat)==(c,d))=(a==c && b==d):=rfl
theorem YT {x:α} {xs:List α}:oB (x::xs) 0=some x:=eQ (j:=0) rfl
theorem at1 {x y:α} {xs:List α}:oB (x::y::xs) 1=some y:=eQ (j:=1) rfl
theorem at2 {x y z:α} {xs:List α}:oB (x::y::z::xs) 2=some z:=eQ (j:=2) rfl
theorem at3 {x y z w:α} {xs:List α}:oB (x::y::z::w::xs) 3=some w:=eQ (j:=3) rfl
theorem jZ {r:Option (α×En)} {k:α->En->Option β}:Wp (bE r k) Q↔Wp r fun z=>Wp (k z.1 z.2) Q:=by
 constructor
 .rintro⟨b,h,q⟩;obtain⟨a,e,h1,h2⟩:=aM h;exact⟨(a,e),h1,b,h2,q⟩
 .rintro⟨⟨a,e⟩,rfl,b,h2,q⟩;exact⟨b,h2,q⟩
theorem jY {r:Option α} {k:α->Option β}:Wp (bO r k) Q↔Wp r fun z=>Wp (k z) Q:=by
 constructor
 .rintro⟨b,h,q⟩;obtain⟨a,h1,h2⟩:=aE h;exact⟨a,h1,b,h2,q⟩
 .rintro⟨a,rfl,b,h2,q⟩;exact⟨b,h2,q⟩
theorem bP {b:β}:Wp (some b) Q↔Q b:=⟨fun⟨_,h,q⟩=>by cases h;exact q,fun q=>⟨b,rfl,q⟩⟩
theorem qI:Wp (none:Option β) Q↔False:=by
 constructor
 .rintro⟨_,h,_⟩;cases h
 .exact False.elim
theorem cP {c:Bool} {k:Option β}:Wp (aZ c k) Q↔c=true/\Wp k Q:=by
 constructor
 .rintro⟨b,h,q⟩;obtain⟨h1,h2⟩:=aK h;exact⟨h1,b,h2,q⟩
 .rintro⟨rfl,b,h,q⟩;exact⟨b,h,q⟩
theorem wp_seq {f g:FS} {e:En} {Q:Out->Prop}:Wp (aY f g e) Q↔Wp (f e) fun o=>match o with| .nx e1=>Wp (g e1) Q|o=>Q o:=by
 unfold aY;cases f e with
 |none=>simp[qI]
 |some o=>
  rw[bP];cases o<;>simp[bP]
theorem RC {c:Bool} {x y:Option β}:Wp (bB c x y) Q↔((c=true->Wp x Q)/\(c=false->Wp y Q)):=by
 cases c<;>simp[bB]
theorem ab8 {x y:β}:bB true x y=x:=rfl
theorem ab9 {x y:β}:bB false x y=y:=rfl
theorem Wp.mono {r:Option β} {Q Q':β->Prop} (h:Wp r Q) (k:∀b,Q b->Q' b):Wp r Q':=let⟨b,e,q⟩:=h;⟨b,e,k b q⟩
theorem Wp.eq {r:Option β} {b:β} (h:Wp r fun x=>x=b):r=some b:=let⟨_,e,q⟩:=h;q▸e
theorem N6 {r:Option β} {b:β} (h:r=some b) (q:Q b):Wp r Q:=⟨b,h,q⟩
end
theorem UI {nl:Nat} {fr:Bool} {g:FS} {ps:List PV} {Q:PV×List PV->Prop}:Wp (tG ks nl fr g ps) Q↔Wp (g (nX ks ps++List.replicate nl none)) fun o=>Wp (WK ks fr o) Q:=by
 unfold tG;exact jY
theorem wp_call {fr:Bool} {f:FN} {fa:FA}:Wp (bM ks fr f fa e) Q↔Wp (fa e) fun z=>Wp (GW z.2 ks z.1) fun ps=>
  (decide ((bW ks z.1).Nodup) && (oI ks z.1).all fun i=>!(bW ks z.1).contains i)=true/\Wp (f ps) fun rq=>Wp (mI (rq.2.map fun q=>some (.own q)) (bW ks z.1).zipIdx z.2) fun e2=>Q (resB rq.1 fr,e2):=by
 unfold bM;constructor
 .intro h;obtain⟨z,h1,h⟩:=jZ.mp h;obtain⟨ps,h2,h⟩:=jY.mp h;obtain⟨g,h⟩:=cP.mp h;obtain⟨rq,h3,h⟩:=jY.mp h;obtain⟨e2,h4,h⟩:=jY.mp h;exact⟨z,h1,ps,h2,g,rq,h3,e2,h4,bP.mp h⟩
 .rintro⟨z,h1,ps,h2,g,rq,h3,e2,h4,q⟩;exact jZ.mpr ⟨z,h1,jY.mpr ⟨ps,h2,cP.mpr ⟨g,jY.mpr ⟨rq,h3,jY.mpr ⟨e2,h4,bP.mpr q⟩⟩⟩⟩⟩
theorem dS {body:PV->En->Option Out} (I:Nat->En->Prop) {Q:Out->Prop} {xs:List PV} (hs:∀(i:Nat) x e,xs[i]? =some x->I i e->Wp (body x e) fun o=>match o with| .nx e1=>I (i+1) e1| .ct e1=>I (i+1) e1| .bk e1=>Q (.nx e1)| .rt b e1=>Q (.rt b e1))
  (hd:∀e,I xs.length e->Q (.nx e)) {e:En} (h0:I 0 e):Wp (oD body xs e) Q:=by
 have key:∀(ys:List PV) (i:Nat) (e:En),i<=xs.length->xs.drop i=ys->I i e->Wp (oD body ys e) Q:=by
  intro ys
  induction ys with
  | nil=>
   intro i e hil hy hi;unfold oD;rw[bP];have hl:xs.length<=i:=by
    have:=cn List.length hy;rw[dh]at this;simp at this;omega
   have h:i=xs.length:=by omega
   subst h;exact hd e hi
  | cons x ys ih=>
   intro i e hil hy hi;have hlt:i<xs.length:=by
    have:=cn List.length hy;rw[dh,length_cons]at this;omega
   rw[dg hlt]at hy;have hx:xs[i]? =some x:=by rw[ag hlt,(List.cons.inj hy).1]
   obtain⟨o,h1,h2⟩:=hs i x e hx hi;unfold oD;rw[h1];cases o with
   |nx e1=>exact ih (i+1) e1 hlt (List.cons.inj hy).2 h2
   |ct e1=>exact ih (i+1) e1 hlt (List.cons.inj hy).2 h2
   |bk e1=>exact bP.mpr h2
   |rt b e1=>exact bP.mpr h2
 exact key xs 0 e (eh _) rfl h0
theorem iN {fe:FE} (I:Nat->List PV->En->Prop) {Q:List PV×En->Prop} {xs:List PV} (hs:∀(i:Nat) x e acc,xs[i]? =some x->I i acc e->Wp (fg x e) fun e1=>Wp (ft e1) fun z=>match z.1 with|false=>I (i+1) acc z.2|true=>Wp (fe z.2) fun w=>Wp w.1.put fun p=>I (i+1) (acc++[p]) w.2)
  (hd:∀acc e,I xs.length acc e->Q (acc,e)) {e:En} (h0:I 0 [] e):Wp (oE fg ft fe xs e) Q:=by
 have key:∀(ys:List PV) (i:Nat) (acc:List PV) (e:En),i<=xs.length->xs.drop i=ys->I i acc e->∃rest e',oE fg ft fe ys e=some (rest,e')/\I xs.length (acc++rest) e':=by
  intro ys
  induction ys with
  | nil=>
   intro i acc e hil hy hi;have hl:xs.length<=i:=by
    have:=cn List.length hy;rw[dh]at this;simp at this;omega
   have h:i=xs.length:=by omega
   subst h;exact⟨[],e,rfl,by rw[gj];exact hi⟩
  | cons x ys ih=>
   intro i acc e hil hy hi;have hlt:i<xs.length:=by
    have:=cn List.length hy;rw[dh,length_cons]at this;omega
   rw[dg hlt]at hy;have hx:xs[i]? =some x:=by rw[ag hlt,(List.cons.inj hy).1]
   obtain⟨e1,h1,z,h2,h3⟩:=hs i x e acc hx hi;obtain⟨b,e2⟩:=z;unfold oE;rw[h1,sU,h2,AR];cases b with
   |false=>exact ih (i+1) acc e2 hlt (List.cons.inj hy).2 h3
   |true=>
    obtain⟨⟨r,e3⟩,h4,p,h5,h6⟩:=h3;dsimp only at h4 h5 h6⊢
    obtain⟨rest,e',h7,h8⟩:=ih (i+1) (acc++[p]) e3 hlt (List.cons.inj hy).2 h6;rw[h4,AR,h5,sU,h7,AR];exact⟨p::rest,e',rfl,by rw[de]at h8;exact h8⟩
 obtain⟨rest,e',h1,h2⟩:=key xs 0 [] e (eh _) rfl h0;exact⟨_,h1,hd _ _ h2⟩
theorem uM {fc:FT} {fb:FS} (I:En->Prop) (μ:En->Nat) {Q:Out->Prop} (hs:∀e,I e->Wp (fc e) fun z=>match z.1 with|false=>Q (.nx z.2)|true=>Wp (fb z.2) fun o=>match o with| .nx e1=>I e1/\μ e1<μ e| .ct e1=>I e1/\μ e1<μ e| .bk e1=>Q (.nx e1)| .rt b e1=>Q (.rt b e1)):
  ∀{n:Nat} {e:En},μ e<n->I e->Wp (mL fc fb n e) Q
 |0,e,h,_=>absurd h (Nat.not_lt_zero _)
 | n+1,e,h,hi=>by
  obtain⟨⟨b,e1⟩,h1,h2⟩:=hs e hi;unfold mL;rw[h1,AR];cases b with
  |false=>exact bP.mpr h2
  |true=>
   obtain⟨o,h3,h4⟩:=h2;dsimp only at h3⊢
   rw[h3];cases o with
   |nx e2=>exact uM I μ hs (by have:=h4.2;omega) h4.1
   |ct e2=>exact uM I μ hs (by have:=h4.2;omega) h4.1
   |bk e2=>exact bP.mpr h4
   |rt b e2=>exact bP.mpr h4
theorem J2 {k:Nat} {cap:List Nat} {ms:List (Nat×Nat)} {fe:FE}:Wp (iB fi k cap ms fg ft fe e) Q↔Wp (fi (fun i=>!(ms.any fun z=>z.1==i)) e) fun z=>z.1.length<1000000/\Wp (oE fg ft fe z.1 (tH k cap ms z.2)) fun w=>Wp (mI w.2 ms z.2) fun e2=>Q (.new (.lst w.1),e2):=by
 unfold iB;constructor
 .intro h;obtain⟨z,h1,h⟩:=jZ.mp h;obtain⟨g,h⟩:=cP.mp h;obtain⟨w,h2,h⟩:=jZ.mp h;obtain⟨e2,h3,h⟩:=jY.mp h;exact⟨z,h1,ao g,w,h2,e2,h3,bP.mp h⟩
 .rintro⟨z,h1,g,w,h2,e2,h3,q⟩;exact jZ.mpr ⟨z,h1,cP.mpr ⟨decide_eq_true g,jZ.mpr ⟨w,h2,jY.mpr ⟨e2,h3,bP.mpr q⟩⟩⟩⟩
theorem QH {fb:FS} {Q:Out->Prop}:Wp (nZ fi fg fb e) Q↔Wp (fi (fun _=>false) e) fun z=>Wp (oD (fun x e=>bO (fg x e) fb) z.1 z.2) Q:=by
 unfold nZ;rw[jZ]
theorem W0 {x:Int} {y:Int}:cA (PV.int x) (PV.int y)=(x==y):=by simp[cA]
theorem z5 {x:Str} {y:Str}:cA (PV.str x) (PV.str y)=(x==y):=by simp[cA]
theorem UD:cA (PV.tup x) (PV.tup y)=cZ x y:=by simp[cA]
theorem VC:cA (PV.lst x) (PV.lst y)=cZ x y:=by simp[cA]
end Mr
namespace Mr
open PySem PySem.Spec L2 PyProof.Rows
variable {fa fb:FE}
section
variable {K:Frag}
noncomputable def MN:PV->PV->Option Bv
 | .a9 kvs,p=>bO (keyOf p) fun k=>some (.val ((bY kvs k).getD .bH))
 |_,_=>none
noncomputable def EN (fa fb:FE):FE:=fun e=>bE (fa e) fun x e1=>bO (x.weak.get e1) fun p1=>match p1 with
 | .a9 _=>bE (fb e1) fun y e2=>bO (x.weak.get e2) fun p=>bO (y.weak.get e2) fun q=>bO (MN p q) fun b=>some (b,e2)
 |_=>none
theorem L9 {ta tb:TE} (ha:Ref K ta fa) (hb:Ref K tb fb):Ref K (JU ta tb) (EN fa fb):=by
 intro O M W L σ H e e' b Q o he hf q;obtain⟨x,e1,f1,hf⟩:=aM hf;obtain⟨p1,g0,hf⟩:=aE hf;cases p1 with
 | a9 kvs1=>
  obtain⟨y,e2,f2,hf⟩:=aM hf;obtain⟨p,g1,hf⟩:=aE hf;obtain⟨p',g2,hf⟩:=aE hf;obtain⟨c,g3,hf⟩:=aE hf;cases hf;refine ha O M W L σ H e e1 x _ o he f1 fun v1 H1 k1 r1 fr=>?_
  have o1:=o.keep k1.b7;obtain⟨a1,ys1,e11,ha1,_,_⟩:=((r1.rv o1).red (r1.en o1) g0).BB;refine⟨a1,e11,.inl ⟨ys1,ha1⟩,?_⟩;refine hb O M W L σ H1 e1 _ y _ o1 (r1.en o1) f2 fun v2 H2 k2 r2 fr=>?_
  have o2:=o1.keep k2.b7;have en:=r2.en o2;have rp:=((r1.rv o1).keep o1 k2).red en g1;have rq:=(r2.rv o2).red en g2;cases p with
  | a9 kvs=>
   obtain⟨key,g4,g3⟩:=aE g3;cases g3;obtain⟨a,ys,e3,ha',ek,r⟩:=rp.BB;rw[e11]at e3;cases e3;refine⟨dB ys key,.inl ⟨ys,key,ha',rq.key g4,rfl⟩,?_⟩;refine q _ H2 (k1.trans k2) ?_ ?_
   .refine⟨en,?_⟩;rcases dF.val key ⟨ek,r⟩with⟨h1,h2⟩|⟨p'',v',h1,h2,h3⟩
    .rw[h1,h2];exact .bH
    .rw[h1,h2];exact h3
   .trivial
  |_=>cases g3
 |_=>cases hf
theorem RM {e:En}:EN fa fb e=bE (fa e) fun x e1=>bO (x.weak.get e1) fun p1=>match p1 with
 | .a9 _=>bE (fb e1) fun y e2=>bO (x.weak.get e2) fun p=>bO (y.weak.get e2) fun q=>bO (MN p q) fun b=>some (b,e2)
 |_=>none:=rfl
end
end Mr
namespace L2
open PySem PySem.Spec PyProof.Rows PySem.W
variable {a l:Addr} {o u:HO} {H:Hp} {kvs:List (Key×V)} {vs:List (Key×Value)} {s':Shared} {Q:Value->Shared->Prop}
section
variable {prog:Program} {w:World} {A:Around} {E:Value->Shared->Prop} {s:Shared} {T:String} {r d:Addr} {n:Nat} {Pz:Nat->Value->Prop} {OKh:Heap->Prop}
def CG (s s':Shared):Prop:=∃h' tk dr,s'={s with heap:=h',toks:=tk,drawn:=dr}/\s.heap.objs.size<=h'.objs.size/\∀b o,s.heap.get? b=some o->h'.get? b=some o
theorem CG.size {s:Shared} (g:CG s s'):s.heap.objs.size<=s'.heap.objs.size:=by
 obtain⟨h',tk,dr,rfl,k,_⟩:=g;exact k
theorem sL {Q:List Value->Shared->Prop} (K:KdlSrc prog w T r d n Pz OKh) (hh:A.handled=none) (bS:OKh s.heap) (hn:n<=sizeLine)
  (hq:∀vs s',CG s s'->vs.length=n->(∀j v,vs[j]? =some v->Pz j v)->Q vs s'):wpAny (model prog w) A (collect (.ref r)) Q E s:=by
 have ha:=K.there _ bS;have fin:∀(h':Heap) (tk:Nat) (acc:Array Value) (c:Nat),(∀b o,s.heap.get? b=some o->h'.get? b=some o)->
   h'.get? s.heap.objs.size=some {cls:=.type "list",dict:=none,data:=.seq acc c,slots:= #[]}->ItemsOf Pz acc n->
   wpAny (model prog w) A (match Value.ref s.heap.objs.size with
    | Value.ref a=>do
     match(<-load a).data with
      |Data.seq xs _=>pure xs.toList
      |_=>unsupported "internal:collect"
    |_=>unsupported "internal:collect") Q E {s with heap:=h',toks:=tk}:=fun h' tk acc c kp hS hacc=>by
  show wpAny _ A (load s.heap.objs.size>>=_) _ _ _;exact af (wpAny_load hS (ay (hq _ _ ⟨h',tk,s.drawn,rfl,ir (cv hS),kp⟩ (by rw[length_toList];exact hacc.1) fun j v e=>hacc.2 j v (by rw[<-getElem?_toList];exact e))))
 unfold collect;refine af (wpAny_runValue (mj F.entry_proto_collect ?_));rw[jd F.plain_proto_collect _];refine af (m:=newList []) (fq ?_);refine ay ⟨plainId_quiet F.plain_list_iadd _,mj F.entry_list_iadd ?_⟩;rw[jd F.plain_list_iadd _];have e0:(s.heap.push {cls:=.type "list",data:=.seq ([]:List Value).toArray}).get? s.heap.objs.size=some {cls:=.type "list",data:=.seq #[] 0}:=dc _ rfl;have key:=kdl_extend (A:=A) (s:={s with heap:=s.heap.push {cls:=.type "list",data:=.seq ([]:List Value).toArray}}) (R:=fun rs s'=>∃h' tk acc c,rs= .ok (.ret (.ref s.heap.objs.size))/\s'={s with heap:=h',toks:=tk}/\(∀b o,s.heap.get? b=some o->h'.get? b=some o)/\h'.get? s.heap.objs.size=some {cls:=.type "list",dict:=none,data:=.seq acc c,slots:= #[]}/\ItemsOf Pz acc n) K hh (K.keep _ _ bS fun b _ o e=>au _ e) s.heap.objs.size (ne_of_gt ha.1) (ne_of_gt ha.2) (.ref s.heap.objs.size) 0 e0
  (fun h' tk acc c kp hS hacc=>⟨h',tk,acc,c,rfl,rfl,fun b o e=>kp b o (cw (cv e)) (au _ e),hS,hacc⟩) hn
 refine dk key (fun f s' h=>?_) fun e s' h=>?_
 .cases f with
  |done f=>
   obtain⟨h',tk,acc,c,e1,rfl,kp,hS,hacc⟩:=h;cases e1;exact fin h' tk acc c kp hS hacc
  |again c'=>
   refine⟨h.1,codeAny_mono h.2 fun rs s2 hr=>?_⟩;obtain⟨h',tk,acc,c,rfl,rfl,kp,hS,hacc⟩:=hr;exact fin h' tk acc c kp hS hacc
 .obtain⟨h',tk,acc,c,e1,_⟩:=h;cases e1
theorem HS (K:KdlSrc prog w T r d n Pz OKh) (hnt:T≠"tuple") (hh:A.handled=none) (bS:OKh s.heap) (hn:n<=sizeLine)
  (hq:∀(vs:List Value) s1,CG s s1->vs.length=n->(∀j v,vs[j]? =some v->Pz j v)->Q (.ref s1.heap.objs.size) {s1 with heap:=s1.heap.push {cls:=.type "tuple",data:=.seq vs.toArray}}):
  wpAny (model prog w) A (call (.type "tuple") [.ref r]) Q E s:=by
 have hT:=K.type s bS;refine callType_codes (Q₁:=fun obj s₁=>s₁.TypeIs obj "tuple"/\Q obj s₁) F.called_tuple (F.typeCall_tuple_1 _) F.entry_object_init ?_ fun obj s₁ h₁=>
  ⟨h₁.1,F.args_object_init_2 obj _,object_init_meets F.called_tuple.init.lookup F.called_tuple.made (by decide) prog w A.in1 _ s₁ ⟨h₁.1,rfl,h₁.2⟩⟩
 refine codeAny_of_tree ?_;refine af (m:=checkBuiltinCall "tuple.__new__" ⟨[.type "tuple",.ref r],[]⟩) (wpAny_of_eq (F.newCall_tuple_1 _) (ay ⟨plainId_quiet F.plain_tuple_new _,mj F.entry_tuple_new ?_⟩));rw[jd F.plain_tuple_new _];have a1:=sub_tuple_self;have a2:=init_tuple_lookup;have a3:=madeHere_tuple;have a4:(Value.type T==Value.type "tuple")=false:=K.notTuple;unfold Builtin.«tuple.__new__»;generalize hC:collect=C
 wp_walk using wpAny_typeOf hT
 subst hC;refine sL K hh bS hn fun vs s1 g hl hv=>?_
 refine af (ay ?_);unfold Builtin.Tuple.tupleExact;refine af (m:=newObj (.type "tuple") (.seq vs.toArray)) (fq ?_ (by show vs.toArray.size<=sizeLine;rw[cf,hl];exact hn));exact ay ⟨⟨_,dc _ rfl,rfl⟩,hq vs s1 g hl hv⟩
theorem rM {v:Value} {R:List Str->Prop}
  (hcol:∀(E':Value->Shared->Prop) (Q':List Value->Shared->Prop),(∀vs s1 ss,CG s s1->StrsAre vs ss->R ss->Q' vs s1)->wpAny (model prog w) A.in1 (collect v) Q' E' s) (h64:∀ss,R ss->ss.length<128)
  (hq:∀(a:Addr) s2 (out:List Value) c ss ss',CG s s2->s.heap.objs.size<=a->s2.heap.get? a=some (seqObj "list" out.toArray c)->StrsAre out ss'->R ss->ss'.Perm ss->sortedS ss'=true->Q (.ref a) s2):
  wpAny (model prog w) A (call (.builtin "sorted") [v]) Q E s:=by
 refine Calls.call_function_entry kind_sorted plain_sorted entry_sorted (args_sorted1 _) ?_;unfold Builtin.«sorted»;refine af (m:=checkCount "sorted" 1 1 _) (ay (af (hcol _ _ fun vs s1 ss g hS hR=>?_)));have hl:vs.length<128:=by rw[hS.length];exact h64 ss hR
 refine af (wpAny_newList ?_ (by simp only[lr];omega));have e1:(s1.heap.push (seqObj "list" vs.toArray 0)).get? s1.heap.objs.size=some (seqObj "list" vs.toArray 0):=dc _ rfl;refine af (ig (iz slot_list_sort ⟨_,e1,rfl⟩ entry_list_sort ?bd (args_list_sort _)))
 case bd=>
  refine xV e1 hl (fun l2 h' _=>UC hS l2) (fun h2 i j a b=>by rw[show i=j by omega];exact iq _) fun out p p1 p2 p3=>⟨_,rfl,ay ⟨_,rfl,?_⟩⟩
  have hp:p.toList.Perm (List.range vs.length):=by simpa using ku.mp p1
  have hlt:∀i∈p.toList,i<vs.length:=fun i hi=>mem_range.mp (hp.mem_iff.mp hi)
  have hpz:p.toList.length=vs.length:=by rw[hp.length_eq,eu]
  obtain⟨c,hc⟩:=sortedHeap_at (out:=out) e1;refine hq s1.heap.objs.size _ out.toList c ss (p.toList.map fun i=>ss.getD i "") ?_ g.size hc (by rw[p3];exact wM hS hlt) hR ?_ (sortedS_of_pairwise _ ?_)
  .obtain⟨h',tk,dr,rfl,gz,k⟩:=g;refine⟨_,tk,dr,rfl,gc gz (ir (cv hc)),fun b o e=>?_⟩;have hb:=cv (k b o e);rw[sortedHeap_old (cw hb) (by rw[size_push'];exact gm hb)];exact au _ (k b o e)
  .have:=hp.map fun i=>ss.getD i ""
   rw[hS.length]at this;have e:(List.range ss.length).map (fun i=>ss.getD i "")=ss:=by
    apply ext_getElem
    .simp
    .intro i a1 a2;simp[ag a2]
   rwa[e]at this
  .rw[kz];intro i j hi hj hij;rw[aj]at hi hj;have h:=p2 i j (by omega) (by omega);have ky:∀(i:Nat) (hi:i<p.toList.length),Ky strKind.toKeyOrd (fun i=>(ss.getD i "").cps.toList) p i=(ss.getD p.toList[i] "").cps.toList:=fun i hi=>by
    unfold Ky;rw[ja,<-getElem?_toList,ag hi];rfl
   rw[ky i hi,ky j hj]at h;rw[getElem_map,getElem_map,ltCps_eq];exact h
end
section
variable {X:Cx} {pins:List (Addr×Obj)} {σ:St} {H:Hp} {s s':Shared}
theorem Inv.abE (I:Inv X pins σ H s) (g:CG s s'):Inv X pins σ H s':=by
 obtain⟨h',tk,dr,rfl,_,k⟩:=g;exact I.call (g':=s.gens) (d':=dr) (t':=tk) (ch:=[]) (Un.kept k) (I.bS.kept k) I.bare fun _ z=>nomatch z
end
noncomputable def OL (v d:Addr):HO:=.ext fun h=>h.IsValuesView v d
theorem Rd.upd (h:Rd H a o) (hl:H l=none):Rd (upd H l u) a o:=by
 have ne:a≠l:=by
  rintro rfl;rcases h with h|⟨_,h⟩<;>(rw[hl]at h;cases h)
 rcases h with h|⟨x,h⟩
 .exact .inl (by rw[aQ ne];exact h)
 .exact .inr ⟨x,by rw[aQ ne];exact h⟩
theorem KV.vals (r:KV kvs vs):Vals (kvs.map (·.2)) (vs.map (·.2)):=by
 unfold KV at r
 induction r with
 |nil=>exact .nil
 |cons h t ih=>exact .cons h.2 ih
theorem KV.len (r:KV kvs vs):kvs.length=vs.length:=by
 have:=cn List.length r.keys;simpa using this
theorem E4.upd (h:E4 H a kvs) (hl:H l=none):E4 (upd H l u) a kvs:=let⟨ep,e⟩:=h;⟨ep,Rd.upd e hl⟩
theorem Inv.aaN {X:Cx} {pins:List (Addr×Obj)} {σ:St} {s:Shared} (I:Inv X pins σ H s) (g:CG s s') (hp:s.heap.objs.size<=a) (new:dC X.prog X.w (L2.upd H a o) s'.heap a o):Inv X pins σ (L2.upd H a o) s':=by
 obtain⟨h',tk,dr,rfl,_,k⟩:=g;exact I.call (g':=s.gens) (d':=dr) (t':=tk) (ch:=[]) (Un.laid k hp (I.bS.fresh hp)) (I.bS.laid k hp new) I.bare fun _ z=>nomatch z
section
variable {X:Cx}
def TN (to:TE):TE:=fun σ H Q=>to σ H fun x H1=>∃a kvs,x= .ref a/\E4 H1 a kvs/\∀v,H1 v=none->Q (.ref v) (upd H1 v (OL v a))
theorem QM {o:Expr} {to:TE} {apos cpos:Pos} (ho:PE X o to) (hbase:attributeBase o "values" X.env (eval o X.env)=eval o X.env:=by rfl) (hline:(apos.endLine==cpos.line)=true:=by rfl):
  PE X (.Call (.Attribute o "values" apos) [] [] cpos) (TN to):=by
 intro pins s σ H Q I h;refine wpAny_Call_method0_late hbase hline (cD (ho pins s σ H _ I h) fun v s1 ⟨x,H1,I1,r1,a,kvs,ex,ha,q1⟩=>?_);subst ex;obtain rfl:v=Value.ref a:=r1;obtain⟨hz,hd,vs,rel,dd⟩:=nC I1.bS ha;refine⟨"dict","dict.values",plainAttrs_dict,PySem.F.slot_dict_values,PySem.F.type_dict_values,dd.typeIs,dd.mapOf.noDict,jo rfl (PySem.evalArgs_none ?_)⟩;refine call_meetsIn PySem.F.slot_dict_values dd.typeIs PySem.F.entry_dict_values (PySem.F.args_dict_values_1 _) (meets_dict_values (bU X.prog X.w) a hd) ⟨⟨vs,dd⟩,?_⟩;have e0:(s1.heap.push {cls:=.type "dict_values",data:=.fields #[.ref a]}).get? s1.heap.objs.size=some {cls:=.type "dict_values",data:=.fields #[.ref a]}:=dc _ rfl;refine⟨.ref s1.heap.objs.size,_,I1.laid (t':=s1.toks) (o:=OL s1.heap.objs.size a) (fun b u e=>au _ e) (bj _) ⟨⟨_,e0,rfl,rfl⟩,⟨_,e0⟩,fun h1 h2 ⟨u,e,c⟩ k=>⟨u,k u e,c⟩⟩,rfl,q1 _ (I1.bS.fresh (bj _))⟩
def TF:List V->Hp->VK->Prop:=fun xs H Q=>∃v a kvs,xs=[.ref v]/\H v=some (OL v a)/\E4 H a kvs/\∀l,H l=none->Q (.ref l) (upd H l (.tup (kvs.map (·.2))))
theorem abV (hc:X.calm=true:=by rfl):cS X (.type "tuple") TF:=by
 intro pins s σ H xs us Q I r ⟨v,a,kvs,e,hv,ha,q⟩;subst e;obtain⟨u,rfl,rx⟩:=vals1 r;cases rx;obtain⟨hz,hd,vs,rel,dd⟩:=nC I.bS ha;obtain⟨ep,dd⟩:=dd.dictAt;refine HS (kdl_values (knd:=bU X.prog X.w) (r:=v) (d:=a) (kvs:=vs) (ep:=ep)) (by decide) (by exact I.ok.hd hc) ⟨(I.bS v _ hv).1,dd⟩ (by rw[<-rel.len];exact hz) fun ws s1 g hl hw=>?_
 have ew:=kdl_vals_eq ws hl hw;subst ew;have I1:=I.abE g;exact⟨.ref s1.heap.objs.size,_,I1.laid (t':=s1.toks) (o:=.tup (kvs.map (·.2))) (fun b o e=>au _ e) (bj _) ⟨by rw[aj];exact hz,_,rel.vals,tE.new _ _⟩,rfl,q _ (I1.bS.fresh (bj _))⟩
def EB:List V->Hp->VK->Prop:=fun xs H Q=>∃a kvs ss,xs=[.ref a]/\E4 H a kvs/\kvs.map (·.1)=ss.map Sum.inr/\ss.length<128/\∀l out,out.Perm ss->sortedS out=true->H l=none->Q (.ref l) (upd H l (.lst (out.map V.str)))
theorem xG {prog:Program} {w:World}:∀{ss:List Str} {vs:List (Key×Value)} {us:List Value},vs.map (·.1)=ss.map Sum.inr->us.length=vs.length->(∀(j:Nat) v,us[j]? =some v->∃k x,vs[j]? =some (k,x)/\(bU prog w).is k v=true)->StrsAre us ss
 |[],[],[],_,_,_=>.nil
 |[],[],_::_,_,h,_=>by cases h
 |[],_::_,_,h,_,_=>by cases h
 |_::_,[],_,h,_,_=>by cases h
 |_::_,_::_,[],_,h,_=>by cases h
 | t::ss,(k,x)::vs,u::us,h,hl,hu=>by
  rw[cq,cq]at h;have h:=List.cons.inj h;have e:k=Sum.inr t:=h.1;subst e;obtain⟨k',x',e',hk⟩:=hu 0 u rfl;cases e';rcases b6 (show sO (Sum.inr t) u=true from hk)with⟨i,tk,z,_⟩|⟨y,tk,z,rfl⟩
  .cases z
  .cases z;exact .cons _ tk (xG h.2 (by simpa using hl) fun j v e=>hu (j+1) v (by simpa using e))
theorem ZV (hc:X.calm=true:=by rfl):cS X (.builtin "sorted") EB:=by
 intro pins s σ H xs us Q I r ⟨a,kvs,ss,e,ha,hk,h64,q⟩;subst e;obtain⟨u,rfl,rx⟩:=vals1 r;cases rx;obtain⟨hz,hd,vs,rel,dd⟩:=nC I.bS ha;obtain⟨ep,dd⟩:=dd.dictAt;rw[rel.keys]at hk;refine rM (R:=fun tt=>tt=ss) (fun E' Q' k=>?_) (fun tt e=>by rw[e];exact h64) fun l s2 out c tt tt' g hl hat h1 h2 h3 h4=>?_
 .exact sL (kdl_dict (knd:=bU X.prog X.w) (d:=a) (kvs:=vs) (ep:=ep) hd) (by exact I.ok.hd hc) dd (by rw[<-rel.len];exact hz) fun ws s1 g hl hw=>k ws s1 ss g (xG hk hl hw) rfl
 .subst h2;exact⟨.ref l,_,I.aaN (o:=.lst (tt'.map V.str)) g hl ⟨by rw[aj,h3.length_eq];rw[lr];omega,out,c,j6 h1,hat⟩,rfl,q _ tt' h3 h4 (I.bS.fresh hl)⟩
end
section
variable (prog:Program) (w:World)
variable {prog w}
noncomputable def oW (ks:List Str) (x:Str):List Str:=if x∈ks then ks else ks++[x]
variable {A:Around} {E:Value->Shared->Prop} {s:Shared}
end
noncomputable def b8 (ss:List Str):List Str:=ss.foldl oW []
theorem eD (ss:List Str) (x:Str):b8 (ss++[x])=oW (b8 ss) x:=by unfold b8;rw[foldl_append];rfl
end L2
namespace Mr
open PySem PySem.Spec L2 PyProof.Rows
variable {fa:FE}
section
variable {K:Frag}
noncomputable def EJ (fa:FE):FE:=fun e=>bE (fa e) fun x e1=>bO (x.weak.get e1) fun p=>match p with
 | .a9 kvs=>some (.val (.tup (kvs.map (·.2))),e1)
 |_=>none
theorem IW {ta:TE} (ha:Ref K ta fa):Ref K (tCB TF (dD (TN ta) tF)) (EJ fa):=by
 intro O M W L σ H e e' b Q o he hf q;obtain⟨x,e1,f1,hf⟩:=aM hf;obtain⟨p,g0,hf⟩:=aE hf;cases p with
 |a9 kvs=>
  cases hf;refine ha O M W L σ H e _ x _ o he f1 fun v1 H1 k1 r1 fr=>?_
  have o1:=o.keep k1.b7;have en:=r1.en o1;obtain⟨a,ys,rfl,hd,ek,rl⟩:=((r1.rv o1).red en g0).BB;refine⟨a,ys,rfl,hd,fun v hv=>⟨v,a,ys,rfl,aU,E4.upd hd hv,fun l hl=>?_⟩⟩;have s1:aV H1 (upd H1 v (OL v a)):=aV.upd hv;have s2:=aV.upd (o:=.tup (ys.map (·.2))) hl;refine q _ _ ((k1.trans (.same s1)).trans (.same s2)) ⟨(en.same s1).same s2,.tup (.inl aU) ((rl.aL (.same s1)).aL (.same s2))⟩ trivial
 |_=>cases hf
noncomputable def qO:List (Key×PV)->Option (List Str)
 |[]=>some []
 |(.inr x,_)::r=>bO (qO r) fun ss=>some (x::ss)
 |_=>none
theorem A2:∀{kvs:List (Key×PV)} {ss:List Str},qO kvs=some ss->kvs.map (·.1)=ss.map Sum.inr
 |[],ss,h=>by cases h;rfl
 |(.inr x,p)::r,ss,h=>by
  obtain⟨ss',h1,h⟩:=aE h;cases h;rw[cq,cq,A2 h1]
 |(.inl x,p)::r,ss,h=>by cases h
noncomputable def m7:List PV->Option Bv
 |[.a9 kvs]=>bO (qO kvs) fun ss=>aZ (decide (ss.length<128)) (some (.new (.lst ((cI ss).map PV.str))))
 |_=>none
theorem NW:lL K EB m7:=by
 intro Z H vs ps b Q hp h k;unfold m7 at h;split at h
 .obtain⟨ss,g,h⟩:=aE h;obtain⟨c,h⟩:=aK h;cases h;obtain⟨v,rfl,hv⟩:=hp.one;obtain⟨a,ys,rfl,ha,ek,ra⟩:=hv.BB;refine⟨a,ys,ss,rfl,ha,ek.trans (A2 g),ao c,fun l out h1 h2 hl=>?_⟩;rw[z9 h1 h2]at k;exact k _ _ (aV.upd hl) (MT hl (bC.ofStrs out))
 .cases h
theorem KI {e:En}:EJ fa e=bE (fa e) fun x e1=>bO (x.weak.get e1) fun p=>match p with
 | .a9 kvs=>some (.val (.tup (kvs.map (·.2))),e1)
 |_=>none:=rfl
end
end Mr
namespace Mr
open PySem PySem.Spec L2 PyProof.Rows PySem.W
variable {A:Around} {C:Bool->Shared->Prop} {ps:List PV} {n:Nat} {prog:Program} {s:Shared} {w:World}
noncomputable def c6 (lt:PV->PV->Option Bool):List PV->List PV->Option Bool
 |[],[]=>some false
 |[],_::_=>some true
 |_::_,[]=>some false
 |x::xs,y::ys=>if cA x y=true then c6 lt xs ys else lt x y
noncomputable def qF:Nat->PV->PV->Option Bool
 |_,.str a,.str b=>some (decide (a.cps.toList<b.cps.toList))
 |_,.int a,.int b=>some (decide (a<b))
 |n+1,.tup xs,.tup ys=>c6 (qF n) xs ys
 |_,_,_=>none
section
variable {s:Shared}
theorem XZ {lt:PV->PV->Option Bool}:∀{xs ys:List PV} {us vs:List Value} {c:Bool} {fin:Bool},bN s.heap xs us->bN s.heap ys vs->(∀x∈xs,∀y∈ys,∀u v,Lies s.heap x u->Lies s.heap y v->SeqAt.EqAt A s u v (cA x y)/\∀b,lt x y=some b->HJ A s u v b)->
  fin=decide (us.length<vs.length)->c6 lt xs ys=some c->BG A s fin (us.zip vs) c:=by
 intro xs
 induction xs with
 |nil=>
  intro ys us vs c fin h1 h2 hk hf h;cases h1;cases h2<;>(cases h;rw[hf];exact .done)
 | cons x xs ih=>
  intro ys us vs c fin h1 h2 hk hf h;cases h1 with
  | cons r1 rr1=>
   cases h2 with
   |nil=>cases h;rw[hf];exact .done
   | @cons y _ ys _ r2 rr2=>
    obtain⟨he,hl⟩:=hk x bf y bf _ _ r1 r2;unfold c6 at h;cases e:cA x y with
    |true=>
     rw[e]at he;rw[ai e]at h;exact .same he (ih rr1 rr2 (fun a ha b hb=>hk a (ax _ ha) b (ax _ hb)) (by rw[hf];simp) h)
    |false=>
     rw[e]at he;rw[ah (by rw[e];exact av)]at h;exact .less he (hl c h)
theorem NB:∀(n:Nat) (A:Around) {p q:PV} {v u:Value} {b:Bool},A.units+n<cLine->jK n p=true->jK n q=true->Lies s.heap p v->Lies s.heap q u->qF n p q=some b->HJ A s v u b:=by
 intro n
 induction n with
 | zero=>
  intro A p q v u b hu o1 o2 h1 h2 h;cases p with
  |str x=>
   cases q with
   |str y=>cases h;cases h1;cases h2;exact fun prog w E Q q=>PySem.P.lt_str q
   |_=>cases h
  |int x=>
   cases q with
   |int y=>cases h;cases h1;cases h2;exact fun prog w E Q q=>PyProof.Rows.lt_int q
   |_=>cases h
  |_=>cases q<;>cases h
 | succ n ih=>
  intro A p q v u b hu o1 o2 h1 h2 h;cases p with
  |str x=>
   cases q with
   |str y=>cases h;cases h1;cases h2;exact fun prog w E Q q=>PySem.P.lt_str q
   |_=>cases h
  |int x=>
   cases q with
   |int y=>cases h;cases h1;cases h2;exact fun prog w E Q q=>PyProof.Rows.lt_int q
   |_=>cases h
  | tup xs=>
   cases q with
   | tup ys=>
    cases h1 with
    | tup t1 l1=>
     cases h2 with
     |tup t2 l2=>
      have hin:A.in1.units=A.units+1:=rfl;have o1:xs.all (jK n)=true:=o1;have o2:ys.all (jK n)=true:=o2;refine W8 t1 t2 (by omega) ?_;simpa using XZ (A:=A.in1) (s:=s) l1 l2 (fun x hx y hy u v a b=>⟨y6 n A.in1 (by omega) (bb.mp o1 x hx) (bb.mp o2 y hy) a b,fun c hc=>ih A.in1 (by omega) (bb.mp o1 x hx) (bb.mp o2 y hy) a b hc⟩) rfl h
   |_=>cases h
  |_=>cases q<;>cases h
theorem J0 {fin:Bool} {lt:PV->PV->Option Bool}:∀{xs ys:List PV} {us vs:List Value} {c:Bool} (i:Nat),1<=i->bN s.heap xs us->bN s.heap ys vs->
  (∀x∈xs,∀y∈ys,∀u v,Lies s.heap x u->Lies s.heap y v->SeqAt.EqAt A s u v (cA x y)/\∀b,lt x y=some b->HJ A s u v b)->fin=decide (us.length<vs.length)->c6 lt xs ys=some c->C c s->KatLex prog w A true fin C (us.zip vs) i s:=by
 intro xs
 induction xs with
 |nil=>
  intro ys us vs c i hi h1 h2 hk hf h hC;cases h1;cases h2<;>(cases h;exact kat_nil (by rw[hf];exact hC))
 | cons x xs ih=>
  intro ys us vs c i hi h1 h2 hk hf h hC;cases h1 with
  | cons r1 rr1=>
   cases h2 with
   |nil=>cases h;exact kat_nil (by rw[hf];exact hC)
   | @cons y _ ys _ r2 rr2=>
    obtain⟨he,hl⟩:=hk x bf y bf _ _ r1 r2;refine kat_cons (he prog w _ _ ?_);unfold c6 at h;cases e:cA x y with
    |true=>
     rw[ai e]at h;exact kat_yes (ih (i+1) (by omega) rr1 rr2 (fun a ha b hb=>hk a (ax _ ha) b (ax _ hb)) (by rw[hf];simp) h hC)
    |false=>
     rw[ah (by rw[e];exact av)]at h;refine kat_no ?_;have e0:(true && i==0)=false:=by simp;omega
     rw[e0];exact kat_one _ _ (hl c h prog w _ _ hC)
noncomputable def uI (b:Bool):PV->Bool
 | .tup (.str _::_)=>b
 | .tup (.int _::_)=>!b
 |_=>false
noncomputable def UQ (b:Bool):String:=if b then "str"else "int"
theorem acM {b:Bool} {n:Nat} {vs:List Value} (hl:bN s.heap ps vs) (hu:A.units+n<cLine) (led:∀p∈ps,uI b p=true) (ok:∀p∈ps,jK (n+1) p=true)
  {i j:Nat} {c:Bool} {p q:PV} (hp:ps[i]? =some p) (hq:ps[j]? =some q) (hc:qF (n+1) p q=some c) (hC:C c s):kas_ask prog w A (tuples' (Value.type (UQ b) !=Value.type "tuple")) vs i j C s:=by
 have kt:(Value.type (UQ b) !=Value.type "tuple")=true:=by cases b<;>decide
 obtain⟨u,hu1,lu⟩:∃u,vs[i]? =some u/\Lies s.heap p u:=by
  have hlt:i<vs.length:=by rw[<-hl.length];exact(ae.mp hp).1
  obtain⟨p',e,l⟩:=hl.get (ag hlt);rw[hp]at e;cases e
  exact⟨_,ag hlt,l⟩
 obtain⟨v,hv1,lv⟩:∃v,vs[j]? =some v/\Lies s.heap q v:=by
  have hlt:j<vs.length:=by rw[<-hl.length];exact(ae.mp hq).1
  obtain⟨p',e,l⟩:=hl.get (ag hlt);rw[hq]at e;cases e
  exact⟨_,ag hlt,l⟩
 have l1:=led p (ba hp);have l2:=led q (ba hq);have o1:=ok p (ba hp);have o2:=ok q (ba hq);show wpAny _ _ (keyLt' _ (vs.getD i Value.none) (vs.getD j Value.none)) C _ s;rw[aq,hu1,aq,hv1,kt];cases lu with
 | @tup _ us xs t1 r1=>
  cases lv with
  | @tup _ vs' ys t2 r2=>
   obtain⟨oa,ga,_,na,da⟩:=t1;obtain⟨ob,gb,_,nb,db⟩:=t2;refine kat_lt ga da gb db ?_;have o1:xs.all (jK n)=true:=o1;have o2:ys.all (jK n)=true:=o2;have key:∀x∈xs,∀y∈ys,∀u v,Lies s.heap x u->Lies s.heap y v->SeqAt.EqAt A s u v (cA x y)/\∀b,qF n x y=some b->HJ A s u v b:=fun x hx y hy u v a b=>
    ⟨y6 n A hu (bb.mp o1 x hx) (bb.mp o2 y hy) a b,fun c hc=>NB n A hu (bb.mp o1 x hx) (bb.mp o2 y hy) a b hc⟩
   have hc:c6 (qF n) xs ys=some c:=hc;cases r1 with
   |nil=>cases l1
   | @cons x u0 xs us a1 a2=>
    cases r2 with
    |nil=>cases l2
    | @cons y v0 ys vs' b1 b2=>
     obtain⟨he,_⟩:=key x bf y bf _ _ a1 b1;refine kat_cons (he prog w _ _ ?_);unfold c6 at hc;cases e:cA x y with
     |true=>
      rw[ai e]at hc;exact kat_yes (J0 1 (bj _) a2 b2 (fun a ha b hb=>key a (ax _ ha) b (ax _ hb)) (by simp) hc hC)
     | false=>
      rw[ah (by rw[e];exact av)]at hc;refine kat_no ?_;cases x with
      | str x=>
       cases y with
       |str y=>
        have hc:some (decide (x.cps.toList<y.cps.toList))=some c:=by cases n<;>exact hc
        cases hc;cases a1;cases b1;exact oneLt_str hC
       |int y=>cases b<;>cases l1<;>cases l2
       |_=>cases l2
      | int x=>
       cases y with
       |int y=>
        have hc:some (decide (x<y))=some c:=by cases n<;>exact hc
        cases hc;cases a1;cases b1;exact oneLt_int hC
       |str y=>cases b<;>cases l1<;>cases l2
       |_=>cases l2
      |_=>cases l1
  |_=>cases l2
 |_=>cases l1
end
noncomputable def pB:Nat->PV->Bool
 |_,.bH=>true
 |_,.int _=>true
 |_,.str _=>true
 |n+1,.tup ps=>ps.all (pB n)
 |_,_=>false
theorem EK:∀{n:Nat} {p:PV},pB n p=true->jK n p=true:=by
 intro n
 induction n with
 |zero=>intro p h;cases p<;>first|rfl|cases h
 |succ n ih=>
  intro p h;cases p with
  |tup ps=>exact bb.mpr fun x hx=>ih (bb.mp h x hx)
  |lst ps=>cases h
  |a9 ps=>cases h
  |ty x=>cases h
  |bl x=>cases h
  |_=>rfl
theorem E3 (ih:∀{p q:PV},pB n p=true->pB n q=true->cA p q=true->p=q):∀{xs ys:List PV},xs.all (pB n)=true->ys.all (pB n)=true->cZ xs ys=true->xs=ys
 |[],[],_,_,_=>rfl
 |[],_::_,_,_,h=>by simp[cZ]at h
 |_::_,[],_,_,h=>by simp[cZ]at h
 |x::xs,y::ys,h1,h2,h=>by
  simp only[cZ,bz]at h;rw[all_cons,bz]at h1 h2;rw[ih h1.1 h2.1 h.1,E3 ih h1.2 h2.2 h.2]
theorem DP:∀{n:Nat} {p q:PV},pB n p=true->pB n q=true->cA p q=true->p=q:=by
 intro n
 induction n with
 |zero=>
  intro p q h1 h2 h;cases p<;>cases q<;>first|rfl|(cases h1;done)|(cases h2;done)|(simp[cA]at h;try subst h;try rfl)
 | succ n ih=>
  intro p q h1 h2 h;cases p with
  |tup xs=>
   cases q with
   |tup ys=>rw[nP]at h;rw[E3 ih h1 h2 h]
   |_=>simp[cA]at h
  |lst xs=>cases h1
  |a9 xs=>cases h1
  |ty xs=>cases h1
  |bl xs=>cases h1
  |bH=>cases q<;>first|rfl|(simp[cA]at h)
  |int i=>cases q<;>first|(cases h2;done)|(simp[cA]at h;try subst h;try rfl)
  |str i=>cases q<;>first|(cases h2;done)|(simp[cA]at h;try subst h;try rfl)
theorem rQ (ih:∀{p:PV},pB n p=true->cA p p=true):∀{xs:List PV},xs.all (pB n)=true->cZ xs xs=true
 |[],_=>by simp[cZ]
 |x::xs,h=>by
  rw[all_cons,bz]at h;simp only[cZ,bz];exact⟨ih h.1,rQ ih h.2⟩
theorem pV:∀{n:Nat} {p:PV},pB n p=true->cA p p=true:=by
 intro n
 induction n with
 |zero=>intro p h;cases p<;>first|(simp[cA];done)|cases h
 |succ n ih=>
  intro p h;cases p with
  |tup xs=>rw[nP];exact rQ ih h
  |lst xs=>cases h
  |a9 xs=>cases h
  |ty xs=>cases h
  |bl xs=>cases h
  |_=>simp[cA]
noncomputable def code:Nat->PV->List Int
 |_,.str x=>x.cps.toList.map (fun c:Nat=>(c:Int)+1)++[0]
 |_,.int i=>[i]
 |n+1,.tup xs=>xs.flatMap (fun x=>1::code n x)++[0]
 |_,_=>[0]
noncomputable abbrev gY:List Int->List Int->Bool:=jL D7
theorem yS (a r r':List Int):gY (a++r) (a++r')=gY r r':=by
 induction a with
 |nil=>rfl
 |cons x a ih=>
  show fQ D7 x x (gY (a++r) (a++r'))=_;exact(fW (A:=D7) (a:=x)).trans ih
theorem fV {x y:Int} {r r':List Int}:gY (x::r) (y::r')=if x=y then gY r r' else decide (x<y):=by
 show fQ D7 x y (gY r r')=_;rcases eM (A:=D7) x y with⟨a,b⟩|⟨a,b⟩|a
 .rw[dM a];have a:=ao a;rw[ah (by omega),decide_eq_true a]
 .rw[j4 a];have a:=ao a;rw[ah (by omega),decide_eq_false (by omega)]
 .subst a;rw[ai rfl];exact fW (A:=D7) (a:=x)
theorem zH:∀(a b:List Nat) (r r':List Int),gY ((a.map fun c:Nat=>(c:Int)+1)++[0]++r) ((b.map fun c:Nat=>(c:Int)+1)++[0]++r')=if a=b then gY r r' else decide (a<b)
 |[],[],r,r'=>by
  rw[ai rfl];exact yS [0] r r'
 |[],y::b,r,r'=>by
  rw[ah (by simp)];show gY (0::r) (((y:Int)+1)::_)=_;rw[fV,ah (by omega),decide_eq_true (by omega)];exact(decide_eq_true (by simp)).symm
 |x::a,[],r,r'=>by
  rw[ah (by simp)];show gY (((x:Int)+1)::_) (0::r')=_;rw[fV,ah (by omega),decide_eq_false (by omega)];exact(decide_eq_false (by simp)).symm
 | x::a,y::b,r,r'=>by
  show gY (((x:Int)+1)::((a.map fun c:Nat=>(c:Int)+1)++[0]++r)) (((y:Int)+1)::((b.map fun c:Nat=>(c:Int)+1)++[0]++r'))=_;rw[fV,zH a b r r']
  by_cases e:x=y
  .subst e;rw[ai rfl]
   by_cases e2:a=b
   .subst e2;rw[ai rfl,ai rfl]
   .rw[ah e2,ah (by simpa using e2)];congr 1;simp[List.cons_lt_cons_iff]
  .rw[ah (by omega),ah (by intro z;exact e (List.cons.inj z).1)]
   by_cases h:x<y
   .rw[decide_eq_true (show(x:Int)+1<y+1 by omega)];exact(decide_eq_true (List.cons_lt_cons_iff.mpr (.inl h))).symm
   .rw[decide_eq_false (show¬(x:Int)+1<y+1 by omega)];refine(decide_eq_false fun z=>?_).symm;rcases List.cons_lt_cons_iff.mp z with z|z
    .exact h z
    .exact e z.1
theorem AY (ih:∀{p q:PV} {b:Bool} (r r':List Int),pB n p=true->pB n q=true->qF n p q=some b->gY (code n p++r) (code n q++r')=if cA p q=true then gY r r' else b):
  ∀{xs ys:List PV} {b:Bool} (r r':List Int),xs.all (pB n)=true->ys.all (pB n)=true->c6 (qF n) xs ys=some b->
   gY (xs.flatMap (fun x=>1::code n x)++[0]++r) (ys.flatMap (fun x=>1::code n x)++[0]++r')=if cZ xs ys=true then gY r r' else b
 |[],[],b,r,r',_,_,h=>by
  rw[ai (by simp[cZ])];exact yS [0] r r'
 |[],y::ys,b,r,r',_,_,h=>by
  cases h;rw[ah (by simp[cZ])];show gY (0::r) (1::_)=_;rw[fV];rfl
 |x::xs,[],b,r,r',_,_,h=>by
  cases h;rw[ah (by simp[cZ])];show gY (1::_) (0::r')=_;rw[fV];rfl
 | x::xs,y::ys,b,r,r',h1,h2,h=>by
  rw[all_cons,bz]at h1 h2;have e1:∀(z:PV) (zs:List PV) (w:List Int),(z::zs).flatMap (fun x=>1::code n x)++[0]++w=1::(code n z++(zs.flatMap (fun x=>1::code n x)++[0]++w)):=fun z zs w=>by simp
  rw[e1,e1,fV,ai rfl];unfold c6 at h;cases e:cA x y with
  |true=>
   rw[ai e]at h;have exy:=DP h1.1 h2.1 e;subst exy;rw[yS,AY ih r r' h1.2 h2.2 h];simp only[cZ,e,Bool.true_and]
  |false=>
   rw[ah (by rw[e];exact av)]at h;rw[ih _ _ h1.1 h2.1 h,ah (by rw[e];exact av),ah (by simp[cZ,e])]
theorem OK:∀{n:Nat} {p q:PV} {b:Bool} (r r':List Int),pB n p=true->pB n q=true->qF n p q=some b->gY (code n p++r) (code n q++r')=if cA p q=true then gY r r' else b:=by
 have str:∀{n:Nat} {x y:Str} {b:Bool} (r r':List Int),qF n (.str x) (.str y)=some b->gY (code n (.str x)++r) (code n (.str y)++r')=if cA (.str x) (.str y)=true then gY r r' else b:=fun{n x y b} r r' h=>by
  have h:some (decide (x.cps.toList<y.cps.toList))=some b:=by cases n<;>exact h
  cases h;have e1:∀z:Str,code n (.str z)=z.cps.toList.map (fun c:Nat=>(c:Int)+1)++[0]:=fun z=>by cases n<;>rfl
  rw[e1,e1,zH]
  by_cases e:x=y
  .subst e;rw[ai rfl,ai (by simp[cA])]
  .rw[ah (fun z=>e (GL z)),ah (by simpa [cA]using e)]
 have int:∀{n:Nat} {x y:Int} {b:Bool} (r r':List Int),qF n (.int x) (.int y)=some b->gY (code n (.int x)++r) (code n (.int y)++r')=if cA (.int x) (.int y)=true then gY r r' else b:=fun{n x y b} r r' h=>by
  have h:some (decide (x<y))=some b:=by cases n<;>exact h
  cases h;have e1:∀z:Int,code n (.int z)=[z]:=fun z=>by cases n<;>rfl
  rw[e1,e1];show gY (x::r) (y::r')=_;rw[fV]
  by_cases e:x=y
  .subst e;rw[ai rfl,ai (by simp[cA])]
  .rw[ah e,ah (by simpa [cA]using e)]
 intro n
 induction n with
 | zero=>
  intro p q b r r' h1 h2 h;cases p with
  |str x=>cases q with
   |str y=>exact str r r' h
   |_=>cases h
  |int x=>cases q with
   |int y=>exact int r r' h
   |_=>cases h
  |_=>cases q<;>cases h
 | succ n ih=>
  intro p q b r r' h1 h2 h;cases p with
  |str x=>cases q with
   |str y=>exact str r r' h
   |_=>cases h
  |int x=>cases q with
   |int y=>exact int r r' h
   |_=>cases h
  | tup xs=>cases q with
   |tup ys=>
    rw[nP];exact AY ih r r' h1 h2 h
   |_=>cases h
  |_=>cases q<;>cases h
theorem EW (ih:∀{p q:PV},qF n p q=some false->qF n q p=some false->cA p q=true) (sym:∀p q:PV,cA p q=cA q p):∀{xs ys:List PV},c6 (qF n) xs ys=some false->c6 (qF n) ys xs=some false->cZ xs ys=true
 |[],[],_,_=>by simp[cZ]
 |[],_::_,h,_=>by cases h
 |_::_,[],_,h=>by cases h
 | x::xs,y::ys,h,h'=>by
  unfold c6 at h h';rw[sym y x]at h';cases e:cA x y with
  |true=>
   rw[ai e]at h h';simp only[cZ,e,Bool.true_and];exact EW ih sym h h'
  |false=>
   rw[ah (by rw[e];exact av)]at h h';rw[ih h h']at e;cases e
mutual
theorem FQ:∀p q:PV,cA p q=cA q p
 | .bH,q=>by cases q<;>simp[cA]
 | .bl a,q=>by cases q<;>simp only[cA]<;>(rw[Bool.eq_iff_iff,dm,dm];exact eq_comm)
 | .int a,q=>by cases q<;>simp only[cA]<;>(rw[Bool.eq_iff_iff,dm,dm];exact eq_comm)
 | .str a,q=>by cases q<;>simp only[cA]<;>(rw[Bool.eq_iff_iff,dm,dm];exact eq_comm)
 | .ty a,q=>by cases q<;>simp[cA]
 | .a9 a,q=>by cases q<;>simp[cA]
 | .tup xs,q=>by
  cases q with
  |tup ys=>simp only[cA];exact vA xs ys
  |_=>simp[cA]
 | .lst xs,q=>by
  cases q with
  |lst ys=>simp only[cA];exact vA xs ys
  |_=>simp[cA]
theorem vA:∀xs ys:List PV,cZ xs ys=cZ ys xs
 |[],ys=>by cases ys<;>simp[cZ]
 |x::xs,[]=>by simp[cZ]
 |x::xs,y::ys=>by simp only[cZ];rw[FQ x y,vA xs ys]
end
theorem tri:∀{n:Nat} {p q:PV},qF n p q=some false->qF n q p=some false->cA p q=true:=by
 have str:∀{x y:Str},¬x.cps.toList<y.cps.toList->¬y.cps.toList<x.cps.toList->cA (.str x) (.str y)=true:=fun h h'=>by
  have e:=List.le_antisymm (not_lt.mp h') (not_lt.mp h);rw[GL e];simp[cA]
 have int:∀{x y:Int},¬x<y->¬y<x->cA (.int x) (.int y)=true:=fun h h'=>by
  have e:_=_:=Int.le_antisymm (Int.not_lt.mp h') (Int.not_lt.mp h);rw[e];simp[cA]
 intro n
 induction n with
 | zero=>
  intro p q h h';cases p with
  |str x=>cases q with
   |str y=>exact str (gd (Option.some.inj h)) (gd (Option.some.inj h'))
   |_=>cases h
  |int x=>cases q with
   |int y=>exact int (gd (Option.some.inj h)) (gd (Option.some.inj h'))
   |_=>cases h
  |_=>cases q<;>cases h
 | succ n ih=>
  intro p q h h';cases p with
  |str x=>cases q with
   |str y=>exact str (gd (Option.some.inj h)) (gd (Option.some.inj h'))
   |_=>cases h
  |int x=>cases q with
   |int y=>exact int (gd (Option.some.inj h)) (gd (Option.some.inj h'))
   |_=>cases h
  |tup xs=>cases q with
   |tup ys=>rw[nP];exact EW ih FQ h h'
   |_=>cases h
  |_=>cases q<;>cases h
noncomputable def dW (n:Nat) (ps:List PV):Bool:=ps.all fun p=>pB n p && ps.all fun q=>(qF n p q).isSome
noncomputable abbrev sW:KeyOrd:=YN D7
noncomputable def l3 (n:Nat) (a b:PV):Bool:=!gY (code n b) (code n a)
noncomputable def A9 (n:Nat) (ps:List PV):List PV:=ps.mergeSort (l3 n)
theorem x6 (a b c:PV) (h1:l3 n a b=true) (h2:l3 n b c=true):l3 n a c=true:=by
 unfold l3 at*;rw[not_eq_true']at*;exact lz (O:=sW) h1 h2
theorem HL {n:Nat} (a b:PV):(l3 n a b||l3 n b a)=true:=by
 unfold l3;rcases eM (A:=sW) (code n a) (code n b)with⟨x,y⟩|⟨x,y⟩|x
 .rw[show gY (code n b) (code n a)=false from y];rfl
 .rw[show gY (code n a) (code n b)=false from y];simp
 .rw[x,show gY (code n b) (code n b)=false from sW.irrefl _];rfl
theorem fI (n:Nat) (ps:List PV):(A9 n ps).Perm ps:=List.mergeSort_perm ps (l3 n)
theorem k9 (n:Nat) (ps:List PV):(A9 n ps).Pairwise fun a b=>l3 n a b=true:=List.pairwise_mergeSort x6 HL ps
theorem mR:∀{a b:List PV},a.Pairwise (fun x y=>l3 n x y=true)->b.Pairwise (fun x y=>l3 n x y=true)->a.Perm b->(∀x∈a,∀y∈a,l3 n x y=true->l3 n y x=true->x=y)->a=b
 |[],b,_,_,p,_=>List.Perm.nil_eq p
 |x::a,[],_,_,p,_=>absurd p.symm.nil_eq (by simp)
 | x::a,y::b,ha,hb,p,an=>by
  have hx:=(ik.mp ha).1;have hy:=(ik.mp hb).1;have e:x=y:=by
   rcases br.mp (p.mem_iff.mp bf)with z|z
   .exact z
   .rcases br.mp (p.mem_iff.mpr bf)with w|w
    .exact w.symm
    .exact an x bf y (ax _ w) (hx y w) (hy x z)
  subst e;rw[mR (ik.mp ha).2 (ik.mp hb).2 p.cons_inv fun u hu v hv=>an u (ax _ hu) v (ax _ hv)]
theorem uA (h:dW n ps=true) {p q:PV} (hp:p∈ps) (hq:q∈ps):qF n p q=some (gY (code n p) (code n q)):=by
 have a:=bb.mp h p hp;have b:=bb.mp h q hq;rw[bz]at a b;have c:=bb.mp a.2 q hq;obtain⟨v,e⟩:=je.mp c;have c':=bb.mp b.2 p hp;obtain⟨v',e'⟩:=je.mp c';have k:=OK [] [] a.1 b.1 e;rw[gj,gj]at k;rw[e,k];cases z:cA p q with
 |false=>rw[ah av]
 | true=>
  rw[ai rfl];have epq:=DP a.1 b.1 z;subst epq;rw[e]at e';cases e';show some v=some false;have irr:∀{m:Nat} {p:PV} {v:Bool},pB m p=true->qF m p p=some v->v=false:=by
   intro m p v hp h;cases v with
   |false=>rfl
   | true=>
    exfalso;cases m with
    |zero=>
     cases p with
     |str x=>exact absurd (ao (Option.some.inj h)) (List.lt_irrefl _)
     |int x=>exact absurd (ao (Option.some.inj h)) (by omega)
     |_=>cases h
    | succ m=>
     cases p with
     |str x=>exact absurd (ao (Option.some.inj h)) (List.lt_irrefl _)
     |int x=>exact absurd (ao (Option.some.inj h)) (by omega)
     | tup xs=>
      have key:∀{l:List PV},l.all (pB m)=true->c6 (qF m) l l=some false:=by
       intro l
       induction l with
       |nil=>intro _;rfl
       |cons x l ih=>
        intro hl;rw[all_cons,bz]at hl;unfold c6;rw[ai (pV hl.1)];exact ih hl.2
      have:=key (show xs.all (pB m)=true from hp);rw[show c6 (qF m) xs xs=some true from h]at this;cases this
     |_=>cases h
  rw[irr a.1 e]
theorem pP (h:dW n ps=true) {p q:PV} (hp:p∈ps) (hq:q∈ps) (h1:l3 n p q=true) (h2:l3 n q p=true):p=q:=by
 have a:=bb.mp h p hp;have b:=bb.mp h q hq;rw[bz]at a b;unfold l3 at h1 h2;rw[not_eq_true']at h1 h2;refine DP a.1 b.1 (tri (n:=n) ?_ ?_)
 .rw[uA h hp hq,h2]
 .rw[uA h hq hp,h1]
section
variable {X:Cx} {k:Nat}
def D3 (K:Frag):List V->Hp->VK->Prop:=fun xs H Q=>∃p ys ps b,xs=[.ref p]/\iW K H p ys/\bC K cL H ps ys/\ys.length<128/\(∀x∈ps,uI b x=true)/\dW 3 ps=true/\
 ∀l (ix:List Nat),ix.Perm (List.range ps.length)->(ix.map fun i=>ps.getD i .bH).Pairwise (fun a b=>l3 3 a b=true)->H l=none->Q (.ref l) (upd H l (.lst (ix.map fun i=>ys.getD i .bH)))
theorem xZ {b:Bool}:∀{ps:List PV} {vs:List Value},bN s.heap ps vs->(∀x∈ps,uI b x=true)->∃fs,KatTups s.heap vs fs/\fs.length=vs.length/\∀v∈fs,(∃x t,b=true/\v= .str x t)\/ ∃x t,b=false/\v= .int x t
 |[],_,.nil,_=>⟨[],.nil,rfl,fun _ h=>nomatch h⟩
 | p::ps,_,.cons l r,h=>by
  obtain⟨fs,h1,h2,h3⟩:=xZ r fun z hz=>h z (ax _ hz)
  have hp:=h p bf;cases l with
  | tup t1 r1=>
   obtain⟨o,g1,g2,m,g3⟩:=t1;cases r1 with
   |nil=>cases hp
   | cons a1 a2=>
    cases a1 with
    |str x t=>
     refine⟨.str x t::fs,.cons g1 g2 g3 (by simp) h1,by rw[length_cons,length_cons,h2],fun v hv=>?_⟩;rcases br.mp hv with e|e
     .exact .inl ⟨x,t,hp,e⟩
     .exact h3 v e
    |int x t=>
     refine⟨.int x t::fs,.cons g1 g2 g3 (by simp) h1,by rw[length_cons,length_cons,h2],fun v hv=>?_⟩;rcases br.mp hv with e|e
     .exact .inr ⟨x,t,by simpa [uI]using hp,e⟩
     .exact h3 v e
    |_=>cases hp
  |_=>cases hp
theorem WC {P:Program} {b:Bool} {vs:List Value} (hL:bN s.heap ps vs) (hu:A.units+2<cLine) (led:∀x∈ps,uI b x=true) (ok:∀x∈ps,jK 3 x=true) (cmp:dW 3 ps=true) (h2:2<=vs.length):
  zB P w A vs (fun p=>C4 sW (fun i=>code 3 (ps.getD i .bH)) p vs.length) s:=by
 have hl:=hL.length;obtain⟨fs,k1,k2,k3⟩:=xZ hL led;refine⟨tuples' (Value.type (UQ b) !=Value.type "tuple"),sW,fun i=>code 3 (ps.getD i .bH),fun Q E q=>kat_kind k1 (by omega) (fun v hv=>?_) (by cases b<;>decide) q,fun i j C hi hj hC=>?_,fun p _ h=>h⟩
 .rcases k3 v hv with⟨x,t,rfl,rfl⟩|⟨x,t,rfl,rfl⟩
  .exact Looks.of_pure rfl
  .exact Looks.of_pure rfl
 .have e1:ps[i]? =some ps[i]:=ag (by omega);have e2:ps[j]? =some ps[j]:=ag (by omega);refine acM (n:=2) hL hu led ok e1 e2 (uA cmp (iu _) (iu _)) ?_;have hC:C (sW.blt (code 3 (ps.getD i .bH)) (code 3 (ps.getD j .bH))) _:=hC;rw[aq,e1,aq,e2]at hC;exact hC
theorem YX {p:Array Nat} {m:Nat} (h:C4 sW (fun i=>code 3 (ps.getD i .bH)) p m) (hm:p.toList.length=m):(p.toList.map fun i=>ps.getD i .bH).Pairwise (fun a b=>l3 3 a b=true):=by
 rw[kz];intro i j hi hj hij;rw[aj]at hi hj;have h:=h i j (by omega) (by omega);rw[getElem_map,getElem_map];have ky:∀(i:Nat) (hi:i<p.toList.length),Ky sW (fun i=>code 3 (ps.getD i .bH)) p i=code 3 (ps.getD p.toList[i] .bH):=fun i hi=>by
  unfold Ky;rw[ja,<-getElem?_toList,ag hi];rfl
 rw[ky i hi,ky j hj]at h;show(!gY _ _)=true;rw[not_eq_true'];exact h
theorem UJ (K:Frag) (hr:c8 k X.A) (hK:X.K=K:=by rfl):cS X (.builtin "sorted") (D3 K):=by
 subst hK;intro pins s σ H xs us Q I r ⟨p,ys,ps,b,e,hq,rp,h64,led,cmp,q⟩;subst e;obtain⟨u,rfl,rx⟩:=vals1 r;cases rx;obtain⟨vs,rv,pl,hz⟩:=I.list hq;have hlen:=rv.length;have hpl:=rp.length;have ok:∀x∈ps,jK 3 x=true:=fun x hx=>by
  have:=bb.mp cmp x hx;rw[bz]at this;exact EK this.1
 refine AW (R:=fun p=>C4 sW (fun i=>code 3 (ps.getD i .bH)) p vs.length) pl.isList (by omega) (fun l2 h' kp=>?_) (fun h2 i j a b=>?_) fun out p h1 h2 h3=>?_
 .have I':=I.kept (t':=s.toks) kp;have hL:bN h' ps vs:=bC.lies I' (n:=3) (bb.mpr ok) rp rv;exact WC (s:={s with heap:=h'}) hL (by have:=hr.un;show X.A.units+1+1+2<_;omega) led ok cmp l2
 .rw[show i=j by omega];exact iq _
 .have hp:p.toList.Perm (List.range vs.length):=by simpa using ku.mp h1
  have hlt:∀i∈p.toList,i<vs.length:=fun i hi=>mem_range.mp (hp.mem_iff.mp hi)
  have z2:=u6 rv p.toList hlt;rw[<-h3]at z2;have hpz:p.toList.length=vs.length:=by rw[hp.length_eq,eu]
  obtain⟨c,hat⟩:=sortedAll_at s.heap vs out;refine⟨.ref (s.heap.objs.size+1),_,I.laid (t':=s.toks) (o:=.lst (p.toList.map fun i=>ys.getD i .bH)) (fun b o e=>sortedAll_old e) (jf _) ⟨by rw[aj,hpz,<-hlen];exact hz,out.toList,c,z2,hat⟩,rfl,q _ _ (by rw[hpl,hlen];exact hp) (YX h2 hpz) (I.bS.fresh (jf _))⟩
end
section
variable {K:Frag}
noncomputable def rT:List PV->Option Bv
 |[.lst ps]=>aZ (decide (ps.length<128) && ((ps.all (uI true)||ps.all (uI false)) && dW 3 ps)) (some (.new (.lst (A9 3 ps))))
 |_=>none
theorem xN {Z:aJ} {H:Hp} {ys:List V} (r:bC K Z H ps ys):∀{ix:List Nat},(∀i∈ix,i<ps.length)->bC K Z H (ix.map fun i=>ps.getD i .bH) (ix.map fun i=>ys.getD i .bH)
 |[],_=>.nil
 |i::ix,h=>by
  have hi:=h i bf;have e:=ag hi;obtain⟨v,ev,rv⟩:=r.get e;refine .cons ?_ (xN r fun j hj=>h j (ax _ hj));dsimp only;rw[aq,aq,e,ev];exact rv
theorem JY:lL K (D3 K) rT:=by
 intro Z H vs qs b Q hp h kk;unfold rT at h;split at h
 .rename_i ps;obtain⟨c,h⟩:=aK h;cases h;rw[bz,bz]at c;obtain⟨c1,c2,c3⟩:=c;obtain⟨v,rfl,hv⟩:=hp.one;obtain⟨a,ys,rfl,ha,ra⟩:=hv.qS;have led:∃b,∀x∈ps,uI b x=true:=by
   rcases Bool.or_eq_true_iff.mp c2 with z|z
   .exact⟨true,fun x hx=>bb.mp z x hx⟩
   .exact⟨false,fun x hx=>bb.mp z x hx⟩
  obtain⟨b,led⟩:=led;refine⟨a,ys,ps,b,rfl,ha.sq,ra.aL (.less fun _ z=>z.elim),by rw[<-ra.length];exact ao c1,led,c3,fun l ix h1 h2 hl=>?_⟩;have hix:∀i∈ix,i<ps.length:=fun i hi=>mem_range.mp (h1.mem_iff.mp hi)
  have pm:(ix.map fun i=>ps.getD i .bH).Perm ps:=by
   have:=h1.map fun i=>ps.getD i PV.bH
   have e:(List.range ps.length).map (fun i=>ps.getD i PV.bH)=ps:=by
    apply ext_getElem
    .simp
    .intro i a1 a2;simp[ag a2]
   rw[e]at this;exact this
  have es:A9 3 ps=ix.map fun i=>ps.getD i .bH:=
   mR (k9 3 ps) h2 ((fI 3 ps).trans pm.symm) fun x hx y hy=>pP c3 ((fI 3 ps).mem_iff.mp hx) ((fI 3 ps).mem_iff.mp hy)
  rw[es]at kk;exact kk _ _ (aV.upd hl) (MT hl (xN ra hix))
 .cases h
end
end Mr
namespace Mr
open PySem PySem.Spec L2 PyProof.Rows
variable {X:Cx} {e:En} {fa:FA} {ta:TA}
section
variable {K:Frag}
def KA (K:Frag):List V->Hp->VK->Prop:=fun xs H Q=>DF K xs H Q\/ (EB xs H Q\/ D3 K xs H Q)
theorem r6 {k:Nat} (K:Frag) (hr:c8 k X.A) (hK:X.K=K:=by rfl) (hc:X.calm=true:=by rfl):cS X (.builtin "sorted") (KA K):=cS.or (JD K hK) (cS.or (ZV hc) (UJ K hr hK))
noncomputable def cN:List PV->Option Bv:=fun p=>(rN p).or ((m7 p).or (rT p))
theorem A5:lL K (KA K) cN:=lL.or LO (lL.or NW JY)
end
section
variable {K:Frag}
noncomputable def mulC (i j:Int):Bool:=decide (Builtin.Int.intTooBig (Builtin.Int.intBits i+Builtin.Int.intBits j)=false)
theorem yE:g9 X (binaryOp .Mult) (rI IntMulOk fun i j=>.int (i*j)):=ZA fun _ _ _ _ _ _ _ hc q=>mul_int q hc
noncomputable def rX:PV->PV->Option Bv:=gI mulC fun i j=>.int (i*j)
theorem ER:cY K (rI IntMulOk fun i j=>.int (i*j)) rX:=L4 (fun i j h=>by
 have h:=ao h;unfold IntMulOk;rw[h,Bool.and_false];exact av) fun _ _ _ _=>.int _
end
section
variable {K:Frag}
noncomputable def inR (k:Int):Bool:= @decide (-1000000000<=k/\k<1000000000) (Classical.propDecidable _)
theorem mJ {k:Int} (h0: -1000000000<=k) (h1:k<1000000000):inR k=true:= @decide_eq_true _ (Classical.propDecidable _) ⟨h0,h1⟩
noncomputable def BO (fa:FA):FI:=fun _ e=>bE (fa e) fun bs e1=>match bs with
 |[.val (.int j)]=>aZ (inR j) (some ((List.range j.toNat).map (fun k:Nat=>.int (0+(k:Int))),e1))
 |_=>none
theorem RF (h:qZ K ta fa):wD K (SV ta) (BO fa):=by
 intro st O M W L σ H e e' ps R o he hf q;obtain⟨x,e1,f1,hf⟩:=aM hf;refine h O M W L σ H e e1 x _ o he f1 fun vs H1 k1 en rv=>?_
 split at hf
 .rename_i j;obtain⟨c,hf⟩:=aK hf;have c:= @ao _ (Classical.propDecidable _) c;cases hf;cases rv with
  |cons h r=>
   cases r;cases h;exact⟨j,rfl,by omega,by omega,q _ H1 k1 en fun Wr hw _=>KJ⟩
 .cases hf
noncomputable def U3 (fa:FA):FI:=fun _ e=>bE (fa e) fun bs e1=>match bs with
 |[.val (.int i),.val (.int j)]=>aZ (inR i && inR j) (some ((List.range (j - i).toNat).map (fun k:Nat=>.int (i+(k:Int))),e1))
 |_=>none
theorem OM (h:qZ K ta fa):wD K (S5 ta) (U3 fa):=by
 intro st O M W L σ H e e' ps R o he hf q;obtain⟨x,e1,f1,hf⟩:=aM hf;refine h O M W L σ H e e1 x _ o he f1 fun vs H1 k1 en rv=>?_
 split at hf
 .rename_i i j;obtain⟨c,hf⟩:=aK hf;rw[bz]at c;have c1:= @ao _ (Classical.propDecidable _) c.1;have c2:= @ao _ (Classical.propDecidable _) c.2;cases hf;cases rv with
  | cons h r=>
   cases r with
   |cons h' r=>
    cases r;cases h;cases h';exact⟨i,j,rfl,⟨by omega,by omega,by omega,by omega⟩,q _ H1 k1 en fun Wr hw _=>KJ⟩
 .cases hf
theorem WY {st:Nat->Bool}:BO fa st e=bE (fa e) fun bs e1=>match bs with
 |[.val (.int j)]=>aZ (inR j) (some ((List.range j.toNat).map (fun k:Nat=>.int (0+(k:Int))),e1))
 |_=>none:=rfl
theorem WV {st:Nat->Bool}:U3 fa st e=bE (fa e) fun bs e1=>match bs with
 |[.val (.int i),.val (.int j)]=>aZ (inR i && inR j) (some ((List.range (j - i).toNat).map (fun k:Nat=>.int (i+(k:Int))),e1))
 |_=>none:=rfl
end
end Mr
namespace Mr
open PySem L2
variable {α β:Type}
theorem ON {k:α->Option β}:bO (none:Option α) k=none:=rfl
theorem OR {k:α->En->Option β}:bE (none:Option (α×En)) k=none:=rfl
end Mr
namespace Mr
open PySem PySem.Spec L2 PyProof.Rows PySem.W
noncomputable def J1:Key->PV
 | .inl i=>.int i
 | .inr x=>.str x
end Mr
namespace L2
open PySem PySem.Spec PyProof.Rows PySem.W
section
variable {prog:Program} {w:World} {A:Around} {R:Result->Shared->Prop} {I:Addr} {fp wr:List Addr} {n:Nat} {Pz:Nat->Value->Prop} {Sz:Nat->Heap->Prop}
def S1 (prog:Program) (w:World) (A:Around) (ok:Heap->Prop) (Pz:Nat->Value->Prop) (bt:Nat->Nat->Bool):Prop:=
 ∀i j vi vj (s:Shared) (Q:Value->Shared->Prop) (E:Value->Shared->Prop),ok s.heap->Pz i vi->Pz j vj->Q (.bool (bt i j)) s->wpAny (model prog w) A (richCompare .Lt vi vj) Q E s
theorem yK:(toString "min"++toString ".loop":String)="min.loop":=by decide
theorem LZ {ok:Heap->Prop} (W:Walks prog w A.in1 I fp wr n Pz Sz) (bt:Nat->Nat->Bool) (hcmp:S1 prog w A.in1 ok Pz bt) (S:Addr) (nf:S∉fp) (okk:∀h h',ok h->(∀b o,b∉wr->b≠S->h.get? b=some o->h'.get? b=some o)->ok h'):
  ∀(k j:Nat) (s:Shared) (vb:Value) (c:Nat),n - (j+1)=k->j+1<=n->ok s.heap->Sz (j+1) s.heap->Pz (argBest bt j) vb->s.heap.get? S=some {cls:=.type "list",dict:=none,data:=.seq #[vb,vb] c,slots:= #[]}->
  (∀v h' tk,Pz (argBest bt (n - 1)) v->(∀b o,b∉wr->b≠S->s.heap.get? b=some o->h'.get? b=some o)->R (.ok (.ret v)) {s with heap:=h',toks:=tk})->codeAny (model prog w) A (.builtin "min.loop" ⟨[.ref I,.none,.ref S],[]⟩) R s:=by
 have nw:S∉wr:=fun h=>nf (W.sub _ h)
 intro k
 induction k with
 |zero=>
  intro j s vb c hk hj bS st hb gS hR;have e:j+1=n:=by omega
  refine mj F.entry_min_loop ?_;rw[jd jj _];refine af (m:=seqItems? (.ref S)) (wpAny_seqItems gS rfl ?_);refine af (m:=tryCatch (pyNext (.ref I)) _) (wpAny_tryCatch (W.done s _ _ (e▸st) fun h' tk kp=>?_));have gS':=kp S _ nw gS;refine af (m:=updateSeq S (fun _=> #[])) (wpAny_updateSeq gS' rfl (af (wpAny_letGo (ay ?_))));exact hR vb _ tk (by rw[<-e];exact hb) fun b o h1 h2 q=>(get?_update_other _ _ (Ne.symm h2)).trans (kp b o h1 q)
 | succ k ih=>
  intro j s vb c hk hj bS st hb gS hR;have hlt:j+1<n:=by omega
  refine mj F.entry_min_loop ?_;rw[jd jj _];refine af (m:=seqItems? (.ref S)) (wpAny_seqItems gS rfl ?_);refine af (m:=tryCatch (pyNext (.ref I)) _) (wpAny_tryCatch (W.item (j+1) s _ _ hlt st fun v h' tk hP st' kp=>?_));have gS':=kp S _ nw gS;have ok':ok h':=okk _ _ bS fun b o h1 _ q=>kp b o h1 q
  refine af (m:=tryCatch (holding [v,v] (richCompare .Lt v vb>>=_)) _) (wpAny_tryCatch (ig (af (hcmp (j+1) (argBest bt j) v vb {s with heap:=h',toks:=tk} _ _ ok' hP hb ?_))));refine af (ig (wpAny_truthy_bool (af (wpAny_letGo (ay ?_)))));cases hbt:bt (j+1) (argBest bt j)with
  |true=>
   simp only[if_true];refine af (wpAny_updateSeq gS' rfl (af (wpAny_letGo ?_)));rw[yK];have ne:∀{b:Addr} {o:Obj},b≠S->h'.get? b=some o->(h'.update S (Obj.mapSeq fun _=> #[v,v])).get? b=some o:=fun h q=>(get?_update_other _ _ (Ne.symm h)).trans q
   refine ay ⟨plainId_quiet jj _,ih (j+1) _ v _ (by omega) hlt (okk _ _ ok' fun b o _ h2 q=>ne h2 q) (W.frame _ _ _ st' fun b hbf o q=>ne (fun z=>nf (by rw[<-z];exact hbf)) q) (by simp only[argBest,hbt,if_true];exact hP) (get?_update_self _ gS' rfl) fun v' h2 tk2 hP' kp2=>?_⟩;exact hR v' h2 tk2 hP' fun b o h1 h3 q=>kp2 b o h1 h3 (ne h3 (kp b o h1 q))
  |false=>
   simp only[false_eq_true,if_false];refine af (wpAny_letGo ?_);rw[yK];refine ay ⟨plainId_quiet jj _,ih (j+1) _ vb c (by omega) hlt ok' st' (by simp only[argBest,hbt,false_eq_true,if_false];exact hb) gS' fun v' h2 tk2 hP' kp2=>?_⟩;exact hR v' h2 tk2 hP' fun b o h1 h3 q=>kp2 b o h1 h3 (kp b o h1 q)
theorem min_list {E:Value->Shared->Prop} {s:Shared} {l:Addr} {vs:List Value} {Q:Value->Shared->Prop} {ok:Heap->Prop} (bt:Nat->Nat->Bool) (hh:A.handled=none) (hl:s.heap.IsList l vs.toArray) (hn:0<vs.length)
  (bS:∀h',(∀b o,s.heap.get? b=some o->h'.get? b=some o)->ok h') (okk:∀h h':Heap,ok h->(∀b o,b<s.heap.objs.size->h.get? b=some o->h'.get? b=some o)->ok h') (hcmp:S1 prog w A.in1 ok (fun i v=>vs[i]? =some v) bt)
  (hq:∀v h' tk,vs[argBest bt (vs.length - 1)]? =some v->(∀b o,s.heap.get? b=some o->h'.get? b=some o)->Q v {s with heap:=h',toks:=tk}):wpAny (model prog w) A (call (.builtin "min") [.ref l]) Q E s:=by
 have lS:l<s.heap.objs.size:=let⟨_,e,_⟩:=hl;cv e
 refine call_function_tree F.kind_min F.plain_min F.entry_min (F.args_min1 _) ?_;refine af (m:=Builtin.Builtins.bindParams "min" ["key","default"] 0 ⟨[],[]⟩) (wpAny_of_eq (show Builtin.Builtins.bindParams "min" ["key","default"] 0 ⟨[],[]⟩=pure [none,none]from rfl) (af (ay ?_)));refine af (wpAny_pyIter_list hl ?_);refine af (fq ?_);rw[yK];generalize hX:(s.heap.push {cls:=.type "list_iterator",data:=.fields #[.ref l,.int 0 0]})=h1;have z1:h1.objs.size=s.heap.objs.size+1:=by rw[<-hX];exact size_push ..
 have k1:∀b o,s.heap.get? b=some o->h1.get? b=some o:=fun b o e=>by rw[<-hX];exact au _ e
 have e1:h1.get? s.heap.objs.size=some {cls:=.type "list_iterator",data:=.fields #[.ref l,.int 0 0]}:=by rw[<-hX];exact dc _ rfl
 have nI:l≠s.heap.objs.size:=cw lS;have W:=Walks.list (prog:=prog) (w:=w) (A:=A.in1) (by exact hh) s.heap.objs.size l nI vs.toArray;have gS:(h1.push {cls:=.type "list",data:=.seq ([]:List Value).toArray}).get? h1.objs.size=some {cls:=.type "list",dict:=none,data:=.seq #[] 0,slots:= #[]}:=dc _ rfl;have nf:h1.objs.size∉[s.heap.objs.size,l]:=by
  rw[z1];simp only[br,not_mem_nil,or_false,not_or];exact⟨ne_of_gt (lt_succ_self _),ne_of_gt (gm lS)⟩
 have nw:h1.objs.size∉[s.heap.objs.size]:=fun z=>nf (by simp at z⊢;exact .inl z)
 have st0:(h1.push {cls:=.type "list",data:=.seq ([]:List Value).toArray}).IsListIter s.heap.objs.size l 0/\(h1.push {cls:=.type "list",data:=.seq ([]:List Value).toArray}).IsList l vs.toArray:=by
  refine⟨⟨_,au _ e1,rfl,rfl⟩,?_⟩;obtain⟨o,e,r⟩:=hl;exact⟨o,au _ (k1 _ _ e),r⟩
 refine ay ⟨plainId_quiet jj _,?_⟩;refine mj F.entry_min_loop ?_;rw[jd jj _];refine af (m:=seqItems? (.ref h1.objs.size)) (wpAny_seqItems gS rfl ?_);refine af (m:=tryCatch (pyNext (.ref s.heap.objs.size)) _) (wpAny_tryCatch (W.item 0 {s with heap:=h1.push {cls:=.type "list",data:=.seq ([]:List Value).toArray}} _ _ (by simpa using hn) st0 fun v h' tk hP st' kp=>?_));have gS':=kp h1.objs.size _ nw gS;refine af (m:=updateSeq h1.objs.size (fun _=> #[v,v])) (wpAny_updateSeq gS' rfl ?_);rw[yK];have ne:∀{b:Addr} {o:Obj},b≠h1.objs.size->h'.get? b=some o->(h'.update h1.objs.size (Obj.mapSeq fun _=> #[v,v])).get? b=some o:=fun h q=>(get?_update_other _ _ (Ne.symm h)).trans q
 have ltS:∀{b:Addr} {o:Obj},s.heap.get? b=some o->b∉[s.heap.objs.size]/\b≠h1.objs.size:=fun e=>by
  have:=cv e;rw[z1];exact⟨by simp;exact cw this,cw (gm this)⟩
 have kq:∀b o,s.heap.get? b=some o->(h'.update h1.objs.size (Obj.mapSeq fun _=> #[v,v])).get? b=some o:=fun b o e=>ne (ltS e).2 (kp b o (ltS e).1 (au _ (k1 b o e)))
 refine ay ⟨plainId_quiet jj _,LZ (ok:=ok) W bt (fun i j vi vj s Q E h1 h2 h3 h4=>hcmp i j vi vj s Q E h1 (by simpa using h2) (by simpa using h3) h4) h1.objs.size nf (fun h h2 o k=>okk h h2 o fun b u hb q=>k b u (by simp;exact cw hb) (by rw[z1];exact cw (gm hb)) q) _ 0 _ v _ rfl (by simp;omega) (bS _ kq) (W.frame _ _ _ st' fun b hbf o q=>ne (fun z=>nf (by rw[<-z];exact hbf)) q) (by simpa [argBest]using hP) (get?_update_self _ gS' rfl) fun v' h2 tk2 hP' kp2=>?_⟩;exact hq v' h2 tk2 (by simpa using hP') fun b o e=>kp2 b o (ltS e).1 (ltS e).2 (kq b o e)
end
end L2
namespace Mr
open PySem PySem.Spec L2 PyProof.Rows PySem.W
variable {ps:List PV}
noncomputable def BN (ps:List PV) (i j:Nat):Bool:=gY (code 3 (ps.getD i .bH)) (code 3 (ps.getD j .bH))
noncomputable def yV (ps:List PV):PV:=ps.getD (argBest (BN ps) (ps.length - 1)) .bH
theorem kN (bt:Nat->Nat->Bool):∀k,argBest bt k<=k
 |0=>bj _
 |k+1=>by
  have:=kN bt k;unfold argBest;split<;>omega
theorem OY {ps:List PV} {k:Nat} (hk:k<ps.length):∀i,i<=k->l3 3 (ps.getD (argBest (BN ps) k) .bH) (ps.getD i .bH)=true:=by
 induction k with
 |zero=>
  intro i hi;have:i=0:=by omega
  subst this;unfold l3 argBest;rw[show gY (code 3 (ps.getD 0 .bH)) (code 3 (ps.getD 0 .bH))=false from sW.irrefl _];rfl
 | succ k ih=>
  intro i hi;have ih:=ih (by omega);unfold argBest;cases e:BN ps (k+1) (argBest (BN ps) k)with
  | true=>
   rw[ai rfl]
   by_cases h:i=k+1
   .subst h;unfold l3;rw[show gY (code 3 (ps.getD (k+1) .bH)) (code 3 (ps.getD (k+1) .bH))=false from sW.irrefl _];rfl
   .refine x6 _ (ps.getD (argBest (BN ps) k) .bH) _ ?_ (ih i (by omega));unfold l3;rw[show gY (code 3 (ps.getD (argBest (BN ps) k) .bH)) (code 3 (ps.getD (k+1) .bH))=false from zI (A:=sW) e];rfl
  | false=>
   rw[ah av]
   by_cases h:i=k+1
   .subst h;unfold l3;rw[show gY (code 3 (ps.getD (k+1) .bH)) (code 3 (ps.getD (argBest (BN ps) k) .bH))=false from e];rfl
   .exact ih i (by omega)
theorem p9 (h:0<ps.length):yV ps∈ps:=by
 unfold yV;have:=kN (BN ps) (ps.length - 1);rw[aq,ag (show argBest (BN ps) (ps.length - 1)<ps.length by omega)];exact iu _
theorem kW {q:PV} (hq:q∈ps):l3 3 (yV ps) q=true:=by
 obtain⟨i,hi,rfl⟩:=List.mem_iff_getElem.mp hq;have:=OY (ps:=ps) (k:=ps.length - 1) (by omega) i (by omega);rw[show ps.getD i .bH=ps[i] by rw[aq,ag hi];rfl]at this;exact this
section
variable {X:Cx} {k:Nat}
def SY (K:Frag):List V->Hp->VK->Prop:=fun xs H Q=>∃p ys ps,xs=[.ref p]/\iW K H p ys/\bC K cL H ps ys/\0<ps.length/\dW 3 ps=true/\Q (ys.getD (argBest (BN ps) (ps.length - 1)) .bH) H
theorem MX (K:Frag) (hr:c8 k X.A) (hK:X.K=K:=by rfl) (hc:X.calm=true:=by rfl):cS X (.builtin "min") (SY K):=by
 subst hK;intro pins s σ H xs us Q I r ⟨p,ys,ps,e,hq,rp,h0,cmp,q⟩;subst e;obtain⟨u,rfl,rx⟩:=vals1 r;cases rx;obtain⟨vs,rv,pl,hz⟩:=I.list hq;have hlen:=rv.length;have hpl:=rp.length;have ok:∀x∈ps,jK 3 x=true:=fun x hx=>by
  have:=bb.mp cmp x hx;rw[bz]at this;exact EK this.1
 refine min_list (ok:=fun h=>∀b o,s.heap.get? b=some o->h.get? b=some o) (BN ps) (by exact I.ok.hd hc) pl.isList (by omega) (fun h' kp=>kp) (fun h h' o kk b u e=>kk b u (cv e) (o b u e)) (fun i j vi vj s' Q E bS h1 h2 hQ=>?_) fun v h' tk hv kp=>?_
 .have hL:bN s'.heap ps vs:=bC.lies (I.kept (t':=s.toks) bS) (n:=3) (bb.mpr ok) rp rv;obtain⟨p1,e1,l1⟩:=hL.get h1;obtain⟨p2,e2,l2⟩:=hL.get h2;have m1:=ba e1;have m2:=ba e2;refine NB (s:=s') 3 X.A.in1 (by have:=hr.un;show X.A.units+1+3<_;omega) (ok p1 m1) (ok p2 m2) l1 l2 (uA cmp m1 m2) _ _ _ _ ?_;have hQ:Q (.bool (gY (code 3 (ps.getD i .bH)) (code 3 (ps.getD j .bH)))) s':=hQ;rw[aq,e1,aq,e2]at hQ;exact hQ
 .obtain⟨y,hy,ry⟩:=rv.get' hv;refine⟨y,H,I.kept (t':=tk) kp,ry,?_⟩;rw[aq,show ps.length=vs.length by omega,hy]at q;exact q
end
section
variable {K:Frag}
noncomputable def sI:List PV->Option Bv
 |[.lst ps]=>aZ (decide (0<ps.length) && dW 3 ps) (some (.val (yV ps)))
 |_=>none
theorem E9:lL K (SY K) sI:=by
 intro Z H vs qs b Q hp h kk;unfold sI at h;split at h
 .rename_i ps;obtain⟨c,h⟩:=aK h;cases h;rw[bz]at c;have c1:=ao c.1;obtain⟨v,rfl,hv⟩:=hp.one;obtain⟨a,ys,rfl,ha,ra⟩:=hv.qS;refine⟨a,ys,ps,rfl,ha.sq,ra.aL (.less fun _ z=>z.elim),c1,c.2,kk _ H (aV.refl _) ?_⟩;have hlt:argBest (BN ps) (ps.length - 1)<ps.length:=by have:=kN (BN ps) (ps.length - 1);omega
  obtain⟨y,hy,ry⟩:=ra.get (ag hlt);show Rep K Z H (yV ps) _;unfold yV;rw[aq,aq,hy,ag hlt];exact ry
 .cases h
end
end Mr
namespace L2
open PySem
section
variable {X:Cx} {pins:List (Addr×Obj)} {σ:St} {H:Hp} {s:Shared} {a:Addr} {y d:V} {u r:Value} {A:Around} {E:Value->Shared->Prop}
theorem MY {kvs:List (Key×V)} {k:Key} {Q:Value->Shared->Prop} (I:Inv X pins σ H s) (e:vH H a kvs) (ry:RelV (kV k) u) (rd:RelV d r) (hz:kvs.length<sizeLine)
  (h1:∀v w' s',dB kvs k=some v->Inv X pins σ H s'->RelV v w'->Q w' s') (h2:∀ep s',dB kvs k=none->Inv X pins σ (upd H a (.dK (putK kvs k d) ep)) s'->Q r s'):
  wpAny (model X.prog X.w) A (call (.builtin "dict.setdefault") [.ref a,u,r]) Q E s:=by
 obtain⟨z,hd,vs,rel,dd⟩:=MP I.bS e;have hz':vs.length<=sizeLine:=by rw[<-rel.length];exact z
 have rv:=rel.val k;refine call_meetsIn PySem.F.slot_dict_setdefault dd.typeIs PySem.F.entry_dict_setdefault (PySem.F.args_dict_setdefault_3 _ _ _) (kt_meets_setdefault (bU X.prog X.w) a (qU ry) hd r) ⟨vs,dd,hz',fun v hv=>?_,fun hn h' dd' hs=>?_⟩
 .rw[hv]at rv;cases c:dB kvs k with
  |none=>rw[c]at rv;exact rv.elim
  |some v'=>rw[c]at rv;exact h1 v' v _ c (I.tok _) rv
 .rw[hn]at rv;cases c:dB kvs k with
  |some v'=>rw[c]at rv;exact rv.elim
  |none=>
   have hl:(putK kvs k d).length<=sizeLine:=by have:=hZ kvs k d;omega
   have he:∃q,h'.get? a=some q:=let⟨q,_,_,hq,_⟩:=dd';⟨q,hq⟩
   obtain⟨ep,da⟩:=dd'.dictAt;exact h2 ep _ c (tU I e.mut hs he (D0 hl hd (rel.put k rd) da))
end
def MC (td ty tx:TE):TE:=fun σ H Q=>td σ H fun x H1=>∃a,x= .ref a/\IsD H1 a/\ty σ H1 fun y H2=>tx σ H2 fun z H3=>∃kvs k,vH H3 a kvs/\y=kV k/\kvs.length<sizeLine/\
 (∀v,dB kvs k=some v->Q v H3)/\(∀ep,dB kvs k=none->Q z (upd H3 a (.dK (putK kvs k z) ep)))
section
variable {X:Cx} {o e f:Expr} {apos cpos:Pos} {td ty tx:TE}
theorem DJ (ho:PE X o td) (he:PE X e ty) (hf:PE X f tx) (m:M2 X o "setdefault" apos e f cpos):PE X (.Call (.Attribute o "setdefault" apos) [e,f] [] cpos) (MC td ty tx):=by
 intro pins s σ H Q I h;refine wpAny_Call_method m.base m.few m.line plainAttrs_dict PySem.F.slot_dict_setdefault PySem.F.type_dict_setdefault (cD (ho pins s σ H _ I h) fun u s1 ⟨x,H1,I1,rx,a,ex,d,q1⟩=>?_);subst ex;obtain rfl:u=Value.ref a:=rx;obtain⟨t1,t2,_⟩:=C7 I1 d;refine⟨t1,t2,?_⟩;rw[m.trees];refine jo rfl (Calls.evalArgs_plain (jv (cD (he pins s1 σ H1 _ I1 q1) fun iv s2 ⟨y,H2,I2,ry,q2⟩=>
  jv (cD (hf pins s2 σ H2 _ I2 q2) fun fv s3 ⟨z,H3,I3,rz,kvs,k,ea,ey,hz,g1,g2⟩=>Calls.spliced_nil ?_))))
 subst ey;exact MY I3 ea ry rz hz (fun v w' s' c I' r'=>⟨v,H3,I',r',g1 v c⟩) fun ep s' c I'=>⟨z,_,I',rz,g2 ep c⟩
end
end L2
namespace Mr
open PySem L2
variable {a:Addr} {d:DD} {e:En} {D:Ends} {fa:FA} {fb fk fv:FE} {fc:FT} {f g:FX} {H H' H1:Hp} {i:Nat} {σ:St} {tv:TE} {t:Tr} {W:WS} {fi:YG} {B L L1 M O Z:aJ} {Q:wA->Prop}
abbrev DD:=List (Key×List PV)
abbrev Tr:=List (Key×Addr×List PV)
noncomputable def ofT (t:Tr):DD:=t.map fun z=>(z.1,z.2.2)
def BX (a:Addr) (t:Tr):aJ:=fun b=>b=a\/ b∈t.map (·.2.1)
noncomputable def wB (W:WS) (B:aJ):WS:=⟨W.w,fun c=>W.old c/\¬B c⟩
structure Sec (K:Frag) (Z:aJ) (H:Hp) (a:Addr) (t:Tr):Prop where
 TL:vH H a (t.map fun z=>(z.1,V.ref z.2.1))
 lst:∀z∈t,∃xs,H z.2.1=some (.lst xs)/\bC K Z H z.2.2 xs
 nd:(a::t.map (·.2.1)).Nodup
 kd:(t.map (·.1)).Nodup
def Bok (O L:aJ) (H:Hp) (B:aJ):Prop:=∀b,B b->H b≠none/\¬O b/\¬L b
theorem Bok.S0 (o:jB O M W L H) (b:Bok O L H B):jB (aS O B) (aS M B) (wB W B) L H:=
 ⟨fun a h=>h.elim (o.old a) fun h=>(b a h).1,fun a h=>h.elim (fun h=>.inl (o.mo a h)) .inr,fun i a h=>.inl (o.wm i a h),fun a h=>⟨(o.loc a h).1,fun z=>z.elim (o.loc a h).2 fun z=>(b a z).2.2 h⟩⟩
structure eA (W:WS) (L L' B B':aJ) (H H':Hp):Prop where
 obj:∀a o,H a=some o->¬aw W a->¬L a->¬B a->H' a=some o
 tup:∀a xs,H a=some (.tup xs)->H' a=some (.tup xs)
 b7:∀a,H a≠none->H' a≠none
 new:∀a,L' a->L a\/ H a=none
 PL:∀a,B' a->B a\/ H a=none
theorem none_of {H:Hp} (d:∀a,H a≠none->H1 a≠none) {a:Addr} (h:H1 a=none):H a=none:=by
 cases e:H a with
 |none=>rfl
 |some o=>exact absurd h (d a (by rw[e];exact fun z=>nomatch z))
theorem eA.keep (k:bV W L H H'):eA W L L B B H H':=⟨fun a o h n m _=>k.obj a o h n m,k.tup,k.b7,fun _ h=>.inl h,fun _ h=>.inl h⟩
theorem eA.refl:eA W L L B B H H:=.keep .refl
theorem eA.trans {L2 B1 B2:aJ} {H2:Hp} (a:eA W L L1 B B1 H H1) (b:eA W L1 L2 B1 B2 H1 H2):eA W L L2 B B2 H H2:=
  ⟨fun c o h n m l=>b.obj c o (a.obj c o h n m l) n (fun z=>(a.new c z).elim m fun z=>(by rw[h]at z;cases z)) fun z=>(a.PL c z).elim l fun z=>(by rw[h]at z;cases z),
   fun c xs h=>b.tup c xs (a.tup c xs h),fun c h=>b.b7 c (a.b7 c h),fun c h=>(b.new c h).elim (a.new c) fun z=>.inr (none_of a.b7 z),fun c h=>(b.PL c h).elim (a.PL c) fun z=>.inr (none_of a.b7 z)⟩
inductive wA where
 |nx (e:En) (d:DD)|ct (e:En) (d:DD)
abbrev FX:=En->DD->Option wA
structure GX (K:Frag) (O M:aJ) (W:WS) (x:Nat) (a:Addr) (L:aJ) (σ:St) (H:Hp) (e:En) (t:Tr):Prop where
 ok:jB O M W L H
 y4:Bok O L H (BX a t)
 en:aO K (aS (aS M (BX a t)) L) (wB W (BX a t)) L H σ e
 at':σ[x]? =some (some (.ref a))
 sec:Sec K (aS (aS M (BX a t)) L) H a t
def GO (K:Frag) (O M:aJ) (W:WS) (x:Nat) (a:Addr) (L:aJ) (H:Hp) (t:Tr) (D:Ends):wA->Prop
 | .nx e' d'=>∀L' σ' H' t',eA W L L' (BX a t) (BX a t') H H'->GX K O M W x a L' σ' H' e' t'->ofT t'=d'->D.nx σ' H'
 | .ct e' d'=>∀L' σ' H' t',eA W L L' (BX a t) (BX a t') H H'->GX K O M W x a L' σ' H' e' t'->ofT t'=d'->D.ct σ' H'
theorem GO.later {K:Frag} {x:Nat} {t1:Tr} {r:wA} (g:eA W L L1 (BX a t) (BX a t1) H H1) (h:GO K O M W x a L H t D r):GO K O M W x a L1 H1 t1 D r:=by
 cases r with
 |nx e d=>exact fun L' σ' H' t' g'=>h L' σ' H' t' (g.trans g')
 |ct e d=>exact fun L' σ' H' t' g'=>h L' σ' H' t' (g.trans g')
def CO (K:Frag) (x:Nat) (ts:TS) (f:FX):Prop:=∀(O M:aJ) (W:WS) (a:Addr) (L:aJ) (σ:St) (H:Hp) (e:En) (t:Tr) (r:wA) (D:Ends),GX K O M W x a L σ H e t->f e (ofT t)=some r->GO K O M W x a L H t D r->ts D σ H
section
variable {K:Frag} {x:Nat}
theorem Sec.keep (o:jB O M W L H) (b:Bok O L H (BX a t)) (k:bV (wB W (BX a t)) L H H') (s:Sec K (aS (aS M (BX a t)) L) H a t):Sec K (aS (aS M (BX a t)) L) H' a t:=by
 have st:=k.aL (b.S0 o);have nb:∀c ob,BX a t c->H c=some ob->H' c=some ob:=fun c ob hc h=>k.obj c ob h (fun⟨i,w⟩=>(b c hc).2.1 (o.mo _ (o.wm i c w))) (b c hc).2.2
 exact⟨let⟨ep,e⟩:=s.TL;⟨ep,nb a _ (.inl rfl) e⟩,fun z hz=>let⟨xs,h1,h2⟩:=s.lst z hz;⟨xs,nb _ _ (.inr (bh.mpr ⟨z,hz,rfl⟩)) h1,h2.aL st⟩,s.nd,s.kd⟩
theorem GX.keep {e':En} (n:GX K O M W x a L σ H e t) (k:bV (wB W (BX a t)) L H H') (en:aO K (aS (aS M (BX a t)) L) (wB W (BX a t)) L H' σ e'):GX K O M W x a L σ H' e' t:=
 ⟨n.ok.keep k.b7,fun b h=>⟨k.b7 b (n.y4 b h).1,(n.y4 b h).2⟩,en,n.at',n.sec.keep n.ok n.y4 k⟩
theorem kw (k:bV (wB W B) L H H'):bV W L H H':=⟨k.obj,k.tup,k.b7⟩
noncomputable def M0:FX:=fun e d=>some (.nx e d)
theorem JH:CO K x BS M0:=by
 intro O M W a L σ H e t r D n hf q;cases hf;exact q L σ H t .refl n rfl
noncomputable def aaS (f g:FX):FX:=fun e d=>match f e d with
 |some (.nx e1 d1)=>g e1 d1
 |r=>r
noncomputable def xIf (fc:FT) (f g:FX):FX:=fun e d=>bE (fc e) fun b e1=>bB b (f e1 d) (g e1 d)
theorem JP {c:TT} {t u:TS} (hc:mU K c fc) (h1:CO K x t f) (h2:CO K x u g):CO K x (VJ c t u) (xIf fc f g):=by
 intro O M W a L σ H e tr r D n hf q;obtain⟨b,e1,f1,hf⟩:=aM hf;refine hc _ _ _ L σ H e _ _ _ (n.y4.S0 n.ok) n.en f1 fun H1 k1 en=>?_
 have n1:=n.keep k1 en;cases b with
 |true=>rw[ai rfl];exact h1 O M W a L σ H1 e1 tr r D n1 hf (q.later (.keep (kw k1)))
 |false=>rw[ah av];exact h2 O M W a L σ H1 e1 tr r D n1 hf (q.later (.keep (kw k1)))
def F3 (K:Frag) (x:Nat) (g:TG) (f:FG):Prop:=∀(O M:aJ) (W:WS) (L:aJ) (σ:St) (H:Hp) (e e':En) (p:PV) (v:V) (Q:St->Hp->Prop),jB O M W L H->aO K (aS M L) W L H σ e->Rep K (aS M L) H p v->f p e=some e'->(∀σ',σ'[x]? =σ[x]?->aO K (aS M L) W L H σ' e'->Q σ' H)->g v σ H Q
def z4 (K:Frag) (x:Nat) (g:DE) (f:JK):Prop:=∀(O M:aJ) (W:WS) (L:aJ) (σ:St) (H:Hp) (e e':En) (p:List PV) (v:List V) (Q:St->Hp->Prop),jB O M W L H->aO K (aS M L) W L H σ e->bC K (aS M L) H p v->f p e=some e'->(∀σ',σ'[x]? =σ[x]?->aO K (aS M L) W L H σ' e'->Q σ' H)->g v σ H Q
theorem CW (h:i≠x):F3 K x (eE i) (a6 i):=by
 intro O M W L σ H e e' p v Q o he hp hf q;cases hf;exact q _ (df h) (aO.put he rfl hp)
theorem HE:z4 K x N4 n6:=by
 intro O M W L σ H e e' p v Q o he hp hf q;cases p with
 |nil=>cases hf;cases hp;exact⟨rfl,q σ rfl he⟩
 |cons p ps=>cases hf
theorem DT {g:TG} {gs:DE} {f:FG} {fs:JK} (h1:F3 K x g f) (h2:z4 K x gs fs):z4 K x (sD g gs) (cM f fs):=by
 intro O M W L σ H e e' p v Q o he hp hf q;cases p with
 |nil=>cases hf
 |cons p ps=>
  obtain⟨e1,f1,hf⟩:=aE hf;cases hp with
  |cons hp hr=>exact⟨_,_,rfl,h1 O M W L σ H e e1 p _ _ o he hp f1 fun σ' ex he'=>h2 O M W L σ' H e1 e' ps _ _ o he' hr hf fun σ2 ex2=>q σ2 (ex2.trans ex)⟩
theorem HA {n:Nat} {g:DE} {f:JK} (h:z4 K x g f):F3 K x (I0 K n g) (oF n f):=by
 intro O M W L σ H e e' p v Q o he hp hf q;cases p with
 |tup ps=>
  obtain⟨g1,hf⟩:=aK hf;cases hp with
  |tup ha hr=>exact⟨_,_,rfl,ha.sq,by rw[<-hr.length];exact ao g1,h O M W L σ H e e' ps _ Q o he hr hf q⟩
 |_=>cases hf
def Z4 (K:Frag) (Z:aJ) (H:Hp) (J:It) (items:List PV):Prop:=∀Z' H',cO Z Z' H H'->(∀k p,items[k]? =some p->J.go k H'/\∀x H3,J.YI k H' x H3->aV H' H3/\Rep K Z' H3 p x)/\J.stop items.length H'
abbrev YG:=En->Option (List PV×En)
def K6 (K:Frag) (wi:TI) (f:YG):Prop:=∀(O M:aJ) (W:WS) (L:aJ) (σ:St) (H:Hp) (e e':En) (ps:List PV) (R:It->Hp->Prop),jB O M W L H->aO K (aS M L) W L H σ e->f e=some (ps,e')->
 (∀J H',bV W L H H'->aO K (aS M L) W L H' σ e'->Z4 K (aS M L) H' J ps->R J H')->wi σ H R
noncomputable def xIt (f:FE):YG:=fun e=>bE (f e) fun b e1=>match b with
 | .val (.tup ps)=>some (ps,e1)
 |_=>none
theorem P8 {t:TE} {f:FE} (h:Ref K t f):K6 K (V6 K t) (xIt f):=by
 intro O M W L σ H e e' ps R o he hf q;obtain⟨b,e1,f1,hf⟩:=aM hf;refine h O M W L σ H e e1 b _ o he f1 fun v H1 k1 rb fr=>?_
 split at hf
 .cases hf;obtain⟨en,rp⟩:=rb;cases rp with
  |tup ha r=>
   rename_i aa xs;refine .inr (.inl ⟨_,rfl,⟨_,ha.sq⟩,q _ H1 k1 en fun Z' H' st=>?_⟩);have sq:pK K H' aa xs:=TupAt.sq (ha.elim (fun h=>.inl (st.tup _ _ h)) .inr);refine⟨fun k p hp=>?_,xs,sq,by rw[r.length];exact bj _⟩;obtain⟨v,hv,rv⟩:=r.get hp;refine⟨⟨xs,v,sq,hv⟩,fun x H3 y=>?_⟩;obtain⟨e,y⟩:=y;subst e;have:=y xs sq;rw[hv]at this;cases this;exact⟨aV.refl _,rv.aL st⟩
 .cases hf
noncomputable def VM (fa:FA):YG:=fun e=>bE (fa e) fun bs e1=>match bs with
 |[.val (.tup ps)]=>some (ps.zipIdx.map fun z=>.tup [.int (z.2:Int),z.1],e1)
 |_=>none
theorem NK {ta:TA} (h:qZ K ta fa):K6 K (yU K ta) (VM fa):=by
 intro O M W L σ H e e' ps R o he hf q;obtain⟨b,e1,f1,hf⟩:=aM hf;refine h O M W L σ H e e1 b _ o he f1 fun vs H1 k1 en rv=>?_
 split at hf
 .rename_i ps0;cases hf;cases rv with
  | cons h r=>
   cases r;cases h with
   | tup ha ra=>
    rename_i aa xs;refine .inl ⟨aa,xs,rfl,ha.sq,q _ H1 k1 en fun Z' H' st=>?_⟩;have sq:pK K H' aa xs:=TupAt.sq (ha.elim (fun h=>.inl (st.tup _ _ h)) .inr);refine⟨fun k p hp=>?_,xs,sq,by rw[aj,km,ra.length]⟩;rw[az,ke]at hp;cases c:ps0[k]? with
    |none=>rw[c]at hp;cases hp
    |some p0=>
     rw[c]at hp;cases hp;obtain⟨v,hv,rv⟩:=ra.get c;refine⟨⟨xs,v,sq,hv⟩,fun x H3 y=>?_⟩;obtain⟨t,ht,rfl,y⟩:=y;obtain⟨x',hx',rfl⟩:=y xs sq;rw[hv]at hx';cases hx';refine⟨aV.upd ht,.tup (.inl aU) (.cons ?_ (.cons ((rv.aL st).aL (.same (aV.upd ht))) .nil))⟩;rw[fy];exact .int _
 .cases hf
noncomputable def oG (body:PV->En->DD->Option wA):List PV->En->DD->Option wA
 |[],e,d=>some (.nx e d)
 |p::ps,e,d=>match body p e d with
  |some (.nx e1 d1)=>oG body ps e1 d1
  |some (.ct e1 d1)=>oG body ps e1 d1
  |none=>none
noncomputable def LC (fi:YG) (fg:FG) (fb:FX):FX:=fun e d=>bE (fi e) fun ps e1=>oG (fun x e d=>bO (fg x e) fun e2=>fb e2 d) ps e1 d
theorem eA.aL {L':aJ} {t':Tr} (o:jB O M W L H) (g:eA W L L' (BX a t) (BX a t') H H'):cO (aS (aS M (BX a t)) L) (aS (aS M (BX a t')) L') H H':=
 ⟨g.tup,fun c ob h n=>⟨g.obj c ob h (fun⟨i,w⟩=>n (.inl (.inl (o.wm i c w)))) (fun z=>n (.inr z)) fun z=>n (.inl (.inr z)),fun z=>by
  rcases z with(z|z)|z
  .exact n (.inl (.inl z))
  .exact(g.PL c z).elim (fun z=>n (.inl (.inr z))) fun z=>by rw[h]at z;cases z
  .exact(g.new c z).elim (fun z=>n (.inr z)) fun z=>by rw[h]at z;cases z⟩⟩
theorem K0 {wi:TI} {g:TG} {tb:TS} {fg:FG} {fb:FX} (hi:K6 K wi fi) (hg:F3 K x g fg) (hb:CO K x tb fb):CO K x (X6 wi g tb) (LC fi fg fb):=by
 intro O M W a L σ H e tr r D n hf q;obtain⟨ps,e1,f1,hf⟩:=aM hf;refine hi _ _ _ L σ H e e1 ps _ (n.y4.S0 n.ok) n.en f1 fun J H1 k1 en it=>?_
 have n1:=n.keep k1 en;have q1:=q.later (.keep (kw k1))
 let N:Nat->St->Hp->Prop:=fun i σ' H'=>∃L' e' t',eA W L L' (BX a tr) (BX a t') H1 H'/\GX K O M W x a L' σ' H' e' t'/\oG (fun x e d=>bO (fg x e) fun e2=>fb e2 d) (ps.drop i) e' (ofT t')=some r
 refine⟨fun i m σ' H'=>m=ps.length - i/\i<=ps.length/\N i σ' H',⟨ps.length,by simp,eh _,L,e1,tr,.refl,n1,by rw[gq];exact hf⟩,?_⟩;rintro i m σ2 H2 ⟨rfl,hil,L2,e2,t2,g2,n2,f2⟩;obtain⟨itm,its⟩:=it _ H2 (g2.aL n1.ok)
 by_cases hlt:i<ps.length
 .refine .inr ?_;obtain⟨go,yl⟩:=itm i ps[i] (by simp[hlt]);refine⟨go,N (i+1),fun σ' H' n=>⟨ps.length - (i+1),by omega,rfl,hlt,n⟩,fun v H3 y=>?_⟩;obtain⟨s3,rp⟩:=yl v H3 y;rw[dg hlt]at f2;unfold oG at f2;have k3:bV (wB W (BX a t2)) L2 H2 H3:=.same s3;have n3:=n2.keep k3 (n2.en.same s3);have g3:eA W L L2 (BX a tr) (BX a t2) H1 H3:=g2.trans (.keep (kw k3));cases c1:fg ps[i] e2 with
  |none=>rw[c1]at f2;cases f2
  | some e3=>
   rw[c1,sU]at f2;refine hg _ _ _ L2 σ2 H3 e2 e3 _ v _ (n3.y4.S0 n3.ok) n3.en rp c1 fun σ3 ex en3=>?_
   have n4:GX K O M W x a L2 σ3 H3 e3 t2:=⟨n3.ok,n3.y4,en3,by rw[ex];exact n3.at',n3.sec⟩;cases c2:fb e3 (ofT t2)with
   |none=>rw[c2]at f2;cases f2
   |some r1=>
    rw[c2]at f2;refine hb O M W a L2 σ3 H3 e3 t2 r1 _ n4 c2 ?_;cases r1 with
    |nx e4 d4=>exact fun L' σ' H' t' g' n' ed=>⟨L',e4,t',g3.trans g',n',by rw[ed];exact f2⟩
    |ct e4 d4=>exact fun L' σ' H' t' g' n' ed=>⟨L',e4,t',g3.trans g',n',by rw[ed];exact f2⟩
 .have e:i=ps.length:=by omega
  subst e;rw[drop_length]at f2;cases f2;exact .inl ⟨its,q1 L2 σ2 H2 t2 g2 n2 rfl⟩
end
theorem CZ {α β:Type} {f:α->β}:∀{l:List α},(l.map f).Nodup->∀y∈l,∀z∈l,f y=f z->y=z
 |[],_,_,h,_,_,_=>nomatch h
 | w::l,nd,y,hy,z,hz,e=>by
  rw[cq,fw]at nd;rcases br.mp hy with e1|h1
  .rcases br.mp hz with e2|h2
   .rw[e1,e2]
   .exact absurd (bh.mpr ⟨z,h2,by rw[<-e,e1]⟩) nd.1
  .rcases br.mp hz with e2|h2
   .exact absurd (bh.mpr ⟨y,h1,by rw[e,e2]⟩) nd.1
   .exact CZ nd.2 y h1 z h2 e
noncomputable def nY (d:DD) (k:Key) (p:PV):DD:=if(d.any fun kp=>decide (kp.1=k))=true then d.map (fun kp=>if kp.1=k then(kp.1,kp.2++[p])else kp)else d++[(k,[p])]
noncomputable def vJ (t:Tr) (k:Key) (p:PV):Tr:=t.map fun z=>if z.1=k then(z.1,z.2.1,z.2.2++[p])else z
theorem x4 (t:Tr) (k:Key) (p:PV):(vJ t k p).map (·.2.1)=t.map (·.2.1):=by
 unfold vJ;rw[jk];refine jm fun z _=>?_
 simp only[Function.comp_apply];split<;>rfl
theorem NF (t:Tr) (k:Key) (p:PV):(vJ t k p).map (·.1)=t.map (·.1):=by
 unfold vJ;rw[jk];refine jm fun z _=>?_
 simp only[Function.comp_apply];split<;>rfl
theorem LN (t:Tr) (k:Key) (p:PV):(vJ t k p).map (fun z=>(z.1,V.ref z.2.1))=t.map fun z=>(z.1,V.ref z.2.1):=by
 unfold vJ;rw[jk];refine jm fun z _=>?_
 simp only[Function.comp_apply];split<;>rfl
theorem E5 (t:Tr) (k:Key) (p:PV):ofT (vJ t k p)=(ofT t).map fun kp=>if kp.1=k then(kp.1,kp.2++[p])else kp:=by
 unfold vJ ofT;rw[jk,jk];refine jm fun z _=>?_
 simp only[Function.comp_apply];split<;>rfl
theorem zJ (a:Addr) (t:Tr) (k:Key) (p:PV):BX a (vJ t k p)=BX a t:=by
 unfold BX;rw[x4]
section
variable {K:Frag} {x:Nat}
theorem aO.grow {Z':aJ} {W':WS} {e:En} (h:aO K Z W L H σ e) (k:cO Z Z' H H') (ew:W'.w=W.w) (od:∀a,W.old a->H a≠none->W'.old a)
  (ow:∀a o,aw W a\/ L a->H a=some o->H' a=some o) (bo:∀a o,H a=some o->W.old a->¬aw W a->¬L a->H' a=some o):aO K Z' W' L H' σ e:=by
 have aw':∀a,aw W' a->aw W a:=fun a ⟨i,w⟩=>⟨i,by rw[<-ew];exact w⟩
 refine⟨h.len,fun i s q=>?_,h.qD⟩;obtain⟨v,h1,h2⟩:=h.at' i s q;refine⟨v,h1,?_⟩;have rn:∀{a:Addr} {ob:HO},Rd H a ob->H a≠none:=fun r=>by rcases r with r|⟨u,r⟩<;>(rw[r];exact fun z=>nomatch z)
 cases s with
 |val p=>exact Rep.aL k h2
 |own p=>obtain⟨a,e,w,c⟩:=h2;exact⟨a,e,by rw[ew];exact w,c.aL k fun o q=>ow a o (.inl ⟨_,w⟩) q⟩
 |loc p=>obtain⟨a,e,w,c⟩:=h2;exact⟨a,e,w,c.aL k fun o q=>ow a o (.inr w) q⟩
 |bor p=>
  obtain⟨a,e,c⟩:=h2;refine⟨a,e,?_⟩;cases c with
  |lst e o n m r=>exact .lst (e.elim (fun e=>.inl (bo _ _ e o n m)) fun⟨u,e⟩=>.inr ⟨u,bo _ _ e o n m⟩) (od _ o (rn e)) (fun z=>n (aw' _ z)) m (r.aL k)
  |eN e r=>exact .eN e (r.aL k)
  |a9 e o n m kk r=>exact .a9 (e.elim (fun e=>.inl (bo _ _ e o n m)) fun⟨u,e⟩=>.inr ⟨u,bo _ _ e o n m⟩) (od _ o (rn e)) (fun z=>n (aw' _ z)) m kk (r.aL k)
theorem aO.unset {e:En} {v:Option V} (h:aO K Z W L H σ e):aO K Z W L H (σ.set i v) (e.set i none):=by
 refine⟨by rw[jn,jn];exact h.len,fun j t q=>?_,fun j k s1 s2 hjk q1 q2 m1 m2=>?_⟩
 .rcases c7 q with⟨rfl,hl,e⟩|⟨hn,q⟩
  .cases e
  .rw[df hn];exact h.at' j t q
 .rcases c7 q1 with⟨rfl,hl,e⟩|⟨hn1,q1⟩
  .cases e
  .rcases c7 q2 with⟨rfl,hl,e⟩|⟨hn2,q2⟩
   .cases e
   .rw[df hn1,df hn2];exact h.qD j k s1 s2 hjk q1 q2 m1 m2
theorem B5 {l:Addr} {k:Key} {ps:List PV} {e2:En} {b:Bv} {p:PV} (hv:Ref K tv fv) (n:GX K O M W x a L σ H e t) (hz:(k,l,ps)∈t)
  (f2:fv e=some (b,e2)) (g:b.put=some p) (hl:ps.length<1000000) (q:∀H',eA W L L (BX a t) (BX a (vJ t k p)) H H'->GX K O M W x a L σ H' e2 (vJ t k p)->D.nx σ H'):
  tyV K "list" (.ref l) H/\(dD tv tF) σ H fun xs H5=>t9 (.ref l) xs H5 fun _ H6=>D.nx σ H6:=by
 obtain⟨xs0,e0,_⟩:=n.sec.lst _ hz;refine⟨.inl ⟨rfl,xs0,iW.of e0⟩,?_⟩;refine hv _ _ _ L σ H e _ _ _ (n.y4.S0 n.ok) n.en f2 fun v H5 k5 rb fr=>?_
 have o5:=(n.y4.S0 n.ok).keep k5.b7;obtain⟨en,rp⟩:=rb.put o5 g;have n5:=n.keep k5 en;obtain⟨xs,e5,r5⟩:=n5.sec.lst _ hz;have bl:BX a t l:=.inr (bh.mpr ⟨_,hz,rfl⟩);have nl:=(n5.y4 l bl).2;have st:cO (aS (aS M (BX a t)) L) (aS (aS M (BX a t)) L) H5 (upd H5 l (.lst (xs++[v]))):=.write (.inl (.inr bl)) e5 fun _ z=>nomatch z
 have b7:∀c,H5 c≠none->upd H5 l (.lst (xs++[v])) c≠none:=fun c h=>by
  by_cases hc:c=l
  .rw[hc,aU];exact fun z=>nomatch z
  .rw[aQ hc];exact h
 have off:∀c ob,c≠l->H5 c=some ob->upd H5 l (.lst (xs++[v])) c=some ob:=fun c ob hc h=>by rw[aQ hc];exact h
 refine⟨l,xs,v,rfl,rfl,e5,by rw[<-r5.length,lr];show ps.length<_;omega,q _ ?_ ?_⟩
 .rw[zJ];exact⟨fun c ob h nw nL nB=>off c ob (fun z=>nB (by rw[z];exact bl)) (k5.obj c ob h nw nL),fun c ys h=>st.tup c ys (k5.tup c ys h),fun c h=>b7 c (k5.b7 c h),fun _ h=>.inl h,fun _ h=>.inl h⟩
 .have al:a≠l:=fun z=>by
   have:=n5.sec.nd;rw[fw]at this;exact this.1 (by rw[z];exact bh.mpr ⟨_,hz,rfl⟩)
  refine⟨n5.ok.keep b7,?_,?_,n5.at',?_⟩
  .rw[zJ];exact fun c h=>⟨b7 c (n5.y4 c h).1,(n5.y4 c h).2⟩
  .rw[zJ];refine n5.en.grow st rfl (fun _ h _=>h) (fun c ob h he=>off c ob (fun z=>?_) he) fun c ob he h _ _=>off c ob (fun z=>h.2 (by rw[z];exact bl)) he
   rw[z]at h;exact h.elim (fun⟨i,w⟩=>nl.1 (n.ok.mo _ (n.ok.wm i l w))) nl.2
  .rw[zJ];refine⟨?_,fun z hz'=>?_,?_,?_⟩
   .rw[LN];exact let⟨ep,e⟩:=n5.sec.TL;⟨ep,off a _ al e⟩
   .obtain⟨z0,h0,rfl⟩:=bh.mp hz'
    by_cases hk:z0.1=k
    .have:z0=(k,l,ps):=CZ n5.sec.kd z0 h0 _ hz hk;subst this;rw[ai rfl];exact⟨_,aU,(r5.aL st).app (.cons (rp.aL st) .nil)⟩
    .rw[ah hk];obtain⟨ys,h1,h2⟩:=n5.sec.lst z0 h0;have hne:z0.2.1≠l:=fun z=>by
      have:=CZ (fw.mp n5.sec.nd).2 z0 h0 _ hz z;exact hk (by rw[this])
     exact⟨ys,off _ _ hne h1,h2.aL st⟩
   .rw[x4];exact n5.sec.nd
   .rw[NF];exact n5.sec.kd
noncomputable def UM (fk fv:FE):FX:=fun e d=>bE (fk e) fun kb e1=>bO (kb.weak.get e1) fun kp=>bO (keyOf kp) fun k=>bE (fv e1) fun b e2=>bO b.put fun p=>
 aZ (decide (d.length<1000000) && d.all fun kp=>decide (kp.2.length<1000000)) (some (.nx e2 (nY d k p)))
theorem T9:∀(t:Tr) (k:Key),(dB (t.map fun z=>(z.1,V.ref z.2.1)) k=none/\∀z∈t,z.1≠k)\/ ∃z∈t,z.1=k/\dB (t.map fun z=>(z.1,V.ref z.2.1)) k=some (.ref z.2.1)
 |[],k=>.inl ⟨rfl,fun _ h=>nomatch h⟩
 | z::t,k=>by
  by_cases h:z.1=k
  .refine .inr ⟨z,bf,h,?_⟩;unfold dB;rw[cq,find?_cons,decide_eq_true h];rfl
  .have e:dB ((z::t).map fun z=>(z.1,V.ref z.2.1)) k=dB (t.map fun z=>(z.1,V.ref z.2.1)) k:=by
    unfold dB;rw[cq,find?_cons,decide_eq_false h]
   rw[e];rcases T9 t k with⟨h1,h2⟩|⟨y,hy,h1,h2⟩
   .exact .inl ⟨h1,fun w hw=>(br.mp hw).elim (fun e=>by rw[e];exact h) (h2 w)⟩
   .exact .inr ⟨y,ax _ hy,h1,h2⟩
theorem LJ {tk:TE} (hk:Ref K tk fk) (hv:Ref K tv fv):CO K x (KN (YE K "list" t9 (MC (AQ x) tk (MR tF)) (dD tv tF))) (UM fk fv):=by
 intro O M W a L σ H e tr r D n hf q;obtain⟨kb,e1,f1,hf⟩:=aM hf;obtain⟨kp,g1,hf⟩:=aE hf;obtain⟨k,gk,hf⟩:=aE hf;obtain⟨b,e2,f2,hf⟩:=aM hf;obtain⟨p,g2,hf⟩:=aE hf;obtain⟨gz,hf⟩:=aK hf;cases hf;rw[bz]at gz;have z1:=ao gz.1;have z2:=bb.mp gz.2;have lenT:tr.length=(ofT tr).length:=by unfold ofT;rw[aj]
 refine⟨.ref a,n.at',a,rfl,.inl ⟨_,n.sec.TL.rd⟩,?_⟩;refine hk _ _ _ L σ H e _ _ _ (n.y4.S0 n.ok) n.en f1 fun y H2 k1 rb fr=>?_
 have o2:=(n.y4.S0 n.ok).keep k1.b7;have n2:=n.keep k1 (rb.en o2);have ky:y=kV k:=((rb.rv o2).red (rb.en o2) g1).key gk;refine⟨eh _,fun l hl=>?_⟩;have al:a≠l:=fun z=>(n2.y4 a (.inl rfl)).1 (by rw[z];exact hl)
 have sm:aV H2 (upd H2 l (.lst [])):=aV.upd hl;have n3:GX K O M W x a L σ (upd H2 l (.lst [])) e1 tr:=n2.keep (.same sm) (n2.en.same sm);refine⟨_,k,n3.sec.TL,ky,by rw[aj,lenT,lr];omega,?_,?_⟩
 .intro v hv';rcases T9 tr k with⟨h1,_⟩|⟨z,hz,h1,h2⟩
  .rw[h1]at hv';cases hv'
  .rw[h2]at hv';cases hv';have hz':(k,z.2.1,z.2.2)∈tr:=by rw[<-h1];exact hz
   have zl:=ao (z2 (z.1,z.2.2) (bh.mpr ⟨z,hz,rfl⟩));refine B5 hv n3 hz' f2 g2 zl fun H' g' n'=>q L σ H' _ ((eA.keep (kw k1)).trans ((eA.keep (.same sm)).trans g')) n' ?_
   rw[E5];have anyT:((ofT tr).any fun kp=>decide (kp.1=k))=true:=iw.mpr ⟨(z.1,z.2.2),bh.mpr ⟨z,hz,rfl⟩,decide_eq_true h1⟩;unfold nY;rw[ai anyT]
 .intro ep hv';rcases T9 tr k with⟨_,h2⟩|⟨z,hz,h1,h2⟩
  .have anyF:((tr.map fun z=>(z.1,V.ref z.2.1)).any fun kv=>decide (kv.1=k))=false:=by
    rw[any_map,jx];intro z hz;simpa using h2 z hz
   have eput:putK (tr.map fun z=>(z.1,V.ref z.2.1)) k (.ref l)=(tr++[(k,l,[])]:Tr).map fun z:Key×Addr×List PV=>(z.1,V.ref z.2.1):=by
    unfold putK;rw[anyF,ah av,bu];rfl
   rw[eput];have b7:∀c,H2 c≠none->upd (upd H2 l (.lst [])) a (.dK ((tr++[(k,l,[])]:Tr).map fun z:Key×Addr×List PV=>(z.1,V.ref z.2.1)) ep) c≠none:=fun c h=>by
    by_cases hc:c=a
    .rw[hc,aU];exact fun z=>nomatch z
    .rw[aQ hc]
     by_cases hc:c=l
     .rw[hc,aU];exact fun z=>nomatch z
     .rw[aQ hc];exact h
   have off:∀c ob,c≠a->H2 c=some ob->upd (upd H2 l (.lst [])) a (.dK ((tr++[(k,l,[])]:Tr).map fun z:Key×Addr×List PV=>(z.1,V.ref z.2.1)) ep) c=some ob:=fun c ob hc h=>by
    rw[aQ hc,aQ (fun z=>by rw[z,hl]at h;cases h)];exact h
   have ll:upd (upd H2 l (.lst [])) a (.dK ((tr++[(k,l,[])]:Tr).map fun z:Key×Addr×List PV=>(z.1,V.ref z.2.1)) ep) l=some (.lst []):=by rw[aQ (Ne.symm al),aU]
   have bx:∀c,BX a (tr++[(k,l,[])]) c->BX a tr c\/ c=l:=fun c h=>by
    rcases h with h|h
    .exact .inl (.inl h)
    .rw[bu]at h;rcases bp.mp h with h|h
     .exact .inl (.inr h)
     .exact .inr (by simpa using h)
   have st:cO (aS (aS M (BX a tr)) L) (aS (aS M (BX a (tr++[(k,l,[])]))) L) H2 (upd (upd H2 l (.lst [])) a (.dK ((tr++[(k,l,[])]:Tr).map fun z:Key×Addr×List PV=>(z.1,V.ref z.2.1)) ep)):=
    ⟨fun c ys h=>off c _ (fun z=>by obtain⟨_,e⟩:=n2.sec.TL;rw[z,e]at h;cases h) h,fun c ob h nz=>⟨off c ob (fun z=>nz (.inl (.inr (.inl z)))) h,fun z=>by
     rcases z with(z|z)|z
     .exact nz (.inl (.inl z))
     .rcases bx c z with z|z
      .exact nz (.inl (.inr z))
      .rw[z,hl]at h;cases h
     .exact nz (.inr z)⟩⟩
   have na:=n2.y4 a (.inl rfl);have n4:GX K O M W x a L σ (upd (upd H2 l (.lst [])) a (.dK ((tr++[(k,l,[])]:Tr).map fun z:Key×Addr×List PV=>(z.1,V.ref z.2.1)) ep)) e1 (tr++[(k,l,[])]):=by
    refine⟨n2.ok.keep b7,fun c h=>?_,?_,n2.at',?_⟩
    .rcases bx c h with h|h
     .exact⟨b7 c (n2.y4 c h).1,(n2.y4 c h).2⟩
     .rw[h];exact⟨by rw[ll];exact(fun z=>nomatch z),fun z=>n2.ok.old l z hl,fun z=>(n2.ok.loc l z).1 hl⟩
    .refine n2.en.grow st rfl (fun c h hc=>⟨h.1,fun z=>(bx c z).elim h.2 fun z=>hc (by rw[z];exact hl)⟩) (fun c ob h he=>off c ob (fun z=>?_) he) fun c ob he h _ _=>off c ob (fun z=>h.2 (.inl z)) he
     rw[z]at h;exact h.elim (fun⟨i,w⟩=>na.2.1 (n2.ok.mo _ (n2.ok.wm i a w))) na.2.2
    .refine⟨⟨ep,aU⟩,fun z hz=>?_,?_,?_⟩
     .rcases bp.mp hz with hz|hz
      .obtain⟨xs,h1,h3⟩:=n2.sec.lst z hz;have hne:z.2.1≠a:=fun w=>(fw.mp n2.sec.nd).1 (by rw[<-w];exact bh.mpr ⟨z,hz,rfl⟩)
       exact⟨xs,off _ _ hne h1,h3.aL st⟩
      .rw[cc.mp hz];exact⟨[],ll,.nil⟩
     .rw[bu,<-cons_append];refine ff.mpr ⟨n2.sec.nd,by simp,fun u hu w hw e=>?_⟩;have hw':w=l:=by simpa using hw
      rw[e,hw']at hu;rcases br.mp hu with hu|hu
      .exact al hu.symm
      .obtain⟨z,hz,ez⟩:=bh.mp hu;obtain⟨xs,h1,_⟩:=n2.sec.lst z hz;rw[show z.2.1=l from ez,hl]at h1;cases h1
     .rw[bu];refine ff.mpr ⟨n2.sec.kd,by simp,fun u hu w hw e=>?_⟩;have hw':w=k:=by simpa using hw
      obtain⟨z,hz,ez⟩:=bh.mp hu;exact h2 z hz (by rw[ez,e,hw'])
   have g4:eA W L L (BX a tr) (BX a (tr++[(k,l,[])])) H2 (upd (upd H2 l (.lst [])) a (.dK ((tr++[(k,l,[])]:Tr).map fun z:Key×Addr×List PV=>(z.1,V.ref z.2.1)) ep)):=
    ⟨fun c ob h _ _ nb=>off c ob (fun z=>nb (.inl z)) h,st.tup,b7,fun _ h=>.inl h,fun c h=>(bx c h).elim .inl fun z=>.inr (by rw[z];exact hl)⟩
   have hz:(k,l,[])∈tr++[(k,l,([]:List PV))]:=bp.mpr (.inr bf);refine B5 hv n4 hz f2 g2 (by decide) fun H' g' n'=>q L σ H' _ ((eA.keep (kw k1)).trans (g4.trans g')) n' ?_
   have anyD:((ofT tr).any fun kp=>decide (kp.1=k))=false:=by
    unfold ofT;rw[any_map,jx];intro z hz;simpa using h2 z hz
   unfold nY;rw[anyD,ah av,E5];have eo:ofT (tr++[(k,l,[])])=ofT tr++[(k,[])]:=by unfold ofT;rw[bu];rfl
   rw[eo,bu];congr 1
   .have:∀kp∈ofT tr,(if kp.1=k then(kp.1,kp.2++[p])else kp)=kp:=fun kp hkp=>by
     obtain⟨z,hz,rfl⟩:=bh.mp hkp;exact ah (h2 z hz)
    rw[jm this,map_id']
   .simp
  .rw[h2]at hv';cases hv'
noncomputable def sX (x:Nat) (f:FX):FS:=fun e=>aZ (decide (x<e.length)) (match f (e.set x none) []with
 |some (.nx e' d)=>some (.rt (.new (.a9 (d.map fun kp=>(kp.1,.lst kp.2)))) e')
 |_=>none)
theorem uU:∀{t:Tr},(∀z∈t,∃xs,H z.2.1=some (.lst xs)/\bC K Z H z.2.2 xs/\¬Z z.2.1)->bC K Z H (((ofT t).map fun kp=>(kp.1,PV.lst kp.2)).map (·.2)) ((t.map fun z=>(z.1,V.ref z.2.1)).map (·.2))
 |[],_=>.nil
 |z::t,h=>by
  obtain⟨xs,h1,h2,h3⟩:=h z bf;exact .cons (.lst (.inl h1) h3 h2) (uU fun w hw=>h w (ax _ hw))
theorem EA {ts:TS} (h:CO K x ts f):eF K (vV (mF DL (eE x)) (vV ts (UB (AQ x)))) (sX x f):=by
 intro O M W L σ H e r D o he hf q;obtain⟨hx,hf⟩:=aK hf;have hx:=ao hx;split at hf
 .rename_i e' d c;cases hf;intro a ha;have sm:aV H (upd H a (.dK [] 0)):=aV.upd ha;have na:¬O a/\¬L a:=⟨fun z=>o.old a z ha,fun z=>(o.loc a z).1 ha⟩;have b0:∀c,BX a [] c->c=a:=fun c h=>h.elim id fun h=>nomatch h
  have n0:GX K O M W x a L (σ.set x (some (.ref a))) (upd H a (.dK [] 0)) (e.set x none) []:=by
   refine⟨o.keep (bV.same (W:=W) (L:=L) sm).b7,fun c h=>?_,?_,?_,?_⟩
   .rw[b0 c h,aU];exact⟨(fun z=>nomatch z),na⟩
   .refine(he.grow (Z':=aS (aS M (BX a [])) L) (W':=wB W (BX a [])) (H':=upd H a (.dK [] 0)) ⟨fun _ _ h=>sm _ _ h,fun c ob h nz=>⟨sm _ _ h,fun z=>?_⟩⟩ rfl (fun c h hc=>⟨h,fun z=>hc (by rw[b0 c z];exact ha)⟩) (fun c ob _ h=>sm _ _ h) fun c ob h _ _ _=>sm _ _ h).unset;rcases z with(z|z)|z
    .exact nz (.inl z)
    .rw[b0 c z,ha]at h;cases h
    .exact nz (.inr z)
   .rw[dz (by rw[<-he.len];exact hx)]
   .exact⟨⟨0,aU⟩,(fun _ h=>nomatch h),by simp,by simp⟩
  refine h O M W a L _ _ _ [] _ _ n0 c fun L' σ' H' t' g n ed=>⟨.ref a,n.at',q L' σ' H' (.ref a) ?_ n.ok ?_⟩
  .refine⟨fun c ob h nw nl=>g.obj c ob (sm _ _ h) nw nl fun z=>?_,fun c ys h=>g.tup c ys (sm _ _ h),fun c h=>g.b7 c ((bV.same (W:=W) (L:=L) sm).b7 c h),fun c h=>(g.new c h).elim .inl fun z=>.inr (none_of (bV.same (W:=W) (L:=L) sm).b7 z)⟩;rw[b0 c z,ha]at h;cases h
  .subst ed;have nb:=fun c h=>n.y4 c h
   have na':=nb a (.inl rfl);have less:∀c,aS M (aS L' (one a)) c->aS (aS M (BX a t')) L' c:=fun c z=>by
    rcases z with z|z|z
    .exact .inl (.inl z)
    .exact .inr z
    .exact .inl (.inr (.inl z))
   have k:cO (aS (aS M (BX a t')) L') (aS M (aS L' (one a))) H' H':=.less less;refine⟨a,rfl,na'.2.1,na'.2.2,⟨n.en.len,fun i s hs=>?_,n.en.qD⟩,fun i s hs hm es=>?_,?_⟩
   .obtain⟨v,h1,h2⟩:=n.en.at' i s hs;refine⟨v,h1,?_⟩;cases s with
    |val p=>exact Rep.aL k h2
    |own p=>obtain⟨a,e,w,c⟩:=h2;exact⟨a,e,w,c.aL k fun o q=>q⟩
    |loc p=>obtain⟨a,e,w,c⟩:=h2;exact⟨a,e,.inl w,c.aL k fun o q=>q⟩
    |bor p=>
     obtain⟨a',e,c⟩:=h2;refine⟨a',e,?_⟩;cases c with
     |lst e od n m r=>exact .lst e od.1 n (fun z=>z.elim m fun z=>od.2 (.inl z)) (r.aL k)
     |eN e r=>exact .eN e (r.aL k)
     |a9 e od n m kk r=>exact .a9 e od.1 n (fun z=>z.elim m fun z=>od.2 (.inl z)) kk (r.aL k)
   .obtain⟨v,h1,h2⟩:=n.en.at' i s hs;rw[h1]at es;cases es;cases s with
    |val p=>cases hm
    |bor p=>cases hm
    |own p=>obtain⟨a',e,w,c⟩:=h2;cases e;exact na'.2.1 (n.ok.mo _ (n.ok.wm i a w))
    |loc p=>obtain⟨a',e,w,c⟩:=h2;cases e;exact na'.2.2 w
   .obtain⟨_,TL⟩:=n.sec.TL;refine .a9 TL ?_ (uU fun z hz=>?_)
    .unfold ofT;rw[jk,jk,jk];rfl
    .obtain⟨xs,h1,h2⟩:=n.sec.lst z hz;have hb:BX a t' z.2.1:=.inr (bh.mpr ⟨z,hz,rfl⟩);have nz:=nb _ hb;refine⟨xs,h1,h2.aL k,fun w=>?_⟩;rcases w with w|w|w
     .exact nz.2.1 (n.ok.mo _ w)
     .exact nz.2.2 w
     .exact(fw.mp n.sec.nd).1 (by rw[<-show z.2.1=a from w];exact bh.mpr ⟨z,hz,rfl⟩)
 .cases hf
end
section
variable {K:Frag}
noncomputable def JX:PV->PV->PV->Option Bv
 | .a9 kvs,p,z=>bO (keyOf p) fun k=>some (.val ((bY kvs k).getD z))
 |_,_,_=>none
noncomputable def FV (fa fb fc:FE):FE:=fun e=>bE (fa e) fun x e1=>bO (x.weak.get e1) fun p1=>match p1 with
 | .a9 _=>bE (fb e1) fun y e2=>bE (fc e2) fun z e3=>bO z.put fun pz=>bO (x.weak.get e3) fun p=>bO (y.weak.get e3) fun q=>bO (JX p q pz) fun b=>some (b,e3)
 |_=>none
theorem NM {ta tb tc:TE} {fa fc:FE} (ha:Ref K ta fa) (hb:Ref K tb fb) (hc:Ref K tc fc):Ref K (KS ta tb tc) (FV fa fb fc):=by
 intro O M W L σ H e e' b Q o he hf q;obtain⟨x,e1,f1,hf⟩:=aM hf;obtain⟨p1,g0,hf⟩:=aE hf;cases p1 with
 | a9 kvs1=>
  obtain⟨y,e2,f2,hf⟩:=aM hf;obtain⟨z,e3,f3,hf⟩:=aM hf;obtain⟨pz,gz,hf⟩:=aE hf;obtain⟨p,g1,hf⟩:=aE hf;obtain⟨p',g2,hf⟩:=aE hf;obtain⟨c,g3,hf⟩:=aE hf;cases hf;refine ha O M W L σ H e e1 x _ o he f1 fun v1 H1 k1 r1 fr=>?_
  have o1:=o.keep k1.b7;obtain⟨a1,ys1,e11,ha1,_,_⟩:=((r1.rv o1).red (r1.en o1) g0).BB;refine⟨a1,e11,.inl ⟨ys1,ha1⟩,?_⟩;refine hb O M W L σ H1 e1 _ y _ o1 (r1.en o1) f2 fun v2 H2 k2 r2 fr=>?_
  have o2:=o1.keep k2.b7;refine hc O M W L σ H2 e2 _ z _ o2 (r2.en o2) f3 fun v3 H3 k3 r3 fr=>?_
  have o3:=o2.keep k3.b7;obtain⟨en,rz⟩:=r3.put o3 gz;have rp:=(((r1.rv o1).keep o1 k2).keep o2 k3).red en g1;have rq:=((r2.rv o2).keep o2 k3).red en g2;cases p with
  | a9 kvs=>
   obtain⟨key,g4,g3⟩:=aE g3;cases g3;obtain⟨a,ys,e3',ha',ek,r⟩:=rp.BB;rw[e11]at e3';cases e3';refine⟨dB ys key,.inl ⟨ys,key,ha',rq.key g4,rfl⟩,?_⟩;refine q _ H3 ((k1.trans k2).trans k3) ?_ ?_
   .refine⟨en,?_⟩;rcases dF.val key ⟨ek,r⟩with⟨h1,h2⟩|⟨p'',v',h1,h2,h3⟩
    .rw[h1,h2];exact rz
    .rw[h1,h2];exact h3
   .trivial
  |_=>cases g3
 |_=>cases hf
theorem RE {fa fc:FE}:FV fa fb fc e=bE (fa e) fun x e1=>bO (x.weak.get e1) fun p1=>match p1 with
 | .a9 _=>bE (fb e1) fun y e2=>bE (fc e2) fun z e3=>bO z.put fun pz=>bO (x.weak.get e3) fun p=>bO (y.weak.get e3) fun q=>bO (JX p q pz) fun b=>some (b,e3)
 |_=>none:=rfl
theorem PJ {f g:FX} {e:En} {d:DD} {Q:wA->Prop}:Wp (aaS f g e d) Q↔Wp (f e d) fun o=>match o with| .nx e1 d1=>Wp (g e1 d1) Q|o=>Q o:=by
 unfold aaS;cases f e d with
 |none=>simp[qI]
 |some o=>
  rw[bP];cases o<;>simp[bP]
theorem PQ {fg:FG} {fb:FX}:Wp (LC fi fg fb e d) Q↔Wp (fi e) fun z=>Wp (oG (fun x e d=>bO (fg x e) fun e2=>fb e2 d) z.1 z.2 d) Q:=by
 unfold LC;rw[jZ]
theorem ZZ {x:Nat} {f:FX} {e:En} {Q:Out->Prop}:Wp (sX x f e) Q↔x<e.length/\Wp (f (e.set x none) []) fun o=>match o with| .nx e' d=>Q (.rt (.new (.a9 (d.map fun kp=>(kp.1,.lst kp.2)))) e')| .ct _ _=>False:=by
 unfold sX;rw[cP,decide_eq_true_eq];refine kg fun _=>?_
 cases f (e.set x none) []with
 |none=>simp[qI]
 |some o=>
  rw[bP];cases o<;>simp[bP,qI]
theorem RK:M0 e d=some (.nx e d):=rfl
theorem Y9:xIf fc f g e d=bE (fc e) fun b e1=>bB b (f e1 d) (g e1 d):=rfl
theorem ZT {f:FE}:xIt f e=bE (f e) fun b e1=>match b with
 | .val (.tup ps)=>some (ps,e1)
 |_=>none:=rfl
theorem T4:VM fa e=bE (fa e) fun bs e1=>match bs with
 |[.val (.tup ps)]=>some (ps.zipIdx.map fun z=>.tup [.int (z.2:Int),z.1],e1)
 |_=>none:=rfl
theorem W6:UM fk fv e d=bE (fk e) fun kb e1=>bO (kb.weak.get e1) fun kp=>bO (keyOf kp) fun k=>bE (fv e1) fun b e2=>bO b.put fun p=>
 aZ (decide (d.length<1000000) && d.all fun kp=>decide (kp.2.length<1000000)) (some (.nx e2 (nY d k p))):=rfl
theorem CD {body:PV->En->DD->Option wA} (I:Nat->En->DD->Prop) {xs:List PV} (hs:∀(i:Nat) x e d,xs[i]? =some x->I i e d->Wp (body x e d) fun o=>match o with| .nx e1 d1=>I (i+1) e1 d1| .ct e1 d1=>I (i+1) e1 d1)
  (hd:∀e d,I xs.length e d->Q (.nx e d)) {e:En} {d:DD} (h0:I 0 e d):Wp (oG body xs e d) Q:=by
 have key:∀(ys:List PV) (i:Nat) (e:En) (d:DD),i<=xs.length->xs.drop i=ys->I i e d->Wp (oG body ys e d) Q:=by
  intro ys
  induction ys with
  | nil=>
   intro i e d hil hy hi;unfold oG;rw[bP];have hl:xs.length<=i:=by
    have:=cn List.length hy;rw[dh]at this;simp at this;omega
   have h:i=xs.length:=by omega
   subst h;exact hd e d hi
  | cons x ys ih=>
   intro i e d hil hy hi;have hlt:i<xs.length:=by
    have:=cn List.length hy;rw[dh,length_cons]at this;omega
   rw[dg hlt]at hy;have hx:xs[i]? =some x:=by rw[ag hlt,(List.cons.inj hy).1]
   obtain⟨o,h1,h2⟩:=hs i x e d hx hi;unfold oG;rw[h1];cases o with
   |nx e1 d1=>exact ih (i+1) e1 d1 hlt (List.cons.inj hy).2 h2
   |ct e1 d1=>exact ih (i+1) e1 d1 hlt (List.cons.inj hy).2 h2
 exact key xs 0 e d (eh _) rfl h0
end
end Mr
namespace L2
open PySem
section
variable {prog:Program} {w:World} {A:Around} {R:Result->Shared->Prop} {s:Shared}
theorem HB {kx vx target iter:Expr} {ifs:List Expr} {scope:Scope} {pos:Pos} {it:Value} {D:Addr} {env:Env} (I:Nat->Shared->Prop)
  (turn:∀n s,I n s->wpAny (model prog w) A (pyNext it) (fun r s₁=>match r with
   |none=>R (.ok .next) s₁
   | some v=>wpAny (model prog w) A (letOwnedTupleGo target it v) (fun _ s₁'=>wpAny (model prog w) A (assign target env v) (fun _ s₂=>
     wpAny (model prog w) A (forIn ifs true fun c r=>if r=true then do let ok<-isTrue c env (eval c env);pure (ForInStep.yield ok)else pure (ForInStep.yield r)) (fun ok s₃=>
      if ok=true then wpAny (model prog w) A (eval kx env) (fun kv s₄=>wpAny (model prog w) A (eval vx env) (fun vv s₅=>
       wpAny (model prog w) A (dictSet D kv vv) (fun _ s₆=>∃m,m<n/\I m s₆) (fun _ _=>False) s₅) (fun _ _=>False) s₄) (fun _ _=>False) s₃
      else∃m,m<n/\I m s₃) (fun _ _=>False) s₂) (fun _ _=>False) s₁') (fun _ _=>False) s₁) (fun _ _=>False) s)
  (n:Nat) (h:I n s):
  codeAny (model prog w) A (.compLoop (.DictComp kx vx [⟨target,iter,ifs,0⟩] scope pos) 0 it (.ref D) env) R s:=by
 refine codeAny_loop rfl I (fun n s hI=>?_) n h;show wpAny _ A ((compTurn (.DictComp kx vx [⟨target,iter,ifs,0⟩] scope pos) 0 it (.ref D) env).onRaise (fun x=>do noteFrame x env;theTreesLotGoes x)) _ _ s;refine wpAny_noted ?_;refine dk (E:=fun _ _=>False) ?_ (fun _ _ q=>q) (fun _ _ z=>z.elim);rw[compTurn_dict];refine af (wpAny_standAt (af (dk (turn n s hI) (fun r s₁ h₁=>?_) fun _ _ h'=>h')));cases r with
 |none=>exact ay h₁
 | some v=>
  refine af (dk h₁ (fun _ s₁' h₁'=>?_) fun _ _ h'=>h');refine af (dk h₁' (fun _ s₂ h₂=>af (dk h₂ (fun ok s₃ h₃=>?_) fun _ _ h'=>h')) fun _ _ h'=>h');cases ok with
  |false=>exact ay ⟨rfl,h₃⟩
  |true=>
   exact af (af (dk h₃ (fun kv s₄ h₄=>af (ig (dk h₄ (fun vv s₅ h₅=>af (wpAny_standAt (ig (dk h₅ (fun _ s₆ h₆=>ay ⟨rfl,h₆⟩) fun _ _ h'=>h')))) fun _ _ h'=>h'))) fun _ _ h'=>h'))
end
def aaK (J:It) (g:TG) (tt:TT) (tk te:TE) (l:Addr) (σ0:St) (H0:Hp) (Q:VK):Prop:=
 ∃W:Nat->Nat->St->Hp->Prop,(∃m,W 0 m σ0 H0)/\
   ∀i m σ' H2,W i m σ' H2->(J.stop i H2/\Q (.ref l) H2)\/ (J.go i H2/\∃N:St->Hp->Prop,(∀σ3 H3,N σ3 H3->∃m',m'<m/\W (i+1) m' σ3 H3)/\
    ∀x H3,J.YI i H2 x H3->g x σ' H3 fun σ4 H4=>tt σ4 H4 fun b H5=>if b=true then tk σ4 H5 fun kv H6=>te σ4 H6 fun y H7=>∃kvs key,vH H7 l kvs/\kv=kV key/\kvs.length<sizeLine/\∀ep,N σ4 (upd H7 l (.dK (putK kvs key y) ep))else N σ4 H5)
def zV (wi:TI) (k:Nat) (cap:List Nat) (g:TG) (tt:TT) (tk te:TE):TE:=fun σ H Q=>wi σ H fun J H1=>∀l,H1 l=none->aaK J g tt tk te l (e9 k cap σ) (upd H1 l (.dK [] 0)) Q
section
variable {X:Cx} {kx vx tg iter:Expr} {ifs:List Expr} {scope:Scope} {pos:Pos} {wi:TI} {g:TG} {tt:TT} {tk te:TE} {N:List Str} {k:Nat} {cap:List Nat}
theorem NZ {pins:List (Addr×Obj)} {σ:St} {H2:Hp} {s2:Shared} {cl:List (Str×Addr)} {C:Addr} {fp:List Addr} {h1:Heap} {tk:Nat} {m0:Str->Option Value} (S:fB X scope N k cap) (I2:Inv X pins σ H2 s2)
  (hcl1:∀y c,cl.lookup y=some c->X.env.cells.lookup y=some c) (hcl2:∀y,(y,NameKind.free)∈scope.names->(cl.lookup y).isSome=true) (hC:C=s2.heap.objs.size+1)
  (hf:∀b∈fp,qP X pins H2 b) (ho:∀b∈fp,b<s2.heap.objs.size) (hk:∀b o,s2.heap.get? b=some o->h1.get? b=some o) (hD:h1.get? s2.heap.objs.size=some {cls:=.type "dict",data:=.dict #[]}) (hns:h1.Ns C m0):
  Inv (a8 X scope N ⟨cl,C,s2,H2,fp⟩) [] (e9 k cap σ) (upd H2 s2.heap.objs.size (.dK [] 0)) {s2 with heap:=h1,toks:=tk}:=by
 have fr:H2 s2.heap.objs.size=none:=I2.bS.fresh (bj _);have hCf:H2 C=none:=I2.bS.fresh (hC▸jf _);refine⟨vO S I2 hcl1 hcl2 (hC▸jf _) hf ho,rfl,I2.bare,Un.laid hk (bj _) fr,⟨m0,hns,fun i y v e1 e2 e3=>?_⟩,fun x c e=>?_,?_,fun x c e=>?_,fun p hp=>absurd (show p∈([]:List (Addr×Obj))from hp) (by simp),I2.bS.laid hk (bj _) ?_,?_⟩
 .obtain⟨q,j,rfl,hj,hv⟩:=xO e2;obtain⟨z,hz1,hz2,hz3⟩:=S.cap q j hj;have e1':N[k+q]? =some y:=e1;rw[hz1]at e1';cases e1';obtain⟨m,hn,hl⟩:=I2.loc;have hfr:=S.free (y,.free) (gp hz3) rfl;obtain⟨u,r,l⟩:=hl j y v hz2 hv (by rcases hfr with z|z;exact .inr (.inl z);exact .inr (.inr z));refine⟨u,r,.inr ⟨dE (env:=X.env) hz3,?_⟩⟩;obtain⟨c,hc⟩:=je.mp (hcl2 y (gp hz3));rcases l with⟨hk',_⟩|⟨_,c',hc',hcell⟩
  .rcases hfr with z|z<;>(rw[hk']at z;cases z)
  .have e:=hcl1 y c hc;rw[hc']at e;cases e;obtain⟨o,ho',hd⟩:=hcell;exact⟨_,hc,o,hk _ _ ho',hd⟩
 .obtain⟨v,o,ho',hd⟩:=I2.cell x c (hcl1 x c e);exact⟨v,o,hk _ _ ho',hd⟩
 .show upd H2 s2.heap.objs.size (.dK [] 0) C=none;rw[aQ (ne_of_gt (hC▸lt_succ_self _))];exact hCf
 .have e':=hcl1 x c e;obtain⟨v,q⟩:=I2.cell x c e';rw[aQ (cw q.lt)];exact I2.m8 x c e'
 .exact⟨eh _,beq_eq_false_iff_ne.mpr (Ne.symm (cw I2.big)),[],.nil,⟨_, #[],hD,⟨rfl,rfl,rfl⟩,rfl,(fun _ h=>absurd h (by simp)),.nil,nodup_nil⟩⟩
 .show(e9 k cap σ).length=N.length;unfold e9;rw[bq,gx,aj,S.len]
theorem MZ (hc:X.calm=true) (S:fB X scope N k cap) (hi:PI X tg iter wi) (hg:∀c,PG (a8 X scope N c) tg g) (ht:∀c,TV (a8 X scope N c) ifs tt) (hk:∀c,PE (a8 X scope N c) kx tk) (he:∀c,PE (a8 X scope N c) vx te)
  (hs:∀x,foldedSetIterable iter X.env x=pure x:=by intro _;rfl):PE X (.DictComp kx vx [⟨tg,iter,ifs,0⟩] scope pos) (zV wi k cap g tt tk te):=by
 intro pins s σ H Q I h;rw[arm_eval_DictComp];obtain⟨cl,hclos,hcl1,hcl2⟩:=jG (scope:=scope) (env:=X.env) (fun p hp hf=>I.ok.has p.1 (S.free p hp hf));refine wpAny_comprehension_free (use:=none) rfl hs hclos S.kind S.names (cD (hi pins s σ H _ I h) fun v s1 h1=>cD h1 fun itv s2 h2=>?_);obtain⟨it,fp,tn,J,H2,e,I2,T,st2,f2,q2⟩:=h2;subst e;obtain⟨W,⟨m0,w0⟩,turn⟩:=q2 s2.heap.objs.size (I2.bS.fresh (bj _));have hob:∀b∈fp,b<s2.heap.objs.size:=fun b hb=>let⟨o,e,_⟩:=T.obj _ _ st2 b hb;cv e
 refine fq (wpAny_newFunctionEnv S.cell (by intro y hy;simp at hy) (fun h₁ hns₁ hsb₁=>?_) S.kind);dsimp only at hns₁ hsb₁⊢
 generalize hHH:s2.heap.push {cls:=.type "dict",dict:=none,data:=.dict #[]}=HH at hns₁ hsb₁⊢
 have hCC:HH.objs.size=s2.heap.objs.size+1:=by rw[<-hHH,size_push]
 have old:∀b o,s2.heap.get? b=some o->h₁.get? b=some o:=fun b o e=>hsb₁.extBut b o (cw (hCC▸gm (cv e))) (au _ (hHH▸au _ e))
 have hD:h₁.get? s2.heap.objs.size=some {cls:=.type "dict",data:=.dict #[]}:=hsb₁.extBut _ _ (cw (hCC▸lt_succ_self _)) (au _ (hHH▸dc _ rfl));have I4:=fun tk=>NZ (tk:=tk) S I2 hcl1 hcl2 hCC f2 hob old hD hns₁
 have X':=a8 X scope N ⟨cl,HH.objs.size,s2,H2,fp⟩;have stat:∀{H':Hp},(∀b∈fp,H' b=none)->∀b∈fp,qP (a8 X scope N ⟨cl,HH.objs.size,s2,H2,fp⟩) [] H' b:=fun hn b hb=>
  ⟨hn b hb,cw (hCC▸gm (hob b hb)),(vO S I2 hcl1 hcl2 (hCC▸jf _) f2 hob).A0 b hb,.inl hb,fun x c e=>(f2 b hb).2.2.2.2.1 x c (hcl1 x c e),fun p hp=>absurd (show p∈([]:List (Addr×Obj))from hp) (by simp)⟩
 have loop:∀s₃:Shared,s₃={s2 with heap:=h₁,toks:=s2.toks+([]:List (Str×Value)).length}->
   codeAny (model X.prog X.w) X.A (.compLoop (.DictComp kx vx [⟨tg,iter,ifs,0⟩] scope pos) 0 (.ref it) (.ref s2.heap.objs.size) (compEnvC scope cl HH.objs.size X.env))
    (compPost (model X.prog X.w) X.A X.xe none (EP X pins σ Q) (.ref s2.heap.objs.size) HH.objs.size) s₃:=by
  rintro s₃ rfl;refine HB (fun n s'=>∃i σ' H',Inv (a8 X scope N ⟨cl,HH.objs.size,s2,H2,fp⟩) [] σ' H' s'/\tn i s'.heap/\(∀b∈fp,H' b=none)/\W i n σ' H') ?_ m0
   ⟨0,e9 k cap σ,_,I4 _,T.keep _ _ _ st2 fun b _ o e=>old b o e,fun b hb=>by rw[aQ (cw (hob b hb))];exact(f2 b hb).1,w0⟩
  rintro n s3 ⟨i,σ3,H3,I3,st3,fr3,w3⟩;rcases turn i n σ3 H3 w3 with⟨stop,qn⟩|⟨go,NN,hN,step⟩
  .refine cD (T.done (a8 X scope N ⟨cl,HH.objs.size,s2,H2,fp⟩) rfl rfl rfl hc i [] s3 σ3 H3 _ I3 (stat fr3) st3 stop) fun r s4 ⟨hr,J4⟩=>?_
   subst hr;obtain⟨m,hn,_⟩:=J4.loc;refine⟨m,hn,fun h' hs'=>?_⟩;have keepC:∀b o,b≠HH.objs.size->s4.heap.get? b=some o->h'.get? b=some o:=fun b o hb e=>hs'.extBut b o hb e
   have gY:∀b o,s2.heap.get? b=some o->b≠HH.objs.size:=fun b o e=>cw (hCC▸gm (cv e))
   have u:=J4.base;have u':Un (HV X.stack) fp H2 H3 s2.heap h':=⟨fun b o q n hb hx=>keepC b o (gY b o q) (u.keep b o q n hb hx),fun b o q n hb hx=>by
     obtain⟨sl,e⟩:=u.slot b o q n hb hx;exact⟨sl,keepC b _ (gY b o q) e⟩,u.free,fun b o q hx=>by
     obtain⟨o',e⟩:=u.there b o q hx;exact⟨o',keepC b _ (gY b o q) e⟩,u.vZ,u.vS,u.wF⟩
   refine⟨.ref s2.heap.objs.size,H3,I2.NR (ch:=fp) J4.os u' (J4.bS.but J4.free keepC) J4.bare fun b hb=>?_,rfl,qn⟩;obtain⟨_,f1,_,f3,f4,f5⟩:=f2 b hb;exact⟨f3,f1,f4,f5⟩
  .refine cD (T.item (a8 X scope N ⟨cl,HH.objs.size,s2,H2,fp⟩) rfl rfl rfl hc i [] s3 σ3 H3 _ I3 (stat fr3) st3 go) fun r s4 ⟨u,hr,h4⟩=>?_
   subst hr;refine cD h4 fun _ s5 ⟨x,H5,I5,r5,y5,st5,fr5⟩=>?_
   have I5':=I5.pinned (stat fr5) (T.obj _ _ st5);have again:∀{s7:Shared} {σ7:St} {H7:Hp},Inv (a8 X scope N ⟨cl,HH.objs.size,s2,H2,fp⟩) ([]++o9 fp s5.heap) σ7 H7 s7->NN σ7 H7->
     ∃m,m<n/\∃i σ' H',Inv (a8 X scope N ⟨cl,HH.objs.size,s2,H2,fp⟩) [] σ' H' s7/\tn i s7.heap/\(∀b∈fp,H' b=none)/\W i m σ' H':=fun{s7 σ7 H7} I7 n7=>by
    obtain⟨m',hm,w7⟩:=hN σ7 H7 n7;refine⟨m',hm,i+1,σ7,H7,I7.jU,T.keep _ _ _ st5 fun b hb o e=>(I7.pin (b,o) (bg _ (bg _ (cX hb e)))).1,fun b hb=>?_,w7⟩;obtain⟨o,e,d⟩:=T.obj _ _ st5 b hb;exact(I7.pin (b,o) (bg _ (bg _ (cX hb e)))).2.1
   refine cD (hg _ _ s5 σ3 H5 x u _ I5' r5 (step x H5 y5)) fun _ s6 ⟨σ6,H6,I6,q6⟩=>?_
   refine cD (ht _ _ s6 σ6 H6 _ I6 q6) fun b s7 ⟨H7,I7,q7⟩=>?_
   cases b with
   |false=>exact again I7 q7
   |true=>
    refine cD (hk _ _ s7 σ6 H7 _ I7 q7) fun kv s8 ⟨kx',H8,I8,r8,q8⟩=>?_
    refine cD (he _ _ s8 σ6 H8 _ I8 q8) fun y s9 ⟨yv,H9,I9,r9,kvs,key,hl,ek,hz,n9⟩=>?_
    subst ek;obtain⟨z,hd,vs,rel,dd⟩:=MP I9.bS hl;have hz':vs.length<=sizeLine:=by rw[<-rel.length];exact z
    have hl':(putK kvs key yv).length<=sizeLine:=by have:=hZ kvs key yv;omega
    refine wpAny_dictSet_pairs (hsz:=hz') (qU r8) dd fun h' dd' hs'=>?_
    have hx':∃q,h'.get? s2.heap.objs.size=some q:=let⟨q,_,_,hq,_⟩:=dd';⟨q,hq⟩
    obtain⟨ep,da⟩:=dd'.dictAt;exact again (tU I9 hl.mut hs' hx' (D0 hl' hd (rel.put key r9) da)) (n9 ep)
 exact codeAny_compStart_dict (loop _ rfl) (T.self X.A 0 _ _ _ (T.keep _ _ _ st2 fun b _ o e=>old b o e) (loop _ rfl))
theorem w9 (N:List Str) (k:Nat) (cap:List Nat) (XN:List Str) (xs:Scope) (hc:X.calm=true) (hN:X.N=XN) (hx:X.env.scope=xs) (hi:PI X tg iter wi) (chk:qC XN xs scope N k cap=true)
  (hg:∀c,PG (a8 X scope N c) tg g) (ht:∀c,TV (a8 X scope N c) ifs tt) (hk:∀c,PE (a8 X scope N c) kx tk) (he:∀c,PE (a8 X scope N c) vx te)
  (hs:∀x,foldedSetIterable iter X.env x=pure x:=by intro _;rfl):PE X (.DictComp kx vx [⟨tg,iter,ifs,0⟩] scope pos) (zV wi k cap g tt tk te):=MZ hc (j8 hN hx chk) hi hg ht hk he hs
end
end L2
namespace Mr
open PySem L2
variable {fe fk:FE} {fg:FG} {fi:FI} {ft:FT} {cap:List Nat} {k:Nat} {te tk:TE} {g:TG} {wi:TI} {tt:TT}
noncomputable def lB (fg:FG) (ft:FT) (fk fe:FE):List PV->En->List (Key×PV)->Option (List (Key×PV)×En)
 |[],e,d=>some (d,e)
 |x::xs,e,d=>bO (fg x e) fun e1=>bE (ft e1) fun b e2=>match b with
  |false=>lB fg ft fk fe xs e2 d
  |true=>bE (fk e2) fun kb e3=>bE (fe e3) fun r e4=>bO (kb.weak.get e4) fun kp=>bO (keyOf kp) fun k=>bO r.put fun p=>lB fg ft fk fe xs e4 (e8 d k p)
noncomputable def i8 (fi:FI) (k:Nat) (cap:List Nat) (ms:List (Nat×Nat)) (fg:FG) (ft:FT) (fk fe:FE):FE:=fun e=>
 bE (fi (fun i=>!(ms.any fun z=>z.1==i)) e) fun items e1=>aZ (decide (items.length<1000000)) (bE (lB fg ft fk fe items (tH k cap ms e1) []) fun ys ei=>bO (mI ei ms e1) fun e2=>some (.new (.a9 ys),e2))
section
variable {K:Frag}
theorem G7 (ms:List (Nat×Nat)) (hms:∀i j1 j2,(i,j1)∈ms->(i,j2)∈ms->j1=j2) (hms2:∀i1 i2 j,(i1,j)∈ms->(i2,j)∈ms->i1=i2) (hi:wD K wi fi) (hg:zD K g fg) (ht:mU K tt ft) (hk:Ref K tk fk) (he:Ref K te fe):Ref K (zV wi k cap g tt tk te) (i8 fi k cap ms fg ft fk fe):=by
 intro O M W L σ H e e' b Q o hen hf q;obtain⟨items,e1,f1,hf⟩:=aM hf;obtain⟨hsz,hf⟩:=aK hf;obtain⟨ys,ei,f2,hf⟩:=aM hf;obtain⟨e2,f3,hf⟩:=aE hf;cases hf;have hsz:=ao hsz;refine hi (fun i=>!(ms.any fun z=>z.1==i)) O M W L σ H e e1 items _ o hen f1 fun J H1 k1 en it=>?_
 have o1:=o.keep k1.b7
 let W':WS:=JN ms e1 σ H1
 have wsub:=xT (ms:=ms) en;have it:=it (aw W') (fun a z=>(wsub a z).1) fun i a s hst hs hm ha ⟨j,i',s',hm',hs',hmine',ha'⟩=>by
  have ne:i'≠i:=fun z=>by
   subst z;have:(ms.any fun z=>z.1==i')=true:=iw.mpr ⟨(i',j),hm',by simp⟩;rw[this]at hst;cases hst
  exact en.qD i' i s' s ne hs' hs hmine' hm (by rw[ha',ha])
 intro l hl;have zl:∀a ob,H1 a=some ob->a≠l:=fun a ob h=>bJ h hl
 let M':aJ:=aS M (aS L (one l))
 let O':aJ:=fun a=>H1 a≠none\/ a=l
 have s0:aV H1 (upd H1 l (.dK [] 0)):=aV.upd hl;have okc0:=YL (l:=l) (ms:=ms) o1 en;have en0:=enI (k:=k) (cap:=cap) (ob0:=.dK [] 0) hms en hl;have dl:∀a xs,H1 a=some (.tup xs)->a≠l:=fun a xs h=>zl a _ h
 let N:Nat->St->Hp->Prop:=fun i σ' H'=>∃ei' acc vs,bV W' (one l) (upd H1 l (.dK [] 0)) H'/\vH H' l vs/\dF K (aS M' cL) H' acc vs/\aO K (aS M' cL) W' cL H' σ' ei'/\acc.length<=i/\
  lB fg ft fk fe (items.drop i) ei' acc=some (ys,ei)
 have k0':∀H',bV W' (one l) (upd H1 l (.dK [] 0)) H'->∀a,H1 a≠none\/ a=l->H' a≠none:=fun H' kk a z=>kk.b7 a (by
  rcases z with z|z
  .cases e:H1 a with
   |none=>exact absurd e z
   |some u=>rw[s0 _ _ e];exact fun z=>nomatch z
  .rw[z,aU];exact fun z=>nomatch z)
 refine⟨fun i m σ' H'=>m=items.length - i/\i<=items.length/\N i σ' H',⟨items.length,by simp,eh _,tH k cap ms e1,[],[],.refl,⟨0,aU⟩,⟨rfl,.nil⟩,en0,bj _,by rw[gq];exact f2⟩,?_⟩;rintro i m σ2 H2 ⟨rfl,hil,ei2,acc,vs,kk,hl2,ra,en2,hacc,f4⟩;have oki:=okc0 H2 (k0' H2 kk);obtain⟨itm,its⟩:=it (aS L (one l)) H2 (fun a ob h n=>kk.obj a ob (s0 _ _ h) n (zl a ob h)) (fun a xs h=>kk.tup a xs (s0 _ _ h)) (fun a z=>z.elim .inl fun z=>.inr (by rw[show a=l from z];exact hl))
 by_cases hlt:i<items.length
 .refine .inr ?_;obtain⟨go,yl⟩:=itm i items[i] (by simp[hlt]);refine⟨go,N (i+1),fun σ' H' n=>⟨items.length - (i+1),by omega,rfl,hlt,n⟩,fun x H3 y=>?_⟩;obtain⟨s3,rp⟩:=yl x H3 y;rw[dg hlt]at f4;obtain⟨e4,c1,f4⟩:=aE f4;have oki3:=oki.keep (H':=H3) (bV.same (W:=W') (L:=cL) s3).b7;have rp':Rep K (aS M' cL) H3 items[i] x:=rp.aL (.less fun a z=>z.elim id fun z=>z.elim);refine hg O' M' W' cL σ2 H3 ei2 e4 _ x _ oki3 (en2.same s3) rp' c1 fun σ3 en3=>?_
  obtain⟨b,e5,c2,f4⟩:=aM f4;refine ht O' M' W' cL σ3 H3 e4 e5 b _ oki3 en3 c2 fun H4 k4 en4=>?_
  have oki4:=oki3.keep k4.b7;have nlw:¬aw W' l:=fun z=>by obtain⟨_,ob,h,_⟩:=wsub l z;rw[hl]at h;cases h
  have kL:∀{A B:Hp},bV W' cL A B->bV W' (one l) A B:=fun k=>⟨fun a ob h n m=>k.obj a ob h n fun z=>z,k.tup,k.b7⟩
  have st:∀{A B:Hp},bV W' cL A B->jB O' M' W' cL A->cO (aS M' cL) (aS M' cL) A B:=fun k ok=>k.aL ok
  have k34:bV W' cL H2 H4:=(bV.same s3).trans k4;cases b with
  |false=>
   rw[ah av];exact⟨e5,acc,vs,kk.trans (kL k34),(let⟨ep,e⟩:=hl2;⟨ep,k34.obj l _ e nlw (fun z=>z)⟩),⟨ra.1,ra.2.aL (st k34 oki)⟩,en4,le_succ_of_le hacc,f4⟩
  | true=>
   rw[ai rfl];obtain⟨kb,e6,ck,f4⟩:=aM f4;obtain⟨rv,e7,c3,f4⟩:=aM f4;obtain⟨kp,cg,f4⟩:=aE f4;obtain⟨key,cy,f4⟩:=aE f4;obtain⟨p,c4,f4⟩:=aE f4;refine hk O' M' W' cL σ3 H4 e5 e6 kb _ oki4 en4 ck fun kv H4' k4' rk frk=>?_
   have oki4':=oki4.keep k4'.b7;refine he O' M' W' cL σ3 H4' e6 e7 rv _ oki4' (rk.en oki4') c3 fun v H5 k5 rb fr=>?_
   have oki5:=oki4'.keep k5.b7;obtain⟨en5,rp5⟩:=rb.put oki5 c4;have ek:kv=kV key:=(((rk.rv oki4').keep oki4' k5).red en5 cg).key cy;have k35:bV W' cL H2 H5:=(k34.trans k4').trans k5;obtain⟨ep0,hl20⟩:=hl2;have hl5:=k35.obj l _ hl20 nlw (fun z=>z);have ra5:dF K (aS M' cL) H5 acc vs:=⟨ra.1,ra.2.aL (st k35 oki)⟩;have lv:vs.length=acc.length:=by have:=cn List.length ra.1;rw[aj,aj]at this;exact this
   refine⟨vs,key,⟨_,hl5⟩,ek,by rw[lr];omega,fun ep=>?_⟩;have stw:cO (aS M' cL) (aS M' cL) H5 (upd H5 l (.dK (putK vs key v) ep)):=.write (.inl (.inr (.inr rfl))) hl5 fun _ z=>nomatch z
   have kw:bV W' (one l) H5 (upd H5 l (.dK (putK vs key v) ep)):=.write (.inr rfl) hl5 fun _ z=>nomatch z
   have lp:(e8 acc key p).length<=acc.length+1:=by
    unfold e8;split
    .rw[aj];omega
    .rw[bq];exact bj _
   refine⟨e7,e8 acc key p,putK vs key v,(kk.trans (kL k35)).trans kw,⟨ep,aU⟩,dF.put key ⟨ra5.1,ra5.2.aL stw⟩ (rp5.aL stw),?_,by omega,f4⟩;exact enW en5 nlw (fun od=>od hl) stw
 .have e:i=items.length:=by omega
  subst e;rw[drop_length]at f4;cases f4;have kout:=JQ en hl kk;have enf:=enO hms2 o1 en hl kk en2 f3;refine .inl ⟨its,q _ _ (k1.trans kout) ⟨l,rfl,fun z=>o1.old l z hl,fun z=>(o1.loc l z).1 hl,enf,fun i s hs hm e=>?_,.a9 hl2.choose_spec ra.1 (ra.2.aL (.less fun a z=>.inl z))⟩ (Fr.back (b:=.new (.a9 _)) k1.b7 fun a e=>by cases e;exact hl)⟩;obtain⟨s',hs',hm'⟩:=kX f3 i s hs hm;obtain⟨_,ob,h,_⟩:=D9 en i s' l hs' hm' e;rw[hl]at h;cases h
theorem DM (ms:List (Nat×Nat)) (hms:(ms.all fun z=>ms.all fun z'=>(z.1==z'.1)==(z.2==z'.2))=true) (hi:wD K wi fi) (hg:zD K g fg) (ht:mU K tt ft) (hk:Ref K tk fk) (he:Ref K te fe):Ref K (zV wi k cap g tt tk te) (i8 fi k cap ms fg ft fk fe):=by
 have key:∀z∈ms,∀z'∈ms,(z.1==z'.1)=(z.2==z'.2):=fun z hz z' hz'=>by
  have:=bb.mp (bb.mp hms z hz) z' hz';simpa using this
 refine G7 ms (fun i j1 j2 h1 h2=>?_) (fun i1 i2 j h1 h2=>?_) hi hg ht hk he
 .have:=key _ h1 _ h2;simpa using this
 .have:=key _ h1 _ h2;simpa using this
end
theorem jV {fk fe:FE} (I:Nat->List (Key×PV)->En->Prop) {Q:List (Key×PV)×En->Prop} {xs:List PV}
  (hs:∀(i:Nat) x e d,xs[i]? =some x->I i d e->Wp (fg x e) fun e1=>Wp (ft e1) fun z=>match z.1 with|false=>I (i+1) d z.2|true=>Wp (fk z.2) fun kb=>Wp (fe kb.2) fun w=>Wp (kb.1.weak.get w.2) fun kp=>Wp (keyOf kp) fun k=>Wp w.1.put fun p=>I (i+1) (e8 d k p) w.2)
  (hd:∀d e,I xs.length d e->Q (d,e)) {e:En} {d:List (Key×PV)} (h0:I 0 d e):Wp (lB fg ft fk fe xs e d) Q:=by
 have key:∀(ys:List PV) (i:Nat) (e:En) (d:List (Key×PV)),i<=xs.length->xs.drop i=ys->I i d e->Wp (lB fg ft fk fe ys e d) Q:=by
  intro ys
  induction ys with
  | nil=>
   intro i e d hil hy hi;unfold lB;rw[bP];have hl:xs.length<=i:=by
    have:=cn List.length hy;rw[dh]at this;simp at this;omega
   have h:i=xs.length:=by omega
   subst h;exact hd d e hi
  | cons x ys ih=>
   intro i e d hil hy hi;have hlt:i<xs.length:=by
    have:=cn List.length hy;rw[dh,length_cons]at this;omega
   rw[dg hlt]at hy;have hx:xs[i]? =some x:=by rw[ag hlt,(List.cons.inj hy).1]
   obtain⟨e1,g1,⟨b,e2⟩,g2,h⟩:=hs i x e d hx hi;unfold lB;rw[g1,sU,g2,AR];cases b with
   |false=>exact ih (i+1) e2 d hlt (List.cons.inj hy).2 h
   |true=>
    obtain⟨⟨kb,e3⟩,g3,⟨r,e4⟩,g4,kp,g5,k,g6,p,g7,h⟩:=h;dsimp only at g3 g4 g5 g6 g7 h⊢
    rw[g3,AR,g4,AR,g5,sU,g6,sU,g7,sU];exact ih (i+1) e4 _ hlt (List.cons.inj hy).2 h
 exact key xs 0 e d (eh _) rfl h0
theorem HZ {ms:List (Nat×Nat)} {e:En} {Q:Bv×En->Prop}:
  Wp (i8 fi k cap ms fg ft fk fe e) Q↔Wp (fi (fun i=>!(ms.any fun z=>z.1==i)) e) fun z=>z.1.length<1000000/\Wp (lB fg ft fk fe z.1 (tH k cap ms z.2) []) fun w=>Wp (mI w.2 ms z.2) fun e2=>Q (.new (.a9 w.1),e2):=by
 unfold i8;constructor
 .intro h;obtain⟨z,h1,h⟩:=jZ.mp h;obtain⟨g,h⟩:=cP.mp h;obtain⟨w,h2,h⟩:=jZ.mp h;obtain⟨e2,h3,h⟩:=jY.mp h;exact⟨z,h1,ao g,w,h2,e2,h3,bP.mp h⟩
 .rintro⟨z,h1,g,w,h2,e2,h3,q⟩;exact jZ.mpr ⟨z,h1,cP.mpr ⟨decide_eq_true g,jZ.mpr ⟨w,h2,jY.mpr ⟨e2,h3,bP.mpr q⟩⟩⟩⟩
end Mr
namespace L2
open PySem PyProof.Rows
section
variable {X:Cx}
def zK (K:Frag):V->List V->Hp->VK->Prop:=fun x vs H Q=>∃(l:Addr) (zs:List Str) (y:Str),x= .ref l/\vs=[.str y]/\iW K H l (zs.map V.str)/\y∈zs/\zs.length<1000000/\Q (.int (zs.idxOf y:Nat)) H
theorem oV (k:Str):∀{vs:List Value} {ys:List Str},StrsAre vs ys->∀(j:Nat) (h1:j<vs.length) (h2:j<ys.length),isStrOf k vs[j]=(ys[j]==k)
 |_,_,.cons n t h,0,_,_=>rfl
 |_,_,.cons n t h,j+1,h1,h2=>oV k h j (by simpa using h1) (by simpa using h2)
theorem BI:∀{vs:List Value} {ys:List Str},StrsAre vs ys->vs.length=ys.length
 |_,_,.nil=>rfl
 |_,_,.cons n t h=>by rw[length_cons,length_cons,BI h]
theorem rF (K:Frag) (hK:X.K=K:=by rfl):MtR X "list.index" (zK K):=by
 subst hK;intro pins s σ H x vs v us Q I rx rv h;obtain⟨l,zs,y,rfl,rfl,hq,hy,hz,q⟩:=h;cases rx;obtain⟨u,rfl,t,rfl⟩:=vals1 rv;obtain⟨its,r,pl,_⟩:=I.list hq;have hi:StrsAre its zs:=tS r;have hl:=pl.isList;obtain⟨⟨cls,dd,data,sl⟩,ho,hc,n,hd⟩:=id hl;simp only at hc hd;subst hc hd;have hlen:=BI hi;have hj:zs.idxOf y<zs.length:=List.idxOf_lt_length_iff.mpr hy;refine call_meets slot_list_index ⟨_,ho,rfl⟩ PySem.F.entry_list_index (PySem.F.args_list_index_2 _ _)
  (SeqAt.list_indexAt l its.toArray n dd sl (.str y t) (isStrOf y) (zs.idxOf y) (by simpa [hlen]using hj) (by omega) ?_ ?_) ⟨ho,fun w hw=>(eq_isStrOf y t hi w (by simpa using hw)).at _ _,⟨.int (zs.idxOf y:Nat),H,I.tok _,⟨_,rfl⟩,q⟩⟩
 .show isStrOf y its[zs.idxOf y]=true;rw[oV y hi _ (by omega) hj];simpa using List.getElem_idxOf hj
 .intro j hjs hlt;show isStrOf y its[j]=false;rw[oV y hi j (by simpa using hjs) (by omega)];have:=List.not_of_lt_findIdx (p:=(·==y)) (xs:=zs) (i:=j) hlt;simpa using this
end
end L2
namespace Mr
open PySem L2
section
variable {K:Frag}
noncomputable def pM:PV->List PV->Option Bv
 | .lst ps,[.str y]=>bO (u7 ps) fun zs=>aZ (decide (y∈zs) && decide (zs.length<1000000)) (some (.val (.int (zs.idxOf y:Nat))))
 |_,_=>none
theorem IG:VY K (zK K) pM:=by
 intro Z H x vs p ps b Q hp hps h k;unfold pM at h;split at h
 .obtain⟨zs,g,h⟩:=aE h;obtain⟨c,h⟩:=aK h;cases h;rw[bz]at c;obtain⟨v,rfl,hv⟩:=hps.one;obtain⟨a,ys,rfl,ha,ra⟩:=hp.qS;rw[pO g]at ra;rw[ra.strs]at ha;exact⟨a,zs,_,rfl,by rw[hv.str],ha.sq,ao c.1,ao c.2,k _ H (aV.refl _) (Rep.int _)⟩
 .cases h
end
end Mr
namespace L2
open PySem PySem.Spec PyProof.Rows
variable {tg:Expr}
theorem Paired.aaI {α β:Type} {F:α->β->Prop}:∀{l:List α} {m:List β} {i:Nat} {x:α},Paired F l m->l[i]? =some x->∃y,m[i]? =some y/\F x y
 |_,_,_,_,.nil,h=>by simp at h
 |_,_,0,_,.cons h _,e=>by simp at e;subst e;exact⟨_,rfl,h⟩
 |_,_,i+1,_,.cons _ r,e=>by
  obtain⟨y,h1,h2⟩:=Paired.aaI (i:=i) r (by simpa using e);exact⟨y,by simpa using h1,h2⟩
theorem U6 {k:Key} {v:Value} (e:sO k v=true):RelV (kV k) v:=by
 rcases b6 e with⟨i,t,rfl,rfl⟩|⟨x,t,rfl,rfl⟩
 .exact⟨t,rfl⟩
 .exact⟨t,rfl⟩
noncomputable def Itk (a:Addr) (kvs:List (Key×V)) (ep:Nat):It:=
 ⟨fun i H=>Rd H a (.dK kvs ep)/\i<kvs.length,fun i H x H'=>H'=H/\∀kv,kvs[i]? =some kv->x=kV kv.1,fun i H=>Rd H a (.dK kvs ep)/\i=kvs.length⟩
theorem IH {P:Program} {w:World} {K:Frag} (a it:Addr) (kvs:List (Key×V)) (ep:Nat):Turn P w K tg (Itk a kvs ep) [it] it (fun i h=>h.IsKeyIter it a i kvs.length ep)where
 mem:=by simp
 obj:=fun i h st b hb=>by
  have e:b=it:=by simpa using hb
  subst e;obtain⟨o,e,c,d⟩:=st;exact⟨o,e,fun v z=>by rw[d]at z;cases z⟩
 keep:=fun i h h' st k=>st.at fun o e=>k it (by simp) o e
 item:=by
  intro X hP hw hK hc i pins s σ H E I hf st hg;subst hP hw hK;obtain⟨hr,hi⟩:=hg;obtain⟨_,_,vs,rel,dd⟩:=GC I.bS hr;have hl:kvs.length=vs.length:=Paired.length rel;obtain⟨q,hq,rq⟩:=Paired.aaI rel (ag hi);rw[hl]at st;obtain⟨f0,f1,f2,f3,f4,f5⟩:=hf it (by simp);refine wpAny_pyNext_dict_item st dd (k:=q.1) (v:=q.2) hq fun key h' hk st' sb=>?_
  have I1:Inv X pins σ H {s with heap:=h'}:=I.turned (t':=s.toks) (fun b o hb e=>(sb.2 b hb).trans e) f0 f1 f3 f4 f5;obtain⟨o,e,c,d⟩:=id st';rw[<-hl]at st';refine⟨key,rfl,xQ (s:={s with heap:=h'}) e c d (by decide) ⟨kV q.1,H,I1,U6 hk,⟨rfl,fun kv hkv=>?_⟩,st',fun b hb=>(hf b hb).1⟩⟩;rw[ag hi]at hkv;cases hkv;rw[rq.1]
 done:=by
  intro X hP hw hK hc i pins s σ H E I hf st hg;subst hP hw hK;obtain⟨hr,hi⟩:=hg;obtain⟨_,_,vs,rel,dd⟩:=GC I.bS hr;have hl:kvs.length=vs.length:=Paired.length rel;rw[hl]at st;obtain⟨f0,f1,f2,f3,f4,f5⟩:=hf it (by simp);exact wpAny_pyNext_dict_end (I.ok.hd hc) st dd (List.getElem?_eq_none_iff.mpr (by omega)) fun h' eb=>⟨rfl,I.turned (t':=s.toks) (fun b o hb e=>eb b o hb e) f0 f1 f3 f4 f5⟩
 self:=fun _ _ _ _ _ st h=>wpAny_pyIter_keyiter st h
section
variable {X:Cx}
def S3 (tl:TE):TI:=fun σ H R=>tl σ H fun x H1=>∃a kvs ep,x= .ref a/\Rd H1 a (.dK kvs ep)/\R (Itk a kvs ep) H1
theorem zG {l:Expr} {tl:TE} (hl:PE X l tl):PI X tg l (S3 tl):=by
 intro pins s σ H R I h;refine cD (hl pins s σ H _ I h) fun v s1 ⟨x,H1,I1,r1,a,kvs,ep,e,hr,q⟩=>?_
 subst e;cases r1;obtain⟨_,hd,vs,rel,dd⟩:=GC I1.bS hr;refine wpAny_pyIter_dict hd dd ?_;refine⟨s1.heap.objs.size,[s1.heap.objs.size],_,_,H1,rfl,I1.kept (t':=s1.toks) fun b o e=>au _ e,IH a _ kvs ep,⟨_,dc _ rfl,rfl,by rw[show kvs.length=vs.length from Paired.length rel];rfl⟩,fun b hb=>?_,q⟩;have e:b=s1.heap.objs.size:=by simpa using hb
 subst e;exact I1.wI (bj _) (I1.bS.fresh (bj _))
end
end L2
namespace Mr
open PySem PySem.Spec L2 PyProof.Rows
variable {f:FE} {H:Hp} {kvs:List (Key×PV)} {t:TE} {Z:aJ}
section
variable {K:Frag}
noncomputable def B0:PV->Option (List (Key×PV))
 | .a9 kvs=>some kvs
 |_=>none
theorem nJ {p:PV} (h:B0 p=some kvs):p= .a9 kvs:=by
 cases p with
 |a9 k=>cases h;rfl
 |_=>cases h
noncomputable def F0 (f:FE) (st:Nat->Bool) (e:En):Option (List (Key×PV)×En):=bE (f e) fun b e1=>match b with
 | .slot i=>match e1[i]? with
  |some (some (.bor p))=>bO (B0 p) fun ps=>some (ps,e1)
  |some (some (.own p))=>aZ (st i) (bO (B0 p) fun ps=>some (ps,e1))
  |some (some (.loc p))=>aZ (st i) (bO (B0 p) fun ps=>some (ps,e1))
  |_=>none
 | .val p=>bO (B0 p) fun ps=>some (ps,e1)
 | .new p=>bO (B0 p) fun ps=>some (ps,e1)
theorem NV (h:Ref K t f) {st:Nat->Bool} {O M L:aJ} {W:WS} {σ:L2.St} {e e':En} {Q:VK} (o:jB O M W L H) (he:aO K (aS M L) W L H σ e) (hf:F0 f st e=some (kvs,e'))
  (q:∀a ys ep H1,bV W L H H1->aO K (aS M L) W L H1 σ e'->Rd H1 a (.dK ys ep)->dF K (aS M L) H1 kvs ys->
   (∀Wr:aJ,(∀a,Wr a->aw W a\/ L a)->(∀(i:Nat) a s,st i=true->e'[i]? =some (some s)->s.cU=true->σ[i]? =some (some (.ref a))->¬Wr a)->¬Wr a)->Q (.ref a) H1):t σ H Q:=by
 obtain⟨x,e1,f1,hf⟩:=aM hf;refine h O M W L σ H e e1 x _ o he f1 fun v H1 k1 rb fr=>?_
 have o1:=o.keep k1.b7;have en:=rb.en o1;have vals:∀p,Rep K (aS M L) H1 p v->B0 p=some kvs->e1=e'->Q v H1:=fun p hp hi ee=>by
  subst ee;have:=nJ hi;subst this;cases hp with
  |a9 ha n ek r=>exact q _ _ _ H1 k1 en ha ⟨ek,r⟩ fun Wr hw _ z=>n ((hw _ z).elim (fun⟨i,w⟩=>.inl (o.wm i _ w)) .inr)
 cases x with
 |val p=>
  obtain⟨ps',g,hf⟩:=aE hf;cases hf;exact vals p rb.2 g rfl
 |new p=>
  obtain⟨ps',g,hf⟩:=aE hf;cases hf;exact vals p (rb.weak o1).2 g rfl
 | slot i=>
  dsimp only at hf;cases c:e1[i]? with
  |none=>rw[c]at hf;cases hf
  | some s=>
   cases s with
   |none=>rw[c]at hf;cases hf
   | some s=>
    rw[c]at hf;obtain⟨u,hu,sr⟩:=rb.1.at' i s c;have:=rb.2;rw[hu]at this;cases this;cases s with
    |val p=>cases hf
    |bor p=>
     obtain⟨ps',g,hf⟩:=aE hf;cases hf;have:=nJ g;subst this;obtain⟨a,rfl,lt⟩:=sr;cases lt with
     |a9 ha od n m ek r=>exact q _ _ _ H1 k1 en ha ⟨ek,r⟩ fun Wr hw _ z=>(hw _ z).elim n m
    |own p=>
     obtain⟨hst,hf⟩:=aK hf;obtain⟨ps',g,hf⟩:=aE hf;cases hf;have:=nJ g;subst this;obtain⟨a,rfl,w,ct⟩:=sr;cases ct with
     |a9 ha ek r=>exact q _ _ _ H1 k1 en (.inl ha) ⟨ek,r⟩ fun Wr hw hs=>hs i a _ hst c rfl hu
    |loc p=>
     obtain⟨hst,hf⟩:=aK hf;obtain⟨ps',g,hf⟩:=aE hf;cases hf;have:=nJ g;subst this;obtain⟨a,rfl,w,ct⟩:=sr;cases ct with
     |a9 ha ek r=>exact q _ _ _ H1 k1 en (.inl ha) ⟨ek,r⟩ fun Wr hw hs=>hs i a _ hst c rfl hu
theorem QC (k:Key):Rep K Z H (J1 k) (kV k):=by
 cases k with
 |inl i=>exact .int i
 |inr x=>exact .str x
theorem QX {H':Hp} {Wr:aJ} {a:Addr} {u:HO} (h:Rd H a u) (k1:∀a o,H a=some o->¬Wr a->H' a=some o) (n:¬Wr a):Rd H' a u:=by
 rcases h with h|⟨o,h⟩
 .exact .inl (k1 _ _ h n)
 .exact .inr ⟨o,k1 _ _ h n⟩
theorem dF.at {ys:List (Key×V)} (r:dF K Z H kvs ys) {i:Nat} {z:Key×PV} (h:kvs[i]? =some z):∃y,ys[i]? =some y/\y.1=z.1/\Rep K Z H z.2 y.2:=by
 obtain⟨r1,r2⟩:=r;obtain⟨v,hv,rv⟩:=r2.get (i:=i) (p:=z.2) (by rw[az,h];rfl);rw[az]at hv;cases c:ys[i]? with
 |none=>rw[c]at hv;cases hv
 |some y=>
  rw[c]at hv;cases hv;have e:=cn (·[i]?) r1;simp only[az,c,h]at e;exact⟨y,rfl,Option.some.inj e,rv⟩
theorem dF.len {ys:List (Key×V)} (r:dF K Z H kvs ys):kvs.length=ys.length:=by
 have:=cn List.length r.1;simpa using this.symm
noncomputable def wZ (f:FE):FI:=fun st e=>bO (F0 f st e) fun z=>some (z.1.map fun kv=>J1 kv.1,z.2)
theorem LU (h:Ref K t f):wD K (S3 t) (wZ f):=by
 intro st O M W L σ H e e' ps R o he hf q;obtain⟨⟨kvs,e1⟩,g1,hf⟩:=aE hf;cases hf;refine NV h o he g1 fun a ys ep H1 k1 en rd r nw=>⟨a,ys,ep,rfl,rd,q _ H1 k1 en fun Wr hw hs=>?_⟩
 intro L' H' c1 c2 c3;have rd':=QX rd c1 (nw Wr hw hs);refine⟨fun k p hp=>?_,rd',by rw[aj];exact r.len⟩;rw[az]at hp;cases c:kvs[k]? with
 |none=>rw[c]at hp;cases hp
 |some z=>
  rw[c]at hp;cases hp;obtain⟨y,hy,ey,_⟩:=r.at c;refine⟨⟨rd',(ae.mp hy).1⟩,fun x H3 yl=>?_⟩;obtain⟨e,yl⟩:=yl;subst e;rw[yl y hy,ey];exact⟨aV.refl _,QC _⟩
end
end Mr
namespace Mr
open PySem L2
section
variable {K:Frag}
noncomputable def nN (fa fb:FE):FE:=fun e=>bE (fa e) fun x e1=>bO (x.weak.get e1) fun p1=>match p1 with
 | .lst _=>bE (fb e1) fun y e2=>bO (x.weak.get e2) fun p=>bO (y.weak.get e2) fun q=>bO (pM p [q]) fun b=>some (b,e2)
 |_=>none
theorem ED {ta tb:TE} {fa fb:FE} (ha:Ref K ta fa) (hb:Ref K tb fb):Ref K (YE K "list" (zK K) ta (dD tb tF)) (nN fa fb):=by
 intro O M W L σ H e e' b Q o he hf q;obtain⟨x,e1,f1,hf⟩:=aM hf;obtain⟨p1,g0,hf⟩:=aE hf;cases p1 with
 |lst ps1=>
  obtain⟨y,e2,f2,hf⟩:=aM hf;obtain⟨p,g1,hf⟩:=aE hf;obtain⟨p',g2,hf⟩:=aE hf;obtain⟨c,g3,hf⟩:=aE hf;cases hf;refine ha O M W L σ H e e1 x _ o he f1 fun v1 H1 k1 r1 fr=>?_
  have o1:=o.keep k1.b7;obtain⟨a1,ys1,e11,ha1,_⟩:=((r1.rv o1).red (r1.en o1) g0).qS;refine⟨by rw[e11];exact .inl ⟨rfl,ys1,ha1.sq⟩,?_⟩;refine hb O M W L σ H1 e1 _ y _ o1 (r1.en o1) f2 fun v2 H2 k2 r2 fr=>?_
  have o2:=o1.keep k2.b7;have en:=r2.en o2;have rp:=((r1.rv o1).keep o1 k2).red en g1;have rq:=(r2.rv o2).red en g2;refine IG _ H2 v1 [v2] p [p'] _ Q rp (.cons rq .nil) g3 fun v H' s rn=>?_
  exact q v H' ((k1.trans k2).trans (.same s)) (rn.rb o2 en s) (rn.fr (k1.trans k2).b7)
 |_=>cases hf
end
section
variable {K:Frag}
def XQ (t:TE):Prop:=∀(σ σ':L2.St) (H:Hp) (Q Q':VK),(∀v H',Q v H'->Q' v H')->t σ H Q->t σ' H Q'
theorem F5:XQ (MR tF):=fun _ _ _ _ _ k h=>⟨h.1,fun p hp=>k _ _ (h.2 p hp)⟩
end
end Mr
namespace L2
open PySem PySem.Spec PyProof.Rows
def Y0 (K:Frag):List V->Hp->VK->Prop:=fun xs H Q=>∃(a:Addr) (is:List Int),xs=[.ref a]/\iW K H a (is.map V.int)/\Q (.int is.sum) H
theorem x8:∀{is:List Int} {us:List Value},Vals (is.map V.int) us->∃xs:Array (Int×Tok),us.toArray=intItems xs/\xs.toList.map (·.1)=is
 |[],_,.nil=>⟨#[],by simp[intItems],rfl⟩
 |i::is,_,.cons ⟨t,h⟩ r=>by
  subst h;obtain⟨xs,h1,h2⟩:=x8 r;refine⟨((i,t)::xs.toList).toArray,?_,by simp[h2]⟩;have h1:=cn Array.toList h1;unfold intItems at h1⊢
  apply toList_inj.mp;simp at h1⊢
  exact h1
theorem acI {X:Cx} (K:Frag) (hK:X.K=K:=by rfl) (hc:X.calm=true:=by rfl):cS X (.builtin "sum") (Y0 K):=by
 subst hK;intro pins s σ H xs us Q I rv h;obtain⟨a,is,rfl,hq,q⟩:=h;obtain⟨u,rfl,rx⟩:=vals1 rv;cases rx;obtain⟨its,rvs,pl,hz⟩:=I.list hq;obtain⟨ys,h1,h2⟩:=x8 rvs;have hl:=pl.isList;rw[h1]at hl;refine sum_intListG (by exact I.ok.hd hc) hl fun h' tk t' hk=>?_
 have e2:preSum (numAt ys) ys.size=is.sum:=by
  rw[preSum_eq,fz (by simp),h2]
 rw[e2];exact⟨.int _,H,I.kept (t':=tk) hk,⟨_,rfl⟩,q⟩
end L2
namespace Mr
open PySem PySem.Spec L2 PyProof.Rows
variable {f:Addr} {K:Frag} {a b c:Str}
section
variable {K:Frag}
noncomputable def xH:List PV->Option (List Int)
 |[]=>some []
 | .int x::ps=>bO (xH ps) fun xs=>some (x::xs)
 |_=>none
theorem G9 (xs:List Int):xH (xs.map PV.int)=some xs:=by
 induction xs with
 |nil=>rfl
 |cons x xs ih=>show bO (xH (xs.map PV.int)) _=_;rw[ih];rfl
theorem ints_rep {Z:aJ} {H:Hp}:∀{ps:List PV} {vs:List V} {is:List Int},bC K Z H ps vs->xH ps=some is->vs=is.map V.int
 |_,_,_,.nil,h=>by cases h;rfl
 | _,_,_,.cons (p:=p) h r,e=>by
  cases p with
  |int i=>
   obtain⟨js,h1,h2⟩:=aE e;cases h2;cases h;rw[ints_rep r h1];rfl
  |_=>cases e
noncomputable def SJ:List PV->Option Bv
 |[.lst ps]=>bO (xH ps) fun is=>some (.val (.int is.sum))
 |_=>none
theorem L3:lL K (Y0 K) SJ:=by
 intro Z H vs ps b Q hp h k;unfold SJ at h;split at h
 .obtain⟨is,h1,h⟩:=aE h;cases h;obtain⟨v,rfl,hv⟩:=hp.one;obtain⟨a,xs,rfl,ha,ra⟩:=hv.qS;have e:=ints_rep ra h1;subst e;exact⟨a,is,rfl,ha.sq,k _ H (aV.refl _) (Rep.int _)⟩
 .cases h
end
structure t8 (K:Frag) (x:Str) (st:Stmt) (f:Addr):Prop where
 a:nsIn K mainGlobals x=some (some (.ref f))
 F:∃fd,VU K x x st f fd
theorem cG {x:Str} {st:Stmt} {oc:Value} {od an:Option Addr} {osl:Array (Option Value)} {kV doc pm cdv ct:Value} (a:nsIn K mainGlobals x=some (some (.ref f)))
  (l:K.lookup f=some ⟨oc,od,.func (fnOf x x (fL st) (dP st) (aW st) .none kV doc pm an cdv ct),osl⟩) (c:codeIn K cdv x=true) (k:keepIn K (.ref f)=true):t8 K x st f:=⟨a,_,XD l c k⟩
section
variable {P:Program} {w:World} {K:Frag} {mg:Str->Option Value} {base h:Heap} {x:Str} {st:Stmt} {ps N:List Str} {k nl:Nat} {ks:List Kd} {fr:Bool} {g:FS}
def YK (x:Str) (st:Stmt) (ps:List Str):Prop:=∀(kV doc pm:Value) (an:Option Addr) (cdv ct:Value) (us:List Value),us.length=ps.length->bindArgs (fnOf x x (fL st) (dP st) (aW st) .none kV doc pm an cdv ct) ⟨us,[]⟩=pure (ps.zip us)
def Dx (K:Frag) (mg:Str->Option Value) (x:Str) (st:Stmt) (ps:List Str):Prop:=∃f fd,Def K mg x st ps f fd
theorem t8.dx (H:t8 K x st f) (X:K.In h) (G:h.Ns mainGlobals mg) (b:YK x st ps):Dx K mg x st ps:=let⟨fd,F⟩:=H.F;⟨f,fd,F,mg_of X G H.a,F.binds b⟩
structure Cn (P:Program) (w:World) (K:Frag) (mg:Str->Option Value) (base:Heap) (x:Str) (st:Stmt) (ps:List Str) (k:Nat) (ks:List Kd) (fr:Bool) (fn:FN):Prop where
 e:∃f fd,Def K mg x st ps f fd/\pX P w K mg base OD k f fd ps (YA K ks fr fn)
theorem dH (D:Dx K mg x st ps) (S:pL N ps (aW st)) (hN:N.length=ks.length+nl) (hp:ks.length=ps.length)
  (hb:pL N ps (aW st)->∀(f:Addr) (cdv:Value) (A:Around) (outer:List Env) (s:Shared) (H:Hp) (E:XK),c8 k (A.deeper (envOfC x (aW st) s.heap.objs.size f cdv))->∃t,CP (EF OD P w K mg base N x (aW st) f cdv A outer s H E).nox (dP st) t/\eF K t g):Cn P w K mg base x st ps (k+1) ks fr (tG ks nl fr g):=by
 obtain⟨f,fd,D⟩:=D;refine⟨f,fd,D,D.F.ok S (fun vs H Q E h=>?_) (fun cdv A outer s H vs Q E hr h=>?_)⟩
 .obtain⟨_,_,_,_,_,hl,_⟩:=h;exact hl.trans hp
 .obtain⟨t,h1,h2⟩:=hb S f cdv A outer s H E hr;exact⟨t,h1,UY h2 hN h⟩
theorem acL {X:Cx} {body:List Stmt} {g:FS} (h:∃t,QE X body t/\eF K t g):∃t,CP X body t/\eF K t g:=let⟨t,a,b⟩:=h;⟨t,a.h,b⟩
theorem y9 {x:Str} {st:Stmt} (h:∀(kV doc pm:Value) (an:Option Addr) (cdv ct v:Value),bindArgs (fnOf x x (fL st) (dP st) (aW st) .none kV doc pm an cdv ct) ⟨[v],[]⟩=pure [(a,v)]):YK x st [a]:=fun _ _ _ _ _ _ us hl=>match us,hl with|[_],_=>h _ _ _ _ _ _ _
theorem EI {x:Str} {st:Stmt} (h:∀(kV doc pm:Value) (an:Option Addr) (cdv ct v1 v2:Value),bindArgs (fnOf x x (fL st) (dP st) (aW st) .none kV doc pm an cdv ct) ⟨[v1,v2],[]⟩=pure [(a,v1),(b,v2)]):YK x st [a,b]:=fun _ _ _ _ _ _ us hl=>match us,hl with|[_,_],_=>h _ _ _ _ _ _ _ _
theorem M6 {x:Str} {st:Stmt} (h:∀(kV doc pm:Value) (an:Option Addr) (cdv ct v1 v2 v3:Value),bindArgs (fnOf x x (fL st) (dP st) (aW st) .none kV doc pm an cdv ct) ⟨[v1,v2,v3],[]⟩=pure [(a,v1),(b,v2),(c,v3)]):YK x st [a,b,c]:=fun _ _ _ _ _ _ us hl=>match us,hl with|[_,_,_],_=>h _ _ _ _ _ _ _ _ _
theorem abY {d:Str} {x:Str} {st:Stmt} (h:∀(kV doc pm:Value) (an:Option Addr) (cdv ct v1 v2 v3 v4:Value),bindArgs (fnOf x x (fL st) (dP st) (aW st) .none kV doc pm an cdv ct) ⟨[v1,v2,v3,v4],[]⟩=pure [(a,v1),(b,v2),(c,v3),(d,v4)]):YK x st [a,b,c,d]:=fun _ _ _ _ _ _ us hl=>match us,hl with|[_,_,_,_],_=>h _ _ _ _ _ _ _ _ _ _
end
section
variable {X:Cx} {x:Str} {st:Stmt} {ps:List Str} {j k:Nat} {ks:List Kd} {fr:Bool} {fn:FN} {e:Expr} {es:List Expr} {t:TA} {p pos:Pos}
theorem bG (C:Cn X.prog X.w K X.mg X.base x st ps j ks fr fn) (hr:c8 k X.A) (hjk:j<=k) (hg:Gl X x) (ha:PA X (e::es) t) (hK:X.K=K:=by rfl) (hdb:(x==("__debug__":Str))=false:=by decide)
  (he:starEach (e::es) X.env=(false,eval e X.env)::starEach es X.env:=by rfl) (hpl:(backTo pos (starEach es X.env)).any (·.1)=false:=by rfl):PE X (.Call (.Name x p) (e::es) [] pos) (GB (YA K ks fr fn) [] E0 t):=by
 subst hK;obtain⟨f,fd,D,G⟩:=C.e;exact aaA D G hr hjk hg ha hdb he hpl
end
theorem V2 {P:Program} {w:World} {mg:Str->Option Value} {st:Stmt} {k:Nat} {fn:FN} {fa:Addr} (hm:mg "law"=some (.ref fa)) (D:Dx K mg "law" st [a]) (hb:YK "law" st [a])
  (C:∀base,Cn P w K mg base "law" st [a] k [.b] false fn) (hl:∀ns:List Int,ns.length<=63->fn [.lst (ns.map PV.int)]=some (.bl true,[])):
  ∃fd:FuncData,(∀(s:Shared) (v:Value),BindsTo s fd ⟨[v],[]⟩ [(a,v)])/\∀base:Heap,K.In base->base.Ns mainGlobals mg->pX P w K mg base OD k fa fd [a] (AM K):=by
 obtain⟨f,fd,D⟩:=D;have e1:=D.m;rw[hm]at e1;cases e1;refine⟨fd,fun s v=>?_,fun base _ _=>?_⟩
 .obtain⟨oc,od,kV,doc,pm,an,cdv,ct,osl,rfl,lk,hcd⟩:=D.F.ex;exact .of_eq (hb kV doc pm an cdv ct [v] rfl)
 .obtain⟨f',fd',D',ok⟩:=(C base).e;have e2:=D'.m;rw[hm]at e2;cases e2;obtain⟨oc,od,kV,doc,pm,an,cdv,ct,osl,h1,lk,hcd⟩:=D.F.ex;obtain⟨oc',od',kV',doc',pm',an',cdv',ct',osl',h1',lk',hcd'⟩:=D'.F.ex;rw[lk]at lk';have e3:fd=fd':=by
   have:=cn Obj.data (Option.some.inj lk');exact Data.func.inj this
  subst e3;exact ok.imp fun vs H Q E h=>RI hl h
end Mr
namespace Mr
open PySem L2
variable {e:En} {f:FS}
section
variable {K:Frag}
def taL:List (TE×Nat)->TA
 |[]=>tF
 |z::l=>dD z.1 (taL l)
def YH:List (TE×Nat)->DE
 |[]=>N4
 |z::l=>sD (eE z.2) (YH l)
def tsL:List (TE×Nat)->TS
 |[]=>BS
 |z::l=>vV (mF z.1 (eE z.2)) (tsL l)
theorem KW:∀(l:List (TE×Nat)),(∀z∈l,XQ z.1)->∀(σ σ':L2.St) (H:Hp) (D:Ends) (Q:List V->Hp->Prop),(∀vs H',YH l vs σ' H' D.nx->Q vs H')->tsL l D σ' H->taL l σ H Q
 |[],_,_,_,_,_,_,k,h=>k _ _ ⟨rfl,h⟩
 |z::l,hi,σ,σ',H,D,Q,k,h=>hi z bf σ' σ H _ _ (fun x H1 h1=>KW l (fun y hy=>hi y (ax _ hy)) σ _ H1 D _ (fun vs H' h2=>k _ _ ⟨x,vs,rfl,h2⟩) h1) h
theorem S4:∀(l:List (TE×Nat)) {vs xs:List V} {σ:L2.St} {H:Hp} {p:Addr} {nx:L2.St->Hp->Prop},H p=none->YH l vs σ H (fun σ H=>∀p xs,H p=none->nx σ (upd H p (.tup xs)))->YH l vs σ (upd H p (.tup xs)) nx
 |[],_,_,_,_,_,_,hp,h=>⟨h.1,h.2 _ _ hp⟩
 |z::l,_,_,_,_,_,_,hp,⟨v,r,e,h⟩=>⟨v,r,e,S4 l hp h⟩
theorem C1:∀(l:List (TE×Nat)) {vs:List V} {σ:L2.St} {H:Hp} {nx:L2.St->Hp->Prop},YH l vs σ H nx->vs.length=l.length
 |[],_,_,_,_,h=>by rw[h.1];rfl
 |z::l,_,_,_,_,⟨v,r,e,h⟩=>by rw[e,length_cons,length_cons,C1 l h]
theorem LP (l:List (TE×Nat)) (hl:l.length<=sizeLine) (hi:∀z∈l,XQ z.1) (h:eF K (tsL l) f):eF K (mF (MH (taL l)) (I0 K l.length (YH l))) f:=by
 intro O M W L σ H e r D o he hf q;have k:=h O M W L σ H e r {D with nx:=fun σ H=>∀p xs,H p=none->D.nx σ (upd H p (.tup xs))} o he hf (by
  cases r with
  |nx e1=>exact fun L' σ' H' g o1 he1 p xs hp=>q L' σ' _ (g.trans (.keep (.same (aV.upd hp)))) (o1.keep (bV.same (W:=W) (L:=L') (aV.upd hp)).b7) (he1.same (aV.upd hp))
  |bk e1=>exact q
  |ct e1=>exact q
  |rt b e1=>exact q)
 refine KW l hi σ σ H _ _ (fun vs H' h2=>?_) k;refine⟨?_,fun p hp=>?_⟩
 .rw[C1 l h2];exact hl
 .exact⟨p,vs,rfl,pK.of aU,C1 l h2,S4 (xs:=vs) l hp h2⟩
theorem IU {ta tb tc td:TE} {i j k m:Nat} (ia:XQ ta) (ib:XQ tb) (ic:XQ tc) (id':XQ td) (h:eF K (vV (mF ta (eE i)) (vV (mF tb (eE j)) (vV (mF tc (eE k)) (vV (mF td (eE m)) BS)))) f):eF K (mF (MH (dD ta (dD tb (dD tc (dD td tF))))) (I0 K 4 (sD (eE i) (sD (eE j) (sD (eE k) (sD (eE m) N4)))))) f:=
 LP [(ta,i),(tb,j),(tc,k),(td,m)] (by show 4<=sizeLine;decide) (by simp[ia,ib,ic,id']) h
end
theorem SH {f:FE} {st:Nat->Bool}:wZ f st e=bO (F0 f st e) fun z=>some (z.1.map fun kv=>J1 kv.1,z.2):=rfl
theorem HN {fa fb:FE}:nN fa fb e=bE (fa e) fun x e1=>bO (x.weak.get e1) fun p1=>match p1 with
 | .lst _=>bE (fb e1) fun y e2=>bO (x.weak.get e2) fun p=>bO (y.weak.get e2) fun q=>bO (pM p [q]) fun b=>some (b,e2)
 |_=>none:=rfl
end Mr
namespace L2
open PySem Mr
section
variable {X:Cx} {es:List Expr} {t te:TE} {r:R2} {i:Nat} {x:Str} {b:Expr} {pos' pos p2 p3:Pos}
theorem z6 (hN:X.N.Nodup) (hi:X.N[i]? =some x) (hx:Loc X.env.scope x) (hr:CQ X r) (ha:K4 X (.List es pos) t) (hb:PE X b te) (hs:GK b) (hf:X.fn x=true:=by rfl):
  PSw X (.Assign [.Name x pos'] (.Subscript (.List es pos) b p2) p3) (mF (YF r t te) (eE i)):=⟨bD hN hi hx (aX hr ha.h hb hs) rfl (.inl hf)⟩
end
end L2
namespace My
open PySem L2 Mr
variable {M ab hs ks:Hl} {a b c d k:Int} {Le P1 P2:List (Int×Str)} {claimed rows:List (Key×PV)} {F Rs Ws:List (List Str)} {L L1 L2 ls qs:List Let} {A B E1 E2 Em R S ns ss xs:List Str} {ts:List oA} {i j m n n2 r r1 r2:Nat} {D D1 D2 kd:Nat->Int} {P:Nat->Prop} {N:Nat->Str} {v0 v2 v3 v8 v9:Option Sl} {o:Option Str} {Q:PV×List PV->Prop} {l:PySem.W.OpenLaw} {h x y:Str} {f:Str->PV} {α β:Type} {t:oA}
noncomputable def o8:FS:=(c9 (gZ iF (aB (iB (N7 (aB (aC 2) aN)) 2 [1,2] [] (oF 2 (cM (a6 0) (cM (a6 1) n6))) (EG (bX (bA T8 (aC 1) (aC 2))) (bX (bA (IX true) (aC 1) (JM JJ (aC 3) (jM (bA gE (aC 0) (fC (.int 1)))) eW)))) (aC 1)) aN)))
noncomputable def oT:FS:=(aY (cK 2 (bA dA (aC 0) (fC (.int 3)))) o8)
noncomputable def vK:FS:=(aY (cK 1 (bA dA (aC 0) (fC (.int 0)))) oT)
noncomputable def gH:FN:=tG [.b] 2 false vK
noncomputable def lE:FS:=(wG (bX (bA (IX true) (bA dA (aC 2) (fC (.int 0))) (aC 1))) (iL 1 (bA dA (aC 2) (fC (.int 0))) (aC 2)) dY)
noncomputable def kY:FS:=(aY (nZ (zA (aC 0)) (a6 2) lE) (c9 (EJ (aC 1))))
noncomputable def oZ:FS:=(aY (eJ 1 vL) kY)
noncomputable def cV:FN:=tG [.b] 2 false oZ
noncomputable def pJ:FS:=(c9 (TB (O6 (aC 4)) (dN (aB (bA dA (aC 4) (fUn XI (fC (.int 1)))) (aB (dN (aB (fC (.str "own")) aN)) aN))) (dN (aB (fC .bH) (aB (dN (aB (fC (.str "first")) aN)) aN)))))
noncomputable def o6:FS:=(aY (cK 4 (bA dA (aC 1) (aC 3))) pJ)
noncomputable def pH:FS:=(c9 (dN (aB (bA dA (bA dA (aC 1) (aC 6)) (bA Mr.JA (aC 7) (fC (.int 1)))) (aB (dN (aB (fC (.str "told")) (aB (aC 6) (aB (aC 7) aN)))) aN))))
noncomputable def o4:FS:=(aY (W9 (gZ sI (aB (bA dA (aC 2) (aC 3)) aN)) (oF 3 (cM (a6 5) (cM (a6 6) (cM (a6 7) n6))))) pH)
noncomputable def o7:FS:=(aY (wG (bX (bA (IX false) (aC 3) (aC 2))) o4 dY) (c9 (dN (aB (fC .bH) (aB (dN (aB (fC (.str "first")) aN)) aN)))))
noncomputable def pG:FS:=(aY (wG (bX (bA (IX false) (aC 3) (aC 1))) o6 dY) o7)
noncomputable def j0:FS:=(aY (wG (bX (bA (IX false) (aC 3) (aC 0))) (c9 (dN (aB (bA dA (aC 0) (aC 3)) (aB (dN (aB (fC (.str "hand")) aN)) aN)))) dY) pG)
noncomputable def cE:FN:=tG [.b,.b,.b,.b] 4 false j0
noncomputable def kP:FS:=(aY (rS 4 (aC 5)) (cK 5 (EN (aC 0) (aC 5))))
noncomputable def lJ:FS:=(aY (iL 1 (aC 5) (aC 3)) kP)
noncomputable def kC:FS:=(wG (EG (bX (bA (W7 true) (aC 5) (fC .bH))) (bX (bA OE (bA dA (aC 1) (aC 5)) (aC 3)))) (rS 2 (JM JJ (aC 4) (jM (nN (aC 4) (aC 5))) eW)) dY)
noncomputable def k6:FS:=(aY (mL (EG (bX (bA (W7 true) (aC 5) (fC .bH))) (bX (bA (IX true) (aC 5) (aC 1)))) lJ 1000) kC)
noncomputable def lA:FS:=(aY (cK 5 (aC 3)) k6)
noncomputable def kS:FS:=(aY (eJ 4 (gB aN)) lA)
noncomputable def lM:FS:=(aY (nZ (wZ (aC 0)) (a6 3) kS) (c9 (aC 2)))
noncomputable def lO:FS:=(aY (eJ 2 (gB aN)) lM)
noncomputable def pI:FS:=(aY (eJ 1 vL) lO)
noncomputable def iJ:FN:=tG [.b] 5 false pI
noncomputable def mS:FS:=(c9 (bA dA (gZ sI (aB (iB (zA (aC 3)) 1 [2] [] (a6 0) iI (dN (aB (bA dA (aC 1) (aC 0)) (aB (aC 0) aN)))) aN)) (fC (.int 1))))
noncomputable def nF:FS:=(aY (wG (O6 (aC 4)) (c9 (gZ sI (aB (aC 4) aN))) dY) mS)
noncomputable def mK:FS:=(aY (cK 4 (iB (zA (aC 3)) 1 [2] [] (a6 0) (bX (bA (IX true) (aC 0) (aC 1))) (aC 0))) nF)
noncomputable def rK:FS:=(aY (cK 3 (iB (zA (aC 0)) 1 [1] [] (a6 0) (bX (bA (IX true) (aC 0) (aC 1))) (aC 0))) mK)
noncomputable def kH:FN:=tG [.b,.b,.b] 2 false rK
noncomputable def gU:FS:=(c9 (gZ iF (aB (bA gE (JM JJ (aC 0) (jM (aC 2)) eW) (JM JJ (aC 0) eW (jM (aC 2)))) aN)))
noncomputable def lH:FS:=(aY (cK 2 (nN (aC 0) (aC 1))) gU)
noncomputable def fJ:FN:=tG [.b,.b] 1 false lH
noncomputable def kM:FS:=(c9 (gB (aB (aC 3) (aB (bA nV (bA mY (bA gE (bA gE (bA nV (aC 2) (fC (.int 2305843009213693951))) (bA mY (bA mY (fC (.int 7919)) (aC 1)) (aC 1))) (fC (.int 3))) (fC (.int 48271))) (fC (.int 2305843009213693921))) (aB (fC (.int 0)) aN)))))
noncomputable def lK:FS:=(aY (cK 3 (TB (bX (bA gGe (aC 2) (bA sT (fC (.int 10)) (fC (.int 18))))) (bA nV (aC 2) (bA rX (bA rX (bA rX (bA sT (fC (.int 10)) (fC (.int 60))) (bA sT (fC (.int 10)) (fC (.int 60)))) (bA sT (fC (.int 10)) (fC (.int 60)))) (bA sT (fC (.int 10)) (fC (.int 60))))) (fC (.int 0)))) kM)
noncomputable def oM:FS:=(aY (cK 2 (TB (bX (bA gLt (aC 1) (gZ l9 (aB (aC 0) aN)))) (bA dA (aC 0) (aC 1)) (fC (.int 0)))) lK)
noncomputable def iD:FN:=tG [.b,.b] 2 true oM
noncomputable def kK:FS:=(aY (uK 0 (fC (.int 0)) (bA J7 (bA dA (aC 0) (fC (.int 0))) (aC 1))) (c9 (aC 2)))
noncomputable def kA:FS:=(aY (cK 2 (bA nV (bA dA (aC 0) (fC (.int 0))) (aC 1))) kK)
noncomputable def lI:FS:=(aY (cK 3 (bA nV (bA mY (aC 3) (bA gE (bA nV (aC 3) (fC (.int 1000003))) (bA mY (fC (.int 99991)) (bA dA (aC 0) (fC (.int 2)))))) (fC (.int 2305843009213693907)))) (c9 (bA nV (bA gE (bA J7 (aC 3) (fC (.int 97))) (bA J7 (aC 3) (fC (.int 1000033)))) (aC 1))))
noncomputable def lF:FS:=(aY (cK 3 (bA nV (bA mY (bA gE (bA gE (bA dA (aC 0) (fC (.int 1))) (bA mY (bA mY (fC (.int 65537)) (bA dA (aC 0) (fC (.int 2)))) (bA dA (aC 0) (fC (.int 2))))) (fC (.int 11))) (fC (.int 48271))) (fC (.int 2305843009213693921)))) lI)
noncomputable def k8:FS:=(aY (uK 0 (fC (.int 2)) (bA gE (bA dA (aC 0) (fC (.int 2))) (fC (.int 1)))) lF)
noncomputable def oX:FS:=(aY (wG (bX (bA gGt (bA dA (aC 0) (fC (.int 0))) (fC (.int 0)))) kA dY) k8)
noncomputable def bK:FN:=tG [.m,.b] 2 false oX
noncomputable def rL:FS:=(c9 (i8 (zA (bM [.b] false cV (aB (aC 0) aN))) 1 [] [] (a6 0) iI (bA dA (aC 0) (fC (.int 0))) (bA dA (aC 0) (fC (.int 1)))))
noncomputable def k7:FN:=tG [.b] 0 false rL
noncomputable def rA:FS:=(c9 (i8 (zA (bM [.b] false cV (aB (aC 0) aN))) 1 [] [] (a6 0) iI (bA dA (aC 0) (fC (.int 0))) (bM [.b] false gH (aB (aC 0) aN))))
noncomputable def lY:FN:=tG [.b] 0 false rA
noncomputable def nH:FS:=(sX 1 (LC (xIt (bM [.b] false cV (aB (aC 0) aN))) (a6 2) (LC (VM (aB (bM [.b] false gH (aB (aC 2) aN)) aN)) (oF 2 (cM (a6 3) (cM (a6 4) n6))) (xIf (bX (bA gGt (aC 3) (fC (.int 0)))) (UM (aC 4) (dN (aB (bA dA (aC 2) (fC (.int 1))) (aB (bA dA (aC 2) (fC (.int 0))) (aB (aC 3) aN))))) M0))))
noncomputable def gC:FN:=tG [.b] 4 false nH
noncomputable def oK:FS:=(aY (iL 2 (bA dA (aC 3) (fC (.int 0))) (fC (.bl true))) (nZ (zA (bM [.b] false gH (aB (aC 3) aN))) (a6 4) (iL 2 (aC 4) (fC (.bl true)))))
noncomputable def pE:FS:=(aY (iL 2 (aC 4) (fC (.bl true))) (wG (bX (bA (W7 true) (aC 5) (fC .bH))) (iL 2 (aC 5) (fC (.bl true))) dY))
noncomputable def oJ:FS:=(aY (nZ (zA (aC 1)) (oF 2 (cM (a6 4) (cM (a6 5) n6))) pE) (c9 (gZ iF (aB (gZ cN (aB (aC 2) aN)) aN))))
noncomputable def oU:FS:=(aY (nZ (zA (bM [.b] false cV (aB (aC 0) aN))) (a6 3) oK) oJ)
noncomputable def vB:FS:=(aY (eJ 2 vL) oU)
noncomputable def jT:FN:=tG [.b,.b] 4 false vB
noncomputable def iR:FS:=(cK 5 (bA dA (iB (BO (aB (bA gE (gZ l9 (aB (aC 2) aN)) (fC (.int 1))) aN)) 1 [2] [] (a6 0) (bX (bA (IX true) (gZ AA (aB (aC 0) aN)) (aC 1))) (gZ AA (aB (aC 0) aN))) (fC (.int 0))))
noncomputable def jI:FS:=(aY (wG (bX (bA (IX false) (aC 5) (aC 2))) iR dY) (rS 2 (aC 5)))
noncomputable def iP:FS:=(aY (cK 5 (fBM BM (fC (.str "")) (aB (iB (BO (aB (aC 4) aN)) 1 [0] [(0,1)] (a6 0) iI (bA dA (fC (.str "abcdefghijklmnopqrstuvwxyz0123456789")) (bM [.m,.b] false bK (aB (aC 1) (aB (fC (.int 36)) aN))))) aN))) jI)
noncomputable def jA:FS:=(aY (cK 4 (bA dA (gB (aB (fC (.int 1)) (aB (fC (.int 1)) (aB (fC (.int 2)) (aB (fC (.int 3)) (aB (fC (.int 12)) (aB (bA gE (fC (.int 1)) (bA nV (aC 3) (fC (.int 12)))) aN))))))) (bM [.m,.b] false bK (aB (aC 0) (aB (fC (.int 6)) aN))))) iP)
noncomputable def jE:FS:=(aY (nZ (BO (aB (aC 1) aN)) (a6 3) jA) (c9 (aC 2)))
noncomputable def mQ:FS:=(aY (eJ 2 (gB aN)) jE)
noncomputable def gF:FN:=tG [.m,.b] 4 false mQ
noncomputable def kI:FS:=(aY (eJ 7 (gB aN)) dY)
noncomputable def lR:FS:=(aY (eJ 6 (gB aN)) kI)
noncomputable def lT:FS:=(aY (eJ 5 (gB aN)) lR)
noncomputable def kE:FS:=(wG (bX (bA OE (bM [.m,.b] false bK (aB (aC 0) (aB (fC (.int 2)) aN))) (fC (.int 0)))) (rS 4 (dN (aB (aC 9) (aB (fC (.int 0)) (aB (fC (.str "")) (aB (dN aN) aN)))))) dY)
noncomputable def lG:FS:=(aY (rS 5 (dN (aB (aC 9) (aB (aC 10) aN)))) kE)
noncomputable def lV:FS:=(aY (rS 4 (dN (aB (aC 9) (aB (aC 11) (aB (fC (.str "")) (aB (dN (aB (aC 10) aN)) aN)))))) (rS 7 (dN (aB (aC 11) (aB (aC 9) aN)))))
noncomputable def lN:FS:=(aY (rS 4 (dN (aB (bA dA (aC 1) (bA gE (aC 3) (aC 8))) (aB (aC 11) (aB (fC (.str "")) (aB (dN (aB (aC 10) (aB (aC 9) aN))) aN)))))) (rS 6 (aC 9)))
noncomputable def kB:FS:=(wG (bX (bA OE (bA dA (aC 2) (aC 8)) (fC (.int 0)))) lG (wG (bX (bA OE (bA dA (aC 2) (aC 8)) (fC (.int 1)))) lV lN))
noncomputable def kF:FS:=(aY (cK 11 (bM [.m,.b] false bK (aB (aC 0) (aB (bA dA (gB (aB (fC (.int 1)) (aB (fC (.int 3)) (aB (fC (.int 100000000)) aN)))) (bM [.m,.b] false bK (aB (aC 0) (aB (fC (.int 3)) aN)))) aN)))) kB)
noncomputable def iY:FS:=(aY (OW 9 10 (aB (bA dA (aC 1) (aC 8)) (aB (bA dA (aC 1) (bA nV (bA gE (aC 8) (fC (.int 1))) (aC 3))) aN))) kF)
noncomputable def iX:FS:=(QO 5 (QO 4 (c9 (dN (aB (aC 4) (aB (aC 5) (aB (gZ iF (aB (bA gE (JM JJ (aC 1) (jM (aC 13)) (jM (aC 3))) (JM JJ (aC 1) eW (jM (aC 13)))) aN)) aN)))))))
noncomputable def dJ:FS:=(aY (cK 13 (nN (JM JJ (aC 1) eW (jM (aC 3))) (aC 12))) iX)
noncomputable def fO:FS:=(aY (cK 12 (TB (bX (bA T8 (aC 6) (gB aN))) (gZ sI (aB (aC 6) aN)) (bA dA (gZ sI (aB (aC 7) aN)) (fC (.int 1))))) dJ)
noncomputable def fK:FS:=(aY (nZ (BO (aB (aC 3) aN)) (a6 8) iY) fO)
noncomputable def fM:FS:=(aY (aY (eJ 4 (gB aN)) lT) fK)
noncomputable def pC:FS:=(aY (cK 3 (gZ l9 (aB (aC 2) aN))) fM)
noncomputable def fS:FN:=tG [.m,.b,.b] 11 false pC
noncomputable def i9:FS:=(aY (wG (bX (bA OE (gZ SJ (aB (aC 4) aN)) (fC (.int 0)))) (uK 4 (bM [.m,.b] false bK (aB (aC 0) (aB (aC 3) aN))) (bA gE (fC (.int 1)) (aC 2))) dY) (c9 (aC 4)))
noncomputable def jF:FS:=(aY (eJ 4 (iB (BO (aB (aC 3) aN)) 1 [1,0] [(0,2)] (a6 0) iI (bA dA (aC 1) (bM [.m,.b] false bK (aB (aC 2) (aB (gZ l9 (aB (aC 1) aN)) aN)))))) i9)
noncomputable def iO:FS:=(aY (cK 3 (bA dA (gB (aB (fC (.int 30)) (aB (bA gE (fC (.int 2)) (bM [.m,.b] false bK (aB (aC 0) (aB (fC (.int 7)) aN)))) aN))) (gZ EL (aB (bA gGt (bM [.m,.b] false bK (aB (aC 0) (aB (fC (.int 8)) aN))) (fC (.int 0))) aN)))) jF)
noncomputable def iV:FS:=(aY (cK 2 (bM [.m,.b] false bK (aB (aC 0) (aB (fC (.int 2)) aN)))) iO)
noncomputable def m9:FS:=(aY (cK 1 (bA dA (gB (aB (gB (aB (fC (.int 0)) (aB (fC (.int 1)) aN))) (aB (gB (aB (fC (.int 0)) (aB (fC (.int 2)) aN))) (aB (gB (aB (fC (.int 1)) (aB (fC (.int 2)) aN))) (aB (gB (aB (fC (.int 0)) (aB (fC (.int 1)) (aB (fC (.int 2)) aN)))) (aB (gB (aB (fC (.int 1)) aN)) (aB (gB (aB (fC (.int 2)) aN)) aN))))))) (bM [.m,.b] false bK (aB (aC 0) (aB (fC (.int 6)) aN))))) iV)
noncomputable def eU:FN:=tG [.m] 4 false m9
noncomputable def mV:FS:=(c9 (i8 (zA (aC 2)) 1 [3,4,5] [] (a6 0) iI (aC 0) (bM [.b,.b,.b,.b] false cE (aB (aC 1) (aB (aC 2) (aB (aC 3) (aB (aC 0) aN)))))))
noncomputable def nD:FS:=(aY (cK 5 (bM [.b] false gC (aB (aC 0) aN))) mV)
noncomputable def mM:FS:=(aY (cK 4 (bM [.b] false lY (aB (aC 0) aN))) nD)
noncomputable def rV:FS:=(aY (cK 3 (i8 (zA (aC 1)) 2 [] [] (oF 2 (cM (a6 0) (cM (a6 1) n6))) iI (aC 0) (aC 1))) mM)
noncomputable def gO:FN:=tG [.b,.b,.b] 3 true rV
noncomputable def i5:FS:=(c9 (gZ iF (aB (gZ cN (aB (iB (zA (aC 5)) 1 [3,4] [] (a6 0) iI (bM [.b,.b] false fJ (aB (aC 0) (aB (bM [.b,.b,.b] false kH (aB (aC 0) (aB (aC 1) (aB (aC 2) aN)))) aN)))) aN)) aN)))
noncomputable def i4:FS:=(aY (cK 5 (bM [.b] false iJ (aB (i8 (wZ (aC 2)) 1 [2] [] (a6 0) iI (aC 0) (bA dA (bA dA (aC 1) (aC 0)) (fC (.int 0)))) aN))) i5)
noncomputable def i7:FS:=(aY (cK 4 (bM [.b] false k7 (aB (aC 0) aN))) i4)
noncomputable def mO:FS:=(aY (cK 3 (i8 (zA (aC 1)) 2 [] [] (oF 2 (cM (a6 0) (cM (a6 1) n6))) iI (aC 0) (fC (.bl true)))) i7)
noncomputable def cB:FN:=tG [.b,.b,.b] 3 false mO
noncomputable def y8:FS:=(c9 (bM [.b,.b,.b] false cB (aB (aC 0) (aB (aC 1) (aB (bM [.b,.b,.b] true gO (aB (aC 0) (aB (aC 1) (aB (bM [.b,.b] false jT (aB (aC 0) (aB (aC 1) aN))) aN)))) aN)))))
noncomputable def pS:FN:=tG [.b,.b] 0 false y8
noncomputable def j9:FS:=(iL 2 (bA dA (aC 4) (fC (.int 0))) (dN (aB (fC .bH) (aB (dN (aB (fC (.str "ring")) (aB (aC 4) aN))) aN))))
noncomputable def lX:FS:=(c9 (gZ iF (aB (iB (zA (gZ cN (aB (aC 2) aN))) 1 [2] [] (a6 0) iI (dN (aB (aC 0) (aB (bA dA (bA dA (aC 1) (aC 0)) (fC (.int 0))) (aB (bA dA (bA dA (aC 1) (aC 0)) (fC (.int 1))) aN))))) aN)))
noncomputable def lW:FS:=(aY (nZ (zA (aC 3)) (a6 4) j9) lX)
noncomputable def lD:FS:=(aY (cK 3 (bM [.b,.b,.b] false cB (aB (aC 0) (aB (aC 1) (aB (aC 2) aN))))) lW)
noncomputable def oY:FS:=(aY (eJ 2 (bM [.b,.b,.b] true gO (aB (aC 0) (aB (aC 1) (aB (bM [.b,.b] false jT (aB (aC 0) (aB (aC 1) aN))) aN))))) lD)
noncomputable def iM:FN:=tG [.b,.b] 3 false oY
noncomputable def iS:FS:=(wG (bX (bA T8 (bA dA (FV (aC 3) (bA dA (aC 7) (aC 8)) (dN (aB (fC (.str "")) aN))) (fC (.int 0))) (bA dA (aC 7) (bA nV (bA gE (aC 8) (fC (.int 1))) (gZ l9 (aB (aC 7) aN)))))) (c9 (fC (.bl false))) dY)
noncomputable def iZ:FS:=(aY (wG (bX (bA T8 (FV (aC 3) (bA dA (aC 7) (fC (.int 0))) (dN aN)) (dN (aB (fC .bH) (aB (dN (aB (fC (.str "ring")) (aB (aC 7) aN))) aN))))) (c9 (fC (.bl false))) dY) (nZ (U3 (aB (fC (.int 1)) (aB (gZ l9 (aB (aC 7) aN)) aN))) (a6 8) iS))
noncomputable def jJ:FS:=(c9 (bA OE (gZ l9 (aB (iB (wZ (aC 3)) 1 [3] [] (a6 0) (bX (bA OE (bA dA (bA dA (bA dA (aC 1) (aC 0)) (fC (.int 1))) (fC (.int 0))) (fC (.str "ring")))) (aC 0)) aN)) (gZ l9 (aB (aC 2) aN))))
noncomputable def iQ:FS:=(aY (nZ (zA (aC 2)) (a6 7) iZ) jJ)
noncomputable def i6:FS:=(aY (nZ (zA (bM [.b,.b] false iM (aB (aC 0) (aB (aC 1) aN)))) (oF 3 (cM (a6 4) (cM (a6 5) (cM (a6 6) n6)))) (iL 3 (aC 4) (dN (aB (aC 5) (aB (aC 6) aN))))) iQ)
noncomputable def iT:FS:=(aY (eJ 3 vL) i6)
noncomputable def l8:FS:=(aY (wG (bX (bA T8 (bM [.b,.b] false pS (aB (aC 0) (aB (aC 1) aN))) (aC 2))) (c9 (fC (.bl false))) dY) iT)
noncomputable def eV:FN:=tG [.b,.b,.b] 6 false l8
noncomputable def tZ:FS:=(wG (OO (bX (bM [.b,.b,.b] false eV (aB (gZ iF (aB (gZ cN (aB (bA dA (aC 6) (fC (.int 0))) aN)) aN)) (aB (gZ iF (aB (gZ cN (aB (bA dA (aC 6) (fC (.int 1))) aN)) aN)) (aB (dN (aB (bA dA (aC 6) (fC (.int 2))) aN)) aN)))))) (c9 (fC (.bl false))) dY)
noncomputable def t7:FS:=(aY (wG (OO (bX (bM [.b,.b,.b] false eV (aB (aC 8) (aB (aC 9) (aB (gZ iF (aB (gZ cN (aB (gB (aB (bA dA (aC 6) (fC (.int 2))) (aB (bA dA (aC 7) (fC (.int 2))) aN))) aN)) aN)) aN)))))) (c9 (fC (.bl false))) dY) tZ)
noncomputable def tY:FS:=(aY (cK 9 (gZ iF (aB (gZ cN (aB (bA gE (bA dA (aC 6) (fC (.int 1))) (bA dA (aC 7) (fC (.int 1)))) aN)) aN))) t7)
noncomputable def nK:FS:=(aY (cK 8 (gZ iF (aB (gZ cN (aB (bA gE (bA dA (aC 6) (fC (.int 0))) (bA dA (aC 7) (fC (.int 0)))) aN)) aN))) tY)
noncomputable def tK:FS:=(aY (cK 7 (bM [.m,.b,.b] false fS (aB (aC 2) (aB (JM JJ (aC 5) (jM (bA mY (fC (.int 2)) (gZ l9 (aB (aC 3) aN)))) eW) (aB (aC 4) aN))))) nK)
noncomputable def t5:FS:=(aY (cK 6 (bM [.m,.b,.b] false fS (aB (aC 2) (aB (JM JJ (aC 5) eW (jM (bA mY (fC (.int 2)) (gZ l9 (aB (aC 3) aN))))) (aB (aC 3) aN))))) tK)
noncomputable def tL:FS:=(aY (cK 5 (bM [.m,.b] false gF (aB (aC 2) (aB (bA gE (bA mY (fC (.int 2)) (gZ l9 (aB (aC 3) aN))) (bA mY (fC (.int 2)) (gZ l9 (aB (aC 4) aN)))) aN)))) t5)
noncomputable def tX:FS:=(aY (OW 3 4 (aB (bM [.m] false eU (aB (aC 2) aN)) (aB (bM [.m] false eU (aB (aC 2) aN)) aN))) tL)
noncomputable def tR:FS:=(aY (eJ 2 (bM [.b,.b] true iD (aB (aC 0) (aB (aC 1) aN)))) tX)
noncomputable def JZ:FS:=(aY (nZ (BO (aB (gZ FU (aB (fC (.int 1)) (aB (gZ FY (aB (gZ l9 (aB (aC 0) aN)) (aB (fC (.int 3)) aN))) aN))) aN)) (a6 1) tR) (c9 (fC (.bl true))))
noncomputable def yJ:FN:=tG [.b] 9 false JZ
noncomputable def top (i:Nat):Stmt:=PySem.Challenge.pw_answertrees_k20_who_is_cut.main.body.getD i (.Pass ⟨0,0,0,0⟩)
noncomputable abbrev mD:Stmt:=top 1
noncomputable abbrev lU:Stmt:=top 2
noncomputable abbrev jR:Stmt:=top 3
noncomputable abbrev jQ:Stmt:=top 5
noncomputable abbrev iA:Stmt:=top 6
noncomputable abbrev pW:Stmt:=top 7
noncomputable abbrev gL:Stmt:=top 8
noncomputable abbrev kG:Stmt:=top 10
noncomputable abbrev qJ:Stmt:=top 12
noncomputable abbrev fF:Stmt:=top 13
noncomputable abbrev gD:Stmt:=top 14
noncomputable abbrev cW:Stmt:=top 15
noncomputable abbrev tO:Stmt:=top 16
noncomputable abbrev gR:Stmt:=top 17
noncomputable abbrev kR:Stmt:=top 19
noncomputable abbrev lQ:Stmt:=top 20
noncomputable abbrev dZ:Stmt:=top 21
noncomputable abbrev j7:Stmt:=top 22
noncomputable abbrev fR:Stmt:=top 23
noncomputable abbrev fU:Stmt:=top 24
noncomputable abbrev GD:Stmt:=top 25
structure Txt (K:Frag) (mg:Str->Option Value):Prop where
 eB:mg "enumerate"=none
 cH:mg "tuple"=none
 oH:mg "min"=none
 fT:mg "len"=none
 cQ:mg "sorted"=none
 eI:mg "range"=none
 xY:mg "str"=none
 AF:mg "int"=none
 AN:mg "sum"=none
 B6:mg "max"=none
section
variable (P:Program) (w:World) (K:Frag) (mg:Str->Option Value) (base:Heap)
abbrev qG:Prop:=Cn P w K mg base "elders" mD ["letter"] 1 [.b] false gH
abbrev gX:Prop:=Cn P w K mg base "standing" lU ["pack"] 1 [.b] false cV
abbrev A3:Prop:=Cn P w K mg base "choice" pW ["held","rows","claimed","name"] 1 [.b,.b,.b,.b] false cE
abbrev vP:Prop:=Cn P w K mg base "rings_in" kG ["above"] 1 [.b] false iJ
abbrev wL:Prop:=Cn P w K mg base "cut_one" fF ["ring","held","days"] 1 [.b,.b,.b] false kH
abbrev qM:Prop:=Cn P w K mg base "begun_with" gD ["ring","name"] 1 [.b,.b] false fJ
abbrev uH:Prop:=Cn P w K mg base "_law_hand" kR ["_law_script","_law_k"] 1 [.b,.b] true iD
abbrev kD:Prop:=Cn P w K mg base "_law_take" lQ ["_law_hand_here","_law_many"] 1 [.m,.b] false bK
abbrev w4:Prop:=Cn P w K mg base "days_of" jR ["pack"] 2 [.b] false k7
abbrev xP:Prop:=Cn P w K mg base "rows_of" jQ ["pack"] 2 [.b] false lY
abbrev sG:Prop:=Cn P w K mg base "claims_of" iA ["pack"] 2 [.b] false gC
abbrev uY:Prop:=Cn P w K mg base "places" qJ ["pack","marks"] 2 [.b,.b] false jT
abbrev sJ:Prop:=Cn P w K mg base "_law_names" dZ ["_law_hand_here","_law_many"] 2 [.m,.b] false gF
abbrev vQ:Prop:=Cn P w K mg base "_law_ring" j7 ["_law_hand_here","_law_names_here","_law_kinds_here"] 2 [.m,.b,.b] false fS
abbrev rZ:Prop:=Cn P w K mg base "_law_kinds" fR ["_law_hand_here"] 2 [.m] false eU
abbrev qY:Prop:=Cn P w K mg base "choices" gL ["pack","marks","names"] 3 [.b,.b,.b] true gO
abbrev m5:Prop:=Cn P w K mg base "cut_rings" cW ["pack","marks","ties"] 3 [.b,.b,.b] false cB
abbrev ET:Prop:=Cn P w K mg base "rings" tO ["pack","marks"] 4 [.b,.b] false pS
abbrev uE:Prop:=Cn P w K mg base "by_names" gR ["pack","marks"] 4 [.b,.b] false iM
abbrev sH:Prop:=Cn P w K mg base "_law_right" fU ["_law_pack","_law_marks","_law_due"] 5 [.b,.b,.b] false eV
abbrev ZX:Prop:=Cn P w K mg base "law" GD ["_law_script"] 6 [.b] false yJ
end
section
variable {P:Program} {w:World} {K:Frag} {mg:Str->Option Value} {base:Heap}
local macro_rules | `(tactic| walk_at "rf") => `(tactic| repeat' (first | with_reducible first | apply RD | apply RH | apply W3 | apply Q5 | apply QB | apply O9 | apply VZ | apply KP | apply HF | apply K2 | apply RJ | apply NS | apply IB | apply JI | apply MO | apply RW | apply CI | apply T3 | apply K8 | apply DC | apply KR | apply LV | apply OZ | apply XR | apply PN | apply LF | apply N9 | apply IW | apply PF | apply RO | apply UX | apply P6 | apply UZ | apply PX | apply OT | apply PD | apply LU | apply JB | apply OP | apply L9 | apply ED | apply ME | apply HX | apply DM | apply JS | apply EA | apply K0 | apply P8 | apply CW | apply NK | apply HA | apply DT | apply HE | apply JP | apply LJ | apply JH | apply XH | apply RF | apply X2 | apply IU | apply PZ | apply Q6 | apply NM | apply OM | apply OJ | apply UW | apply TC | apply F8 | apply SU | apply TY | apply TJ | apply M7 | apply JW | apply E9 | apply MG | apply CL | apply SS | apply TZ | apply LM | apply S6 | apply NQ | apply MA | apply ER | apply LQ | apply SQ | apply KY | apply A5 | apply GJ | apply F9 | apply F5 | apply EU | apply L3 | apply E6 | apply GF | first | exact TC | exact F8 | exact SU | exact TY | exact TJ | exact M7 | exact JW | exact E9 | exact MG | exact CL | exact SS | exact TZ | exact LM | exact S6 | exact NQ | exact MA | exact ER | exact LQ | exact SQ | exact KY | exact A5 | exact GJ | exact F9 | exact F5 | exact EU | exact L3 | exact E6 | exact GF | rfl | decide))
theorem GY (T:Txt K mg) (D:Dx K mg "elders" mD ["letter"]):qG P w K mg base:=dH D (N:=["letter","own","row"]) ⟨rfl,rfl,rfl,by decide+kernel,rfl,by decide+kernel,by decide+kernel⟩ rfl rfl fun S f cdv A outer s H E hr=>
 ⟨_,(aG (bD (i:=1) S.nd rfl (Or.inr rfl) (aX (dQ K hr) (pv 0) aF (fun _ _=>rfl)))
   (aG (bD (i:=2) S.nd rfl (Or.inr rfl) (aX (dQ K hr) (pv 0) aF (fun _ _=>rfl)))
   (aP (bR (bZ (uD K) (by rfl) T.cH cR (aA (uG ["at","name","own","row"] 2 [1,2] ["letter","own","row"] (aW mD) rfl rfl rfl (GQ K rfl T.eB (aA (pv 2) aD)) (by decide+kernel) (fun _=>(iC (n:=2) K rfl (bT (aR (i:=0) (show(["at","name","own","row"]:List Str).Nodup by decide+kernel) rfl (Or.inl rfl)) (bT (aR (i:=1) (show(["at","name","own","row"]:List Str).Nodup by decide+kernel) rfl (Or.inl rfl)) iK)))) (fun _=>(p8 (PW.pt (C2 (bI (M8 K hr) (pv 1) (pv 2) (cJ _)) (yC (bI (qX K hr) (pv 1) (eO (OX K) (pv 3) (fP (bF (jX K) (pv 0) aF)) iG) (by rfl))))))) (fun _=>(pv 1))) aD)))))),by unfold vK oT o8;walk_at "rf"⟩
theorem AO (T:Txt K mg) (D:Dx K mg "standing" lU ["pack"]):gX P w K mg base:=dH D (N:=["pack","first","letter"]) ⟨rfl,rfl,rfl,by decide+kernel,rfl,by decide+kernel,by decide+kernel⟩ rfl rfl fun S f cdv A outer s H E hr=>
 ⟨_,(aG (bD (i:=1) S.nd rfl (Or.inl rfl) mG)
   (aG (eR fm rfl (cT K (pv 0)) (aR (i:=2) S.nd rfl (Or.inl rfl)) (aP (eY (bI (qX K hr) (aX (dQ K hr) (pv 2) aF (fun _ _=>rfl)) (pv 1) (by rfl)) (aP (iE (mE hr) (pv 1) (aX (dQ K hr) (pv 2) aF (fun _ _=>rfl)) (pv 2) rfl)) cF)))
   (aP (bR (bZ abV (by rfl) T.cH cR (aA (QM (pv 1)) aD)))))),by unfold oZ kY lE;walk_at "rf"⟩
theorem HU (T:Txt K mg) (D:Dx K mg "choice" pW ["held","rows","claimed","name"]):A3 P w K mg base:=dH D (N:=["held","rows","claimed","name","row","day","one","at"]) ⟨rfl,rfl,rfl,by decide+kernel,rfl,by decide+kernel,by decide+kernel⟩ rfl rfl fun S f cdv A outer s H E hr=>
 ⟨_,(aG (eY (bI (inX K hr) (pv 3) (pv 0) (by rfl)) (aP (bR (bQ (aA (aX (dQ K hr) (pv 0) (pv 3) (fun _ _=>rfl)) (aA (bQ (aA eS aD)) aD))))) cF)
   (aG (eY (bI (inX K hr) (pv 3) (pv 1) (by rfl)) (aG (bD (i:=4) S.nd rfl (Or.inl rfl) (aX (dQ K hr) (pv 1) (pv 3) (fun _ _=>rfl)))
   (aP (bR (qL (xK K (pv 4) (fun _=>rfl)) (bQ (aA (aX (dQ K hr) (pv 4) (ZF XE aF) (fun _ _=>rfl)) (aA (bQ (aA eS aD)) aD))) (bQ (aA oS (aA (bQ (aA eS aD)) aD))))))) cF)
   (aG (eY (bI (inX K hr) (pv 3) (pv 2) (by rfl)) (aG (uS (a7 (MX K hr) (by rfl) T.oH qW (aA (aX (dQ K hr) (pv 2) (pv 3) (fun _ _=>rfl)) aD)) (iC (n:=3) K rfl (bT (aR (i:=5) S.nd rfl (Or.inl rfl)) (bT (aR (i:=6) S.nd rfl (Or.inl rfl)) (bT (aR (i:=7) S.nd rfl (Or.inl rfl)) iK)))))
   (aP (bR (bQ (aA (aX (dQ K hr) (aX (dQ K hr) (pv 1) (pv 6) (fun _ _=>rfl)) (bF UH (pv 7) aF) (fun _ _=>rfl)) (aA (bQ (aA eS (aA (pv 6) (aA (pv 7) aD)))) aD)))))) cF)
   (aP (bR (bQ (aA oS (aA (bQ (aA eS aD)) aD)))))))),by unfold j0 pG o7 o4 pH o6 pJ;walk_at "rf"⟩
theorem AD (T:Txt K mg) (D:Dx K mg "rings_in" kG ["above"]):vP P w K mg base:=dH D (N:=["above","met","found","start","climbed","name"]) ⟨rfl,rfl,rfl,by decide+kernel,rfl,by decide+kernel,by decide+kernel⟩ rfl rfl fun S f cdv A outer s H E hr=>
 ⟨_,(aG (bD (i:=1) S.nd rfl (Or.inl rfl) mG)
   (aG (bD (i:=2) S.nd rfl (Or.inl rfl) (fG aD))
   (aG (eR fm rfl (zG (pv 0)) (aR (i:=3) S.nd rfl (Or.inl rfl)) (aG (bD (i:=4) S.nd rfl (Or.inl rfl) (fG aD))
   (aG (bD (i:=5) S.nd rfl (Or.inl rfl) (pv 3))
   (aG (LG fm (PW.pt (C2 (bI zQ (pv 5) oS (cJ _)) (yC (bI (qX K hr) (pv 5) (pv 1) (by rfl))))) (aG (iE (mE hr) (pv 1) (pv 5) (pv 3) rfl)
   (aG (fN (eG K gi dv dy cC (pv 4) (aA (pv 5) aD)))
   (aP (bD (i:=5) S.nd rfl (Or.inl rfl) (LW (mE hr) (pv 0) (pv 5) ⟨rfl,by rfl,rfl,rfl⟩))))))
   (aP (eY (PW.pt (C2 (bI zQ (pv 5) oS (cJ _)) (yC (bI (D4 K hr) (aX (dQ K hr) (pv 1) (pv 5) (fun _ _=>rfl)) (pv 3) (cJ _))))) (aP (fN (eG K gi dv dy cC (pv 2) (aA (eO (OX K) (pv 4) (fP (eG K gi slot_list_index type_list_index (rF K) (pv 4) (aA (pv 5) aD))) iG) aD)))) cF))))))
   (aP (bR (pv 2)))))),by unfold pI lO lM kS lA k6 kC lJ kP;walk_at "rf"⟩
theorem D6 (T:Txt K mg) (D:Dx K mg "cut_one" fF ["ring","held","days"]):wL P w K mg base:=dH D (N:=["ring","held","days","free","empty"]) ⟨rfl,rfl,rfl,by decide+kernel,rfl,by decide+kernel,by decide+kernel⟩ rfl rfl fun S f cdv A outer s H E hr=>
 ⟨_,(aG (vI (i:=3) ["name","held"] 1 [1] ["ring","held","days","free","empty"] (aW fF) rfl rfl rfl S.nd rfl rfl (cT K (pv 0)) (by decide+kernel) (fun _=>(aR (i:=0) (show(["name","held"]:List Str).Nodup by decide+kernel) rfl (Or.inl rfl))) (fun _=>(p8 (bI (qX K hr) (pv 0) (pv 1) (by rfl)))) (fun _=>(pv 0)))
   (aG (vI (i:=4) ["name","days"] 1 [2] ["ring","held","days","free","empty"] (aW fF) rfl rfl rfl S.nd rfl rfl (cT K (pv 3)) (by decide+kernel) (fun _=>(aR (i:=0) (show(["name","days"]:List Str).Nodup by decide+kernel) rfl (Or.inl rfl))) (fun _=>(p8 (bI (qX K hr) (pv 0) (pv 1) (by rfl)))) (fun _=>(pv 0)))
   (aG (eY (xK K (pv 4) (fun _=>rfl)) (aP (bR (a7 (MX K hr) (by rfl) T.oH qW (aA (pv 4) aD)))) cF)
   (aP (bR (aX (dQ K hr) (a7 (MX K hr) (by rfl) T.oH qW (aA (uG ["name","days"] 1 [2] ["ring","held","days","free","empty"] (aW fF) rfl rfl rfl (cT K (pv 3)) (by decide+kernel) (fun _=>(aR (i:=0) (show(["name","days"]:List Str).Nodup by decide+kernel) rfl (Or.inl rfl))) (fun _=>eK) (fun _=>(bQ (aA (aX (dQ K hr) (pv 1) (pv 0) (fun _ _=>rfl)) (aA (pv 0) aD))))) aD)) aF (fun _ _=>rfl))))))),by unfold rK mK nF mS;walk_at "rf"⟩
theorem wK (T:Txt K mg) (D:Dx K mg "begun_with" gD ["ring","name"]):qM P w K mg base:=dH D (N:=["ring","name","at"]) ⟨rfl,rfl,rfl,by decide+kernel,rfl,by decide+kernel,by decide+kernel⟩ rfl rfl fun S f cdv A outer s H E hr=>
 ⟨_,(aG (bD (i:=2) S.nd rfl (Or.inl rfl) (eG K gi slot_list_index type_list_index (rF K) (pv 0) (aA (pv 1) aD)))
   (aP (bR (bZ (uD K) (by rfl) T.cH cR (aA (bF (jX K) (eO (OX K) (pv 0) (fP (pv 2)) iG) (eO (OX K) (pv 0) iG (fP (pv 2)))) aD))))),by unfold lH gU;walk_at "rf"⟩
theorem BE (T:Txt K mg) (D:Dx K mg "_law_hand" kR ["_law_script","_law_k"]):uH P w K mg base:=dH D (N:=["_law_script","_law_k","_law_cell","_law_great"]) ⟨rfl,rfl,rfl,by decide+kernel,rfl,by decide+kernel,by decide+kernel⟩ rfl rfl fun S f cdv A outer s H E hr=>
 ⟨_,(aG (bD (i:=2) S.nd rfl (Or.inl rfl) (qL (bI ltX (pv 1) (a7 (rW K) (by rfl) T.fT fD (aA (pv 0) aD)) (cJ _)) (aX (dQ K hr) (pv 0) (pv 1) (fun _ _=>rfl)) aF))
   (aG (bD (i:=3) S.nd rfl (Or.inl rfl) (qL (bI aaH (pv 2) (bF qB aF aF) (cJ _)) (bF gQ (pv 2) (bF yE (bF yE (bF yE (bF qB aF aF) (bF qB aF aF)) (bF qB aF aF)) (bF qB aF aF))) aF))
   (aP (bR (K4.h (z3 (WN (ew (pv 3)) (aaR (ew (bF gQ (bF fZ (bF (jX K) (bF (jX K) (bF gQ (pv 2) aF) (bF fZ (bF fZ aF (pv 1)) (pv 1))) aF) aF) aF)) (rE (ew aF) jD))))))))),by unfold oM lK kM;walk_at "rf"⟩
theorem BW (T:Txt K mg) (D:Dx K mg "_law_take" lQ ["_law_hand_here","_law_many"]):kD P w K mg base:=dH D (N:=["_law_hand_here","_law_many","_law_digit","_law_blent"]) ⟨rfl,rfl,rfl,by decide+kernel,rfl,by decide+kernel,by decide+kernel⟩ rfl rfl fun S f cdv A outer s H E hr=>
 ⟨_,(aG (eY (bI NX (aX (dQ K hr) (pv 0) aF (fun _ _=>rfl)) aF (cJ _)) (aG (bD (i:=2) S.nd rfl (Or.inl rfl) (bF gQ (aX (dQ K hr) (pv 0) aF (fun _ _=>rfl)) (pv 1)))
   (aG (uS (bF uP (aX (dQ K hr) (pv 0) aF (fun _ _=>rfl)) (pv 1)) (C5 (pv 0) aF set_list))
   (aP (bR (pv 2))))) cF)
   (aG (uS (bF (jX K) (aX (dQ K hr) (pv 0) aF (fun _ _=>rfl)) aF) (C5 (pv 0) aF set_list))
   (aG (bD (i:=3) S.nd rfl (Or.inl rfl) (bF gQ (bF fZ (bF (jX K) (bF (jX K) (aX (dQ K hr) (pv 0) aF (fun _ _=>rfl)) (bF fZ (bF fZ aF (aX (dQ K hr) (pv 0) aF (fun _ _=>rfl))) (aX (dQ K hr) (pv 0) aF (fun _ _=>rfl)))) aF) aF) aF))
   (aG (bD (i:=3) S.nd rfl (Or.inl rfl) (bF gQ (bF fZ (pv 3) (bF (jX K) (bF gQ (pv 3) aF) (bF fZ aF (aX (dQ K hr) (pv 0) aF (fun _ _=>rfl))))) aF))
   (aP (bR (bF gQ (bF (jX K) (bF uP (pv 3) aF) (bF uP (pv 3) aF)) (pv 1)))))))),by unfold oX k8 lF lI kA kK;walk_at "rf"⟩
theorem DR (T:Txt K mg) (D:Dx K mg "days_of" jR ["pack"]) (G_standing:gX P w K mg base):w4 P w K mg base:=dH D (N:=["pack"]) ⟨rfl,rfl,rfl,by decide+kernel,rfl,by decide+kernel,by decide+kernel⟩ rfl rfl fun S f cdv A outer s H E hr=>
 ⟨_,(aP (bR (w9 ["letter"] 1 [] ["pack"] (aW jR) rfl rfl rfl (cT K (bG G_standing hr (by decide) rfl (aA (pv 0) aD))) (by decide+kernel) (fun _=>(aR (i:=0) (show(["letter"]:List Str).Nodup by decide+kernel) rfl (Or.inl rfl))) (fun _=>eK) (fun _=>(aX (dQ K hr) (pv 0) aF (fun _ _=>rfl))) (fun _=>(aX (dQ K hr) (pv 0) aF (fun _ _=>rfl)))))),by unfold rL;walk_at "rf"⟩
theorem C8 (T:Txt K mg) (D:Dx K mg "rows_of" jQ ["pack"]) (G_elders:qG P w K mg base) (G_standing:gX P w K mg base):xP P w K mg base:=dH D (N:=["pack"]) ⟨rfl,rfl,rfl,by decide+kernel,rfl,by decide+kernel,by decide+kernel⟩ rfl rfl fun S f cdv A outer s H E hr=>
 ⟨_,(aP (bR (w9 ["letter"] 1 [] ["pack"] (aW jQ) rfl rfl rfl (cT K (bG G_standing hr (by decide) rfl (aA (pv 0) aD))) (by decide+kernel) (fun _=>(aR (i:=0) (show(["letter"]:List Str).Nodup by decide+kernel) rfl (Or.inl rfl))) (fun _=>eK) (fun _=>(aX (dQ K hr) (pv 0) aF (fun _ _=>rfl))) (fun _=>(bG G_elders hr (by decide) rfl (aA (pv 0) aD)))))),by unfold rA;walk_at "rf"⟩
theorem yQ (T:Txt K mg) (D:Dx K mg "claims_of" iA ["pack"]) (G_standing:gX P w K mg base) (G_elders:qG P w K mg base):sG P w K mg base:=dH D (N:=["pack","found","letter","at","name"]) ⟨rfl,rfl,rfl,by decide+kernel,rfl,by decide+kernel,by decide+kernel⟩ rfl rfl fun S f cdv A outer s H E hr=>
 ⟨_,(aG (bD (i:=1) S.nd rfl (Or.inl rfl) mG)
   (aG (eR fm rfl (cT K (bG G_standing hr (by decide) rfl (aA (pv 0) aD))) (aR (i:=2) S.nd rfl (Or.inl rfl)) (aP (eR fm rfl (GQ K rfl T.eB (aA (bG G_elders hr (by decide) rfl (aA (pv 2) aD)) aD)) (iC (n:=2) K rfl (bT (aR (i:=3) S.nd rfl (Or.inl rfl)) (bT (aR (i:=4) S.nd rfl (Or.inl rfl)) iK))) (aP (eY (bI NX (pv 3) aF (cJ _)) (aP (fN (eG K gi dv dy cC (DJ (pv 1) (pv 4) (fG aD) ⟨rfl,by rfl,rfl,rfl⟩) (aA (bQ (aA (aX (dQ K hr) (pv 2) aF (fun _ _=>rfl)) (aA (aX (dQ K hr) (pv 2) aF (fun _ _=>rfl)) (aA (pv 3) aD)))) aD)))) cF)))))
   (aP (bR (pv 1))))),by unfold nH;walk_at "rf"⟩
theorem JF (T:Txt K mg) (D:Dx K mg "places" qJ ["pack","marks"]) (G_standing:gX P w K mg base) (G_elders:qG P w K mg base):uY P w K mg base:=dH D (N:=["pack","marks","known","letter","name","elder"]) ⟨rfl,rfl,rfl,by decide+kernel,rfl,by decide+kernel,by decide+kernel⟩ rfl rfl fun S f cdv A outer s H E hr=>
 ⟨_,(aG (bD (i:=2) S.nd rfl (Or.inl rfl) mG)
   (aG (eR fm rfl (cT K (bG G_standing hr (by decide) rfl (aA (pv 0) aD))) (aR (i:=3) S.nd rfl (Or.inl rfl)) (aG (iE (mE hr) (pv 2) (aX (dQ K hr) (pv 3) aF (fun _ _=>rfl)) mX rfl)
   (aP (eR fm rfl (cT K (bG G_elders hr (by decide) rfl (aA (pv 3) aD))) (aR (i:=4) S.nd rfl (Or.inl rfl)) (aP (iE (mE hr) (pv 2) (pv 4) mX rfl))))))
   (aG (eR fm rfl (cT K (pv 1)) (iC (n:=2) K rfl (bT (aR (i:=4) S.nd rfl (Or.inl rfl)) (bT (aR (i:=5) S.nd rfl (Or.inl rfl)) iK))) (aG (iE (mE hr) (pv 2) (pv 4) mX rfl)
   (aP (eY (bI zQ (pv 5) oS (cJ _)) (aP (iE (mE hr) (pv 2) (pv 5) mX rfl)) cF))))
   (aP (bR (bZ (uD K) (by rfl) T.cH cR (aA (a7 (r6 K hr) (by rfl) T.cQ eC (aA (pv 2) aD)) aD))))))),by unfold vB oU oJ pE oK;walk_at "rf"⟩
theorem yA (T:Txt K mg) (D:Dx K mg "_law_names" dZ ["_law_hand_here","_law_many"]) (G_law_take:kD P w K mg base):sJ P w K mg base:=dH D (N:=["_law_hand_here","_law_many","_law_found","_law_k","_law_size","_law_name"]) ⟨rfl,rfl,rfl,by decide+kernel,rfl,by decide+kernel,by decide+kernel⟩ rfl rfl fun S f cdv A outer s H E hr=>
 ⟨_,(aG (bD (i:=2) S.nd rfl (Or.inr rfl) (fG aD))
   (aG (eR fm rfl (gK rfl T.eI (aA (pv 1) aD)) (aR (i:=3) S.nd rfl (Or.inl rfl)) (aG (bD (i:=4) S.nd rfl (Or.inl rfl) (aX (dQ K hr) (fG (aA aF (aA aF (aA aF (aA aF (aA aF (aA (bF (jX K) aF (bF gQ (pv 3) aF)) aD))))))) (bG G_law_take hr (by decide) rfl (aA (pv 0) (aA aF aD))) (fun _ _=>rfl)))
   (aG (bD (i:=5) S.nd rfl (Or.inl rfl) (eG K PySem.F.plainAttrs_str PySem.F.slot_str_join PySem.F.type_str_join (YU K) eS (aA (uG ["_law_n","_law_hand_here"] 1 [0] ["_law_hand_here","_law_many","_law_found","_law_k","_law_size","_law_name"] (aW dZ) rfl rfl rfl (gK rfl T.eI (aA (pv 4) aD)) (by decide+kernel) (fun _=>(aR (i:=0) (show(["_law_n","_law_hand_here"]:List Str).Nodup by decide+kernel) rfl (Or.inl rfl))) (fun _=>eK) (fun _=>(aX (dQ K hr) eS (bG G_law_take hr (by decide) rfl (aA (pv 1) (aA aF aD))) (fun _ _=>rfl)))) aD)))
   (aG (eY (bI (inX K hr) (pv 5) (pv 2) (by rfl)) (aP (bD (i:=5) S.nd rfl (Or.inl rfl) (aX (dQ K hr) (uG ["_law_n","_law_found"] 1 [2] ["_law_hand_here","_law_many","_law_found","_law_k","_law_size","_law_name"] (aW dZ) rfl rfl rfl (gK rfl T.eI (aA (bF (jX K) (a7 (rW K) (by rfl) T.fT fD (aA (pv 2) aD)) aF) aD)) (by decide+kernel) (fun _=>(aR (i:=0) (show(["_law_n","_law_found"]:List Str).Nodup by decide+kernel) rfl (Or.inl rfl))) (fun _=>(p8 (bI (qX K hr) (bZ qN (by rfl) T.xY JV (aA (pv 0) aD)) (pv 1) (by rfl)))) (fun _=>(bZ qN (by rfl) T.xY JV (aA (pv 0) aD)))) aF (fun _ _=>rfl)))) cF)
   (aP (fN (eG K gi dv dy cC (pv 2) (aA (pv 5) aD))))))))
   (aP (bR (pv 2))))),by unfold mQ jE jA iP jI iR;walk_at "rf"⟩
theorem AL (T:Txt K mg) (D:Dx K mg "_law_ring" j7 ["_law_hand_here","_law_names_here","_law_kinds_here"]) (G_law_take:kD P w K mg base):vQ P w K mg base:=dH D (N:=["_law_hand_here","_law_names_here","_law_kinds_here","_law_size","_law_letters","_law_marks","_law_empty","_law_lettered","_law_at","_law_name","_law_elder","_law_day","_law_first","_law_begun"]) ⟨rfl,rfl,rfl,by decide+kernel,rfl,by decide+kernel,by decide+kernel⟩ rfl rfl fun S f cdv A outer s H E hr=>
 ⟨_,(aG (bD (i:=3) S.nd rfl (Or.inl rfl) (a7 (rW K) (by rfl) T.fT fD (aA (pv 2) aD)))
   (aG (uS (bQ (aA (fG aD) (aA (fG aD) (aA (fG aD) (aA (fG aD) aD))))) (iC (n:=4) K rfl (bT (aR (i:=4) S.nd rfl (Or.inl rfl)) (bT (aR (i:=5) S.nd rfl (Or.inl rfl)) (bT (aR (i:=6) S.nd rfl (Or.inl rfl)) (bT (aR (i:=7) S.nd rfl (Or.inl rfl)) iK))))))
   (aG (eR fm rfl (gK rfl T.eI (aA (pv 3) aD)) (aR (i:=8) S.nd rfl (Or.inl rfl)) (aG (N8 (i:=9) (j:=10) rfl S.nd rfl rfl (by decide) rfl rfl (aA (aX (dQ K hr) (pv 1) (pv 8) (fun _ _=>rfl)) (aA (aX (dQ K hr) (pv 1) (bF gQ (bF (jX K) (pv 8) aF) (pv 3)) (fun _ _=>rfl)) aD)) rfl)
   (aG (bD (i:=11) S.nd rfl (Or.inl rfl) (bG G_law_take hr (by decide) rfl (aA (pv 0) (aA (aX (dQ K hr) (fG (aA aF (aA aF (aA aF aD)))) (bG G_law_take hr (by decide) rfl (aA (pv 0) (aA aF aD))) (fun _ _=>rfl)) aD))))
   (aP (eY (bI (D4 K hr) (aX (dQ K hr) (pv 2) (pv 8) (fun _ _=>rfl)) aF (cJ _)) (aG (fN (eG K gi dv dy cC (pv 5) (aA (bQ (aA (pv 9) (aA (pv 10) aD))) aD)))
   (aP (eY (bI (D4 K hr) (bG G_law_take hr (by decide) rfl (aA (pv 0) (aA aF aD))) aF (cJ _)) (aP (fN (eG K gi dv dy cC (pv 4) (aA (bQ (aA (pv 9) (aA aF (aA eS (aA (bQ aD) aD))))) aD)))) cF))) (aP (eY (bI (D4 K hr) (aX (dQ K hr) (pv 2) (pv 8) (fun _ _=>rfl)) aF (cJ _)) (aG (fN (eG K gi dv dy cC (pv 4) (aA (bQ (aA (pv 9) (aA (pv 11) (aA eS (aA (bQ (aA (pv 10) aD)) aD))))) aD)))
   (aP (fN (eG K gi dv dy cC (pv 7) (aA (bQ (aA (pv 11) (aA (pv 9) aD))) aD))))) (aG (fN (eG K gi dv dy cC (pv 4) (aA (bQ (aA (aX (dQ K hr) (pv 1) (bF (jX K) (pv 3) (pv 8)) (fun _ _=>rfl)) (aA (pv 11) (aA eS (aA (bQ (aA (pv 10) (aA (pv 9) aD))) aD))))) aD)))
   (aP (fN (eG K gi dv dy cC (pv 6) (aA (pv 9) aD))))))))))))
   (aG (bD (i:=12) S.nd rfl (Or.inl rfl) (qL (bI (M8 K hr) (pv 6) (fG aD) (cJ _)) (a7 (MX K hr) (by rfl) T.oH qW (aA (pv 6) aD)) (aX (dQ K hr) (a7 (MX K hr) (by rfl) T.oH qW (aA (pv 7) aD)) aF (fun _ _=>rfl))))
   (aG (bD (i:=13) S.nd rfl (Or.inl rfl) (eG K gi slot_list_index type_list_index (rF K) (eO (OX K) (pv 1) iG (fP (pv 3))) (aA (pv 12) aD)))
   (aP (bR (K4.h (abN (WN (ew (pv 4)) (WN (ew (pv 5)) (acA (ew (bZ (uD K) (by rfl) T.cH cR (aA (bF (jX K) (eO (OX K) (pv 1) (fP (pv 13)) (fP (pv 3))) (eO (OX K) (pv 1) iG (fP (pv 13)))) aD))) jD)))))))))))),by unfold pC fM fK fO dJ iX iY kF kB lN lV lG kE lT lR kI;walk_at "rf"⟩
theorem yH (T:Txt K mg) (D:Dx K mg "_law_kinds" fR ["_law_hand_here"]) (G_law_take:kD P w K mg base):rZ P w K mg base:=dH D (N:=["_law_hand_here","_law_menu","_law_free","_law_size","_law_kinds_here"]) ⟨rfl,rfl,rfl,by decide+kernel,rfl,by decide+kernel,by decide+kernel⟩ rfl rfl fun S f cdv A outer s H E hr=>
 acL ⟨_,(nE (z6 (i:=1) S.nd rfl (Or.inr rfl) (dQ K hr) (z3 (JG (z3 (rE (ew aF) (rE (ew aF) jD))) (JG (z3 (rE (ew aF) (rE (ew aF) jD))) (JG (z3 (rE (ew aF) (rE (ew aF) jD))) (JG (z3 (rE (ew aF) (rE (ew aF) (rE (ew aF) jD)))) (JG (z3 (rE (ew aF) jD)) (JG (z3 (rE (ew aF) jD)) jD))))))) (bG G_law_take hr (by decide) rfl (aA (pv 0) (aA aF aD))) (fun _ _=>rfl))
   (nE (sw (bD (i:=2) S.nd rfl (Or.inl rfl) (bG G_law_take hr (by decide) rfl (aA (pv 0) (aA aF aD)))))
   (nE (z6 (i:=3) S.nd rfl (Or.inl rfl) (dQ K hr) (z3 (rE (ew aF) (aaR (ew (bF (jX K) aF (bG G_law_take hr (by decide) rfl (aA (pv 0) (aA aF aD))))) jD))) (bZ IZ (by rfl) T.AF VQ (aA (FC NX (bG G_law_take hr (by decide) rfl (aA (pv 0) (aA aF aD))) aF (cJ _)) aD)) (fun _ _=>rfl))
   (nE (sw (vI (i:=4) ["_law_n","_law_menu","_law_hand_here"] 1 [1,0] ["_law_hand_here","_law_menu","_law_free","_law_size","_law_kinds_here"] (aW fR) rfl rfl rfl S.nd rfl rfl (gK rfl T.eI (aA (pv 3) aD)) (by decide+kernel) (fun _=>(aR (i:=0) (show(["_law_n","_law_menu","_law_hand_here"]:List Str).Nodup by decide+kernel) rfl (Or.inl rfl))) (fun _=>eK) (fun _=>(aX (dQ K hr) (pv 1) (bG G_law_take hr (by decide) rfl (aA (pv 2) (aA (a7 (rW K) (by rfl) T.fT fD (aA (pv 1) aD)) aD))) (fun _ _=>rfl)))))
   (nE (sw (eY (bI (D4 K hr) (a7 (acI K) (by rfl) T.AN V8 (aA (pv 4) aD)) aF (cJ _)) (aP (uS (bF (jX K) aF (pv 2)) (C5 (pv 4) (bG G_law_take hr (by decide) rfl (aA (pv 0) (aA (pv 3) aD))) set_list))) cF))
   (Q8 (sw (bR (pv 4))))))))),by unfold m9 iV iO jF i9;walk_at "rf"⟩
theorem DA (T:Txt K mg) (D:Dx K mg "choices" gL ["pack","marks","names"]) (G_rows_of:xP P w K mg base) (G_claims_of:sG P w K mg base) (G_choice:A3 P w K mg base):qY P w K mg base:=dH D (N:=["pack","marks","names","held","rows","claimed"]) ⟨rfl,rfl,rfl,by decide+kernel,rfl,by decide+kernel,by decide+kernel⟩ rfl rfl fun S f cdv A outer s H E hr=>
 ⟨_,(aG (bD (i:=3) S.nd rfl (Or.inr rfl) (w9 ["name","elder"] 2 [] ["pack","marks","names","held","rows","claimed"] (aW gL) rfl rfl rfl (cT K (pv 1)) (by decide+kernel) (fun _=>(iC (n:=2) K rfl (bT (aR (i:=0) (show(["name","elder"]:List Str).Nodup by decide+kernel) rfl (Or.inl rfl)) (bT (aR (i:=1) (show(["name","elder"]:List Str).Nodup by decide+kernel) rfl (Or.inl rfl)) iK)))) (fun _=>eK) (fun _=>(pv 0)) (fun _=>(pv 1))))
   (aG (bD (i:=4) S.nd rfl (Or.inr rfl) (bG G_rows_of hr (by decide) rfl (aA (pv 0) aD)))
   (aG (bD (i:=5) S.nd rfl (Or.inr rfl) (bG G_claims_of hr (by decide) rfl (aA (pv 0) aD)))
   (aP (bR (w9 ["name","held","rows","claimed"] 1 [3,4,5] ["pack","marks","names","held","rows","claimed"] (aW gL) rfl rfl rfl (cT K (pv 2)) (by decide+kernel) (fun _=>(aR (i:=0) (show(["name","held","rows","claimed"]:List Str).Nodup by decide+kernel) rfl (Or.inl rfl))) (fun _=>eK) (fun _=>(pv 0)) (fun _=>(bG G_choice hr (by decide) rfl (aA (pv 1) (aA (pv 2) (aA (pv 3) (aA (pv 0) aD)))))))))))),by unfold rV mM nD mV;walk_at "rf"⟩
theorem zZ (T:Txt K mg) (D:Dx K mg "cut_rings" cW ["pack","marks","ties"]) (G_days_of:w4 P w K mg base) (G_rings_in:vP P w K mg base) (G_begun_with:qM P w K mg base) (G_cut_one:wL P w K mg base):m5 P w K mg base:=dH D (N:=["pack","marks","ties","held","days","round_about"]) ⟨rfl,rfl,rfl,by decide+kernel,rfl,by decide+kernel,by decide+kernel⟩ rfl rfl fun S f cdv A outer s H E hr=>
 ⟨_,(aG (bD (i:=3) S.nd rfl (Or.inr rfl) (w9 ["name","elder"] 2 [] ["pack","marks","ties","held","days","round_about"] (aW cW) rfl rfl rfl (cT K (pv 1)) (by decide+kernel) (fun _=>(iC (n:=2) K rfl (bT (aR (i:=0) (show(["name","elder"]:List Str).Nodup by decide+kernel) rfl (Or.inl rfl)) (bT (aR (i:=1) (show(["name","elder"]:List Str).Nodup by decide+kernel) rfl (Or.inl rfl)) iK)))) (fun _=>eK) (fun _=>(pv 0)) (fun _=>mX)))
   (aG (bD (i:=4) S.nd rfl (Or.inr rfl) (bG G_days_of hr (by decide) rfl (aA (pv 0) aD)))
   (aG (bD (i:=5) S.nd rfl (Or.inl rfl) (bG G_rings_in hr (by decide) rfl (aA (w9 ["name","ties"] 1 [2] ["pack","marks","ties","held","days","round_about"] (aW cW) rfl rfl rfl (zG (pv 2)) (by decide+kernel) (fun _=>(aR (i:=0) (show(["name","ties"]:List Str).Nodup by decide+kernel) rfl (Or.inl rfl))) (fun _=>eK) (fun _=>(pv 0)) (fun _=>(aX (dQ K hr) (aX (dQ K hr) (pv 1) (pv 0) (fun _ _=>rfl)) aF (fun _ _=>rfl)))) aD)))
   (aP (bR (bZ (uD K) (by rfl) T.cH cR (aA (a7 (r6 K hr) (by rfl) T.cQ eC (aA (uG ["ring","held","days"] 1 [3,4] ["pack","marks","ties","held","days","round_about"] (aW cW) rfl rfl rfl (cT K (pv 5)) (by decide+kernel) (fun _=>(aR (i:=0) (show(["ring","held","days"]:List Str).Nodup by decide+kernel) rfl (Or.inl rfl))) (fun _=>eK) (fun _=>(bG G_begun_with hr (by decide) rfl (aA (pv 0) (aA (bG G_cut_one hr (by decide) rfl (aA (pv 0) (aA (pv 1) (aA (pv 2) aD)))) aD))))) aD)) aD))))))),by unfold mO i7 i4 i5;walk_at "rf"⟩
theorem NL (T:Txt K mg) (D:Dx K mg "rings" tO ["pack","marks"]) (G_cut_rings:m5 P w K mg base) (G_choices:qY P w K mg base) (G_places:uY P w K mg base):ET P w K mg base:=dH D (N:=["pack","marks"]) ⟨rfl,rfl,rfl,by decide+kernel,rfl,by decide+kernel,by decide+kernel⟩ rfl rfl fun S f cdv A outer s H E hr=>
 ⟨_,(aP (bR (bG G_cut_rings hr (by decide) rfl (aA (pv 0) (aA (pv 1) (aA (bG G_choices hr (by decide) rfl (aA (pv 0) (aA (pv 1) (aA (bG G_places hr (by decide) rfl (aA (pv 0) (aA (pv 1) aD))) aD)))) aD)))))),by unfold y8;walk_at "rf"⟩
theorem AG (T:Txt K mg) (D:Dx K mg "by_names" gR ["pack","marks"]) (G_choices:qY P w K mg base) (G_cut_rings:m5 P w K mg base) (G_places:uY P w K mg base):uE P w K mg base:=dH D (N:=["pack","marks","ties","cut","ring"]) ⟨rfl,rfl,rfl,by decide+kernel,rfl,by decide+kernel,by decide+kernel⟩ rfl rfl fun S f cdv A outer s H E hr=>
 ⟨_,(aG (bD (i:=2) S.nd rfl (Or.inr rfl) (bG G_choices hr (by decide) rfl (aA (pv 0) (aA (pv 1) (aA (bG G_places hr (by decide) rfl (aA (pv 0) (aA (pv 1) aD))) aD)))))
   (aG (bD (i:=3) S.nd rfl (Or.inl rfl) (bG G_cut_rings hr (by decide) rfl (aA (pv 0) (aA (pv 1) (aA (pv 2) aD)))))
   (aG (eR fm rfl (cT K (pv 3)) (aR (i:=4) S.nd rfl (Or.inl rfl)) (aP (iE (mE hr) (pv 2) (aX (dQ K hr) (pv 4) aF (fun _ _=>rfl)) (bQ (aA oS (aA (bQ (aA eS (aA (pv 4) aD))) aD))) rfl)))
   (aP (bR (bZ (uD K) (by rfl) T.cH cR (aA (uG ["name","ties"] 1 [2] ["pack","marks","ties","cut","ring"] (aW gR) rfl rfl rfl (cT K (a7 (r6 K hr) (by rfl) T.cQ eC (aA (pv 2) aD))) (by decide+kernel) (fun _=>(aR (i:=0) (show(["name","ties"]:List Str).Nodup by decide+kernel) rfl (Or.inl rfl))) (fun _=>eK) (fun _=>(bQ (aA (pv 0) (aA (aX (dQ K hr) (aX (dQ K hr) (pv 1) (pv 0) (fun _ _=>rfl)) aF (fun _ _=>rfl)) (aA (aX (dQ K hr) (aX (dQ K hr) (pv 1) (pv 0) (fun _ _=>rfl)) aF (fun _ _=>rfl)) aD)))))) aD))))))),by unfold oY lD lW lX j9;walk_at "rf"⟩
theorem yY (T:Txt K mg) (D:Dx K mg "_law_right" fU ["_law_pack","_law_marks","_law_due"]) (G_by_names:uE P w K mg base) (G_rings:ET P w K mg base):sH P w K mg base:=dH D (N:=["_law_pack","_law_marks","_law_due","_law_told","_law_name","_law_elder","_law_reason","_law_ring_here","_law_at"]) ⟨rfl,rfl,rfl,by decide+kernel,rfl,by decide+kernel,by decide+kernel⟩ rfl rfl fun S f cdv A outer s H E hr=>
 ⟨_,(aG (eY (bI (M8 K hr) (bG G_rings hr (by decide) rfl (aA (pv 0) (aA (pv 1) aD))) (pv 2) (cJ _)) (aP (bR mX)) cF)
   (aG (bD (i:=3) S.nd rfl (Or.inr rfl) mG)
   (aG (eR fm rfl (cT K (bG G_by_names hr (by decide) rfl (aA (pv 0) (aA (pv 1) aD)))) (iC (n:=3) K rfl (bT (aR (i:=4) S.nd rfl (Or.inl rfl)) (bT (aR (i:=5) S.nd rfl (Or.inl rfl)) (bT (aR (i:=6) S.nd rfl (Or.inl rfl)) iK)))) (aP (iE (mE hr) (pv 3) (pv 4) (bQ (aA (pv 5) (aA (pv 6) aD))) rfl)))
   (aG (eR fm rfl (cT K (pv 2)) (aR (i:=7) S.nd rfl (Or.inl rfl)) (aG (eY (bI (M8 K hr) (BV (mE hr) (pv 3) (aX (dQ K hr) (pv 7) aF (fun _ _=>rfl)) (bQ aD) ⟨rfl,by rfl,rfl,rfl⟩) (bQ (aA oS (aA (bQ (aA eS (aA (pv 7) aD))) aD))) (cJ _)) (aP (bR mX)) cF)
   (aP (eR fm rfl (IM rfl T.eI (aA aF (aA (a7 (rW K) (by rfl) T.fT fD (aA (pv 7) aD)) aD))) (aR (i:=8) S.nd rfl (Or.inl rfl)) (aP (eY (bI (M8 K hr) (aX (dQ K hr) (BV (mE hr) (pv 3) (aX (dQ K hr) (pv 7) (pv 8) (fun _ _=>rfl)) (bQ (aA eS aD)) ⟨rfl,by rfl,rfl,rfl⟩) aF (fun _ _=>rfl)) (aX (dQ K hr) (pv 7) (bF gQ (bF (jX K) (pv 8) aF) (a7 (rW K) (by rfl) T.fT fD (aA (pv 7) aD))) (fun _ _=>rfl)) (cJ _)) (aP (bR mX)) cF))))))
   (aP (bR (FC (D4 K hr) (a7 (rW K) (by rfl) T.fT fD (aA (uG ["_law_name","_law_told"] 1 [3] ["_law_pack","_law_marks","_law_due","_law_told","_law_name","_law_elder","_law_reason","_law_ring_here","_law_at"] (aW fU) rfl rfl rfl (zG (pv 3)) (by decide+kernel) (fun _=>(aR (i:=0) (show(["_law_name","_law_told"]:List Str).Nodup by decide+kernel) rfl (Or.inl rfl))) (fun _=>(p8 (bI (D4 K hr) (aX (dQ K hr) (aX (dQ K hr) (aX (dQ K hr) (pv 1) (pv 0) (fun _ _=>rfl)) aF (fun _ _=>rfl)) aF (fun _ _=>rfl)) eS (cJ _)))) (fun _=>(pv 0))) aD)) (a7 (rW K) (by rfl) T.fT fD (aA (pv 2) aD)) (cJ _)))))))),by unfold l8 iT i6 iQ jJ iZ iS;walk_at "rf"⟩
theorem VL (T:Txt K mg) (D:Dx K mg "law" GD ["_law_script"]) (G_law_hand:uH P w K mg base) (G_law_names:sJ P w K mg base) (G_law_ring:vQ P w K mg base) (G_law_kinds:rZ P w K mg base) (G_law_right:sH P w K mg base):ZX P w K mg base:=dH D (N:=["_law_script","_law_k","_law_hand_here","_law_one","_law_more","_law_names_here","_law_first","_law_second","_law_pack","_law_marks"]) ⟨rfl,rfl,rfl,by decide+kernel,rfl,by decide+kernel,by decide+kernel⟩ rfl rfl fun S f cdv A outer s H E hr=>
 ⟨_,(aG (eR fm rfl (gK rfl T.eI (aA (a7 (IJ rfl) (by rfl) T.B6 V5 (aA aF (aA (a7 (JC rfl) (by rfl) T.oH qW (aA (a7 (rW K) (by rfl) T.fT fD (aA (pv 0) aD)) (aA aF aD))) aD))) aD)) (aR (i:=1) S.nd rfl (Or.inl rfl)) (aG (bD (i:=2) S.nd rfl (Or.inl rfl) (bG G_law_hand hr (by decide) rfl (aA (pv 0) (aA (pv 1) aD))))
   (aG (N8 (i:=3) (j:=4) rfl S.nd rfl rfl (by decide) rfl rfl (aA (bG G_law_kinds hr (by decide) rfl (aA (pv 2) aD)) (aA (bG G_law_kinds hr (by decide) rfl (aA (pv 2) aD)) aD)) rfl)
   (aG (bD (i:=5) S.nd rfl (Or.inl rfl) (bG G_law_names hr (by decide) rfl (aA (pv 2) (aA (bF (jX K) (bF fZ aF (a7 (rW K) (by rfl) T.fT fD (aA (pv 3) aD))) (bF fZ aF (a7 (rW K) (by rfl) T.fT fD (aA (pv 4) aD)))) aD))))
   (aG (bD (i:=6) S.nd rfl (Or.inl rfl) (bG G_law_ring hr (by decide) rfl (aA (pv 2) (aA (eO (OX K) (pv 5) iG (fP (bF fZ aF (a7 (rW K) (by rfl) T.fT fD (aA (pv 3) aD))))) (aA (pv 3) aD)))))
   (aG (bD (i:=7) S.nd rfl (Or.inl rfl) (bG G_law_ring hr (by decide) rfl (aA (pv 2) (aA (eO (OX K) (pv 5) (fP (bF fZ aF (a7 (rW K) (by rfl) T.fT fD (aA (pv 3) aD)))) iG) (aA (pv 4) aD)))))
   (aG (bD (i:=8) S.nd rfl (Or.inl rfl) (bZ (uD K) (by rfl) T.cH cR (aA (a7 (r6 K hr) (by rfl) T.cQ eC (aA (bF (jX K) (aX (dQ K hr) (pv 6) aF (fun _ _=>rfl)) (aX (dQ K hr) (pv 7) aF (fun _ _=>rfl))) aD)) aD)))
   (aG (bD (i:=9) S.nd rfl (Or.inl rfl) (bZ (uD K) (by rfl) T.cH cR (aA (a7 (r6 K hr) (by rfl) T.cQ eC (aA (bF (jX K) (aX (dQ K hr) (pv 6) aF (fun _ _=>rfl)) (aX (dQ K hr) (pv 7) aF (fun _ _=>rfl))) aD)) aD)))
   (aG (eY (LA (K9 (bG G_law_right hr (by decide) rfl (aA (pv 8) (aA (pv 9) (aA (bZ (uD K) (by rfl) T.cH cR (aA (a7 (r6 K hr) (by rfl) T.cQ eC (aA (fG (aA (aX (dQ K hr) (pv 6) aF (fun _ _=>rfl)) (aA (aX (dQ K hr) (pv 7) aF (fun _ _=>rfl)) aD))) aD)) aD)) aD)))))) (aP (bR mX)) cF)
   (aP (eY (LA (K9 (bG G_law_right hr (by decide) rfl (aA (bZ (uD K) (by rfl) T.cH cR (aA (a7 (r6 K hr) (by rfl) T.cQ eC (aA (aX (dQ K hr) (pv 6) aF (fun _ _=>rfl)) aD)) aD)) (aA (bZ (uD K) (by rfl) T.cH cR (aA (a7 (r6 K hr) (by rfl) T.cQ eC (aA (aX (dQ K hr) (pv 6) aF (fun _ _=>rfl)) aD)) aD)) (aA (bQ (aA (aX (dQ K hr) (pv 6) aF (fun _ _=>rfl)) aD)) aD)))))) (aP (bR mX)) cF)))))))))))
   (aP (bR mX))),by unfold JZ tR tX tL t5 tK nK tY t7 tZ;walk_at "rf"⟩
end
namespace Rg
variable {α:Type}
noncomputable def lZ (up:α->Option α):Nat->α->Option α
 |0,x=>some x
 |n+1,x=>(up x).bind (lZ up n)
def AJ (up:α->Option α) (x:α):Prop:=∃n,lZ up (n+1) x=some x
def Path (up:α->Option α):List α->Option α->Prop
 |[],_=>True
 |[x],e=>up x=e
 |x::y::l,e=>up x=some y/\Path up (y::l) e
structure Ring (up:α->Option α) (l:List α):Prop where
 ne:l≠[]
 nd:l.Nodup
 path:Path up l l.head?
def yZ (up:α->Option α) (T:α->Prop):Prop:=∀x y,T x->up x=some y->T y
variable {up:α->Option α}
theorem rR:∀(m n:Nat) (x:α),lZ up (m+n) x=(lZ up m x).bind (lZ up n)
 |0,n,x=>by rw[fy];rfl
 |m+1,n,x=>by
  rw[Nat.add_right_comm];show(up x).bind (lZ up (m+n))=((up x).bind (lZ up m)).bind (lZ up n);cases up x with
  |none=>rfl
  |some y=>exact rR m n y
theorem yZ.walk {T:α->Prop} (h:yZ up T):∀(n:Nat) {x y:α},T x->lZ up n x=some y->T y
 |0,_,_,hx,e=>by cases e;exact hx
 |n+1,x,y,hx,e=>by
  cases c:up x with
  |none=>rw[lZ,c]at e;cases e
  |some z=>rw[lZ,c]at e;exact h.walk n (h x z hx c) e
theorem F6 {x:α} (h:lZ up n x=some x):∀k,lZ up (k*n) x=some x
 |0=>by rw[Nat.zero_mul];rfl
 |k+1=>by rw[Nat.succ_mul,rR,F6 h k];exact h
theorem AJ.back {x:α} (h:AJ up x) (m:Nat):∃y j,lZ up m x=some y/\lZ up j y=some x:=by
 obtain⟨n,h⟩:=h;have k:=F6 h m;have e:m*(n+1)=m+m*n:=by rw[Nat.mul_succ,Nat.add_comm]
 rw[e,rR]at k;cases c:lZ up m x with
 |none=>rw[c]at k;cases k
 |some y=>rw[c]at k;exact⟨y,_,rfl,k⟩
theorem Path.z7:∀{l:List α} {e:Option α} {i:Nat} {x:α},Path up l e->l[i]? =some x->lZ up (l.length - i) x=e
 |[],_,_,_,_,h=>by simp at h
 |[a],e,0,x,p,h=>by
  cases h;show(up a).bind (lZ up 0)=e;rw[show up a=e from p];cases e<;>rfl
 |[a],e,i+1,x,p,h=>by simp at h
 |a::b::l,e,0,x,p,h=>by
  cases h;show(up a).bind (lZ up (b::l).length)=e;rw[p.1];exact Path.z7 (l:=b::l) (i:=0) p.2 rfl
 |a::b::l,e,i+1,x,p,h=>by
  have:=Path.z7 (l:=b::l) (i:=i) p.2 (by simpa using h);simpa using this
theorem Path.drop:∀{l:List α} {e:Option α} (n:Nat),Path up l e->Path up (l.drop n) e
 |_,_,0,p=>p
 |[],_,_+1,p=>p
 |[a],_,n+1,p=>by simp[Path]
 |a::b::l,e,n+1,p=>by
  rw[List.drop_succ_cons];exact Path.drop n p.2
theorem Path.snoc:∀{l:List α} {x:α} {e:Option α},Path up l (some x)->up x=e->Path up (l++[x]) e
 |[],x,e,_,h=>h
 |[a],x,e,p,h=>⟨p,h⟩
 |a::b::l,x,e,p,h=>⟨p.1,Path.snoc (l:=b::l) p.2 h⟩
theorem Path.step:∀{l:List α} {e:Option α} {x:α},Path up l e->x∈l->(∃y∈l,up x=some y)\/ up x=e
 |[],_,_,_,h=>by simp at h
 |[a],e,x,p,h=>by
  rw[cc.mp h];exact .inr p
 | a::b::l,e,x,p,h=>by
  rcases br.mp h with rfl|h
  .exact .inl ⟨b,by simp,p.1⟩
  .rcases Path.step (l:=b::l) p.2 h with⟨y,hy,e⟩|e
   .exact .inl ⟨y,ax _ hy,e⟩
   .exact .inr e
theorem Path.no {l:List α} {e:Option α} {x:α} (p:Path up l e) (hx:x∈l) (h:∀y,e=some y->∀j,lZ up j y≠some x):¬AJ up x:=fun c=>by
 obtain⟨i,hi⟩:=du hx;obtain⟨y,j,h1,h2⟩:=c.back (l.length - i);rw[p.z7 hi]at h1;exact h y h1 j h2
theorem Ring.closed {l:List α} (r:Ring up l):yZ up fun x=>x∈l:=fun x y hx e=>by
 rcases r.path.step hx with⟨z,hz,e'⟩|e'
 .rw[e]at e';cases e';exact hz
 .rw[e]at e';cases l with
  |nil=>exact absurd rfl r.ne
  |cons a l=>cases e';simp
theorem Ring.turn {l:List α} (r:Ring up l) {x:α} (hx:x∈l):lZ up l.length x=some x:=by
 cases l with
 |nil=>exact absurd rfl r.ne
 | cons a l=>
  obtain⟨i,hi⟩:=du hx;have hl:i<(a::l).length:=(ae.mp hi).1;have h1:=r.path.z7 hi;have h0:=r.path.z7 (l:=a::l) (i:=0) (x:=a) rfl;have ha:∀j,j<=(a::l).length->∀z,(a::l)[j]? =some z->lZ up j a=some z:=by
   intro j
   induction j with
   |zero=>intro _ z hz;cases hz;rfl
   |succ j ih=>
    intro hj z hz;have hj':j<(a::l).length:=by omega
    have e1:=ih (by omega) _ (ag hj');rw[rR j 1,e1];have e2:=r.path.z7 (ag hj');have e3:=r.path.z7 hz;have hlt:j+1<(a::l).length:=(ae.mp hz).1;have:Path up ((a::l).drop j) (a::l).head?:=r.path.drop j;rw[dg hj',dg hlt]at this;show(up _).bind (lZ up 0)=_;rw[this.1];rw[ag hlt]at hz;cases hz;rfl
  have e2:=ha i (by omega) x hi;have e3:lZ up ((a::l).length - i+i) x=some x:=by
   rw[rR,h1];exact e2
  have:(a::l).length - i+i=(a::l).length:=by omega
  rw[this]at e3;exact e3
theorem Ring.AJ {l:List α} (r:Ring up l) {x:α} (hx:x∈l):AJ up x:=by
 refine⟨l.length - 1,?_⟩;have:0<l.length:=kn hx;rw[show l.length - 1+1=l.length by omega];exact r.turn hx
structure Found (up:α->Option α) (S:List α) (F:List (List α)):Prop where
 cl:yZ up fun x=>x∈S
 ring:∀R∈F,Ring up R
 sub:∀R∈F,∀x∈R,x∈S
 nd:F.flatten.Nodup
 all:∀x∈S,AJ up x->x∈F.flatten
theorem Found.nil:Found up [] []:=⟨fun x y h=>by simp at h,by simp,by simp,by simp,by simp⟩
theorem Found.out {S:List α} {F:List (List α)} {l:List α} {e:Option α} (f:Found up S F) (p:Path up l e) (hd:∀x∈l,x∉S) (h:∀y,e=some y->y∈S):Found up (S++l) F where
 cl:=fun x y hx u=>by
  rcases bp.mp hx with hx|hx
  .exact bw _ (f.cl x y hx u)
  .rcases p.step hx with⟨z,hz,e'⟩|e'
   .rw[u]at e';cases e';exact bg _ hz
   .rw[u]at e';exact bw _ (h y e'.symm)
 ring:=f.ring
 sub:=fun R hR x hx=>bw _ (f.sub R hR x hx)
 nd:=f.nd
 all:=fun x hx c=>by
  rcases bp.mp hx with hx|hx
  .exact f.all x hx c
  .exact absurd c (p.no hx fun y ey j ej=>hd x hx (f.cl.walk j (h y ey) ej))
theorem Found.ZO {S:List α} {F:List (List α)} {p r:List α} (f:Found up S F) (hr:r≠[]) (hp:Path up (p++r) r.head?) (nd:(p++r).Nodup) (hd:∀x∈p++r,x∉S):Found up (S++(p++r)) (F++[r]):=by
 obtain⟨nd1,nd2,nd3⟩:=ff.mp nd;have R:Ring up r:=⟨hr,nd2,by have:=hp.drop p.length;rwa[List.drop_left]at this⟩;refine⟨fun x y hx u=>?_,fun Q hQ=>?_,fun Q hQ x hx=>?_,?_,fun x hx c=>?_⟩
 .rcases bp.mp hx with hx|hx
  .exact bw _ (f.cl x y hx u)
  .rcases hp.step hx with⟨z,hz,e'⟩|e'
   .rw[u]at e';cases e';exact bg _ hz
   .rw[u]at e';cases r with
    |nil=>exact absurd rfl hr
    |cons a r=>cases e';exact bg _ (bg _ (by simp))
 .rcases bp.mp hQ with h|h
  .exact f.ring Q h
  .rw[cc.mp h];exact R
 .rcases bp.mp hQ with h|h
  .exact bw _ (f.sub Q h x hx)
  .rw[cc.mp h]at hx;exact bg _ (bg _ hx)
 .rw[List.flatten_append];refine ff.mpr ⟨f.nd,by simpa using nd2,fun x hx y hy e=>?_⟩;subst e;obtain⟨Q,hQ,hx⟩:=jr.mp hx;exact hd x (bg _ (by simpa using hy)) (f.sub Q hQ x hx)
 .rw[List.flatten_append];rcases bp.mp hx with hx|hx
  .exact bw _ (f.all x hx c)
  .rcases bp.mp hx with hx|hx
   .refine absurd c (Path.no (l:=p++r) hp (bw _ hx) fun y ey j ej=>?_);have hy:y∈r:=by
     cases r with
     |nil=>cases ey
     |cons a r=>cases ey;simp
    exact nd3 x hx x (R.closed.walk j hy ej) rfl
   .exact bg _ (by simpa using hx)
end Rg
namespace Rg
variable {α:Type} {up up':α->Option α}
inductive F2 {α β:Type} (R:α->β->Prop):List α->List β->Prop
 |nil:F2 R [] []
 |cons {a:α} {b:β} {l:List α} {m:List β}:R a b->F2 R l m->F2 R (a::l) (b::m)
theorem Path.app:∀{A B:List α} {e:Option α},B≠[]->(Path up (A++B) e↔Path up A B.head?/\Path up B e)
 |[],B,e,h=>⟨fun p=>⟨trivial,p⟩,fun p=>p.2⟩
 |[a],b::B,e,h=>⟨fun p=>⟨p.1,p.2⟩,fun p=>⟨p.1,p.2⟩⟩
 | a::c::A,B,e,h=>by
  have ih:=Path.app (A:=c::A) (B:=B) (e:=e) h;constructor
  .intro p;obtain⟨h1,h2⟩:=ih.mp p.2;exact⟨⟨p.1,h1⟩,h2⟩
  .intro p;exact⟨p.1.1,ih.mpr ⟨p.1.2,p.2⟩⟩
theorem Path.congr:∀{l:List α} {e:Option α},Path up l e->(∀x∈l,up x=up' x)->Path up' l e
 |[],_,_,_=>trivial
 |[a],e,p,h=>by
  show up' a=e;rw[<-h a (by simp)];exact p
 |a::b::l,e,p,h=>⟨by rw[<-h a (by simp)];exact p.1,Path.congr (l:=b::l) p.2 fun x hx=>h x (ax _ hx)⟩
theorem Ring.congr {l:List α} (r:Ring up l) (h:∀x∈l,up x=up' x):Ring up' l:=⟨r.ne,r.nd,r.path.congr h⟩
theorem mC {A B:List α} (h:A≠[]):(A++B).head? =A.head?:=by
 cases A with
 |nil=>exact absurd rfl h
 |cons a A=>rfl
theorem Ring.rot {l:List α} (r:Ring up l) (i:Nat) (hi:i<l.length):Ring up (l.drop i++l.take i):=by
 have hB:l.drop i≠[]:=fun e=>by have:=cn List.length e;rw[dh,length_nil]at this;omega
 refine⟨fun e=>hB (List.append_eq_nil_iff.mp e).1,?_,?_⟩
 .exact(perm_append_comm.nodup_iff.trans (by rw[cp])).mpr r.nd
 .by_cases hA:l.take i=[]
  .have e:=cp i l;rw[hA,nil_append]at e;rw[hA,gj,e];exact r.path
  .have h:=r.path;rw[<-cp i l]at h;have h:=(Path.app hB).mp h;rw[mC hA]at h;rw[mC hB];exact(Path.app hA).mpr ⟨h.2,h.1⟩
theorem mB (l:List α) (i:Nat):(l.drop i++l.take i).Perm l:=ji.trans (by rw[cp])
end Rg
namespace Rg
variable {α:Type} {up up':α->Option α}
theorem uV (n:Nat) (x:α):lZ up (n+1) x=(lZ up n x).bind up:=by
 rw[rR n 1];congr 1;funext y;show(up y).bind (lZ up 0)=up y;cases up y<;>rfl
theorem CJ (h:∀x w,up' x=some w->up x=some w):∀(n:Nat) {x y:α},lZ up' n x=some y->lZ up n x=some y
 |0,_,_,e=>e
 |n+1,x,y,e=>by
  cases c:up' x with
  |none=>rw[lZ,c]at e;cases e
  |some w=>rw[lZ,c]at e;rw[lZ,h x w c];exact CJ h n e
end Rg
namespace Rg
variable {α:Type} {up up':α->Option α}
theorem Path.next:∀{l:List α} {e:Option α} {i:Nat} {x y:α},Path up l e->l[i]? =some x->l[i+1]? =some y->up x=some y
 |[],_,_,_,_,_,h,_=>by simp at h
 |[a],_,0,_,_,_,_,h=>by simp at h
 |[a],_,i+1,_,_,_,h,_=>by simp at h
 |a::b::l,e,0,x,y,p,h,k=>by cases h;cases k;exact p.1
 |a::b::l,e,i+1,x,y,p,h,k=>Path.next (l:=b::l) (i:=i) p.2 (by simpa using h) (by simpa using k)
theorem Path.both {l:List α} {e:Option α} {x:α} (p:Path up l e) (h0:l.head? =some x) (hs:∀i y,i<n->l[i]? =some y->up' y=up y):∀i,i<=n->i<l.length->lZ up' i x=l[i]?
 |0,_,_=>by rw[<-ko,h0];rfl
 |i+1,hi,hl=>by
  rw[uV,Path.both p h0 hs i (by omega) (by omega),ag (by omega),ag hl];have e1:l[i]? =some l[i]:=ag (by omega);rw[bind_some,hs i _ (by omega) e1];exact p.next e1 (ag hl)
end Rg
local macro_rules | `(tactic| walk_at "wp") => `(tactic| simp only [UI, jZ, jY, bP, qI, cP, wp_seq, wp_call, J2, QH, ab8, ab9, RC, XA, abJ, Y2, YY, VS, P5, Y7, YO, WR, WT, O8, UL, XS, RZ, ZP, G5, R7, Y5, RT, XY, Y6, U9, PY, WQ, U8, MD, RR, J5, QS, L8, QT, X4, X3, ZL, WY, WV, Q4, VE, P9, AR, sU, acE, nX, DH, List.replicate, cons_append, nil_append, rel, fY, putL, getL, GW, DB, bW, oI, Mr.resB, mI, tH, yI, EH, Bv.weak, Bv.get, Bv.put, rd, Sl.pv, ownAt, b9, WK, Z3, sA, abH, abS, abF, acD, acF, acK, ab3, ab4, acO, aa9, YT, at1, at2, at3, dA, Mr.JA, mY, J7, nV, sT, XI, gE, J6, LR, NI, gI, X7, OE, T8, IX, V1, W2, gLt, gGt, gGe, LK, W7, isNone, JJ, l9, iF, FU, FY, EL, AA, kdOf, acJ, WX, jK, W0, z5, UD, VC, DG, List.getElem?_cons_zero, List.getElem?_cons_succ, List.set_cons_zero, List.set_cons_succ, List.zipIdx_cons, List.zipIdx_nil, cq, map_nil, all_nil, all_cons, List.contains_nil, List.contains_cons, List.any_nil, any_cons, fw, nodup_nil, not_mem_nil, br, not_false_eq_true, and_true, true_and, decide_true, decide_false, Bool.and_self, Bool.and_true, Bool.true_and, Bool.not_true, Bool.not_false, if_true, if_false, ite_true, ite_false, Option.or_some, none_or, Option.some_or, or_none, decide_eq_true_eq, decide_eq_false_iff_not, bz, reduceCtorEq, false_eq_true, length_cons, length_nil, Nat.reduceAdd, Nat.reduceLT, Int.reduceLT, Int.reduceLE, PV.int.injEq, PV.str.injEq, PV.bl.injEq, Option.some.injEq, LI, gV, Bool.or_false, Bool.or_true, Bool.true_or, Bool.false_or, Bool.false_and, Bool.and_false, Nat.reduceBEq, aj, eu, Int.reduceToNat, and_self, true_implies, forall_const, Int.reduceAdd, Int.reduceNeg, KI, rX, UN, keyOf, getD_none, getD_some, ON, OR, RM, MN, sI, PJ, PQ, ZZ, RK, Y9, ZT, T4, W6, RE, JX, HZ, pM, SH, F0, B0, HN, o8, oT, lE, kY, pJ, o6, pH, o4, o7, pG, kP, lJ, kC, k6, lA, kS, lM, lO, mS, nF, mK, gU, kM, lK, kK, kA, lI, lF, k8, oK, pE, oJ, oU, iR, jI, iP, jA, jE, kI, lR, lT, kE, lG, lV, lN, kB, kF, iY, iX, dJ, fO, fK, fM, i9, jF, iO, iV, mV, nD, mM, i5, i4, i7, j9, lX, lW, lD, iS, iZ, jJ, iQ, i6, iT, tZ, t7, tY, nK, tK, t5, tL, tX, tR])
section
open PySem L2 Mr
noncomputable abbrev hd (a b c:Int):PV:=.lst [.int a,.int b,.int c]
structure Hand (a b c:Int) (n:Nat):Prop where
 a0:0<=a
 b0:0<=b
 b1:b<2305843009213693921
 c0:0<=c
 c1:c<=n
theorem Hand.mono (h:Hand a b c n) (l:n<=m):Hand a b c m:=⟨h.a0,h.b0,h.b1,h.c0,by have:=h.c1;omega⟩
theorem R4 {i j:Int} (h0:0<=i) (h1:i<18446744073709551616):wR i j=true:=decide_eq_true (.inl ⟨by omega,h1⟩)
theorem mulR {i j:Int} (h0:0<=j) (h1:j<18446744073709551616):wR i j=true:=decide_eq_true (.inr ⟨by omega,h1⟩)
theorem eP {m:Int} (h:Hand a b c n) (hn:n<1000000) (m0:0<m) (m1:m<1073741824) (q:∀d a' b' c',0<=d->d<m->Hand a' b' c' (n+1)->Q (.int d,[hd a' b' c'])):Wp (bK [hd a b c,.int m]) Q:=by
 unfold bK oX;have a0:=h.a0;have b0:=h.b0;have b1:=h.b1;have c0:=h.c0;have c1:=h.c1;walk_at "wp";refine⟨fun ha=>⟨m0,⟨m0,by omega⟩,q _ _ _ _ (emod_nonneg _ (by omega)) (emod_lt_of_pos _ m0) ⟨Int.ediv_nonneg a0 (by omega),b0,b1,c0,by omega⟩⟩,fun ha=>⟨R4 (by decide) (by decide),mulR (by omega) (by omega),mulR (by decide) (by decide),R4 (by decide) (by decide),R4 (emod_nonneg _ (by decide)) ?_,m0,q _ _ _ _ (emod_nonneg _ (by omega)) (emod_lt_of_pos _ m0) ⟨a0,b0,b1,by omega,by omega⟩⟩⟩;have:=emod_lt_of_pos ((b+65537*(c+1)*(c+1)+11)*48271) (show(0:Int)<2305843009213693921 by decide);omega
theorem qE {xs:List PV} {Q:PV->Prop} (h0:0<=k) (h1:k<(xs.length:Int)) (q:∀x∈xs,Q x):Wp (oB xs k) Q:=by
 obtain⟨c,hc,e⟩:=SE h0 h1;exact⟨c,e,q c hc⟩
noncomputable def kJ:FS:=(aY (cK 3 (TB (bX (bA gGe (aC 2) (bA sT (fC (.int 10)) (fC (.int 18))))) (bA nV (aC 2) (bA rX (bA rX (bA rX (bA sT (fC (.int 10)) (fC (.int 60))) (bA sT (fC (.int 10)) (fC (.int 60)))) (bA sT (fC (.int 10)) (fC (.int 60)))) (bA sT (fC (.int 10)) (fC (.int 60))))) (fC (.int 0))))
  (c9 (gB (aB (aC 3) (aB (bA nV (bA mY (bA gE (bA gE (bA nV (aC 2) (fC (.int 2305843009213693951))) (bA mY (bA mY (fC (.int 7919)) (aC 1)) (aC 1))) (fC (.int 3))) (fC (.int 48271))) (fC (.int 2305843009213693921))) (aB (fC (.int 0)) aN))))))
theorem x9:oM=(aY (cK 2 (TB (bX (bA gLt (aC 1) (gZ l9 (aB (aC 0) aN)))) (bA dA (aC 0) (aC 1)) (fC (.int 0))))
  kJ):=rfl
theorem xB {x:Int} {Q:Out->Prop} (k0:0<=k) (k1:k<1000) (q:∀a b v0 v1 v2 v3,Hand a b 0 0->Q (.rt (.new (hd a b 0)) [v0,v1,v2,v3])):Wp (kJ [v0,some (.val (.int k)),some (.val (.int x)),v3]) Q:=by
 unfold kJ;walk_at "wp";have r0:0<=x % 2305843009213693951:=emod_nonneg _ (by decide);have r1:x % 2305843009213693951<2305843009213693951:=emod_lt_of_pos _ (by decide);have kk:0<=7919*k*k:=Int.mul_nonneg (by omega) k0;have m1:wR 7919 k=true:=R4 (by decide) (by decide);have m2:wR (7919*k) k=true:=mulR k0 (by omega);have m3:wR (x % 2305843009213693951+7919*k*k+3) 48271=true:=mulR (by decide) (by decide);have b0:0<=(x % 2305843009213693951+7919*k*k+3)*48271 % 2305843009213693921:=emod_nonneg _ (by decide);have b1:(x % 2305843009213693951+7919*k*k+3)*48271 % 2305843009213693921<2305843009213693921:=emod_lt_of_pos _ (by decide);refine⟨by decide+kernel,fun hx=>⟨by decide+kernel,by decide+kernel,by decide+kernel,by decide+kernel,by decide+kernel,by decide+kernel,by decide+kernel,by decide+kernel,m1,m2,m3,q _ _ _ _ _ _ ⟨emod_nonneg _ (by decide+kernel),b0,b1,by decide,by decide⟩⟩,fun hx=>⟨m1,m2,m3,q _ _ _ _ _ _ ⟨by decide,b0,b1,by decide,by decide⟩⟩⟩
theorem QN {ns:List Int} (k0:0<=k) (k1:k<1000) (hn:ns.length<=63) (q:∀a b,Hand a b 0 0->Q (hd a b 0,[])):Wp (iD [.lst (ns.map PV.int),.int k]) Q:=by
 unfold iD;rw[x9];walk_at "wp";refine⟨fun g=>?_,fun g=>?_⟩
 .refine qE k0 (by rw[aj];exact g) fun p hp=>?_
  obtain⟨c,_,rfl⟩:=bh.mp hp;walk_at "wp";refine xB k0 k1 fun a b v0 v1 v2 v3 h=>?_
  walk_at "wp";exact q a b h
 .refine xB k0 k1 fun a b v0 v1 v2 v3 h=>?_
  walk_at "wp";exact q a b h
end
section
open PySem L2 Mr
noncomputable def sg:Str:="abcdefghijklmnopqrstuvwxyz0123456789"
theorem atS {Z:Str} {Q:Nat->Prop} (h0:0<=d) (h:d<(Z.length:Int)) (q:∀c∈Z.cps.toList,Q c):Wp (oB Z.cps.toList d) Q:=by
 obtain⟨c,hc,e⟩:=NT h0 h;exact⟨c,e,q c hc⟩
theorem K3 {a b c:Int} {s:Option Sl} {xs:List PV} {Q:List PV×En->Prop} (hp:Hand a b c n) (hn:n+xs.length<1000000)
  (q:∀(zs:List Str) s' a' b' c',zs.length=xs.length->(∀z∈zs,∃k∈sg.cps.toList,z=⟨#[k]⟩)->Hand a' b' c' (n+xs.length)->Q (zs.map PV.str,[s',some (.own (hd a' b' c'))])):
  Wp (oE (a6 0) iI (bA dA (fC (.str "abcdefghijklmnopqrstuvwxyz0123456789")) (bM [.m,.b] false bK (aB (aC 1) (aB (fC (.int 36)) aN)))) xs [s,some (.own (hd a b c))]) Q:=by
 refine iN (fun i acc e=>∃(zs:List Str) (s:Option Sl) (a b c:Int),acc=zs.map PV.str/\zs.length=i/\(∀z∈zs,∃k∈sg.cps.toList,z=⟨#[k]⟩)/\e=[s,some (.own (hd a b c))]/\Hand a b c (n+i)) ?_ ?_ ⟨[],s,a,b,c,rfl,rfl,fun _ h=>(nomatch h),rfl,hp⟩
 .rintro i x e acc hx ⟨zs,s,a,b,c,rfl,hl',hz,rfl,hp⟩;have hi:=(ae.mp hx).1;walk_at "wp";refine eP hp (by omega) (by decide) (by decide) fun d a' b' c' d0 d1 hp'=>?_
  walk_at "wp";refine⟨by decide+kernel,?_⟩;refine atS d0 (Int.lt_of_lt_of_le d1 (by decide+kernel)) fun k hk=>?_
  walk_at "wp";exact⟨zs++[⟨#[k]⟩],_,a',b',c',by rw[bu];rfl,by rw[bq,hl'];rfl,fun z hz'=>(bp.mp hz').elim (hz z) fun h=>⟨k,hk,cc.mp h⟩,rfl,hp'⟩
 .rintro acc e ⟨zs,s,a,b,c,rfl,hl',hz,rfl,hp⟩;exact q zs s a b c hl' hz hp
theorem QK {zs:List Str} (h:∀z∈zs,∃k∈sg.cps.toList,z=⟨#[k]⟩):(zs.map (·.length)).sum=zs.length:=by
 induction zs with
 |nil=>rfl
 |cons z zs ih=>
  obtain⟨k,_,rfl⟩:=h z bf;rw[cq,List.sum_cons,length_cons,ih fun w hw=>h w (ax _ hw)];show 1+_=_;omega
theorem e0:(Str.ofString "").length=0:=by decide+kernel
def Nm (x:Str):Prop:=1<=x.length/\x.length<=12/\∀c∈x.cps.toList,c∈sg.cps.toList
theorem QY:∀{zs:List Str},(∀z∈zs,∃k∈sg.cps.toList,z=⟨#[k]⟩)->∀c∈(Txt.join (Str.ofString "") zs).cps.toList,c∈sg.cps.toList:=by
 intro zs;rw[eq_of_beq (PyProof.Rows.join_closes (sep:=Str.ofString "") (ys:=zs) rfl)]
 induction zs with
 |nil=>intro _ c hc;cases hc
 | cons z zs ih=>
  intro h c hc;obtain⟨k,hk,rfl⟩:=h z bf;cases zs with
  |nil=>
   have:c=k:=by simpa using(show c∈[k]from hc)
   rw[this];exact hk
  | cons y ys=>
   have hc:c∈((⟨#[k]⟩:Str)++Str.ofString ""++Str.join (Str.ofString "") (y::ys)).cps.toList:=hc;rw[Str.cps_append,Str.cps_append,Array.toList_append,Array.toList_append]at hc;rcases bp.mp hc with hc|hc
   .rcases bp.mp hc with hc|hc
    .have:c=k:=by simpa using hc
     rw[this];exact hk
    .rw[show(Str.ofString "").cps.toList=[] by decide+kernel]at hc;cases hc
   .exact ih (fun w hw=>h w (ax _ hw)) c hc
theorem AZ {zs:List Str} (h:∀z∈zs,∃k∈sg.cps.toList,z=⟨#[k]⟩):(Txt.join (Str.ofString "") zs).length=zs.length:=by
 rw[eq_of_beq (PyProof.Rows.join_closes (sep:=Str.ofString "") (ys:=zs) rfl)]
 induction zs with
 |nil=>decide+kernel
 | cons z zs ih=>
  obtain⟨k,hk,rfl⟩:=h z bf;have ih:=ih fun w hw=>h w (ax _ hw)
  cases zs with
  |nil=>rfl
  |cons y ys=>
   show((⟨#[k]⟩:Str)++Str.ofString ""++Str.join (Str.ofString "") (y::ys)).length=_;have e:∀a b:Str,(a++b).length=a.length+b.length:=fun a b=>by show(a++b).cps.size=_;rw[Str.cps_append,Array.size_append];rfl
   rw[e,e,ih,e0];show 1+0+(y::ys).length=(y::ys).length+1;omega
theorem R3 {zs:List Str} {Q:Bv->Prop} (h:∀z∈zs,∃k∈sg.cps.toList,z=⟨#[k]⟩) (h1:1<=zs.length) (hs:zs.length<=12) (q:∀x:Str,Nm x->Q (.val (.str x))):
  Wp (BM (.str (Str.ofString "")) [.lst (zs.map PV.str)]) Q:=by
 have l1:=QK h;unfold BM;simp only[nR,jY,bP,cP,decide_eq_true_eq,e0];refine⟨by omega,q _ ⟨?_,?_,QY h⟩⟩
 .rw[AZ h];exact h1
 .rw[AZ h];exact hs
theorem iU [DecidableEq α]:∀{l m:List α},l.Nodup->(∀x∈l,x∈m)->l.length<=m.length
 |[],m,_,_=>eh _
 |x::l,m,hn,h=>by
  have hx:=h x bf;rw[fw]at hn;have:=iU (l:=l) (m:=m.erase x) hn.2 fun y hy=>(List.mem_erase_of_ne (fun e:y=x=>hn.1 (by rw[<-e];exact hy))).mpr (h y (ax _ hy))
  rw[List.length_erase_of_mem hx]at this;have:0<m.length:=kn hx;rw[length_cons];omega
noncomputable abbrev sN (k:Nat):Str:=toString (0+(k:Int))
theorem N3:((List.range 128).map sN).Nodup:=by decide+kernel
theorem RA (h:ss.length<127):∃k∈List.range (ss.length+1),sN k∉ss:=by
 refine cz fun no=>?_
 have all:∀x∈(List.range (ss.length+1)).map sN,x∈ss:=fun x hx=>by
  obtain⟨k,hk,rfl⟩:=bh.mp hx;exact cz fun z=>no ⟨k,hk,z⟩
 have nd:((List.range (ss.length+1)).map sN).Nodup:=by
  have e:List.range (ss.length+1)=(List.range 128).take (ss.length+1):=by rw[List.take_range];congr 1;omega
  rw[e,map_take];exact N3.sublist (ly _ _)
 have:=iU nd all;rw[aj,eu]at this;omega
end
section
open PySem L2 Mr
theorem zP:((ss.map PV.str).any fun z=>cA z (PV.str x))=decide (x∈ss):=by
 rw[Bool.eq_iff_iff,iw,decide_eq_true_eq];constructor
 .rintro⟨p,hp,e⟩;obtain⟨y,hy,rfl⟩:=bh.mp hp;rw[z5]at e;rw[<-eq_of_beq e];exact hy
 .intro h;exact⟨.str x,bh.mpr ⟨x,h,rfl⟩,by rw[z5];exact gV x⟩
theorem xE (h:j<128):(0+(j:Int)).natAbs.log2<1920:=by
 rw[Int.zero_add,Int.natAbs_natCast];exact Nat.lt_of_le_of_lt (Nat.log2_le_self j) (by omega)
theorem KZ {a b c m:Int} (h:Hand a b c n) (m0:0<=m) (m1:m<=120) (hn:n<100000)
  (q:∀(ss:List Str) a' b' c',(ss.length:Int)=m->ss.Nodup->Hand a' b' c' (n+13*120)->Q (.lst (ss.map PV.str),[hd a' b' c'])):Wp (gF [hd a b c,.int m]) Q:=by
 unfold gF mQ;walk_at "wp";refine⟨mJ (by omega) (by omega),?_⟩;refine dS (fun i e=>∃(ss:List Str) (a b c:Int) (v3 v4 v5:Option Sl),ss.length=i/\ss.Nodup/\Hand a b c (n+13*i)/\e=[some (.own (hd a b c)),some (.val (.int m)),some (.loc (.lst (ss.map PV.str))),v3,v4,v5]) ?_ ?_ ⟨[],a,b,c,_,_,_,rfl,nodup_nil,h,rfl⟩
 .rintro i x e hx ⟨ss,a,b,c,v3,v4,v5,hl,hs,hp,rfl⟩;rw[az]at hx;obtain⟨k,hk,rfl⟩:=cu.mp hx;have hi:=(ae.mp hk).1;rw[eu]at hi;walk_at "wp";refine eP hp (by omega) (by decide) (by decide) fun d a1 b1 c1 d0 d1 hp=>?_
  walk_at "wp";refine qE d0 d1 fun p hp'=>?_
  obtain⟨z,rfl,z0,z1⟩:∃z:Int,p= .int z/\1<=z/\z<=12:=by
   have r0:=emod_nonneg (0+(k:Int)) (show(12:Int)≠0 by decide);have r1:=emod_lt_of_pos (0+(k:Int)) (show(0:Int)<12 by decide);simp only[br,not_mem_nil,or_false]at hp';rcases hp' with rfl|rfl|rfl|rfl|rfl|rfl
   .exact⟨_,rfl,by decide,by decide⟩
   .exact⟨_,rfl,by decide,by decide⟩
   .exact⟨_,rfl,by decide,by decide⟩
   .exact⟨_,rfl,by decide,by decide⟩
   .exact⟨_,rfl,by decide,by decide⟩
   .exact⟨_,rfl,by omega,by omega⟩
  clear d0 d1 hp';walk_at "wp";refine⟨mJ (by omega) (by omega),by omega,?_⟩;refine K3 hp (by rw[aj,eu];omega) fun zs s' a2 b2 c2 zl hz hp=>?_
  rw[aj,eu]at zl hp;walk_at "wp";refine R3 hz (by omega) (by omega) fun x hx=>?_
  clear zl hz;replace hp:=hp.mono (show _<=n+13*(i+1) by omega);clear z0 z1;walk_at "wp";have ok8:(ss.map PV.str).all (jK 8)=true:=bb.mpr fun p hp=>by obtain⟨y,_,rfl⟩:=bh.mp hp;rfl
  have done:∀y:Str,y∉ss->∃(ss':List Str) (a b c:Int) (v3 v4 v5:Option Sl),ss'.length=i+1/\ss'.Nodup/\Hand a b c (n+13*(i+1))/\[some (Sl.own (hd a2 b2 c2)),some (Sl.val (PV.int m)),some (Sl.loc (PV.lst (ss.map PV.str++[PV.str y]))),some (Sl.val (PV.int (0+(k:Int)))),some (Sl.val (PV.int z)),some (Sl.val (PV.str y))]=[some (.own (hd a b c)),some (.val (.int m)),some (.loc (.lst (ss'.map PV.str))),v3,v4,v5]:=fun y hy=>
   ⟨ss++[y],a2,b2,c2,_,_,_,by rw[bq,hl];rfl,ff.mpr ⟨hs,by simp,fun a ha b hb e=>hy (by rw[cc.mp hb]at e;exact e▸ha)⟩,hp,by rw[bu];rfl⟩
  refine⟨ok8,fun g=>⟨mJ (by omega) (by omega),by omega,?_⟩,fun g=>⟨by omega,done x (by rw[zP]at g;exact gd g)⟩⟩;rw[show((ss.length:Int)+1).toNat=ss.length+1 by omega];refine iN (fun j acc e=>acc=(((List.range j).filter fun k=>decide (sN k∉ss)).map fun k=>PV.str (sN k))/\∃s,e=[s,some (Sl.bor (PV.lst (ss.map PV.str)))]) ?_ ?_ ⟨rfl,_,rfl⟩
  .rintro j y e acc hy ⟨rfl,s1,rfl⟩;rw[az]at hy;obtain⟨k',hk',rfl⟩:=cu.mp hy;have hj:=(ae.mp hk').1;have ej:=(ae.mp hk').2;rw[eu]at hj;rw[List.getElem_range]at ej;subst ej;walk_at "wp";refine⟨xE (by omega),ok8,?_⟩;rw[zP];have er:(List.range (j+1)).filter (fun k=>decide (sN k∉ss))=(List.range j).filter (fun k=>decide (sN k∉ss))++(if sN j∉ss then [j]else []):=by
    rw[List.range_succ,List.filter_append];congr 1
    by_cases hm:sN j∉ss
    .rw[ai hm];simp[hm]
    .rw[ah hm];simp at hm;simp[hm]
   by_cases hm:sN j∈ss
   .rw[show decide (Str.ofString (toString (0+(j:Int)))∈ss)=true from decide_eq_true hm];refine⟨?_,_,rfl⟩;rw[er,ah (fun z=>z hm),gj]
   .rw[show decide (Str.ofString (toString (0+(j:Int)))∈ss)=false from decide_eq_false hm];refine⟨xE (by omega),?_,_,rfl⟩;rw[er,ai hm,bu];rfl
  .rintro acc e ⟨rfl,s1,rfl⟩;rw[aj,eu];obtain⟨k0,hk0,hf⟩:=RA (ss:=ss) (by omega);have hm:k0∈(List.range (ss.length+1)).filter fun k=>decide (sN k∉ss):=mh.mpr ⟨hk0,decide_eq_true hf⟩
   have sub:∀k∈(List.range (ss.length+1)).filter fun k=>decide (sN k∉ss),sN k∉ss:=fun k hk=>ao (mh.mp hk).2
   cases ef:(List.range (ss.length+1)).filter fun k=>decide (sN k∉ss)with
   |nil=>rw[ef]at hm;cases hm
   |cons k1 r=>
    have:=sub k1 (by rw[ef];exact bf);walk_at "wp";exact⟨by omega,done _ this⟩
 .rintro e ⟨ss,a,b,c,v3,v4,v5,hl,hs,hp,rfl⟩;walk_at "wp";rw[aj,eu]at hl;rw[aj,eu]at hp;exact q ss a b c (by omega) hs (hp.mono (by omega))
end
section
open PySem L2 Mr
theorem pQ (xs:List PV) (k:Nat):wJ xs none (some (k:Int))=xs.take k:=by
 unfold wJ;rw[HT.A7,HT.tM,gq,sub_zero]
 by_cases h:k<=xs.length
 .rw[jq h]
 .rw[Nat.min_eq_right (by omega),fz (bj _),fz (by omega)]
theorem qT (xs:List PV) (k:Nat):wJ xs (some (k:Int)) none=xs.drop k:=by
 unfold wJ;rw[HT.A7,HT.tM]
 by_cases h:k<=xs.length
 .rw[jq h,fz (by rw[dh];exact bj _)]
 .rw[Nat.min_eq_right (by omega),List.drop_of_length_le (bj _),List.drop_of_length_le (by omega),List.take_nil]
end
section
open PySem L2 Mr
structure Let where
 name:Str
 day:Int
 head:Str
 row:List Str
 deriving DecidableEq
noncomputable def lP (l:Let):PV:=.tup [.str l.name,.int l.day,.str l.head,.tup (l.row.map PV.str)]
theorem qR (ss:List Str) (n:Nat):(ss.map PV.str).all (jK n)=true:=bb.mpr fun p hp=>by obtain⟨y,_,rfl⟩:=bh.mp hp;cases n<;>rfl
theorem yD (ss:List Str) (n:Nat):(ss.map PV.str).all (pB n)=true:=bb.mpr fun p hp=>by obtain⟨y,_,rfl⟩:=bh.mp hp;cases n<;>rfl
theorem YR (l:Let):pB 3 (lP l)=true:=by
 show([PV.str l.name,PV.int l.day,PV.str l.head,PV.tup (l.row.map PV.str)].all (pB 2))=true;simp only[all_cons,all_nil,pB,yD,Bool.and_true]
theorem jC (n:Nat):∀xs ys:List Str,(c6 (qF n) (xs.map PV.str) (ys.map PV.str)).isSome=true
 |[],[]=>rfl
 |[],_::_=>rfl
 |_::_,[]=>rfl
 |x::xs,y::ys=>by
  rw[cq,cq];unfold c6;split
  .exact jC n xs ys
  .cases n<;>rfl
theorem Y4 (l k:Let):(qF 3 (lP l) (lP k)).isSome=true:=by
 show(c6 (qF 2) [PV.str l.name,PV.int l.day,PV.str l.head,PV.tup (l.row.map PV.str)] [PV.str k.name,PV.int k.day,PV.str k.head,PV.tup (k.row.map PV.str)]).isSome=true;unfold c6;split
 .unfold c6;split
  .unfold c6;split
   .unfold c6;split
    .rfl
    .exact jC 1 _ _
   .rfl
  .rfl
 .rfl
theorem J9 (ls:List Let):dW 3 (ls.map lP)=true:=bb.mpr fun p hp=>by
 obtain⟨l,_,rfl⟩:=bh.mp hp;rw[bz];refine⟨YR l,bb.mpr fun q hq=>?_⟩;obtain⟨k,_,rfl⟩:=bh.mp hq;exact Y4 l k
theorem L7 (ls:List Let):(ls.map lP).all (uI true)=true:=bb.mpr fun p hp=>by obtain⟨l,_,rfl⟩:=bh.mp hp;rfl
theorem CB {ps:List PV} (h:ps.Perm (ls.map lP)):∃ks:List Let,ks.Perm ls/\ps=ks.map lP:=by
 have key:∀(ps:List PV) (ls:List Let),ps.Perm (ls.map lP)->∃ks:List Let,ks.Perm ls/\ps=ks.map lP:=by
  intro ps
  induction ps with
  |nil=>intro ls h;have:=h.nil_eq;rw[List.eq_nil_of_map_eq_nil this.symm];exact⟨[],.refl _,rfl⟩
  |cons p ps ih=>
   intro ls h;obtain⟨l,hl,e⟩:=bh.mp (h.mem_iff.mp bf);subst e;have h2:(lP l::ps).Perm ((l::ls.erase l).map lP):=h.trans ((perm_cons_erase hl).map lP);obtain⟨ks,k1,k2⟩:=ih _ (h2.cons_inv);exact⟨l::ks,(k1.cons l).trans (perm_cons_erase hl).symm,by rw[k2];rfl⟩
 exact key ps ls h
theorem xM {ls:List Let} {Q:Bv->Prop} (h:ls.length<128) (q:∀ks:List Let,ks.Perm ls->(ks.map lP).Pairwise (fun a b=>l3 3 a b=true)->Q (.new (.lst (ks.map lP)))):Wp (cN [.lst (ls.map lP)]) Q:=by
 cases ls with
 |nil=>exact⟨_,rfl,by rw[show cI []=[] by unfold cI;simp];exact q [] (.refl _) .nil⟩
 | cons l ls=>
  have e1:rN [.lst ((l::ls).map lP)]=none:=rfl;have e2:m7 [.lst ((l::ls).map lP)]=none:=rfl;unfold cN;rw[e1,e2,none_or,none_or];unfold rT;simp only[cP,bP];refine⟨?_,?_⟩
  .rw[L7,J9,aj,decide_eq_true h];rfl
  .obtain⟨ks,k1,k2⟩:=CB (fI 3 ((l::ls).map lP));have:=k9 3 ((l::ls).map lP);rw[k2]at this⊢
   exact q ks k1 this
end
section
open PySem L2 Mr
noncomputable def fA (acc:List Let) (l:Let):List Let:=if(acc.any fun k=>decide (k.name=l.name))=true then acc else acc++[l]
noncomputable def st (qs:List Let):List Let:=qs.foldl fA []
noncomputable def MB (acc:List Let):List (Key×PV):=acc.map fun l=>(Sum.inr l.name,lP l)
theorem PR (acc:List Let) (x:Str):(bY (MB acc) (Sum.inr x)).isSome=acc.any fun k=>decide (k.name=x):=by
 unfold bY MB
 induction acc with
 |nil=>rfl
 | cons l acc ih=>
  rw[cq,find?_cons,any_cons]
  by_cases h:l.name=x
  .subst h;simp
  .have h':¬(Sum.inr l.name:Key)=Sum.inr x:=fun z=>h (Sum.inr.inj z)
   rw[decide_eq_false h',decide_eq_false h,Bool.false_or];exact ih
theorem O7 {acc:List Let} {l:Let} (h:(acc.any fun k=>decide (k.name=l.name))=false):e8 (MB acc) (Sum.inr l.name) (lP l)=MB (acc++[l]):=by
 unfold e8;have e:((MB acc).any fun kv=>decide (kv.1=Sum.inr l.name))=false:=by
  rw[<-h];unfold MB;rw[any_map];congr 1;funext k;simp
 rw[e,ah av];unfold MB;rw[bu];rfl
theorem SK (qs:List Let) (i:Nat) (l:Let) (h:qs[i]? =some l):st (qs.take (i+1))=fA (st (qs.take i)) l:=by
 unfold st;rw[take_succ,h,toList_some,foldl_append];rfl
theorem zF (qs:List Let):(st qs).length<=qs.length:=by
 have key:∀(l k:List Let),(l.foldl fA k).length<=k.length+l.length:=by
  intro l
  induction l with
  |nil=>intro k;exact bj _
  | cons x l ih=>
   intro k;have:=ih (fA k x);have h:(fA k x).length<=k.length+1:=by
    unfold fA;split
    .omega
    .rw[bq];exact bj _
   rw[foldl_cons,length_cons];omega
 have:=key qs [];simpa [st]using this
theorem gA {l:Let} (h:l∈st qs):l∈qs:=by
 have key:∀(xs k:List Let),l∈xs.foldl fA k->l∈k\/ l∈xs:=by
  intro xs
  induction xs with
  |nil=>intro k h;exact .inl h
  | cons x xs ih=>
   intro k h;rcases ih _ h with g|g
   .unfold fA at g;split at g
    .exact .inl g
    .rcases bp.mp g with g|g
     .exact .inl g
     .exact .inr (by rw[cc.mp g];exact bf)
   .exact .inr (ax _ g)
 exact(key qs [] h).resolve_left (fun z=>nomatch z)
theorem K7 (acc:List Let):(MB acc).map (·.2)=acc.map lP:=by unfold MB;rw[jk];rfl
theorem hV {qs:List Let} (hl:qs.length<=100) (q:Q (.tup ((st qs).map lP),[])):Wp (cV [.tup (qs.map lP)]) Q:=by
 unfold cV oZ;walk_at "wp";refine dS (fun i e=>∃v2,e=[some (Sl.val (PV.tup (qs.map lP))),some (Sl.loc (PV.a9 (MB (st (qs.take i))))),v2]) ?_ ?_ ⟨_,rfl⟩
 .rintro i x e hx ⟨v2,rfl⟩;rw[az]at hx;obtain⟨l,hk,rfl⟩:=cu.mp hx;have hi:=(ae.mp hk).1;have hs:=SK qs i l hk;have hlen:=zF (qs.take i);rw[di]at hlen;rw[show lP l=PV.tup [PV.str l.name,PV.int l.day,PV.str l.head,PV.tup (l.row.map PV.str)]from rfl];walk_at "wp";rw[PR];rw[hs];unfold fA;cases g:(st (qs.take i)).any fun k=>decide (k.name=l.name)with
  |true=>exact⟨fun z=>(by cases z),fun _=>⟨_,by rw[ai rfl]⟩⟩
  |false=>
   refine⟨fun _=>⟨by unfold MB;rw[aj];omega,some (Sl.val (lP l)),?_⟩,fun z=>(by cases z)⟩;rw[ah av];have:=O7 g;rw[<-this];rfl
 .rintro e ⟨v2,rfl⟩;rw[aj,dq];walk_at "wp";rw[K7];exact q
noncomputable def CS (own:Str) (row:List Str) (k:Nat):List Str:=(List.range k).filterMap fun i=>(row[i]?).bind fun x=>if x≠own/\x∉row.drop (i+1)then some x else none
noncomputable def el (l:Let):List Str:=CS l.name l.row l.row.length
theorem B7 {own:Str} {row:List Str} (h:row[i]? =some x):CS own row (i+1)=CS own row i++(if x≠own/\x∉row.drop (i+1)then [x]else []):=by
 unfold CS;rw[List.range_succ,List.filterMap_append];congr 1;rw[filterMap_cons,h,bind_some];split
 .rename_i e;split at e
  .cases e
  .rename_i g;rw[ah g];rfl
 .rename_i e;split at e
  .rename_i g;cases e;rw[ai g];rfl
  .cases e
theorem rB {l:Let} (hl:l.row.length<=9) (q:Q (.tup ((el l).map PV.str),[])):Wp (gH [lP l]) Q:=by
 unfold gH vK;rw[show lP l=PV.tup [PV.str l.name,PV.int l.day,PV.str l.head,PV.tup (l.row.map PV.str)]from rfl];walk_at "wp";refine⟨by rw[km,aj];omega,?_⟩;refine iN (fun i acc e=>acc=(CS l.name l.row i).map PV.str/\∃v0 v1,e=[v0,v1,some (Sl.val (PV.str l.name)),some (Sl.val (PV.tup (l.row.map PV.str)))]) ?_ ?_ ⟨rfl,_,_,rfl⟩
 .rintro i x e acc hx ⟨rfl,v0,v1,rfl⟩;rw[az,ke,az,Option.map_map,Option.map_map]at hx;obtain⟨y,hy,rfl⟩:=cu.mp hx;have hi:=(ae.mp hy).1;have hs:=B7 (own:=l.name) hy;simp only[Function.comp_apply];walk_at "wp";rw[show(((0+i:Nat):Int)+1)=((i+1:Nat):Int) by omega,qT,<-map_drop,zP,hs];have ok8:=qR (l.row.drop (i+1)) 8
  by_cases h1:y=l.name
  .refine⟨fun z=>absurd z (by simp[h1]),fun _=>⟨?_,_,_,rfl⟩⟩;rw[ah (fun z=>z.1 h1),gj]
  .refine⟨fun _=>⟨ok8,?_⟩,fun z=>absurd z (by simp[h1])⟩
   by_cases h2:y∈l.row.drop (i+1)
   .rw[decide_eq_true h2];refine⟨?_,_,_,rfl⟩;rw[ah (fun z=>z.2 h2),gj]
   .rw[decide_eq_false h2];refine⟨?_,_,_,rfl⟩;rw[ai ⟨h1,h2⟩,bu];rfl
 .rintro acc e ⟨rfl,v0,v1,rfl⟩;rw[aj,km,aj];walk_at "wp";exact q
end
section
open PySem L2 Mr
noncomputable def oP:Option Str->PV
 |none=>.bH
 |some x=>.str x
abbrev Hl:=List (Str×Option Str)
noncomputable def u3 (hs:Hl):List (Key×PV):=hs.map fun z=>(Sum.inr z.1,oP z.2)
theorem GG (hs:Hl) (x:Str):(bY (u3 hs) (Sum.inr x)=none/\x∉hs.map (·.1))\/ ∃o,bY (u3 hs) (Sum.inr x)=some (oP o)/\(x,o)∈hs:=by
 unfold bY u3
 induction hs with
 |nil=>exact .inl ⟨rfl,fun h=>nomatch h⟩
 | cons z hs ih=>
  rw[cq,find?_cons]
  by_cases h:z.1=x
  .right;subst h;exact⟨z.2,by simp,bf⟩
  .have h':¬(Sum.inr z.1:Key)=Sum.inr x:=fun e=>h (Sum.inr.inj e)
   rw[decide_eq_false h'];rcases ih with⟨a,b⟩|⟨o,a,b⟩
   .exact .inl ⟨a,fun e=>by rcases br.mp e with e|e;exact h e.symm;exact b e⟩
   .exact .inr ⟨o,a,ax _ b⟩
theorem F1 (h:x∉hs.map (·.1)):e8 (u3 hs) (Sum.inr x) (oP o)=u3 (hs++[(x,o)]):=by
 unfold e8;have e:((u3 hs).any fun kv=>decide (kv.1=Sum.inr x))=false:=by
  unfold u3;rw[any_map,jx];intro z hz;have:z.1≠x:=fun e=>h (bh.mpr ⟨z,hz,e⟩)
  simp[this]
 rw[e,ah av];unfold u3;rw[bu];rfl
noncomputable def mP (hs:Hl):List PV:=hs.map fun z=>.tup [.str z.1,oP z.2]
theorem Z2 (z:Str×Option Str):pB 3 (.tup [.str z.1,oP z.2])=true:=by
 show([PV.str z.1,oP z.2].all (pB 2))=true;cases z.2<;>rfl
theorem VG (h:(hs.map (·.1)).Nodup):dW 3 (mP hs)=true:=bb.mpr fun p hp=>by
 obtain⟨z,hz,rfl⟩:=bh.mp hp;rw[bz];refine⟨Z2 z,bb.mpr fun q hq=>?_⟩;obtain⟨w,hw,rfl⟩:=bh.mp hq;show(c6 (qF 2) [PV.str z.1,oP z.2] [PV.str w.1,oP w.2]).isSome=true;unfold c6;split
 .rename_i e;rw[z5]at e;have e1:z.1=w.1:=eq_of_beq e;have e2:z=w:=by
   have key:∀(l:Hl),(l.map (·.1)).Nodup->∀a∈l,∀b∈l,a.1=b.1->a=b:=by
    intro l
    induction l with
    |nil=>intro _ a ha;cases ha
    | cons c l ih=>
     intro hn a ha b hb hab;rw[cq,fw]at hn;rcases br.mp ha with rfl|ha
     .rcases br.mp hb with rfl|hb
      .rfl
      .exact absurd (bh.mpr ⟨b,hb,hab.symm⟩) hn.1
     .rcases br.mp hb with e|hb
      .exact absurd (bh.mpr ⟨a,ha,by rw[hab,e]⟩) hn.1
      .exact ih hn.2 a ha b hb hab
   exact key hs h z hz w hw e1
  subst e2;unfold c6;rw[ai (pV (n:=0) (by cases z.2<;>rfl))];rfl
 .rfl
end
section
open PySem L2 Mr
structure oA where
 key:Str
 day:Int
 name:Str
 at':Int
noncomputable def tP (t:oA):PV:=.tup [.int t.day,.str t.name,.int t.at']
noncomputable def trF (l:Let) (z:Str×Nat):Option oA:=if 0<z.2 then some ⟨z.1,l.day,l.name,(z.2:Int)⟩else none
noncomputable def vU (l:Let) (j:Nat):List oA:=((el l).zipIdx.take j).filterMap (trF l)
noncomputable def FZ (l:Let):List oA:=(el l).zipIdx.filterMap (trF l)
noncomputable def l5 (qs:List Let):List oA:=(st qs).flatMap FZ
noncomputable def CH (x:Str) (ts:List oA):List oA:=ts.filter fun t=>decide (t.key=x)
noncomputable def FP (ts:List oA):DD:=ts.foldl (fun d t=>nY d (Sum.inr t.key) (tP t)) []
theorem KL (ts:List oA) (t:oA):FP (ts++[t])=nY (FP ts) (Sum.inr t.key) (tP t):=by unfold FP;rw[foldl_append];rfl
theorem II {l:Let} {n:Str} (h:(el l)[j]? =some n):vU l (j+1)=vU l j++(if 0<j then [⟨n,l.day,l.name,(j:Int)⟩]else []):=by
 unfold vU;have e:(el l).zipIdx[j]? =some (n,j):=by rw[ke,h];simp
 rw[take_succ,e,toList_some,List.filterMap_append];congr 1;rw[filterMap_cons,show trF l (n,j)=if 0<j then some ⟨n,l.day,l.name,(j:Int)⟩else none from rfl]
 by_cases g:0<j
 .rw[ai g,ai g];rfl
 .rw[ah g,ah g];rfl
theorem BC (l:Let):vU l (el l).length=FZ l:=by
 unfold vU FZ;rw[fz (by rw[km];exact bj _)]
theorem NC {f:α->List β} {xs:List α} {x:α} (h:xs[i]? =some x):(xs.take (i+1)).flatMap f=(xs.take i).flatMap f++f x:=by
 rw[take_succ,h,toList_some,List.flatMap_append];simp
theorem GN {f:α->List β} {k:Nat}:∀{xs:List α},(∀x∈xs,(f x).length<=k)->(xs.flatMap f).length<=k*xs.length
 |[],_=>by simp
 |x::xs,h=>by
  have:=GN (f:=f) (k:=k) (xs:=xs) fun y hy=>h y (ax _ hy)
  have:=h x bf;rw[List.flatMap_cons,bq,length_cons,Nat.mul_succ];omega
theorem NJ (l:Let):(el l).length<=l.row.length:=by
 unfold el CS;have:=List.length_filterMap_le (fun i=>(l.row[i]?).bind fun x=>if x≠l.name/\x∉l.row.drop (i+1)then some x else none) (List.range l.row.length);rw[eu]at this;exact this
theorem AV (l:Let) (j:Nat):(vU l j).length<=(el l).length:=by
 unfold vU;refine gc (List.length_filterMap_le _ _) ?_;rw[di,km];omega
theorem PB (l:Let):(FZ l).length<=(el l).length:=by rw[<-BC];exact AV l _
noncomputable def lk (d:DD) (k:Key):List PV:=((d.find? fun kp=>decide (kp.1=k)).map (·.2)).getD []
theorem VX (d:DD) (k k':Key) (p:PV):lk (nY d k p) k'=if k=k' then lk d k'++[p]else lk d k':=by
 unfold nY;cases c:d.any fun kp=>decide (kp.1=k)with
 | true=>
  rw[ai rfl];have key:∀d:DD,(d.map fun kp=>if kp.1=k then(kp.1,kp.2++[p])else kp).find? (fun kp=>decide (kp.1=k'))=(d.find? fun kp=>decide (kp.1=k')).map fun kp=>if kp.1=k then(kp.1,kp.2++[p])else kp:=by
   intro d
   induction d with
   |nil=>rfl
   |cons z d ih=>
    have e1:(if z.1=k then(z.1,z.2++[p])else z).1=z.1:=by split<;>rfl
    rw[cq,find?_cons,find?_cons,e1];cases decide (z.1=k')with
    |true=>rfl
    |false=>exact ih
  unfold lk;rw[key]
  by_cases hk:k=k'
  .subst hk;rw[ai rfl];cases f:d.find? fun kp=>decide (kp.1=k)with
   |none=>
    have:=ip.mp f;obtain⟨z,hz,e⟩:=iw.mp c;exact absurd e (by simpa using this z hz)
   |some z=>
    have hz:z.1=k:=by have:=jt f;simpa using this
    simp[hz]
  .rw[ah hk];cases f:d.find? fun kp=>decide (kp.1=k')with
   |none=>rfl
   |some z=>
    have hz:z.1=k':=by have:=jt f;simpa using this
    have:¬z.1=k:=fun e=>hk (e.symm.trans hz)
    simp[this]
 | false=>
  rw[ah av];unfold lk;rw[List.find?_append]
  by_cases hk:k=k'
  .subst hk;rw[ai rfl];have f:(d.find? fun kp=>decide (kp.1=k))=none:=ip.mpr fun z hz=>by
    have:=jx.mp c z hz;simpa using this
   rw[f];simp
  .rw[ah hk];have f:([(k,[p])]:DD).find? (fun kp=>decide (kp.1=k'))=none:=by simp[hk]
   rw[f,or_none]
theorem L5 (ts:List oA) (x:Str):lk (FP ts) (Sum.inr x)=(CH x ts).map tP:=by
 have key:∀(ts:List oA) (d:DD),lk (ts.foldl (fun d t=>nY d (Sum.inr t.key) (tP t)) d) (Sum.inr x)=lk d (Sum.inr x)++(CH x ts).map tP:=by
  intro ts
  induction ts with
  |nil=>intro d;simp[CH]
  |cons t ts ih=>
   intro d;rw[foldl_cons,ih,VX];unfold CH
   by_cases h:t.key=x
   .rw[ai (by rw[h]),List.filter_cons_of_pos (by simpa using h),cq,de];rfl
   .rw[ah (fun e=>h (Sum.inr.inj e)),List.filter_cons_of_neg (by simpa using h)]
 have:=key ts [];simpa [FP,lk]using this
theorem LH (d:DD) (k:Key):(bY (d.map fun kp=>(kp.1,PV.lst kp.2)) k).getD (.lst [])= .lst (lk d k):=by
 unfold bY lk
 induction d with
 |nil=>rfl
 |cons z d ih=>
  rw[cq,find?_cons,find?_cons];cases decide (z.1=k)with
  |true=>rfl
  |false=>exact ih
theorem OS (d:DD) (k:Key) (p:PV) (h1:d.length<=m) (h2:∀kp∈d,kp.2.length<=m):(nY d k p).length<=m+1/\∀kp∈nY d k p,kp.2.length<=m+1:=by
 unfold nY;split
 .refine⟨by rw[aj];omega,fun kp hk=>?_⟩;obtain⟨z,hz,rfl⟩:=bh.mp hk;have:=h2 z hz;split
  .rw[bq];simp only[length_cons,length_nil];omega
  .omega
 .refine⟨by rw[bq];simp only[length_cons,length_nil];omega,fun kp hk=>?_⟩;rcases bp.mp hk with h|h
  .have:=h2 kp h;omega
  .rw[cc.mp h];simp
theorem QL (ts:List oA):(FP ts).length<=ts.length/\∀kp∈FP ts,kp.2.length<=ts.length:=by
 have key:∀(ts:List oA) (d:DD) (m:Nat),d.length<=m->(∀kp∈d,kp.2.length<=m)->(ts.foldl (fun d t=>nY d (Sum.inr t.key) (tP t)) d).length<=m+ts.length/\∀kp∈ts.foldl (fun d t=>nY d (Sum.inr t.key) (tP t)) d,kp.2.length<=m+ts.length:=by
  intro ts
  induction ts with
  |nil=>intro d m h1 h2;exact⟨h1,h2⟩
  |cons t ts ih=>
   intro d m h1 h2;obtain⟨g1,g2⟩:=OS d (Sum.inr t.key) (tP t) h1 h2;have:=ih _ (m+1) g1 g2;rw[foldl_cons,length_cons];rw[show m+(ts.length+1)=m+1+ts.length by omega];exact this
 have:=key ts [] 0 (bj _) (fun _ h=>(nomatch h));rw[fy]at this;exact this
theorem w5 {own:Str} {row:List Str}:∀k,k<=row.length->(CS own row k).Nodup/\∀x∈CS own row k,∃i,i<k/\row[i]? =some x/\x∉row.drop (i+1)
 |0,_=>⟨by unfold CS;simp,fun x h=>by unfold CS at h;simp at h⟩
 | k+1,hk=>by
  obtain⟨h1,h2⟩:=w5 (own:=own) (row:=row) k (by omega);have hx:row[k]? =some row[k]:=ag (by omega);rw[B7 hx];split
  .rename_i g;refine⟨ff.mpr ⟨h1,by simp,fun u hu v hv e=>?_⟩,fun x h=>?_⟩
   .have hv':v=row[k]:=by simpa using hv
    obtain⟨i,i1,i2,i3⟩:=h2 u hu;refine i3 ?_;rw[e,hv'];have:row[k]? =(row.drop (i+1))[k - (i+1)]?:=by rw[jh];congr 1;omega
    exact ba (this.symm.trans hx)
   .rcases bp.mp h with h|h
    .obtain⟨i,i1,i2,i3⟩:=h2 x h;exact⟨i,by omega,i2,i3⟩
    .have:x=row[k]:=by simpa using h
     exact⟨k,by omega,by rw[this];exact hx,by rw[this];exact g.2⟩
  .refine⟨by rw[gj];exact h1,fun x h=>?_⟩;rw[gj]at h;obtain⟨i,i1,i2,i3⟩:=h2 x h;exact⟨i,by omega,i2,i3⟩
theorem M9 (l:Let):(el l).Nodup:=(w5 _ (bj _)).1
end
section
open PySem L2 Mr
theorem YS (t:oA):pB 3 (tP t)=true:=rfl
theorem aaC (l k:oA):(qF 3 (tP l) (tP k)).isSome=true:=by
 show(c6 (qF 2) [PV.int l.day,PV.str l.name,PV.int l.at'] [PV.int k.day,PV.str k.name,PV.int k.at']).isSome=true;unfold c6;split
 .unfold c6;split
  .unfold c6;split
   .rfl
   .rfl
  .rfl
 .rfl
theorem OI (ls:List oA):dW 3 (ls.map tP)=true:=bb.mpr fun p hp=>by
 obtain⟨l,_,rfl⟩:=bh.mp hp;rw[bz];refine⟨YS l,bb.mpr fun q hq=>?_⟩;obtain⟨k,_,rfl⟩:=bh.mp hq;exact aaC l k
noncomputable abbrev N5 (ts:List oA):List PV:=A9 3 (ts.map tP)
theorem KC (hr:∀l∈qs,l.row.length<=9) (hl:qs.length<=100) (i:Nat):(((st qs).take i).flatMap FZ).length<=900:=by
 have:=GN (f:=FZ) (k:=9) (xs:=(st qs).take i) fun l h=>by
  have:=hr l (gA (fx h));have:=NJ l;have:=PB l;omega
 rw[di]at this;have:=zF qs;omega
theorem yW (hr:∀l∈qs,l.row.length<=9) (hl:qs.length<=100) (q:Q (.a9 ((FP (l5 qs)).map fun kp=>(kp.1,PV.lst kp.2)),[])):Wp (gC [.tup (qs.map lP)]) Q:=by
 unfold gC nH;walk_at "wp";refine hV hl ?_;walk_at "wp";refine CD (fun i e d=>d=FP (((st qs).take i).flatMap FZ)/\∃v2 v3 v4,e=[some (Sl.val (PV.tup (qs.map lP))),none,v2,v3,v4]) ?_ ?_ ⟨rfl,_,_,_,rfl⟩
 .rintro i p e d hx ⟨rfl,v2,v3,v4,rfl⟩;rw[az]at hx;obtain⟨l,hk,rfl⟩:=cu.mp hx;have hrow:=hr l (gA (ba hk));have b1:=KC hr hl i;walk_at "wp";refine rB (l:=l) hrow ?_;walk_at "wp";refine CD (fun j e d=>d=FP (((st qs).take i).flatMap FZ++vU l j)/\∃v3 v4,e=[some (Sl.val (PV.tup (qs.map lP))),none,some (Sl.val (lP l)),v3,v4]) ?_ ?_ ⟨by rw[show vU l 0=[]from rfl,gj],_,_,rfl⟩
  .rintro j p e d hx ⟨rfl,v3,v4,rfl⟩;rw[az,ke,az]at hx;cases hn:(el l)[j]? with
   |none=>rw[hn]at hx;cases hx
   | some n=>
    rw[hn]at hx;cases hx;have hs:=II hn;have b2:=AV l j;have b3:=NJ l;have g:=QL (((st qs).take i).flatMap FZ++vU l j);rw[bq]at g;rw[show lP l=PV.tup [PV.str l.name,PV.int l.day,PV.str l.head,PV.tup (l.row.map PV.str)]from rfl];walk_at "wp";rw[hs,fy];refine⟨fun hj=>?_,fun hj=>?_⟩
    .have hj':0<j:=by omega
     refine⟨⟨by omega,bb.mpr fun kp hkp=>decide_eq_true (by have:=g.2 kp hkp;omega)⟩,?_,_,_,rfl⟩;rw[ai hj',<-de,KL];rfl
    .have hj':¬0<j:=by omega
     refine⟨?_,_,_,rfl⟩;rw[ah hj',gj]
  .rintro e d ⟨rfl,v3,v4,rfl⟩;walk_at "wp";rw[km,aj,BC,NC hk];exact⟨rfl,_,_,_,rfl⟩
 .rintro e d ⟨rfl,v2,v3,v4,rfl⟩;rw[aj,dq];walk_at "wp";exact q
end
section
open PySem L2 Mr
theorem LL {ks:List Str}:y∈oW ks x↔y∈ks\/ y=x:=by
 unfold oW;split
 .rename_i h;exact⟨.inl,fun z=>z.elim id fun e=>by rw[e];exact h⟩
 .rw[bp,cc]
theorem pF:y∈b8 xs↔y∈xs:=by
 have key:∀(l k:List Str),y∈l.foldl oW k↔y∈k\/ y∈l:=by
  intro l
  induction l with
  |nil=>intro k;simp
  |cons x l ih=>
   intro k;rw[foldl_cons,ih,LL,br,or_assoc]
 have:=key xs [];simpa [b8]using this
theorem q5 (xs:List Str):(b8 xs).Nodup:=by
 have key:∀(l k:List Str),k.Nodup->(l.foldl oW k).Nodup:=by
  intro l
  induction l with
  |nil=>intro k h;exact h
  | cons x l ih=>
   intro k h;rw[foldl_cons];refine ih _ ?_;unfold oW;split
   .exact h
   .rename_i hx;refine ff.mpr ⟨h,by simp,fun u hu v hv e=>?_⟩;have:v=x:=by simpa using hv
    rw[e,this]at hu;exact hx hu
 exact key xs [] nodup_nil
theorem JO (qs:List Let):(st qs).map (·.name)=b8 (qs.map (·.name)):=by
 have key:∀(xs k:List Let),(xs.foldl fA k).map (·.name)=(xs.map (·.name)).foldl oW (k.map (·.name)):=by
  intro xs
  induction xs with
  |nil=>intro k;rfl
  | cons x xs ih=>
   intro k;rw[foldl_cons,ih,cq,foldl_cons];congr 1;unfold fA oW
   by_cases h:x.name∈k.map (·.name)
   .have:(k.any fun y=>decide (y.name=x.name))=true:=by
     obtain⟨y,hy,e⟩:=bh.mp h;exact iw.mpr ⟨y,hy,decide_eq_true e⟩
    rw[ai this,ai h]
   .have:¬(k.any fun y=>decide (y.name=x.name))=true:=fun z=>by
     obtain⟨y,hy,e⟩:=iw.mp z;exact h (bh.mpr ⟨y,hy,ao e⟩)
    rw[ah this,ah h,bu];rfl
 exact key qs []
theorem LD (qs:List Let):((st qs).map (·.name)).Nodup:=by rw[JO];exact q5 _
noncomputable def IV (ls:List Let):List (Key×PV):=ls.map fun l=>(Sum.inr l.name,PV.tup ((el l).map PV.str))
theorem RP {l:Let} (h:l.name∉ls.map (·.name)):e8 (IV ls) (Sum.inr l.name) (PV.tup ((el l).map PV.str))=IV (ls++[l]):=by
 unfold e8;have e:((IV ls).any fun kv=>decide (kv.1=Sum.inr l.name))=false:=by
  unfold IV;rw[any_map,jx];intro k hk;have:k.name≠l.name:=fun z=>h (bh.mpr ⟨k,hk,z⟩)
  simp[this]
 rw[e,ah av];unfold IV;rw[bu];rfl
theorem yF (ls:List Let) (x:Str):bY (IV ls) (Sum.inr x)=(ls.find? fun l=>decide (l.name=x)).map fun l=>PV.tup ((el l).map PV.str):=by
 unfold bY IV
 induction ls with
 |nil=>rfl
 | cons l ls ih=>
  rw[cq,find?_cons,find?_cons]
  by_cases h:l.name=x
  .subst h;simp
  .have h':¬(Sum.inr l.name:Key)=Sum.inr x:=fun z=>h (Sum.inr.inj z)
   rw[decide_eq_false h',decide_eq_false h];exact ih
theorem PC (hr:∀l∈qs,l.row.length<=9) (hl:qs.length<=100) (q:Q (.a9 (IV (st qs)),[])):Wp (lY [.tup (qs.map lP)]) Q:=by
 unfold lY rA;walk_at "wp";refine hV hl ?_;walk_at "wp";have sl:=zF qs;refine⟨by omega,?_⟩;refine jV (fun i d e=>d=IV ((st qs).take i)/\∃s,e=[s]) ?_ ?_ ⟨rfl,_,rfl⟩
 .rintro i x e d hx ⟨rfl,s,rfl⟩;rw[az]at hx;obtain⟨l,hk,rfl⟩:=cu.mp hx;have hrow:=hr l (gA (ba hk));have ok:=rB (l:=l) (Q:=fun w=>w=(PV.tup ((el l).map PV.str),[])) hrow rfl;rw[show lP l=PV.tup [PV.str l.name,PV.int l.day,PV.str l.head,PV.tup (l.row.map PV.str)]from rfl]at ok⊢
  walk_at "wp";refine ok.mono fun w hw=>?_
  subst hw;walk_at "wp";refine⟨?_,_,rfl⟩;have nd:=LD qs;have hn:l.name∉((st qs).take i).map (·.name):=fun z=>by
   obtain⟨k,hk2,e⟩:=bh.mp z;obtain⟨j,hj⟩:=List.mem_iff_getElem?.mp hk2;rw[gf]at hj;have hji:j<i:=cz fun z=>by rw[ah z]at hj;cases hj
   rw[ai hji]at hj;have e1:((st qs).map (·.name))[j]? =some l.name:=by rw[az,hj];simp[e]
   have e2:((st qs).map (·.name))[i]? =some l.name:=by rw[az,hk];rfl
   have hlt:j<((st qs).map (·.name)).length:=(ae.mp e1).1;have:=(jy hlt nd).mp (e1.trans e2.symm);omega
  rw[RP hn,take_succ,hk];rfl
 .rintro d e ⟨rfl,s,rfl⟩;rw[aj,dq];walk_at "wp";exact q
end
section
open PySem L2 Mr
theorem A6 {held:List (Key×PV)} {v:PV} (h:bY held (Sum.inr x)=some v) (q:Q (.tup [v,.tup [.str (Str.ofString "hand")]],[])):Wp (cE [.a9 held,.a9 rows,.a9 claimed,.str x]) Q:=by
 unfold cE j0;walk_at "wp";rw[h];walk_at "wp";exact⟨fun _=>q,fun z=>(by cases z)⟩
noncomputable def V9 (ps:List PV):PV:=match ps.getLast? with
 |some p=>.tup [p,.tup [.str (Str.ofString "own")]]
 |none=>.tup [.bH,.tup [.str (Str.ofString "first")]]
theorem RU {ps:List PV} {p:PV} (h:ps.getLast? =some p):oB ps (-1)=some p:=by
 have hne:ps≠[]:=fun z=>by rw[z]at h;cases h
 have hl:0<ps.length:=length_pos_iff.mpr hne;rw[List.getLast?_eq_getElem?]at h;unfold oB;have e:uC ps.length (-1)=some (ps.length - 1):=by
  unfold uC;rw[ah (by decide),ai (by omega)];congr 1;omega
 rw[e];exact h
theorem DU {held:List (Key×PV)} {ps:List PV} (h:bY held (Sum.inr x)=none) (hr:bY rows (Sum.inr x)=some (.tup ps)) (q:Q (V9 ps,[])):Wp (cE [.a9 held,.a9 rows,.a9 claimed,.str x]) Q:=by
 unfold cE j0;walk_at "wp";rw[h,hr];refine⟨fun z=>(by cases z),fun _=>⟨fun _=>?_,fun z=>(by cases z)⟩⟩;walk_at "wp";cases e:ps.getLast? with
 |none=>
  have hn:ps=[]:=List.getLast?_eq_none_iff.mp e;subst hn;exact⟨fun z=>(by cases z),fun _=>q⟩
 |some p=>
  have hn:ps.isEmpty=false:=by cases ps with|nil=>cases e|cons a r=>rfl
  unfold V9 at q;rw[e]at q;refine⟨fun _=>?_,fun z=>by rw[hn]at z;cases z⟩;rw[RU e];walk_at "wp";exact q
theorem B9 {held:List (Key×PV)} {one:Str} {at':Int} {ts r:List PV} {e:PV} (h:bY held (Sum.inr x)=none) (hr:bY rows (Sum.inr x)=none) (hc:bY claimed (Sum.inr x)=some (.lst ts)) (h0:0<ts.length) (ok:dW 3 ts=true)
  (hm:yV ts= .tup [.int d,.str one,.int at']) (ho:bY rows (Sum.inr one)=some (.tup r)) (he:oB r (at' - 1)=some e) (q:Q (.tup [e,.tup [.str (Str.ofString "told"),.str one,.int at']],[])):Wp (cE [.a9 held,.a9 rows,.a9 claimed,.str x]) Q:=by
 unfold cE j0;walk_at "wp";rw[h,hr,hc];refine⟨fun z=>(by cases z),fun _=>⟨fun z=>(by cases z),fun _=>⟨fun _=>?_,fun z=>(by cases z)⟩⟩⟩;walk_at "wp";rw[hm];refine⟨⟨h0,ok⟩,?_⟩;walk_at "wp";rw[ho];walk_at "wp";rw[he];walk_at "wp";exact q
end
section
open PySem L2 Mr
theorem F4 (d:List (Key×PV)) (k k':Key) (v:PV):bY (e8 d k v) k'=if k=k' then some v else bY d k':=by
 unfold e8;cases c:d.any fun kv=>decide (kv.1=k)with
 | true=>
  rw[ai rfl];have key:∀d:List (Key×PV),(d.map fun kv=>if kv.1=k then(kv.1,v)else kv).find? (fun kp=>decide (kp.1=k'))=(d.find? fun kp=>decide (kp.1=k')).map fun kv=>if kv.1=k then(kv.1,v)else kv:=by
   intro d
   induction d with
   |nil=>rfl
   |cons z d ih=>
    have e1:(if z.1=k then(z.1,v)else z).1=z.1:=by split<;>rfl
    rw[cq,find?_cons,find?_cons,e1];cases decide (z.1=k')with
    |true=>rfl
    |false=>exact ih
  unfold bY;rw[key]
  by_cases hk:k=k'
  .subst hk;rw[ai rfl];cases f:d.find? fun kp=>decide (kp.1=k)with
   |none=>
    have:=ip.mp f;obtain⟨z,hz,e⟩:=iw.mp c;exact absurd e (by simpa using this z hz)
   |some z=>
    have hz:z.1=k:=by have:=jt f;simpa using this
    simp[hz]
  .rw[ah hk];cases f:d.find? fun kp=>decide (kp.1=k')with
   |none=>rfl
   |some z=>
    have hz:z.1=k':=by have:=jt f;simpa using this
    have:¬z.1=k:=fun e=>hk (e.symm.trans hz)
    simp[this]
 | false=>
  rw[ah av];unfold bY;rw[List.find?_append]
  by_cases hk:k=k'
  .subst hk;rw[ai rfl];have f:(d.find? fun kp=>decide (kp.1=k))=none:=ip.mpr fun z hz=>by
    have:=jx.mp c z hz;simpa using this
   rw[f];simp
  .rw[ah hk];have f:([(k,v)]:List (Key×PV)).find? (fun kp=>decide (kp.1=k'))=none:=by simp[hk]
   rw[f,or_none]
noncomputable def heldOf (ks:Hl):List (Key×PV):=ks.foldl (fun d z=>e8 d (Sum.inr z.1) (oP z.2)) []
theorem yO:∀(ks:Hl) (d:List (Key×PV)),(∀z∈ks,z.1≠x)->bY (ks.foldl (fun d z=>e8 d (Sum.inr z.1) (oP z.2)) d) (Sum.inr x)=bY d (Sum.inr x)
 |[],d,_=>rfl
 |z::ks,d,h=>by
  rw[foldl_cons,yO ks _ fun y hy=>h y (ax _ hy),F4,ah fun e=>h z bf (Sum.inr.inj e)]
theorem JE (h:∀z∈ks,z.1≠x):bY (heldOf ks) (Sum.inr x)=none:=yO ks [] h
theorem GH:∀(ks:Hl) (d:List (Key×PV)),(∀z∈ks,z.1=x->z.2=o)->(x,o)∈ks->bY (ks.foldl (fun d z=>e8 d (Sum.inr z.1) (oP z.2)) d) (Sum.inr x)=some (oP o)
 | z::ks,d,h,hm=>by
  rw[foldl_cons]
  by_cases hin:(x,o)∈ks
  .exact GH ks _ (fun y hy=>h y (ax _ hy)) hin
  .have hz:z=(x,o):=((br.mp hm).resolve_right hin).symm;rw[yO ks _ fun y hy e=>hin (by have:=h y (ax _ hy) e;rw[<-e,<-this];exact hy),F4,hz,ai rfl]
theorem HY (h:∀z∈ks,z.1=x->z.2=o) (hm:(x,o)∈ks):bY (heldOf ks) (Sum.inr x)=some (oP o):=GH ks [] h hm
end
section
open PySem L2 Mr
noncomputable def sY (ab:Hl) (x:Str):Option Str:=(ab.find? fun z=>decide (z.1=x)).bind (·.2)
theorem OG (ab:Hl) (x:Str):(bY (u3 ab) (Sum.inr x)).getD .bH=oP (sY ab x):=by
 unfold bY u3 sY
 induction ab with
 |nil=>rfl
 | cons z ab ih=>
  rw[cq,find?_cons,find?_cons]
  by_cases h:z.1=x
  .have e1:decide ((Sum.inr z.1:Key)=Sum.inr x)=true:=decide_eq_true (by rw[h]);have e2:decide (z.1=x)=true:=decide_eq_true h;simp only[e1,e2];rfl
  .have e1:decide ((Sum.inr z.1:Key)=Sum.inr x)=false:=decide_eq_false fun e=>h (Sum.inr.inj e)
   have e2:decide (z.1=x)=false:=decide_eq_false h;simp only[e1,e2];exact ih
theorem NA (ab:Hl):((u3 ab).map fun kv=>J1 kv.1)=(ab.map (·.1)).map PV.str:=by
 unfold u3;rw[jk,jk];rfl
theorem VH (ab:Hl) (x:Str):(bY (u3 ab) (Sum.inr x)).isSome=decide (x∈ab.map (·.1)):=by
 rcases GG ab x with⟨h1,h2⟩|⟨o,h1,h2⟩
 .rw[h1,decide_eq_false h2];rfl
 .rw[h1,decide_eq_true (bh.mpr ⟨_,h2,rfl⟩)];rfl
noncomputable abbrev rP (r:List Str):PV:=.lst (r.map PV.str)
noncomputable def eT (ab:Hl):List Str:=ab.map (·.1)++ab.filterMap (·.2)
theorem oR (ab:Hl):(eT ab).length<=2*ab.length:=by
 unfold eT;rw[bq,aj];have:=List.length_filterMap_le (·.2:Str×Option Str->Option Str) ab;omega
theorem UO {ab:Hl} {x:Str} (h:sY ab x=some y):y∈eT ab:=by
 unfold sY at h;cases c:ab.find? fun z=>decide (z.1=x)with
 |none=>rw[c]at h;cases h
 |some z=>
  rw[c]at h;exact bg _ (jg.mpr ⟨z,fu c,h⟩)
structure Clm (ab:Hl) (ms:Hl) (start:Str) (l:List Str) (nm:Option Str):Prop where
 path:Rg.Path (sY ab) l nm
 nil:l=[]->nm=some start
 nd:(ms.map (·.1)++l).Nodup
 sub:∀x∈l,x∈eT ab
 nms:∀x,nm=some x->x∈eT ab
 st:l≠[]->start∈l
noncomputable def oQ (ms:Hl) (start:Str) (l:List Str):Hl:=ms++l.map fun x=>(x,some start)
theorem dU (ms:Hl) (start:Str) (l:List Str):(oQ ms start l).map (·.1)=ms.map (·.1)++l:=by
 unfold oQ;rw[bu,jk];congr 1;exact map_id' _
noncomputable def yM:FS:=(mL (EG (bX (bA (W7 true) (aC 5) (fC .bH))) (bX (bA (IX true) (aC 5) (aC 1)))) (aY (iL 1 (aC 5) (aC 3))
  (aY (rS 4 (aC 5))
  (cK 5 (EN (aC 0) (aC 5))))) 1000)
noncomputable def DQ:FS:=(wG (EG (bX (bA (W7 true) (aC 5) (fC .bH))) (bX (bA OE (bA dA (aC 1) (aC 5)) (aC 3)))) (rS 2 (JM JJ (aC 4) (jM (nN (aC 4) (aC 5))) eW)) dY)
theorem EC:pI=(aY (eJ 1 vL)
  (aY (eJ 2 (gB aN))
  (aY (nZ (wZ (aC 0)) (a6 3) (aY (eJ 4 (gB aN))
  (aY (cK 5 (aC 3))
  (aY yM DQ))))
  (c9 (aC 2))))):=rfl
noncomputable abbrev uQ (ab met:Hl) (F:List (List Str)) (start:Str) (l:List Str) (nm:Option Str):En:=
 [some (.bor (.a9 (u3 ab))),some (.loc (.a9 (u3 met))),some (.loc (.lst (F.map rP))),some (.val (.str start)),some (.loc (.lst (l.map PV.str))),some (.val (oP nm))]
noncomputable def U2 (e:En):Nat:=match e[4]? with
 |some (some (Sl.loc (PV.lst ps)))=>ps.length
 |_=>0
theorem OB {ms:Hl} {start:Str} {Q:Out->Prop} (hl:ab.length<=400) (hm:ms.length<=2*ab.length) (hms:∀x∈ms.map (·.1),x∈eT ab) (hs:start∈eT ab) (hnd:(ms.map (·.1)).Nodup)
  (q:∀l nm,Clm ab ms start l nm->(∀x,nm=some x->x∈ms.map (·.1)++l)->Q (.nx (uQ ab (oQ ms start l) F start l nm))):
  Wp (yM (uQ ab ms F start [] (some start))) Q:=by
 unfold yM;have len:∀{l:List Str} {nm:Option Str},Clm ab ms start l nm->ms.length+l.length<=2*ab.length:=fun{l nm} c=>by
  have h1:=iU c.nd (m:=eT ab) fun x hx=>(bp.mp hx).elim (hms x) (c.sub x)
  rw[bq,aj]at h1;have:=oR ab;omega
 refine uM (fun e=>∃l nm,Clm ab ms start l nm/\e=uQ ab (oQ ms start l) F start l nm) (fun e=>2*ab.length+1 - U2 e) ?_ ?_ ⟨[],some start,⟨trivial,fun _=>rfl,by rw[gj];exact hnd,(fun _ h=>nomatch h),(fun x e=>by cases e;exact hs),fun h=>absurd rfl h⟩,by unfold oQ;rw[map_nil,gj]⟩
 .rintro e ⟨l,nm,c,rfl⟩;have hle:=len c;cases nm with
  |none=>
   have eo:oP none=PV.bH:=rfl;have:=q l none c (fun _ e=>nomatch e);unfold uQ at this⊢
   rw[eo]at this⊢
   walk_at "wp";exact this
  | some x=>
   have eo:oP (some x)=PV.str x:=rfl;unfold uQ;rw[eo];walk_at "wp";rw[VH,dU]
   by_cases hx:x∈ms.map (·.1)++l
   .rw[decide_eq_true hx];exact q l (some x) c fun y e=>by cases e;exact hx
   .rw[decide_eq_false hx];have hxl:x∉l:=fun h=>hx (bg _ h)
    have pt:e8 (u3 (oQ ms start l)) (Sum.inr x) (PV.str start)=u3 (oQ ms start (l++[x])):=by
     have:=F1 (hs:=oQ ms start l) (x:=x) (o:=some start) (by rw[dU];exact hx);rw[show oP (some start)=PV.str start from rfl]at this;rw[this];unfold oQ;rw[bu,de];rfl
    have kl:(u3 (oQ ms start l)).length=ms.length+l.length:=by unfold u3 oQ;rw[aj,bq,aj]
    refine⟨by rw[kl];omega,by omega,⟨l++[x],sY ab x,⟨c.path.snoc rfl,fun h=>absurd h (by simp),?_,?_,fun y e=>UO e,fun _=>?_⟩,?_⟩,?_⟩
    .rw[<-de];refine ff.mpr ⟨c.nd,by simp,fun u hu w hw e=>?_⟩;rw[cc.mp hw]at e;rw[e]at hu;exact hx hu
    .intro y hy;rcases bp.mp hy with hy|hy
     .exact c.sub y hy
     .rw[cc.mp hy];exact c.nms x rfl
    .by_cases h:l=[]
     .have:=c.nil h;cases this;simp
     .exact bw _ (c.st h)
    .rw[pt,OG,bu];rfl
    .show 2*ab.length+1 - (l.map PV.str++[PV.str x]).length<2*ab.length+1 - (l.map PV.str).length;rw[bq,aj];simp only[length_cons,length_nil];omega
 .show 2*ab.length+1 - 0<1000;omega
theorem QI {ms:Hl} {start:Str} {l:List Str} {nm:Option Str} {Q:Out->Prop} (c:Clm ab ms start l nm) (hn:∀x,nm=some x->x∈ms.map (·.1)++l) (hst:∀z∈ms,z.2≠some start) (hsm:∀z∈ms,∃y,z.2=some y)
  (hl:l.length<1000) (hF:F.length<1000) (f:Rg.Found (sY ab) (ms.map (·.1)) F) (q:∀G,Rg.Found (sY ab) (ms.map (·.1)++l) G->G.length<=F.length+1->Q (.nx (uQ ab (oQ ms start l) G start l nm))):
  Wp (DQ (uQ ab (oQ ms start l) F start l nm)) Q:=by
 unfold DQ;have dj:∀x∈l,x∉ms.map (·.1):=fun x hx h=>(ff.mp c.nd).2.2 x h x hx rfl
 cases nm with
 |none=>
  have:=q F (f.out c.path dj fun y e=>nomatch e) (by omega);have eo:oP none=PV.bH:=rfl;unfold uQ at this⊢
  rw[eo]at this⊢
  walk_at "wp";exact this
 | some x=>
  have eo:oP (some x)=PV.str x:=rfl;have hx:=hn x rfl;unfold uQ;rw[eo];walk_at "wp";rcases GG (oQ ms start l) x with⟨_,h2⟩|⟨o,h1,h2⟩
  .rw[dU]at h2;exact absurd hx h2
  .rw[h1];rcases bp.mp h2 with h2|h2
   .obtain⟨y,hy⟩:=hsm _ h2;have hy:o=some y:=hy;have hne:y≠start:=fun e=>hst _ h2 (by rw[<-e];exact hy)
    have:=q F (f.out c.path dj fun w e=>by cases e;exact bh.mpr ⟨_,h2,rfl⟩) (by omega);unfold uQ at this;rw[eo]at this;subst hy;rw[show oP (some y)=PV.str y from rfl];walk_at "wp";refine⟨fun h=>absurd (eq_of_beq h) hne,fun _=>this⟩
   .obtain⟨w,hw,ew⟩:=bh.mp h2;cases ew;rw[show oP (some start)=PV.str start from rfl];walk_at "wp";rw[nR];walk_at "wp";refine⟨⟨hw,by omega⟩,by omega,?_⟩;have hi:l.idxOf x<l.length:=List.idxOf_lt_length_iff.mpr hw;have hh:(l.drop (l.idxOf x)).head? =some x:=by
     rw[head?_drop,ag hi,List.getElem_idxOf]
    have hf:=f.ZO (p:=l.take (l.idxOf x)) (r:=l.drop (l.idxOf x)) (fun e=>by rw[e]at hh;cases hh) (by rw[hh,cp];exact c.path) (by rw[cp];exact(ff.mp c.nd).2.1) (by rw[cp];exact dj);rw[cp]at hf;have:=q _ hf (by rw[bq];exact bj _);unfold uQ at this;rw[eo,bu]at this;rw[qT,<-map_drop];exact this
theorem B3 (hl:ab.length<=400) (hk:(ab.map (·.1)).Nodup) (q:∀(S:List Str) (F:List (List Str)),Rg.Found (sY ab) S F->(∀x∈ab.map (·.1),x∈S)->(∀x∈S,x∈eT ab)->Q (.lst (F.map rP),[])):Wp (iJ [.a9 (u3 ab)]) Q:=by
 unfold iJ;rw[EC];walk_at "wp";rw[NA];refine dS (fun i e=>∃(ms:Hl) (F:List (List Str)) (v3 v4 v5:Option Sl),e=[some (.bor (.a9 (u3 ab))),some (.loc (.a9 (u3 ms))),some (.loc (.lst (F.map rP))),v3,v4,v5]/\Rg.Found (sY ab) (ms.map (·.1)) F/\F.length<=i/\(ms.map (·.1)).Nodup/\
  (∀x∈ms.map (·.1),x∈eT ab)/\(∀z∈ms,∃(j:Nat) (y:Str),j<i/\z.2=some y/\(ab.map (·.1))[j]? =some y)/\∀(j:Nat) (x:Str),j<i->(ab.map (·.1))[j]? =some x->x∈ms.map (·.1)) ?_ ?_ ⟨[],[],none,none,none,rfl,Rg.Found.nil,bj _,nodup_nil,(fun _ h=>nomatch h),(fun _ h=>nomatch h),fun j _ h=>absurd h (Nat.not_lt_zero _)⟩
 .rintro i p e hp ⟨ms,F,v3,v4,v5,rfl,hf,hF,hnd,hsub,hst,hdone⟩;rw[az]at hp;obtain⟨start,hs,rfl⟩:=cu.mp hp;have hil:i<ab.length:=by have:=(ae.mp hs).1;rwa[aj]at this
  have hsA:start∈eT ab:=bw _ (ba hs);have hml:ms.length<=2*ab.length:=by
   have h1:=iU hnd (m:=eT ab) hsub;rw[aj]at h1;have:=oR ab;omega
  walk_at "wp";refine OB (F:=F) hl hml hsub hsA hnd fun l nm c hn=>?_
  have hll:l.length<=2*ab.length:=by
   have h1:=iU (ff.mp c.nd).2.1 (m:=eT ab) c.sub;have:=oR ab;omega
  refine QI c hn (fun z hz e=>?_) (fun z hz=>let⟨_,y,_,h,_⟩:=hst z hz;⟨y,h⟩) (by omega) (by omega) hf fun G hG hGl=>?_
  .obtain⟨j,y,hj,h1,h2⟩:=hst z hz;rw[e]at h1;cases h1;have e1:=(jy (by rw[aj];omega) hk).mp (h2.trans hs.symm);omega
  .refine⟨oQ ms start l,G,_,_,_,rfl,by rw[dU];exact hG,by omega,by rw[dU];exact c.nd,fun x hx=>?_,fun z hz=>?_,fun j x hj hx=>?_⟩
   .rw[dU]at hx;exact(bp.mp hx).elim (hsub x) (c.sub x)
   .rcases bp.mp hz with hz|hz
    .obtain⟨j,y,h1,h2⟩:=hst z hz;exact⟨j,y,by omega,h2⟩
    .obtain⟨w,_,rfl⟩:=bh.mp hz;exact⟨i,start,by omega,rfl,hs⟩
   .rw[dU]
    by_cases hj':j=i
    .subst hj';rw[hs]at hx;cases hx
     by_cases h:l=[]
     .have h1:=hn start (by rw[c.nil h]);exact h1
     .exact bg _ (c.st h)
    .exact bw _ (hdone j x (by omega) hx)
 .rintro e ⟨ms,F,v3,v4,v5,rfl,hf,hF,hnd,hsub,hst,hdone⟩;walk_at "wp";refine q _ F hf (fun x hx=>?_) hsub;obtain⟨j,hj⟩:=du hx;have:=(ae.mp hj).1;exact hdone j x (by rw[aj];exact this) hj
end
section
open PySem L2 Mr
noncomputable abbrev TH (qs:List Let):List (Key×PV):=(FP (l5 qs)).map fun kp=>(kp.1,PV.lst kp.2)
noncomputable def gJ (f:Str->PV) (ns:List Str):List (Key×PV):=ns.map fun x=>(Sum.inr x,f x)
theorem zY (h:x∉ns):e8 (gJ f ns) (Sum.inr x) (f x)=gJ f (ns++[x]):=by
 unfold e8;have e:((gJ f ns).any fun kv=>decide (kv.1=Sum.inr x))=false:=by
  unfold gJ;rw[any_map,jx];intro z hz;simp only[Function.comp,decide_eq_true_eq];intro e;rw[Sum.inr.inj e]at hz;exact h hz
 rw[ah (by rw[e];exact av)];unfold gJ;rw[bu];rfl
theorem vM (hr:∀l∈qs,l.row.length<=9) (hl:qs.length<=100) (hk:ks.length<=100) (hn:ns.Nodup) (hnl:ns.length<=200)
  (hc:∀x∈ns,∀R:PV×List PV->Prop,R (f x,[])->Wp (cE [.a9 (heldOf ks),.a9 (IV (st qs)),.a9 (TH qs),.str x]) R) (q:Q (.a9 (gJ f ns),[])):Wp (gO [.tup (qs.map lP),.tup (mP ks),.tup (ns.map PV.str)]) Q:=by
 unfold gO rV;walk_at "wp";refine⟨by unfold mP;rw[aj];omega,?_⟩;refine jV (fun i d e=>d=heldOf (ks.take i)/\∃s t,e=[s,t]) ?_ ?_ ⟨rfl,_,_,rfl⟩
 .rintro i p e d hx ⟨rfl,s,t,rfl⟩;unfold mP at hx;rw[az]at hx;obtain⟨z,hz,rfl⟩:=cu.mp hx;walk_at "wp";refine⟨?_,_,_,rfl⟩;unfold heldOf;rw[take_succ,hz,toList_some,foldl_append];rfl
 .rintro d e ⟨rfl,s,t,rfl⟩;rw[show(mP ks).length=ks.length by unfold mP;rw[aj],dq];walk_at "wp";refine PC hr hl ?_;walk_at "wp";refine yW hr hl ?_;walk_at "wp";refine⟨by omega,?_⟩;refine jV (fun i d e=>d=gJ f (ns.take i)/\∃s,e=[s,some (Sl.val (.a9 (heldOf ks))),some (Sl.val (.a9 (IV (st qs)))),some (Sl.val (.a9 (TH qs)))]) ?_ ?_ ⟨rfl,_,rfl⟩
  .rintro i p e d hx ⟨rfl,s,rfl⟩;rw[az]at hx;obtain⟨x,hxe,rfl⟩:=cu.mp hx;have hi:=(ae.mp hxe).1;have nx:x∉ns.take i:=fun h=>by
    obtain⟨j,hj⟩:=du h;rw[gf]at hj;split at hj
    .have:=(jy (by omega) hn).mp (hj.trans hxe.symm);omega
    .cases hj
   walk_at "wp";refine hc x (ba hxe) _ ?_;walk_at "wp";exact⟨by rw[zY nx,gn,hxe];rfl,_,rfl⟩
  .rintro d e ⟨rfl,s,rfl⟩;rw[aj,dq];walk_at "wp";exact q
end
section
open PySem L2 Mr
structure Ch where
 e:Option Str
 r:PV
noncomputable def LS (ts:List oA):Option oA:=ts[argBest (BN (ts.map tP)) (ts.length - 1)]?
noncomputable def EE (qs:List Let) (t:oA):Option Str:=((st qs).find? fun l=>decide (l.name=t.name)).bind fun l=>(el l)[(t.at' - 1).toNat]?
noncomputable abbrev K1:PV:=.tup [.str (Str.ofString "hand")]
noncomputable abbrev XU:PV:=.tup [.str (Str.ofString "own")]
noncomputable abbrev rJ:PV:=.tup [.str (Str.ofString "first")]
noncomputable def tD (qs:List Let) (ks:Hl) (x:Str):Ch:=match ks.find? fun z=>decide (z.1=x)with
 |some z=>⟨z.2,K1⟩
 | none=>match(st qs).find? fun l=>decide (l.name=x)with
  |some l=>(match(el l).getLast? with
   |some y=>⟨some y,XU⟩
   |none=>⟨none,rJ⟩)
  |none=>match LS (CH x (l5 qs))with
   |some t=>⟨EE qs t,.tup [.str (Str.ofString "told"),.str t.name,.int t.at']⟩
   |none=>⟨none,rJ⟩
noncomputable def O5 (qs:List Let) (ks:Hl) (x:Str):PV:=.tup [oP (tD qs ks x).e,(tD qs ks x).r]
theorem D8 {l:Let} (h:t∈FZ l):t.name=l.name/\t.day=l.day/\∃i:Nat,t.at'=(i:Int)/\0<i/\(el l)[i]? =some t.key:=by
 unfold FZ at h;obtain⟨z,hz,e⟩:=jg.mp h;unfold trF at e;split at e
 .rename_i h0;cases e;obtain⟨i,hi⟩:=du hz;rw[ke]at hi;cases c:(el l)[i]? with
  |none=>rw[c]at hi;cases hi
  |some y=>
   rw[c]at hi;cases hi;exact⟨rfl,rfl,0+i,rfl,h0,by rw[fy];exact c⟩
 .cases e
theorem CU (h:t∈CH x (l5 qs)):t.key=x/\∃l∈st qs,t∈FZ l:=by
 unfold CH at h;obtain⟨h1,h2⟩:=mh.mp h;unfold l5 at h1;obtain⟨l,hl,ht⟩:=gv.mp h1;exact⟨ao h2,l,hl,ht⟩
theorem nQ {l:Let} (h:l∈st qs):(st qs).find? (fun k=>decide (k.name=l.name))=some l:=by
 have nd:=LD qs
 revert h nd
 generalize st qs=ls;intro h nd
 induction ls with
 |nil=>cases h
 | cons k ls ih=>
  rw[cq,fw]at nd;rw[find?_cons];rcases br.mp h with rfl|h
  .rw[decide_eq_true rfl]
  .have hne:k.name≠l.name:=fun e=>nd.1 (bh.mpr ⟨l,h,e.symm⟩)
   rw[decide_eq_false hne];exact ih h nd.2
theorem wQ (h:ts≠[]):∃t∈ts,LS ts=some t/\yV (ts.map tP)=tP t:=by
 have h0:0<ts.length:=length_pos_iff.mpr h;have hlt:argBest (BN (ts.map tP)) (ts.length - 1)<ts.length:=by have:=kN (BN (ts.map tP)) (ts.length - 1);omega
 refine⟨ts[argBest (BN (ts.map tP)) (ts.length - 1)],iu hlt,ag hlt,?_⟩;unfold yV;rw[aj,aq,az,ag hlt];rfl
theorem VN (ts:List oA):∀kp∈FP ts,kp.2≠[]:=by
 have key:∀(ts:List oA) (d:DD),(∀kp∈d,kp.2≠[])->∀kp∈ts.foldl (fun d t=>nY d (Sum.inr t.key) (tP t)) d,kp.2≠[]:=by
  intro ts
  induction ts with
  |nil=>intro d h;exact h
  | cons t ts ih=>
   intro d h;rw[foldl_cons];refine ih _ fun kp hkp=>?_
   unfold nY at hkp;split at hkp
   .obtain⟨k,hk,rfl⟩:=bh.mp hkp;split
    .simp
    .exact h k hk
   .rcases bp.mp hkp with h1|h1
    .exact h kp h1
    .rw[cc.mp h1];simp
 exact key ts [] (fun _ h=>nomatch h)
theorem O4 {qs:List Let} {x:Str} (h:CH x (l5 qs)≠[]):bY (TH qs) (Sum.inr x)=some (.lst ((CH x (l5 qs)).map tP)):=by
 have v:=LH (FP (l5 qs)) (Sum.inr x);rw[L5]at v;cases c:bY (TH qs) (Sum.inr x)with
 |none=>
  rw[c]at v;have e:=PV.lst.inj v;exact absurd (List.eq_nil_of_map_eq_nil e.symm) h
 |some p=>rw[c]at v;exact cn some v
theorem OH {qs:List Let} {x:Str} (h:CH x (l5 qs)=[]):bY (TH qs) (Sum.inr x)=none:=by
 have v:=LH (FP (l5 qs)) (Sum.inr x);rw[L5,h]at v;cases c:bY (TH qs) (Sum.inr x)with
 |none=>rfl
 |some p=>
  rw[c]at v;have e:p= .lst []:=v;unfold bY TH at c;obtain⟨kv,h1,h2⟩:=cu.mp c;have h3:=fu h1;obtain⟨kp,h4,rfl⟩:=bh.mp h3;rw[e]at h2;exact absurd (PV.lst.inj h2) (VN _ kp h4)
theorem zC {held:List (Key×PV)} (h:bY held (Sum.inr x)=none) (hr:bY rows (Sum.inr x)=none) (hc:bY claimed (Sum.inr x)=none) (q:Q (.tup [.bH,rJ],[])):Wp (cE [.a9 held,.a9 rows,.a9 claimed,.str x]) Q:=by
 unfold cE j0;walk_at "wp";rw[h,hr,hc];refine⟨fun z=>(by cases z),fun _=>⟨fun z=>(by cases z),fun _=>⟨fun z=>(by cases z),fun _=>?_⟩⟩⟩;exact q
theorem vT {qs:List Let} {ks:Hl} {x:Str} {R:PV×List PV->Prop} (hk:(ks.map (·.1)).Nodup) (r:R (O5 qs ks x,[])):Wp (cE [.a9 (heldOf ks),.a9 (IV (st qs)),.a9 (TH qs),.str x]) R:=by
 unfold O5 tD at r;cases e1:ks.find? fun z=>decide (z.1=x)with
 | some z=>
  rw[e1]at r;have hz:=fu e1;have hzx:z.1=x:=ao (by have:=jt e1;exact this);refine A6 (HY (o:=z.2) (fun w hw ew=>?_) (by rw[<-hzx];exact hz)) r;have key:∀(l:Hl),(l.map (·.1)).Nodup->∀a∈l,∀b∈l,a.1=b.1->a=b:=by
   intro l
   induction l with
   |nil=>intro _ a ha;cases ha
   | cons c l ih=>
    intro hn a ha b hb hab;rw[cq,fw]at hn;rcases br.mp ha with rfl|ha
    .rcases br.mp hb with rfl|hb
     .rfl
     .exact absurd (bh.mpr ⟨b,hb,hab.symm⟩) hn.1
    .rcases br.mp hb with e|hb
     .exact absurd (bh.mpr ⟨a,ha,by rw[hab,e]⟩) hn.1
     .exact ih hn.2 a ha b hb hab
  rw[key ks hk w hw z hz (ew.trans hzx.symm)]
 | none=>
  rw[e1]at r;have hnone:∀z∈ks,z.1≠x:=fun z hz e=>by
   have:=ip.mp e1 z hz;exact this (decide_eq_true e)
  have hh:=JE hnone;cases e2:(st qs).find? fun l=>decide (l.name=x)with
  |some l=>
   rw[e2]at r;refine DU (ps:=(el l).map PV.str) hh (by rw[yF,e2];rfl) ?_;unfold V9;rw[List.getLast?_map];dsimp only at r;cases e3:(el l).getLast? with
   |none=>rw[e3]at r;exact r
   |some y=>rw[e3]at r;exact r
  | none=>
   rw[e2]at r;have hrow:bY (IV (st qs)) (Sum.inr x)=none:=by rw[yF,e2];rfl
   by_cases hf:CH x (l5 qs)=[]
   .refine zC hh hrow (OH hf) ?_;rw[hf]at r;exact r
   .obtain⟨t,ht,em,emP⟩:=wQ hf;rw[em]at r;obtain⟨hkey,l,hl,htl⟩:=CU ht;obtain⟨hn1,_,i,hi,hi0,hel⟩:=D8 htl;have hil:i<(el l).length:=(ae.mp hel).1;have hfind:(st qs).find? (fun k=>decide (k.name=t.name))=some l:=by rw[hn1];exact nQ hl
    have hat:(t.at' - 1).toNat=i - 1:=by rw[hi];omega
    have hpre:(el l)[i - 1]? =some (el l)[i - 1]:=ag (by omega);have hE:EE qs t=some (el l)[i - 1]:=by unfold EE;rw[hfind,hat];exact hpre
    dsimp only at r;rw[hE]at r;refine B9 (one:=t.name) (at':=t.at') (d:=t.day) (r:=(el l).map PV.str) (e:=.str (el l)[i - 1]) hh hrow (O4 hf) (by rw[aj];exact length_pos_iff.mpr hf) (OI _) emP (by rw[yF,hfind];rfl) ?_ r;rw[hi,show((i:Int) - 1)=((i - 1:Nat):Int) by omega];refine eQ ?_;rw[az,hpre];rfl
end
section
open PySem L2 Mr
theorem jS (h:∀x∈xs,x∈ss):(b8 xs).length<=ss.length:=iU (q5 xs) fun x hx=>h x (pF.mp hx)
noncomputable def kT (ks:List Str):List (Key×PV):=ks.map fun x=>(Sum.inr x,PV.bl true)
theorem uZ (ks:List Str):(kT ks).length=ks.length:=by unfold kT;rw[aj]
theorem rO (ks:List Str) (x:Str):e8 (kT ks) (Sum.inr x) (.bl true)=kT (oW ks x):=by
 unfold e8 oW
 by_cases h:x∈ks
 .have e:((kT ks).any fun kv=>decide (kv.1=Sum.inr x))=true:=by
   unfold kT;rw[any_map,iw];exact⟨x,h,by simp⟩
  rw[e,ai rfl,ai h];unfold kT;rw[jk];refine jm fun y hy=>?_
  simp only[Function.comp_apply];split<;>rfl
 .have e:((kT ks).any fun kv=>decide (kv.1=Sum.inr x))=false:=by
   unfold kT;rw[any_map,jx];intro y hy;have:y≠x:=fun e=>h (e▸hy)
   simp[this]
  rw[e,ah av,ah h];unfold kT;rw[bu];rfl
theorem AI:∀ks:List Str,qO (kT ks)=some ks
 |[]=>rfl
 |x::ks=>by
  show bO (qO (kT ks)) (fun ss=>some (x::ss))=_;rw[AI ks];rfl
noncomputable def B4 (l:Let):List Str:=l.name::el l
noncomputable def AS (z:Str×Option Str):List Str:=z.1::z.2.toList
theorem EO {f:α->List Str} {xs:List α} {x:α} (h:xs[i]? =some x):(xs.take (i+1)).flatMap f=(xs.take i).flatMap f++f x:=by
 rw[take_succ,h,toList_some,List.flatMap_append];simp
theorem PK {own:Str} {row:List Str} {k:Nat} (h:x∈CS own row k):x∈row:=by
 unfold CS at h;obtain⟨i,_,hi⟩:=jg.mp h;cases c:row[i]? with
 |none=>rw[c]at hi;cases hi
 |some y=>
  rw[c,bind_some]at hi;split at hi
  .cases hi;exact ba c
  .cases hi
def Good (ss:List Str) (qs:List Let) (hs:Hl):Prop:=(∀l∈qs,l.row.length<=9/\l.name∈ss/\∀x∈l.row,x∈ss)/\∀z∈hs,z.1∈ss/\∀y,z.2=some y->y∈ss
theorem u5 (g:Good ss qs hs) {l:Let} (h:l∈st qs):∀x∈B4 l,x∈ss:=fun x hx=>by
 obtain⟨_,h2,h3⟩:=g.1 l (gA h);rcases br.mp hx with rfl|hx
 .exact h2
 .exact h3 x (PK hx)
theorem DZ (g:Good ss qs hs) {z:Str×Option Str} (h:z∈hs):∀x∈AS z,x∈ss:=fun x hx=>by
  obtain⟨h2,h3⟩:=g.2 z h;rcases br.mp hx with rfl|hx
  .exact h2
  . cases e:z.2 with
    |none=>rw[e]at hx;cases hx
    | some y => rw[e]at hx;have:x=y:=by simpa using hx
                rw[this];exact h3 y e
noncomputable def l4 (qs:List Let) (hs:Hl):List Str:=(st qs).flatMap B4++hs.flatMap AS
theorem xR (g:Good ss qs hs) (hl:qs.length<=100) (h60:ss.length<=124) (q:Q (.tup ((cI (b8 (l4 qs hs))).map PV.str),[])):Wp (jT [.tup (qs.map lP),.tup (mP hs)]) Q:=by
 unfold jT vB;walk_at "wp";refine hV hl ?_;walk_at "wp";refine dS (fun i e=>∃v3 v4 v5,e=[some (Sl.val (PV.tup (qs.map lP))),some (Sl.val (PV.tup (mP hs))),some (Sl.loc (PV.a9 (kT (b8 (((st qs).take i).flatMap B4))))),v3,v4,v5]) ?_ ?_ ⟨_,_,_,rfl⟩
 .rintro i p e hx ⟨v3,v4,v5,rfl⟩;rw[az]at hx;obtain⟨l,hk,rfl⟩:=cu.mp hx;have hm:=ba hk;have hrow:=(g.1 l (gA hm)).1;have sub:∀k,∀x∈((st qs).take k).flatMap B4,x∈ss:=fun k x hx=>by
   obtain⟨l',h1,h2⟩:=gv.mp hx;exact u5 g (fx h1) x h2
  have b1:=jS (sub i);rw[show lP l=PV.tup [PV.str l.name,PV.int l.day,PV.str l.head,PV.tup (l.row.map PV.str)]from rfl];walk_at "wp";rw[rO,uZ];refine⟨by omega,rB (l:=l) hrow ?_⟩;walk_at "wp";rw[<-eD];refine dS (fun j e=>∃v4,e=[some (Sl.val (PV.tup (qs.map lP))),some (Sl.val (PV.tup (mP hs))),some (Sl.loc (PV.a9 (kT (b8 (((st qs).take i).flatMap B4++l.name::(el l).take j))))),some (Sl.val (PV.tup [PV.str l.name,PV.int l.day,PV.str l.head,PV.tup (l.row.map PV.str)])),v4,v5]) ?_ ?_ ⟨_,rfl⟩
  .rintro j p e hx ⟨v4,rfl⟩;rw[az]at hx;obtain⟨x,hk2,rfl⟩:=cu.mp hx;walk_at "wp";rw[rO,uZ,<-eD];refine⟨?_,some (.val (.str x)),?_⟩
   .have:=jS (ss:=ss) (xs:=((st qs).take i).flatMap B4++l.name::(el l).take j) fun x hx=>by
     rcases bp.mp hx with z|z
     .exact sub i x z
     .refine u5 g hm x ?_;rcases br.mp z with z|z
      .exact br.mpr (.inl z)
      .exact ax _ (fx z)
    omega
   .rw[take_succ,hk2,toList_some];simp only[de,cons_append]
  .rintro e ⟨v4,rfl⟩;rw[aj,dq];have ee:((st qs).take (i+1)).flatMap B4=((st qs).take i).flatMap B4++l.name::el l:=by rw[EO hk];rfl
   exact⟨_,_,_,by rw[ee]⟩
 .rintro e ⟨v3,v4,v5,rfl⟩;rw[aj,dq];walk_at "wp";refine dS (fun i e=>∃v3 v4 v5,e=[some (Sl.val (PV.tup (qs.map lP))),some (Sl.val (PV.tup (mP hs))),some (Sl.loc (PV.a9 (kT (b8 ((st qs).flatMap B4++(hs.take i).flatMap AS))))),v3,v4,v5]) ?_ ?_ ⟨v3,v4,v5,by rw[List.take_zero,List.flatMap_nil,gj]⟩
  .rintro i p e hx ⟨v3,v4,v5,rfl⟩;unfold mP at hx;rw[az]at hx;obtain⟨z,hk,rfl⟩:=cu.mp hx;have hm:=ba hk;have sub:∀x∈(st qs).flatMap B4++(hs.take i).flatMap AS,x∈ss:=fun x hx=>by
    rcases bp.mp hx with w|w
    .obtain⟨l',h1,h2⟩:=gv.mp w;exact u5 g h1 x h2
    .obtain⟨l',h1,h2⟩:=gv.mp w;exact DZ g (fx h1) x h2
   have b1:=jS sub;have hz:=(g.2 z hm).1;have b2:=jS (ss:=ss) (xs:=((st qs).flatMap B4++(hs.take i).flatMap AS)++[z.1]) fun x hx=>by
    rcases bp.mp hx with w|w
    .exact sub x w
    .rw[cc.mp w];exact hz
   have es:=EO (f:=AS) hk;cases eo:z.2 with
   |none=>
    rw[show oP none=PV.bH from rfl];walk_at "wp";rw[rO,uZ,<-eD];have ee:(st qs).flatMap B4++(hs.take (i+1)).flatMap AS=(st qs).flatMap B4++(hs.take i).flatMap AS++[z.1]:=by rw[es,show AS z=[z.1] by unfold AS;rw[eo];rfl,de]
    exact⟨by omega,_,_,_,by rw[ee]⟩
   | some y=>
    rw[show oP (some y)=PV.str y from rfl];walk_at "wp";rw[rO,rO,uZ,uZ,<-eD,<-eD];have ee:(st qs).flatMap B4++(hs.take (i+1)).flatMap AS=(st qs).flatMap B4++(hs.take i).flatMap AS++[z.1]++[y]:=by
     rw[es,show AS z=[z.1,y] by unfold AS;rw[eo];rfl];simp only[de,cons_append,nil_append]
    exact⟨by omega,by omega,_,_,_,by rw[ee]⟩
  .rintro e ⟨v3,v4,v5,rfl⟩;have b1:(b8 (l4 qs hs)).length<=ss.length:=jS fun x hx=>by
    rcases bp.mp hx with w|w
    .obtain⟨l',h1,h2⟩:=gv.mp w;exact u5 g h1 x h2
    .obtain⟨l',h1,h2⟩:=gv.mp w;exact DZ g h1 x h2
   rw[show(mP hs).length=hs.length by unfold mP;rw[aj],dq];rw[show(st qs).flatMap B4++hs.flatMap AS=l4 qs hs from rfl];walk_at "wp";have eg:cN [.a9 (kT (b8 (l4 qs hs)))]=some (.new (.lst ((cI (b8 (l4 qs hs))).map PV.str))):=by
    have e1:m7 [.a9 (kT (b8 (l4 qs hs)))]=some (.new (.lst ((cI (b8 (l4 qs hs))).map PV.str))):=by
     show bO (qO (kT (b8 (l4 qs hs)))) _=_;rw[AI,sU,decide_eq_true (show(b8 (l4 qs hs)).length<128 by omega)];rfl
    unfold cN;rw[e1];rfl
   rw[eg];walk_at "wp";exact q
end
section
open PySem L2 Mr
theorem XG {hs:Hl} {x:Str} (e:sY hs x=some y):x∈hs.map (·.1):=by
 unfold sY at e;cases e2:hs.find? fun z=>decide (z.1=x)with
 |none=>rw[e2]at e;cases e
 |some z=>
  have h1:=fu e2;have h2:=jt e2;exact bh.mpr ⟨z,h1,ao h2⟩
end
section
open PySem L2 Mr
def TQ (hs:Hl):Prop:=∀y,¬Rg.AJ (sY hs) y
theorem GP {hs:Hl} (hn:(hs.map (·.1)).Nodup) (h:(x,o)∈hs):sY hs x=o:=by
 induction hs with
 |nil=>cases h
 | cons z hs ih=>
  rw[cq,fw]at hn;unfold sY;rw[find?_cons];rcases br.mp h with e|h
  .rw[<-e,decide_eq_true rfl];rfl
  .have hne:z.1≠x:=fun e=>hn.1 (bh.mpr ⟨_,h,e.symm⟩)
   rw[decide_eq_false hne];exact ih hn.2 h
end
section
open PySem L2 Mr
theorem gG (f:Str->PV) (ns:List Str) (x:Str):bY (gJ f ns) (Sum.inr x)=if x∈ns then some (f x)else none:=by
 unfold bY gJ
 induction ns with
 |nil=>rfl
 | cons y ns ih=>
  rw[cq,find?_cons]
  by_cases h:y=x
  .subst h;rw[decide_eq_true rfl,ai bf];rfl
  .rw[decide_eq_false (fun e=>h (Sum.inr.inj e))];rw[ih];have:(x∈y::ns)↔(x∈ns):=by simp[Ne.symm h]
   simp only[this]
noncomputable def G0 (f:Str->PV) (x:Str) (v:PV) (y:Str):PV:=if y=x then v else f y
theorem OQ (f:Str->PV) (ns:List Str) (x:Str) (v:PV):e8 (gJ f ns) (Sum.inr x) v=gJ (G0 f x v) (oW ns x):=by
 unfold e8 oW
 by_cases h:x∈ns
 .have e:((gJ f ns).any fun kv=>decide (kv.1=Sum.inr x))=true:=by
   unfold gJ;rw[any_map,iw];exact⟨x,h,by simp⟩
  rw[e,ai rfl,ai h];unfold gJ;rw[jk];refine jm fun y hy=>?_
  simp only[Function.comp_apply,G0]
  by_cases hyx:y=x
  .subst hyx;simp
  .rw[ah (by simpa using hyx),ah hyx]
 .have e:((gJ f ns).any fun kv=>decide (kv.1=Sum.inr x))=false:=by
   unfold gJ;rw[any_map,jx];intro y hy;have:y≠x:=fun e=>h (e▸hy)
   simp[this]
  rw[e,ah av,ah h];unfold gJ;rw[bu];congr 1
  .refine jm fun y hy=>?_
   have:y≠x:=fun e=>h (e▸hy)
   unfold G0;rw[ah this]
  .simp[G0]
theorem tW (f:Str->PV) (ns:List Str):(gJ f ns).length=ns.length:=by unfold gJ;rw[aj]
theorem OU (h:x∈ns):oW ns x=ns:=by unfold oW;rw[ai h]
theorem AU (f:Str->PV) (ns:List Str):((gJ f ns).map fun kv=>J1 kv.1)=ns.map PV.str:=by
 unfold gJ;rw[jk];rfl
theorem pT {ks:Hl} (h:x∈ks.map (·.1)) (hn:(ks.map (·.1)).Nodup):(tD qs ks x).e=sY ks x/\(tD qs ks x).r=K1:=by
 unfold tD sY;obtain⟨z,hz,rfl⟩:=bh.mp h;cases e:ks.find? fun w=>decide (w.1=z.1)with
 |none=>exact absurd (decide_eq_true rfl) (ip.mp e z hz)
 |some w=>exact⟨rfl,rfl⟩
theorem zM (h:t∈CH x (l5 qs)):∃l∈st qs,∃i:Nat,t.name=l.name/\t.day=l.day/\t.at'=(i:Int)/\0<i/\(el l)[i]? =some x/\∃y,(el l)[i - 1]? =some y/\EE qs t=some y:=by
 obtain⟨hkey,l,hl,htl⟩:=CU h;obtain⟨hn1,hd,i,hi,hi0,hel⟩:=D8 htl;have hil:i<(el l).length:=(ae.mp hel).1;have hfind:(st qs).find? (fun k=>decide (k.name=t.name))=some l:=by rw[hn1];exact nQ hl
 have hat:(t.at' - 1).toNat=i - 1:=by rw[hi];omega
 have hpre:(el l)[i - 1]? =some (el l)[i - 1]:=ag (by omega);exact⟨l,hl,i,hn1,hd,hi,hi0,by rw[<-hkey];exact hel,_,hpre,by unfold EE;rw[hfind,hat];exact hpre⟩
theorem CC (h:LS ts=some t):t∈ts:=ba h
theorem XT {l:Let} (h:x∈el l):x≠l.name:=by
 unfold el CS at h;obtain⟨i,_,hi⟩:=jg.mp h;cases c:l.row[i]? with
 |none=>rw[c]at hi;cases hi
 |some y=>
  rw[c,bind_some]at hi;split at hi
  .rename_i hh;cases hi;exact hh.1
  .cases hi
theorem HQ {qs:List Let} {ks:Hl} {x:Str} (hk:(ks.map (·.1)).Nodup) (nr:TQ ks) (h:(tD qs ks x).e=some y):y≠x/\y∈l4 qs ks:=by
 unfold tD at h;cases e1:ks.find? fun z=>decide (z.1=x)with
 | some z=>
  rw[e1]at h;have hz:=fu e1;have hzx:z.1=x:=ao (by have:=jt e1;exact this);have h:z.2=some y:=h;refine⟨fun e=>nr x ⟨0,?_⟩,bg _ (gv.mpr ⟨z,hz,?_⟩)⟩
  .have:sY ks x=some x:=by unfold sY;rw[e1,<-e];exact h
   unfold Rg.lZ;rw[this];rfl
  .unfold AS;rw[h];simp
 | none=>
  rw[e1]at h;cases e2:(st qs).find? fun l=>decide (l.name=x)with
  | some l=>
   rw[e2]at h;have hl:=fu e2;have hlx:l.name=x:=ao (by have:=jt e2;exact this);dsimp only at h;cases e3:(el l).getLast? with
   |none=>rw[e3]at h;cases h
   |some w=>
    rw[e3]at h;cases h;have hw:=List.mem_of_getLast? e3;exact⟨by rw[<-hlx];exact XT hw,bw _ (gv.mpr ⟨l,hl,ax _ hw⟩)⟩
  | none=>
   rw[e2]at h;dsimp only at h;cases e3:LS (CH x (l5 qs))with
   |none=>rw[e3]at h;cases h
   |some t=>
    rw[e3]at h;obtain⟨l,hl,i,_,_,_,hi0,hx,w,hw,he⟩:=zM (CC e3);have h:EE qs t=some y:=h;rw[he]at h;cases h;refine⟨fun e=>?_,bw _ (gv.mpr ⟨l,hl,ax _ (ba hw)⟩)⟩;rw[e]at hw;have:=(jy (ae.mp hw).1 (M9 l)).mp (hw.trans hx.symm);omega
end
section
open PySem L2 Mr
noncomputable abbrev qV (qs:List Let) (ks:Hl) (x:Str):Option Str:=(tD qs ks x).e
noncomputable abbrev N0 (qs:List Let) (ks:Hl) (ns:List Str):Hl:=ns.map fun x=>(x,qV qs ks x)
theorem fH (qs:List Let) (ks:Hl) (ns:List Str):(N0 qs ks ns).map (·.1)=ns:=by rw[jk];exact map_id' _
theorem find_none {p:α->Bool} {l:List α} (h:∀a∈l,p a=false):l.find? p=none:=ip.mpr fun a ha e=>by rw[h a ha]at e;cases e
theorem QW {l:Let} (h:t∈FZ l):t.key∈el l:=by
 obtain⟨_,_,i,_,_,hi⟩:=D8 h;exact ba hi
theorem E8 (h:x∉l4 qs ks):tD qs ks x=⟨none,rJ⟩:=by
 have h1:ks.find? (fun z=>decide (z.1=x))=none:=find_none fun z hz=>decide_eq_false fun e=>h (bg _ (gv.mpr ⟨z,hz,by unfold AS;rw[e];exact bf⟩))
 have h2:(st qs).find? (fun l=>decide (l.name=x))=none:=find_none fun z hz=>decide_eq_false fun e=>h (bw _ (gv.mpr ⟨z,hz,by unfold B4;rw[e];exact bf⟩))
 have h3:CH x (l5 qs)=[]:=List.eq_nil_iff_forall_not_mem.mpr fun t ht=>by
  obtain⟨hk,l,hl,htl⟩:=CU ht;exact h (bw _ (gv.mpr ⟨l,hl,by rw[<-hk];exact ax _ (QW htl)⟩))
 unfold tD;rw[h1,h2,h3];rfl
theorem QD {qs:List Let} {ks:Hl} {ns:List Str} (hm:∀x,x∈ns↔x∈l4 qs ks) (hn:ns.Nodup):sY (N0 qs ks ns)=qV qs ks:=by
 funext x
 by_cases h:x∈ns
 .exact GP (by rw[fH];exact hn) (bh.mpr ⟨x,h,rfl⟩)
 .have e:qV qs ks x=none:=by show(tD qs ks x).e=none;rw[E8 fun z=>h ((hm x).mpr z)]
  rw[e];cases c:sY (N0 qs ks ns) x with
  |none=>rfl
  |some y=>exact absurd (by have:=XG c;rwa[fH]at this) h
noncomputable def vW (qs:List Let) (x:Str):PV:=match(st qs).find? fun l=>decide (l.name=x)with
 |some l=>.int l.day
 |none=>.bH
theorem zL {l:List α} (nd:l.Nodup) {x:α} (h:l[i]? =some x):x∉l.take i:=fun hx=>by
 obtain⟨j,hj⟩:=du hx;rw[gf]at hj;split at hj
 .have:=(jy (ae.mp hj).1 nd).mp (hj.trans h.symm);omega
 .cases hj
theorem SD (hl:qs.length<=100) (q:Q (.a9 (gJ (vW qs) ((st qs).map (·.name))),[])):Wp (k7 [.tup (qs.map lP)]) Q:=by
 unfold k7 rL;walk_at "wp";refine hV hl ?_;walk_at "wp";have:=zF qs;refine⟨by omega,?_⟩;refine jV (fun i d e=>d=gJ (vW qs) (((st qs).take i).map (·.name))/\∃s,e=[s]) ?_ ?_ ⟨rfl,_,rfl⟩
 .rintro i p e d hx ⟨rfl,s,rfl⟩;rw[az]at hx;obtain⟨l,hk,rfl⟩:=cu.mp hx;unfold lP;walk_at "wp";refine⟨?_,_,rfl⟩;have hf:vW qs l.name= .int l.day:=by unfold vW;rw[nQ (ba hk)]
  rw[<-hf,zY,gn,hk,bu]
  .rfl
  .rw[map_take];exact zL (LD qs) (by rw[az,hk];rfl)
 .rintro d e ⟨rfl,s,rfl⟩;rw[aj,dq];walk_at "wp";exact q
structure Cut (qs:List Let) (ks:Hl) (R:List Str) (x:Str):Prop where
 mem:x∈R
 free:x∉ks.map (·.1)
 empty:∀y∈R,y∉ks.map (·.1)->y∉(st qs).map (·.name)->x∉(st qs).map (·.name)/\l3 3 (.str x) (.str y)=true
 full:(∀y∈R,y∉ks.map (·.1)->y∈(st qs).map (·.name))->∀y∈R,y∉ks.map (·.1)->l3 3 (.tup [vW qs x,.str x]) (.tup [vW qs y,.str y])=true
theorem mN {ns:List Str} {p:Str->Bool} {fg:FG} {ft:FT} {fe:FE} {Q:List PV×En->Prop} {I:En->Prop} {e:En} (h0:I e) (hs:∀x∈ns,∀e,I e->Wp (fg (.str x) e) fun e1=>Wp (ft e1) fun z=>z.1=p x/\match z.1 with|false=>I z.2|true=>Wp (fe z.2) fun w=>Wp w.1.put fun q=>q= .str x/\I w.2) (q:∀e,I e->Q ((ns.filter p).map PV.str,e)):Wp (oE fg ft fe (ns.map PV.str) e) Q:=by
 refine iN (fun i acc e=>acc=((ns.take i).filter p).map PV.str/\I e) ?_ ?_ ⟨rfl,h0⟩
 .rintro i x e acc hx ⟨rfl,hi⟩;rw[az]at hx;obtain⟨y,hy,rfl⟩:=cu.mp hx;refine(hs y (ba hy) e hi).mono fun e1 h=>h.mono fun z ⟨h1,h2⟩=>?_
  obtain⟨b,e2⟩:=z;dsimp only at h1 h2⊢
  have et:(ns.take (i+1)).filter p=(ns.take i).filter p++if p y=true then [y]else []:=by
   rw[gn,hy,toList_some,List.filter_append];congr 1;rw[List.filter_cons];rfl
  cases b with
  |false=>exact⟨by rw[et,<-h1,ah av,gj],h2⟩
  |true=>exact h2.mono fun w h=>h.mono fun q ⟨hq,hi⟩=>⟨by rw[et,<-h1,ai rfl,hq,bu];rfl,hi⟩
 .rintro acc e ⟨rfl,hi⟩;rw[aj,dq];exact q e hi
theorem UR (ks:List Str) (x:Str):(bY (kT ks) (Sum.inr x)).isSome=decide (x∈ks):=by
 have:kT ks=gJ (fun _=>.bl true) ks:=rfl;rw[this,gG]
 by_cases h:x∈ks
 .rw[ai h,decide_eq_true h];rfl
 .rw[ah h,decide_eq_false h];rfl
theorem QZ (f:Str->PV) (ks:List Str) (x:Str):(bY (gJ f ks) (Sum.inr x)).isSome=decide (x∈ks):=by
 rw[gG]
 by_cases h:x∈ks
 .rw[ai h,decide_eq_true h];rfl
 .rw[ah h,decide_eq_false h];rfl
theorem uL (ns:List Str):dW 3 (ns.map PV.str)=true:=bb.mpr fun p hp=>by
 obtain⟨x,_,rfl⟩:=bh.mp hp;rw[bz];refine⟨rfl,bb.mpr fun q hq=>?_⟩;obtain⟨y,_,rfl⟩:=bh.mp hq;rfl
theorem ND (h:x∈(st qs).map (·.name)):∃d,vW qs x= .int d:=by
 obtain⟨l,hl,rfl⟩:=bh.mp h;exact⟨l.day,by unfold vW;rw[nQ hl]⟩
theorem CA (h:∀x∈ns,x∈(st qs).map (·.name)):dW 3 (ns.map fun x=>.tup [vW qs x,.str x])=true:=bb.mpr fun p hp=>by
 obtain⟨x,hx,rfl⟩:=bh.mp hp;obtain⟨d,e⟩:=ND (h x hx);rw[bz,e];refine⟨rfl,bb.mpr fun q hq=>?_⟩;obtain⟨y,hy,rfl⟩:=bh.mp hq;obtain⟨d2,e2⟩:=ND (h y hy);rw[e2];unfold qF c6;split
 .unfold c6;split
  .rfl
  .rfl
 .rfl
theorem VI {hn:List Str} (hh:∀x,x∈hn↔x∈ks.map (·.1)) (hR:R.length<=124) (hf:∃x∈R,x∉ks.map (·.1)) (q:∀x,Cut qs ks R x->Q (.str x,[])):Wp (kH [.lst (R.map PV.str),.a9 (kT hn),.a9 (gJ (vW qs) ((st qs).map (·.name)))]) Q:=by
 unfold kH rK;walk_at "wp";refine⟨by omega,?_⟩;refine mN (p:=fun x=>!decide (x∈hn)) (I:=fun e=>∃s,e=[s,some (Sl.bor (.a9 (kT hn)))]) ⟨_,rfl⟩ ?_ ?_
 .rintro x hx e ⟨s,rfl⟩;walk_at "wp";rw[UR];refine⟨rfl,?_⟩
  by_cases h:x∈hn
  .rw[decide_eq_true h];exact⟨_,rfl⟩
  .rw[decide_eq_false h];exact⟨_,rfl⟩
 rintro e ⟨s,rfl⟩;have fl:(R.filter fun x=>!decide (x∈hn)).length<=124:=gc (List.length_filter_le _ _) hR;generalize hfr:(R.filter fun x=>!decide (x∈hn))=fr at fl;have hmf:∀x,x∈fr↔x∈R/\x∉ks.map (·.1):=fun x=>by
  rw[<-hfr,mh,<-hh x];simp
 walk_at "wp";refine⟨by omega,?_⟩;refine mN (p:=fun x=>!decide (x∈(st qs).map (·.name))) (I:=fun e=>∃s,e=[s,some (Sl.bor (.a9 (gJ (vW qs) ((st qs).map (·.name)))))]) ⟨_,rfl⟩ ?_ ?_
 .rintro x hx e ⟨s,rfl⟩;walk_at "wp";rw[QZ];refine⟨rfl,?_⟩
  by_cases h:x∈(st qs).map (·.name)
  .rw[decide_eq_true h];exact⟨_,rfl⟩
  .rw[decide_eq_false h];exact⟨_,rfl⟩
 rintro e ⟨s,rfl⟩;have el:(fr.filter fun x=>!decide (x∈(st qs).map (·.name))).length<=124:=gc (List.length_filter_le _ _) fl;generalize hem:(fr.filter fun x=>!decide (x∈(st qs).map (·.name)))=em at el;have hme:∀x,x∈em↔x∈fr/\x∉(st qs).map (·.name):=fun x=>by
  rw[<-hem,mh];simp only[not_eq_true',decide_eq_false_iff_not]
 walk_at "wp";cases em with
 |cons z em=>
  walk_at "wp";have hc:=uL (z::em);rw[cq]at hc;refine⟨fun _=>⟨⟨by simp,hc⟩,?_⟩,fun h=>(by cases h)⟩;obtain⟨x,hx,e⟩:=bh.mp (p9 (ps:=(z::em).map PV.str) (by simp));rw[cq]at e;rw[<-e];obtain⟨hxf,hxn⟩:=(hme x).mp hx;obtain⟨hxR,hxk⟩:=(hmf x).mp hxf;refine q x ⟨hxR,hxk,fun y hy hyk hyn=>⟨hxn,?_⟩,fun h=>absurd (h x hxR hxk) hxn⟩;have:=kW (ps:=(z::em).map PV.str) (q:=.str y) (bh.mpr ⟨y,(hme y).mpr ⟨(hmf y).mpr ⟨hy,hyk⟩,hyn⟩,rfl⟩);rw[cq,<-e]at this;exact this
 | nil=>
  have hall:∀x∈fr,x∈(st qs).map (·.name):=fun x hx=>cz fun h=>by have:=(hme x).mpr ⟨hx,h⟩;cases this
  walk_at "wp";refine⟨fun h=>(by cases h),fun _=>⟨by omega,?_⟩⟩;refine iN (fun i acc e=>acc=(fr.take i).map (fun x=>.tup [vW qs x,.str x])/\∃s,e=[s,some (Sl.bor (.a9 (gJ (vW qs) ((st qs).map (·.name)))))]) ?_ ?_ ⟨rfl,_,rfl⟩
  .rintro i p e acc hx ⟨rfl,s,rfl⟩;rw[az]at hx;obtain⟨y,hy,rfl⟩:=cu.mp hx;walk_at "wp";rw[gG,ai (hall y (ba hy))];walk_at "wp";refine⟨by rw[gn,hy,bu];rfl,_,rfl⟩
  .rintro acc e ⟨rfl,s,rfl⟩;rw[aj,dq];obtain⟨x0,hx0,hxk0⟩:=hf;have h0:x0∈fr:=(hmf x0).mpr ⟨hx0,hxk0⟩;have hpos:0<(fr.map fun x=>PV.tup [vW qs x,.str x]).length:=by rw[aj];exact kn h0
   walk_at "wp";refine⟨⟨kn h0,CA hall⟩,?_⟩;obtain⟨x,hx,e⟩:=bh.mp (p9 hpos);rw[<-e];walk_at "wp";obtain⟨hxR,hxk⟩:=(hmf x).mp hx;refine q x ⟨hxR,hxk,fun y hy hyk hyn=>absurd (hall y ((hmf y).mpr ⟨hy,hyk⟩)) hyn,fun _ y hy hyk=>?_⟩;have:=kW (ps:=fr.map fun x=>PV.tup [vW qs x,.str x]) (q:=.tup [vW qs y,.str y]) (bh.mpr ⟨y,(hmf y).mpr ⟨hy,hyk⟩,rfl⟩);rw[<-e]at this;exact this
theorem MK (hx:x∈R) (hR:R.length<=124) (q:Q (.tup ((R.drop (R.idxOf x)++R.take (R.idxOf x)).map PV.str),[])):Wp (fJ [.lst (R.map PV.str),.str x]) Q:=by
 unfold fJ lH;walk_at "wp";rw[nR];walk_at "wp";refine⟨⟨hx,by omega⟩,?_⟩;rw[qT,pQ,<-map_drop,<-map_take,<-bu];refine⟨?_,q⟩;rw[aj,aj,dh,di];omega
end
section
open PySem L2 Mr
noncomputable abbrev tT (R:List Str):PV:=.tup (R.map PV.str)
theorem TU (R:List Str):pB 3 (tT R)=true:=yD R 2
theorem xA (Rs:List (List Str)):dW 3 (Rs.map tT)=true:=bb.mpr fun p hp=>by
 obtain⟨x,_,rfl⟩:=bh.mp hp;rw[bz];refine⟨TU x,bb.mpr fun q hq=>?_⟩;obtain⟨y,_,rfl⟩:=bh.mp hq;exact jC 2 x y
theorem IS (h:∀R∈Rs,R≠[]):(Rs.map tT).all (uI true)=true:=bb.mpr fun p hp=>by
 obtain⟨x,hx,rfl⟩:=bh.mp hp;cases x with
 |nil=>exact absurd rfl (h _ hx)
 |cons a x=>rfl
theorem A8 {Rs:List (List Str)}:∀{ps:List PV},ps.Perm (Rs.map tT)->∃Ks:List (List Str),Ks.Perm Rs/\ps=Ks.map tT:=by
 intro ps h;generalize e:Rs.map tT=qs at h
 induction h generalizing Rs with
 |nil=>cases Rs with
  |nil=>exact⟨[],.refl _,rfl⟩
  |cons a b=>cases e
 | cons x _ ih=>cases Rs with
  |nil=>cases e
  |cons a b=>
   cases e;obtain⟨Ks,h1,h2⟩:=ih rfl;exact⟨a::Ks,h1.cons a,by rw[h2];rfl⟩
 | swap x y l=>match Rs,e with
  |a::b::c,e=>
   cases e;exact⟨b::a::c,.swap _ _ _,rfl⟩
 |trans _ _ ih1 ih2=>
  obtain⟨Ks,h1,h2⟩:=ih2 e;obtain⟨Js,h3,h4⟩:=ih1 h2.symm;exact⟨Js,h3.trans h1,h4⟩
theorem vC {Rs:List (List Str)} {Q:Bv->Prop} (h:Rs.length<128) (hne:∀R∈Rs,R≠[]) (q:∀Ks:List (List Str),Ks.Perm Rs->(Ks.map tT).Pairwise (fun a b=>l3 3 a b=true)->Q (.new (.lst (Ks.map tT)))):Wp (cN [.lst (Rs.map tT)]) Q:=by
 cases Rs with
 |nil=>exact⟨_,rfl,by rw[show cI []=[] by unfold cI;simp];exact q [] (.refl _) .nil⟩
 | cons l ls=>
  have e1:rN [.lst ((l::ls).map tT)]=none:=rfl;have e2:m7 [.lst ((l::ls).map tT)]=none:=rfl;unfold cN;rw[e1,e2,none_or,none_or];unfold rT;simp only[cP,bP];refine⟨?_,?_⟩
  .rw[IS hne,xA,aj,decide_eq_true h];rfl
  .obtain⟨ks,k1,k2⟩:=A8 (fI 3 ((l::ls).map tT));have:=k9 3 ((l::ls).map tT);rw[k2]at this⊢
   exact q ks k1 this
structure Q0 (qs:List Let) (ks:Hl) (ns:List Str) (Rs:List (List Str)):Prop where
 N5:(Rs.map tT).Pairwise fun a b=>l3 3 a b=true
 ring:∀R∈Rs,Rg.Ring (qV qs ks) R
 cut:∀R∈Rs,∀x,R.head? =some x->Cut qs ks R x
 nd:Rs.flatten.Nodup
 sub:∀R∈Rs,∀x∈R,x∈ns
 all:∀x∈ns,Rg.AJ (qV qs ks) x->x∈Rs.flatten
 len:Rs.length<=ns.length
theorem KQ (hk:(ks.map (·.1)).Nodup) (nr:TQ ks) (r:Rg.Ring (qV qs ks) R):∃x∈R,x∉ks.map (·.1):=by
 apply cz;intro hno;have hall:∀x∈R,x∈ks.map (·.1):=fun x hx=>cz fun h=>hno ⟨x,hx,h⟩
 have r':Rg.Ring (sY ks) R:=r.congr fun x hx=>(pT (hall x hx) hk).1
 obtain⟨x,hx⟩:=lg _ r.ne;exact nr x (r'.AJ hx)
theorem CM (h:S.Perm R) (c:Cut qs ks R x):Cut qs ks S x:=
 ⟨h.mem_iff.mpr c.mem,c.free,fun y hy=>c.empty y (h.mem_iff.mp hy),fun k y hy=>c.full (fun z hz=>k z (h.mem_iff.mpr hz)) y (h.mem_iff.mp hy)⟩
theorem ab5 (h:Rg.F2 (fun a b:List Str=>∃i,i<b.length/\a=b.drop i++b.take i) Rs F):(∀R∈Rs,∃S∈F,∃i,i<S.length/\R=S.drop i++S.take i)/\Rs.flatten.Perm F.flatten:=by
 induction h with
 |nil=>exact⟨fun _ h=>(nomatch h),.refl _⟩
 | cons h _ ih=>
  obtain⟨i,hi,rfl⟩:=h;refine⟨fun R hR=>?_,(Rg.mB _ i).append ih.2⟩;rcases br.mp hR with rfl|hR
  .exact⟨_,bf,i,hi,rfl⟩
  .obtain⟨S,h1,h2⟩:=ih.1 R hR;exact⟨S,ax _ h1,h2⟩
theorem y3 (hl:qs.length<=100) (hk:ks.length<=100) (hkn:(ks.map (·.1)).Nodup) (nr:TQ ks) (hn:ns.Nodup) (hm:∀x,x∈ns↔x∈l4 qs ks) (hnl:ns.length<=124)
  (q:∀Rs,Q0 qs ks ns Rs->Q (.tup (Rs.map tT),[])):Wp (cB [.tup (qs.map lP),.tup (mP ks),.a9 (gJ (O5 qs ks) ns)]) Q:=by
 unfold cB mO;walk_at "wp";refine⟨by unfold mP;rw[aj];omega,?_⟩;refine jV (fun i d e=>d=kT (b8 ((ks.take i).map (·.1)))/\∃s t,e=[s,t]) ?_ ?_ ⟨rfl,_,_,rfl⟩
 .rintro i p e d hx ⟨rfl,s,t,rfl⟩;unfold mP at hx;rw[az]at hx;obtain⟨z,hz,rfl⟩:=cu.mp hx;walk_at "wp";refine⟨?_,_,_,rfl⟩;rw[rO,<-eD,gn,hz,bu];rfl
 .rintro d e ⟨rfl,s,t,rfl⟩;rw[show(mP ks).length=ks.length by unfold mP;rw[aj],dq];have hh:∀x,x∈b8 (ks.map (·.1))↔x∈ks.map (·.1):=fun x=>pF
  generalize b8 (ks.map (·.1))=hn' at hh;walk_at "wp";refine SD hl ?_;walk_at "wp";rw[AU];refine⟨by rw[tW];omega,?_⟩;refine jV (fun i d e=>d=u3 (N0 qs ks (ns.take i))/\∃s,e=[s,some (Sl.bor (.a9 (gJ (O5 qs ks) ns)))]) ?_ ?_ ⟨rfl,_,rfl⟩
  .rintro i p e d hx ⟨rfl,s,rfl⟩;rw[az]at hx;obtain⟨x,hxe,rfl⟩:=cu.mp hx;walk_at "wp";rw[gG,ai (ba hxe)];unfold O5;walk_at "wp";refine⟨?_,_,rfl⟩;rw[F1 (by rw[fH];exact zL hn hxe),gn,hxe];unfold N0;rw[bu];rfl
  .rintro d e ⟨rfl,s,rfl⟩;rw[aj,dq];walk_at "wp";refine B3 (by rw[aj];omega) (by rw[fH];exact hn) fun S F hF hS1 hS2=>?_
   rw[QD hm hn]at hF;rw[fH]at hS1;have sub:∀R∈F,∀x∈R,x∈ns:=fun R hR x hx=>by
    have h1:=hS2 x (hF.sub R hR x hx);unfold eT at h1;rw[fH]at h1;rcases bp.mp h1 with h1|h1
    .exact h1
    .obtain⟨z,hz,hzx⟩:=jg.mp h1;obtain⟨w,hw,rfl⟩:=bh.mp hz;exact(hm x).mpr (HQ hkn nr hzx).2
   have fl:F.flatten.length<=ns.length:=iU hF.nd fun x hx=>by
    obtain⟨R,hR,hx⟩:=jr.mp hx;exact sub R hR x hx
   have rl:∀R∈F,R.length<=124:=fun R hR=>by
    have:=iU (hF.ring R hR).nd (sub R hR);omega
   have nl:∀F:List (List Str),(∀R∈F,R≠[])->F.length<=F.flatten.length:=by
    intro F
    induction F with
    |nil=>intro _;exact bj _
    |cons R F ih=>
     intro h;have h1:=ih fun R hR=>h R (ax _ hR)
     have h2:=length_pos_iff.mpr (h R bf);rw[flatten_cons,bq,length_cons];omega
   have hFl:=nl F fun R hR=>(hF.ring R hR).ne
   walk_at "wp";refine⟨by omega,?_⟩;refine iN (fun i acc e=>(∃Rs:List (List Str),acc=Rs.map tT/\Rg.F2 (fun a b:List Str=>∃i,i<b.length/\a=b.drop i++b.take i) Rs (F.take i)/\∀R∈Rs,∀x,R.head? =some x->Cut qs ks R x)/\∃s,e=[s,some (Sl.val (.a9 (kT hn'))),some (Sl.val (.a9 (gJ (vW qs) ((st qs).map (·.name)))))]) ?_ ?_ ⟨⟨[],rfl,.nil,fun _ h=>(nomatch h)⟩,_,rfl⟩
   .rintro i p e acc hx ⟨⟨Rs,rfl,h2,hcut⟩,s,rfl⟩;rw[az]at hx;obtain⟨R,hR,rfl⟩:=cu.mp hx;have hRF:=ba hR;walk_at "wp";refine VI (R:=R) hh (rl R hRF) (KQ hkn nr (hF.ring R hRF)) fun x hc=>?_
    walk_at "wp";refine MK hc.mem (rl R hRF) ?_;walk_at "wp";have hi:R.idxOf x<R.length:=List.idxOf_lt_length_iff.mpr hc.mem;refine⟨⟨Rs++[R.drop (R.idxOf x)++R.take (R.idxOf x)],(bu (f:=tT) (l₁:=Rs) (l₂:=[R.drop (R.idxOf x)++R.take (R.idxOf x)])).symm,?_,fun S hS y hy=>?_⟩,_,rfl⟩
    .rw[gn,hR];have ap:∀{A B:List (List Str)},Rg.F2 (fun a b:List Str=>∃i,i<b.length/\a=b.drop i++b.take i) A B->∀{a b:List Str},(∃i,i<b.length/\a=b.drop i++b.take i)->Rg.F2 (fun a b:List Str=>∃i,i<b.length/\a=b.drop i++b.take i) (A++[a]) (B++[b]):=by
      intro A B h
      induction h with
      |nil=>intro a b h;exact .cons h .nil
      |cons h _ ih=>intro a b h';exact .cons h (ih h')
     exact ap h2 ⟨_,hi,rfl⟩
    .rcases bp.mp hS with hS|hS
     .exact hcut S hS y hy
     .rw[cc.mp hS]at hy⊢
      have hne:R.drop (R.idxOf x)≠[]:=fun e=>by have:=cn List.length e;rw[dh,length_nil]at this;omega
      rw[Rg.mC hne,head?_drop,ag hi,List.getElem_idxOf]at hy;cases hy;exact CM (Rg.mB R _) hc
   .rintro acc e ⟨⟨Rs,rfl,h2,hcut⟩,s,rfl⟩;rw[aj,dq]at h2;obtain⟨ro,fp⟩:=ab5 h2;have ring:∀R∈Rs,Rg.Ring (qV qs ks) R:=fun R hR=>by
     obtain⟨S,hS,i,hi,rfl⟩:=ro R hR;exact(hF.ring S hS).rot i hi
    have rlen:Rs.length<=ns.length:=by
     have:=nl Rs fun R hR=>(ring R hR).ne
     rw[fp.length_eq]at this;omega
    walk_at "wp";refine vC (by omega) (fun R hR=>(ring R hR).ne) fun Ks hK hs=>?_
    walk_at "wp";have kf:Ks.flatten.Perm F.flatten:=(List.Perm.flatten hK).trans fp;refine q Ks ⟨hs,fun R hR=>ring R (hK.mem_iff.mp hR),fun R hR=>hcut R (hK.mem_iff.mp hR),kf.nodup_iff.mpr hF.nd,fun R hR x hx=>?_,fun x hx c=>kf.mem_iff.mpr (hF.all x (hS1 x hx) c),by rw[hK.length_eq];exact rlen⟩;obtain⟨S,hS,i,hi,rfl⟩:=ro R (hK.mem_iff.mp hR);exact sub S hS x ((Rg.mB S i).mem_iff.mp hx)
end
section
open PySem L2 Mr
theorem EV {l m:List Str} (h1:l.Nodup) (h2:m.Nodup) (h:∀x,x∈l↔x∈m):l.Perm m:=(List.perm_ext_iff_of_nodup h1 h2).mpr h
theorem ZS {x y:Str} {a b:List Str} (h:l3 3 (tT (x::a)) (tT (y::b))=true) (hne:x≠y):zX x y:=by
 have hn:y.cps.toList≠x.cps.toList:=fun e=>hne (by cases x;cases y;congr 1;exact toList_inj.mp e.symm)
 have e3:∀(x:Str) (a:List Str),∃r,code 3 (tT (x::a))=1::(x.cps.toList.map (fun c:Nat=>(c:Int)+1)++[0]++r):=fun x a=>by
  unfold tT Mr.code;simp[Mr.code]
 obtain⟨r,e1⟩:=e3 x a;obtain⟨r',e2⟩:=e3 y b;unfold l3 at h;rw[e1,e2,fV,ai rfl,zH,ah hn]at h;unfold zX;simpa using h
noncomputable abbrev M3 (R:List Str):PV:=.tup [.str (Str.ofString "ring"),tT R]
noncomputable abbrev Z8 (E:Str->Option Str) (Rn:Str->PV) (x:Str):PV:=.tup [.str x,oP (E x),Rn x]
noncomputable abbrev rY (qs:List Let) (ks:Hl):List Str:=cI (b8 (l4 qs ks))
structure Cuts (qs:List Let) (ks:Hl) (Rs:List (List Str)) (E:Str->Option Str) (Rn:Str->PV):Prop where
 hd:∀R∈Rs,∀h,R.head? =some h->E h=none/\Rn h=M3 R
 ot:∀x,(∀R∈Rs,R.head?≠some x)->E x=qV qs ks x/\Rn x=(tD qs ks x).r
theorem DW (qs:List Let) (ks:Hl) (x:Str):x∈rY qs ks↔x∈l4 qs ks:=(dI _).mem_iff.trans pF
theorem xW (qs:List Let) (ks:Hl):(rY qs ks).Nodup:=(dI _).nodup_iff.mpr (q5 _)
theorem XM (g:Good ss qs ks):∀x∈l4 qs ks,x∈ss:=fun x hx=>by
 rcases bp.mp hx with w|w
 .obtain⟨l',h1,h2⟩:=gv.mp w;exact u5 g h1 x h2
 .obtain⟨l',h1,h2⟩:=gv.mp w;exact DZ g h1 x h2
theorem uJ (g:Good ss qs ks):(rY qs ks).length<=ss.length:=iU (xW qs ks) fun x hx=>XM g x ((DW qs ks x).mp hx)
theorem uW (nd:Rs.flatten.Nodup) (hR:Rs[i]? =some R) (hS:S∈Rs.take i) (h1:R.head? =some h) (h2:S.head? =some h):False:=by
 have hi:=(ae.mp hR).1;rw[<-cp i Rs,List.flatten_append]at nd;refine(ff.mp nd).2.2 h (jr.mpr ⟨S,hS,mem_of_head? h2⟩) h (jr.mpr ⟨R,?_,mem_of_head? h1⟩) rfl;refine ba (i:=0) ?_;rw[jh];exact hR
theorem ZM (g:Good ss qs ks) (hss:ss.length<=124) (hl:qs.length<=100) (hk:ks.length<=100) (hkn:(ks.map (·.1)).Nodup) (nr:TQ ks):
  ∃Rs,Q0 qs ks (rY qs ks) Rs/\cB [.tup (qs.map lP),.tup (mP ks),.a9 (gJ (O5 qs ks) (rY qs ks))]=some (.tup (Rs.map tT),[]):=by
 have k:Wp (cB [.tup (qs.map lP),.tup (mP ks),.a9 (gJ (O5 qs ks) (rY qs ks))]) fun w=>∃Rs,Q0 qs ks (rY qs ks) Rs/\w=(.tup (Rs.map tT),[]):=
  y3 hl hk hkn nr (xW qs ks) (DW qs ks) (gc (uJ g) hss) fun Rs h=>⟨Rs,h,rfl⟩
 obtain⟨w,e,Rs,h,rfl⟩:=k;exact⟨Rs,h,e⟩
end
section
open PySem L2 Mr
theorem IT {ns:List Str} {Q:Bv->Prop} (h:ns.length<128) (q:Q (.new (.lst ((cI ns).map PV.str)))):Wp (cN [.a9 (gJ f ns)]) Q:=by
 have ks:∀ns:List Str,qO (gJ f ns)=some ns:=by
  intro ns
  induction ns with
  |nil=>rfl
  |cons x ns ih=>
   show bO (qO (gJ f ns)) (fun ss=>some (x::ss))=_;rw[ih];rfl
 have e1:m7 [.a9 (gJ f ns)]=some (.new (.lst ((cI ns).map PV.str))):=by
  show bO (qO (gJ f ns)) _=_;rw[ks,sU,decide_eq_true h];rfl
 unfold cN;rw[e1];exact⟨_,rfl,q⟩
theorem AB (g:Good ss qs ks) (hss:ss.length<=124) (hl:qs.length<=100) (hk:ks.length<=100) (hkn:(ks.map (·.1)).Nodup)
  (hR:Q0 qs ks (rY qs ks) Rs) (e:cB [.tup (qs.map lP),.tup (mP ks),.a9 (gJ (O5 qs ks) (rY qs ks))]=some (.tup (Rs.map tT),[]))
  (q:∀E Rn,Cuts qs ks Rs E Rn->Q (.tup ((cI (rY qs ks)).map (Z8 E Rn)),[])):Wp (iM [.tup (qs.map lP),.tup (mP ks)]) Q:=by
 have nl:(cI (b8 (l4 qs ks))).length<=_:=uJ g;have nl2:=uJ g;unfold iM oY;walk_at "wp";refine xR g hl (by omega) ?_;walk_at "wp";refine vM (fun l h=>(g.1 l h).1) hl hk (xW qs ks) (by omega) (fun x hx R r=>vT hkn r) ?_;walk_at "wp";refine N6 e ?_;walk_at "wp";refine dS (fun i e=>∃(E:Str->Option Str) (Rn:Str->PV) (v4:Option Sl),Cuts qs ks (Rs.take i) E Rn/\e=[some (Sl.val (.tup (qs.map lP))),some (Sl.val (.tup (mP ks))),some (Sl.loc (.a9 (gJ (fun x=>.tup [oP (E x),Rn x]) (rY qs ks)))),some (Sl.val (.tup (Rs.map tT))),v4]) ?_ ?_
  ⟨fun x=>qV qs ks x,fun x=>(tD qs ks x).r,_,⟨fun R h=>by simp at h,fun x _=>⟨rfl,rfl⟩⟩,rfl⟩
 .rintro i p e hp ⟨E,Rn,v4,hc,rfl⟩;rw[az]at hp;obtain⟨R,hRi,rfl⟩:=cu.mp hp;have hRm:=ba hRi;have ne:=(hR.ring R hRm).ne;cases R with
  |nil=>exact absurd rfl ne
  | cons h R=>
   have hin:h∈rY qs ks:=hR.sub _ hRm h bf;walk_at "wp";rw[OQ,OU hin,tW];refine⟨by omega,fun x=>if x=h then none else E x,fun x=>if x=h then M3 (h::R)else Rn x,some (Sl.val (tT (h::R))),⟨fun S hS k hk=>?_,fun x hx=>?_⟩,?_⟩
   .rw[gn,hRi]at hS;rcases bp.mp hS with hS|hS
    .have hne:k≠h:=fun z=>uW hR.nd hRi hS rfl (z▸hk)
     rw[ah hne,ah hne];exact hc.hd S hS k hk
    .have:S=h::R:=by simpa using hS
     subst this;cases hk;rw[ai rfl,ai rfl];exact⟨rfl,rfl⟩
   .have hne:x≠h:=fun z=>hx (h::R) (by rw[gn,hRi];simp) (by rw[z];rfl)
    rw[ah hne,ah hne];exact hc.ot x fun S hS=>hx S (by rw[gn];exact bw _ hS)
   .have:(G0 (fun x=>PV.tup [oP (E x),Rn x]) h (PV.tup [PV.bH,PV.tup [PV.str (Str.ofString "ring"),tT (h::R)]]))=fun x=>PV.tup [oP (if x=h then none else E x),if x=h then M3 (h::R)else Rn x]:=by
     funext x;unfold G0;split<;>rfl
    rw[<-this]
 .rintro e ⟨E,Rn,v4,hc,rfl⟩;rw[aj,dq]at hc;walk_at "wp";refine IT (by omega) ?_;walk_at "wp";have sl:(cI (rY qs ks)).length=(rY qs ks).length:=(dI _).length_eq;refine⟨by omega,?_⟩;refine iN (fun i acc e=>acc=((cI (rY qs ks)).take i).map (Z8 E Rn)/\∃s,e=[s,some (Sl.bor (.a9 (gJ (fun x=>.tup [oP (E x),Rn x]) (rY qs ks))))]) ?_ ?_ ⟨rfl,_,rfl⟩
  .rintro i p e acc hx ⟨rfl,s,rfl⟩;rw[az]at hx;obtain⟨y,hy,rfl⟩:=cu.mp hx;have hin:y∈rY qs ks:=(dI _).mem_iff.mp (ba hy);walk_at "wp";rw[gG,ai hin];walk_at "wp";rw[gG,ai hin];walk_at "wp";refine⟨by rw[gn,hy,bu];rfl,_,rfl⟩
  .rintro acc e ⟨rfl,s,rfl⟩;rw[aj,dq];walk_at "wp";exact q E Rn hc
end
section
open PySem L2 Mr
noncomputable def nG (Rs:List (List Str)) (x:Str):Option (List Str):=Rs.find? fun R=>decide (R.head? =some x)
theorem G2 (nd:Rs.flatten.Nodup) (hR:R∈Rs) (hS:S∈Rs) (h1:R.head? =some h) (h2:S.head? =some h):R=S:=by
 obtain⟨i,hi⟩:=du hR;obtain⟨j,hj⟩:=du hS;have tk:∀{i j:Nat} {R:List Str},Rs[i]? =some R->i<j->R∈Rs.take j:=fun{i j R} h l=>ba (i:=i) (by rw[gf,ai l];exact h)
 rcases Nat.lt_trichotomy i j with l|l|l
 .exact(uW nd hj (tk hi l) h2 h1).elim
 .subst l;rw[hi]at hj;exact Option.some.inj hj
 .exact(uW nd hi (tk hj l) h1 h2).elim
theorem wO {Rs:List (List Str)} (nd:Rs.flatten.Nodup) {R:List Str} {h:Str} (hR:R∈Rs) (h1:R.head? =some h):nG Rs h=some R:=by
 unfold nG;cases c:Rs.find? fun R=>decide (R.head? =some h)with
 |none=>exact absurd (decide_eq_true h1) (ip.mp c R hR)
 |some S=>rw[G2 nd hR (fu c) h1 (ao (by have:=jt c;exact this))]
theorem J8 (h:nG Rs x=none):∀R∈Rs,R.head?≠some x:=fun R hR e=>ip.mp h R hR (decide_eq_true e)
theorem rH (f:α->Option β):∀l:List α,l.filterMap f=(l.filter fun x=>(f x).isSome).filterMap f
 |[]=>rfl
 |a::l=>by
  rw[List.filter_cons];cases c:f a with
  |none=>rw[List.filterMap_cons_none c,ah (by simp)];exact rH f l
  |some b=>rw[ma c,ai (show(some b).isSome=true from rfl),ma c,rH f l]
theorem TK {f:α->Option α}:∀{l:List α},(∀a∈l,f a=some a)->l.filterMap f=l
 |[],_=>rfl
 |a::l,h=>by rw[ma (h a bf),TK fun b hb=>h b (ax _ hb)]
theorem JT (h:Q0 qs ks ns Rs) (hn:ns.Nodup):(cI ns).filterMap (nG Rs)=Rs:=by
 have pw:=(List.pairwise_flatten.mp h.nd).2;have dj:Rs.Pairwise fun a b=>∀x,a.head? =some x->∀y,b.head? =some y->x≠y:=pw.imp fun k x hx y hy=>k x (mem_of_head? hx) y (mem_of_head? hy)
 have nd:(Rs.filterMap List.head?).Nodup:=List.pairwise_filterMap.mpr dj;have so:(Rs.filterMap List.head?).Pairwise zX:=by
  refine List.pairwise_filterMap.mpr (((List.pairwise_map.mp h.N5).and dj).imp fun{a b} k x hx y hy=>?_);cases a with
  |nil=>cases hx
  |cons a0 a=>cases b with
   |nil=>cases hy
   |cons b0 b=>cases hx;cases hy;exact ZS k.1 (k.2 _ rfl _ rfl)
 have he:(cI ns).filter (fun x=>(nG Rs x).isSome)=Rs.filterMap List.head?:=by
  refine mZ ((pR ns).filter _) so (EV (((dI ns).nodup_iff.mpr hn).filter _) nd fun x=>?_);rw[mh,jg];constructor
  .rintro⟨_,k⟩;obtain⟨R,hR⟩:=je.mp k;exact⟨R,fu hR,ao (by have:=jt hR;exact this)⟩
  .rintro⟨R,hR,k⟩;exact⟨(dI ns).mem_iff.mpr (h.sub R hR x (mem_of_head? k)),by rw[wO h.nd hR k];rfl⟩
 rw[rH,he,List.filterMap_filterMap];have:∀R∈Rs,(List.head? R).bind (nG Rs)=some R:=fun R hR=>by
  cases c:R.head? with
  |none=>exact absurd (List.head?_eq_none_iff.mp c) (h.ring R hR).ne
  |some x=>exact wO h.nd hR c
 exact TK this
theorem SA (h:x∉ks.map (·.1)):(tD qs ks x).r=XU\/ (tD qs ks x).r=rJ\/ ∃n a,(tD qs ks x).r= .tup [.str (Str.ofString "told"),.str n,.int a]:=by
 unfold tD;rw[find_none fun z hz=>decide_eq_false fun e=>h (bh.mpr ⟨z,hz,e⟩)];dsimp only;split
 .split
  .exact .inl rfl
  .exact .inr (.inl rfl)
 .split
  .exact .inr (.inr ⟨_,_,rfl⟩)
  .exact .inr (.inl rfl)
end
section
open PySem L2 Mr
theorem PU {qs:List Let} {l:Let} (h:l∈qs):∃k∈st qs,k.name=l.name:=by
 have key:∀(qs acc:List Let),(∀k∈acc,∃k'∈qs.foldl fA acc,k'.name=k.name)/\∀l∈qs,∃k∈qs.foldl fA acc,k.name=l.name:=by
  intro qs
  induction qs with
  |nil=>exact fun acc=>⟨fun k hk=>⟨k,hk,rfl⟩,fun l hl=>(nomatch hl)⟩
  | cons a qs ih=>
   intro acc;obtain⟨i1,i2⟩:=ih (fA acc a);have sub:∀k∈acc,k∈fA acc a:=fun k hk=>by
    unfold fA;split
    .exact hk
    .exact bw _ hk
   have own:∃k∈fA acc a,k.name=a.name:=by
    unfold fA;split
    .rename_i hh;obtain⟨k,hk,e⟩:=iw.mp hh;exact⟨k,hk,ao e⟩
    .exact⟨a,bg _ (.head _),rfl⟩
   refine⟨fun k hk=>i1 k (sub k hk),fun l hl=>?_⟩;rcases br.mp hl with rfl|hl
   .obtain⟨k,hk,e⟩:=own;obtain⟨k',hk',e'⟩:=i1 k hk;exact⟨k',hk',e'.trans e⟩
   .exact i2 l hl
 exact(key qs []).2 l h
structure Wd (n:Nat) (N T:Nat->Str) (nx:Nat->Nat) (kd D:Nat->Int) (qs:List Let) (hs:Hl):Prop where
 ij:∀i j,i<n->j<n->N i=N j->i=j
 tj:∀i j,i<n->j<n->T i=T j->i=j
 nt:∀i j,i<n->j<n->N i≠T j
 lt:∀i,i<n->nx i<n
 ne:∀i,i<n->nx i≠i
 k3:∀i,i<n->kd i=0\/ kd i=1\/ kd i=2
 q:∀l∈qs,∃i,i<n/\((kd i=0/\l=⟨N i,0,"",[]⟩)\/ (kd i=1/\l=⟨N i,D i,"",[N (nx i)]⟩)\/ (kd i=2/\l=⟨T i,D i,"",[N (nx i),N i]⟩))
 q1:∀i,i<n->kd i=1->(⟨N i,D i,"",[N (nx i)]⟩:Let)∈qs
 q2:∀i,i<n->kd i=2->(⟨T i,D i,"",[N (nx i),N i]⟩:Let)∈qs
 h:∀x o,(x,o)∈hs↔∃i,i<n/\kd i=0/\x=N i/\o=some (N (nx i))
 hn:(hs.map (·.1)).Nodup
section
variable {n:Nat} {N T:Nat->Str} {nx:Nat->Nat} {kd D:Nat->Int} {qs:List Let} {hs:Hl}
theorem Wd.neN (W:Wd n N T nx kd D qs hs) (hi:i<n):N (nx i)≠N i:=fun e=>W.ne i hi (W.ij _ _ (W.lt i hi) hi e)
theorem Wd.uniq (W:Wd n N T nx kd D qs hs) {a b:Let} (ha:a∈qs) (hb:b∈qs) (e:a.name=b.name):a=b:=by
 obtain⟨i,hi,h1⟩:=W.q a ha;obtain⟨j,hj,h2⟩:=W.q b hb;rcases h1 with⟨k1,rfl⟩|⟨k1,rfl⟩|⟨k1,rfl⟩<;>rcases h2 with⟨k2,rfl⟩|⟨k2,rfl⟩|⟨k2,rfl⟩
 all_goals first
  |exact absurd e (W.nt i j hi hj)
  |exact absurd e.symm (W.nt j i hj hi)
  |(have e:=W.ij i j hi hj e;subst e;first|rfl|(rw[k1]at k2;exact absurd k2 (by decide)))
  |(have e:=W.tj i j hi hj e;subst e;rfl)
theorem Wd.st (W:Wd n N T nx kd D qs hs) {l:Let} (h:l∈qs):l∈st qs:=by
 obtain⟨k,hk,e⟩:=PU h;rw[<-W.uniq (gA hk) h e];exact hk
theorem acR (hn:y≠x):el ⟨x,d,h,[y]⟩=[y]:=by
 unfold el CS;rw[show List.range [y].length=[0]from rfl];simp[hn]
theorem abD {z:Str} (h1:y≠x) (h2:z≠x) (h3:y≠z):el ⟨x,d,h,[y,z]⟩=[y,z]:=by
 unfold el CS;rw[show List.range [y,z].length=[0,1]from rfl];simp[h1,h2,h3]
theorem Wd.ZY (W:Wd n N T nx kd D qs hs) {l:Let} (h:l∈qs):el l=l.row:=by
 obtain⟨i,hi,h|h|h⟩:=W.q l h
 .rw[h.2];rfl
 .rw[h.2];exact acR (W.neN hi)
 .rw[h.2];exact abD (W.nt _ _ (W.lt i hi) hi) (W.nt _ _ hi hi) (W.neN hi)
theorem Wd.held (W:Wd n N T nx kd D qs hs) (x:Str):x∈hs.map (·.1)↔∃i,i<n/\kd i=0/\x=N i:=by
 constructor
 .intro h;obtain⟨⟨y,o⟩,hm,rfl⟩:=bh.mp h;obtain⟨i,hi,k,e,_⟩:=(W.h y o).mp hm;exact⟨i,hi,k,e⟩
 .rintro⟨i,hi,k,rfl⟩;exact bh.mpr ⟨_,(W.h _ _).mpr ⟨i,hi,k,rfl,rfl⟩,rfl⟩
theorem Wd.free (W:Wd n N T nx kd D qs hs) (hi:i<n) (h:kd i≠0):N i∉hs.map (·.1):=fun e=>by
 obtain⟨j,hj,k,e⟩:=(W.held _).mp e;rw[W.ij i j hi hj e]at h;exact h k
theorem Wd.names (W:Wd n N T nx kd D qs hs) (hi:i<n) (h:kd i=2):N i∉(My.st qs).map (·.name):=fun e=>by
 obtain⟨l,hl,e⟩:=bh.mp e;obtain⟨j,hj,h1|h1|h1⟩:=W.q l (gA hl)
 .rw[h1.2]at e;rw[W.ij j i hj hi e,h]at h1;exact absurd h1.1 (by decide)
 .rw[h1.2]at e;rw[W.ij j i hj hi e,h]at h1;exact absurd h1.1 (by decide)
 .rw[h1.2]at e;exact W.nt i j hi hj e.symm
theorem Wd.TM (W:Wd n N T nx kd D qs hs) (hi:i<n) (h:kd i≠0):hs.find? (fun z=>decide (z.1=N i))=none:=ip.mpr fun z hz e=>W.free hi h (bh.mpr ⟨z,hz,ao e⟩)
theorem Wd.up (W:Wd n N T nx kd D qs hs) {i:Nat} (hi:i<n):qV qs hs (N i)=some (N (nx i)):=by
 unfold qV;rcases W.k3 i hi with k|k|k
 .have hm:=(W.h (N i) _).mpr ⟨i,hi,k,rfl,rfl⟩;rw[(pT (qs:=qs) (bh.mpr ⟨_,hm,rfl⟩) W.hn).1];exact GP W.hn hm
 .have hl:=W.st (W.q1 i hi k);unfold tD;rw[W.TM hi (by rw[k];decide)];have:=nQ hl;dsimp only at this⊢
  rw[this];dsimp only;rw[W.ZY (W.q1 i hi k)];rfl
 .have hl:=W.st (W.q2 i hi k);have hr:=W.ZY (W.q2 i hi k);unfold tD;rw[W.TM hi (by rw[k];decide)];have hno:(My.st qs).find? (fun l=>decide (l.name=N i))=none:=ip.mpr fun l hl e=>W.names hi k (bh.mpr ⟨l,hl,ao e⟩)
  dsimp only;rw[hno];have hf:CH (N i) (l5 qs)≠[]:=by
   have hm:(⟨N i,D i,T i,1⟩:oA)∈l5 qs:=gv.mpr ⟨_,hl,by
    unfold FZ;rw[hr];exact jg.mpr ⟨(N i,1),by simp,rfl⟩⟩
   intro e;have:(⟨N i,D i,T i,1⟩:oA)∈CH (N i) (l5 qs):=mh.mpr ⟨hm,decide_eq_true rfl⟩;rw[e]at this;cases this
  obtain⟨t,ht,e,_⟩:=wQ hf;rw[e];obtain⟨l,hl,j,_,_,_,hj,ej,y,ey,e2⟩:=zM ht;have e3:=W.ZY (gA hl);rw[e3]at ej ey;show EE qs t=_;rw[e2];obtain⟨m,hm,h1|h1|h1⟩:=W.q l (gA hl)
  .rw[h1.2]at ej;simp at ej
  .rw[h1.2]at ej;obtain⟨j',rfl⟩:∃j',j=j'+1:=⟨j - 1,by omega⟩;simp at ej
  .rw[h1.2]at ej ey
   match j,hj,ej,ey with
   |1,_,ej,ey=>
    simp at ej ey;rw[<-ey,W.ij m i hm hi ej]
   |j+2,_,ej,_=>simp at ej
theorem Wd.all (W:Wd n N T nx kd D qs hs) {x:Str} (h:qV qs hs x=some y):∃j,j<n/\y=N j:=by
 have row:∀l∈qs,∀z∈l.row,∃j,j<n/\z=N j:=fun l hl z hz=>by
  obtain⟨i,hi,h1|h1|h1⟩:=W.q l hl
  .rw[h1.2]at hz;cases hz
  .rw[h1.2]at hz;exact⟨_,W.lt i hi,cc.mp hz⟩
  .rw[h1.2]at hz;rcases br.mp hz with e|hz
   .exact⟨_,W.lt i hi,e⟩
   .exact⟨_,hi,cc.mp hz⟩
 unfold qV tD at h;cases e1:hs.find? fun z=>decide (z.1=x)with
 |some z=>
  rw[e1]at h;have hz:=fu e1;obtain⟨i,hi,_,_,e⟩:=(W.h z.1 z.2).mp hz;dsimp only at h;rw[e]at h;exact⟨_,W.lt i hi,(Option.some.inj h).symm⟩
 | none=>
  rw[e1]at h;cases e2:(My.st qs).find? fun l=>decide (l.name=x)with
  | some l=>
   have hl:=gA (fu e2);rw[e2]at h;dsimp only at h;cases e3:(el l).getLast? with
   |none=>rw[e3]at h;cases h
   |some z=>
    rw[e3]at h;have:=List.mem_of_getLast? e3;rw[W.ZY hl]at this;cases h;exact row l hl _ this
  | none=>
   rw[e2]at h;dsimp only at h;cases e3:LS (CH x (l5 qs))with
   |none=>rw[e3]at h;cases h
   |some t=>
    rw[e3]at h;obtain⟨l,hl,j,_,_,_,hj,ej,z,ez,e4⟩:=zM (CC e3);dsimp only at h;rw[e4]at h;cases h;have:=ba ez;rw[W.ZY (gA hl)]at this;exact row l (gA hl) _ this
end
end
section
open PySem L2 Mr
theorem Cut.uniq (cx:Cut qs ks R x) (cy:Cut qs ks R y):x=y:=by
 by_cases h:∃z∈R,z∉ks.map (·.1)/\z∉(st qs).map (·.name)
 .obtain⟨z,hz,h1,h2⟩:=h;have a:=(cx.empty y cy.mem cy.free (cy.empty z hz h1 h2).1).2;have b:=(cy.empty x cx.mem cx.free (cx.empty z hz h1 h2).1).2;exact PV.str.inj (pP (n:=3) (uL [x,y]) (p:=.str x) (q:=.str y) (by simp) (by simp) a b)
 .have all:∀z∈R,z∉ks.map (·.1)->z∈(st qs).map (·.name):=fun z hz h1=>cz fun h2=>h ⟨z,hz,h1,h2⟩
  have a:=cx.full all y cy.mem cy.free;have b:=cy.full all x cx.mem cx.free;have e:=pP (n:=3) (CA (qs:=qs) (ns:=[x,y]) fun z hz=>by
   rcases br.mp hz with rfl|hz
   .exact all _ cx.mem cx.free
   .rw[cc.mp hz];exact all _ cy.mem cy.free) (p:=.tup [vW qs x,.str x]) (q:=.tup [vW qs y,.str y]) (by simp) (by simp) a b
  have e:=PV.tup.inj e;simp only[List.cons.injEq,PV.str.injEq,and_true]at e;exact e.2
theorem GR {up:Str->Option Str} (a:Rg.Ring up A) (b:Rg.Ring up B) (ha:A.head? =some h) (hb:B.head? =some h):A.length<=B.length:=by
 apply cz;intro hn;have g:=a.path.both (up':=up) (n:=B.length) ha (fun _ _ _ _=>rfl) B.length (bj _) (by omega);rw[b.turn (List.mem_of_mem_head? hb)]at g;rw[ko]at ha;have l0:0<A.length:=(ae.mp ha).1;have:=(jy l0 a.nd).mp (ha.trans g);exact b.ne (List.eq_nil_of_length_eq_zero this.symm)
theorem HD {up:Str->Option Str} (a:Rg.Ring up A) (b:Rg.Ring up B) (ha:A.head? =some h) (hb:B.head? =some h):A=B:=by
 have l1:=GR a b ha hb;have l2:=GR b a hb ha;apply List.ext_getElem?;intro k
 by_cases hk:k<A.length
 .rw[<-a.path.both (up':=up) (n:=k) ha (fun _ _ _ _=>rfl) k (bj _) hk,b.path.both (up':=up) (n:=k) hb (fun _ _ _ _=>rfl) k (bj _) (by omega)]
 .rw[List.getElem?_eq_none (by omega),List.getElem?_eq_none (by omega)]
theorem vE {up:Str->Option Str} {A:List Str} (a:Rg.Ring up A) (hx:x∈A) (hy:y∈A):∃k,Rg.lZ up k x=some y:=by
 obtain⟨i,hi⟩:=du hx;have il:=(ae.mp hi).1;have r:=a.rot i il;have hd:(A.drop i++A.take i).head? =some x:=by
  rw[Rg.mC (by intro e;have:=cn List.length e;simp at this;omega),head?_drop];exact hi
 obtain⟨k,hk⟩:=du ((Rg.mB A i).mem_iff.mpr hy);exact⟨k,(r.path.both (up':=up) (n:=k) hd (fun _ _ _ _=>rfl) k (bj _) (ae.mp hk).1).trans hk⟩
theorem yP:∀{Rs:List (List Str)},Rs.flatten.Nodup->(∀R∈Rs,R≠[])->Rs.Nodup
 |[],_,_=>nodup_nil
 |R::Rs,h,hn=>by
  rw[flatten_cons,ff]at h;refine fw.mpr ⟨fun hm=>?_,yP h.2.1 fun S hS=>hn S (.tail _ hS)⟩;obtain⟨x,hx⟩:=lg _ (hn R (.head _));exact h.2.2 x hx x (jr.mpr ⟨R,hm,hx⟩) rfl
theorem HW (g:Q0 qs ks ns Rs) (hns:∀x,Rg.AJ (qV qs ks) x->x∈ns) (hr:∀R∈Ws,Rg.Ring (qV qs ks) R) (hc:∀R∈Ws,∀x,R.head? =some x->Cut qs ks R x)
  (nd:Ws.flatten.Nodup) (all:∀x,Rg.AJ (qV qs ks) x->x∈Ws.flatten):Rs.Perm Ws:=by
 have sub:∀{A B:List Str} {x:Str},Rg.Ring (qV qs ks) A->Rg.Ring (qV qs ks) B->x∈A->x∈B->∀y∈A,y∈B:=fun{A B x} a b h1 h2 y hy=>by
  obtain⟨k,hk⟩:=vE a h1 hy;exact b.closed.walk k h2 hk
 have one:∀{A B:List Str} {x:Str},Rg.Ring (qV qs ks) A->Rg.Ring (qV qs ks) B->(∀x,A.head? =some x->Cut qs ks A x)->(∀x,B.head? =some x->Cut qs ks B x)->x∈A->x∈B->A=B:=fun{A B x} a b ca cb h1 h2=>by
  have p:A.Perm B:=EV a.nd b.nd fun y=>⟨sub a b h1 h2 y,sub b a h2 h1 y⟩
  obtain⟨u,hu⟩:∃u,A.head? =some u:=by cases A with|nil=>exact absurd rfl a.ne|cons u _=>exact⟨u,rfl⟩
  obtain⟨v,hv⟩:∃v,B.head? =some v:=by cases B with|nil=>exact absurd rfl b.ne|cons u _=>exact⟨u,rfl⟩
  have e:=(ca u hu).uniq (CM p (cb v hv));exact HD a b hu (e▸hv)
 refine(List.perm_ext_iff_of_nodup (yP g.nd fun R hR=>(g.ring R hR).ne) (yP nd fun R hR=>(hr R hR).ne)).mpr fun R=>⟨fun hR=>?_,fun hR=>?_⟩
 .obtain⟨x,hx⟩:=lg _ (g.ring R hR).ne;obtain⟨S,hS,hx'⟩:=jr.mp (all x ((g.ring R hR).AJ hx));rw[one (g.ring R hR) (hr S hS) (g.cut R hR) (hc S hS) hx hx'];exact hS
 .obtain⟨x,hx⟩:=lg _ (hr R hR).ne;have c:=(hr R hR).AJ hx;obtain⟨S,hS,hx'⟩:=jr.mp (g.all x (hns x c) c);rw[one (hr R hR) (g.ring S hS) (hc R hR) (g.cut S hS) hx hx'];exact hS
section
variable {n:Nat} {N T:Nat->Str} {nx:Nat->Nat} {kd D:Nat->Int} {qs:List Let} {hs:Hl}
theorem Wd.AJ (W:Wd n N T nx kd D qs hs) {x:Str} (h:Rg.AJ (qV qs hs) x):∃j,j<n/\x=N j:=by
 obtain⟨m,h⟩:=h;rw[Rg.uV]at h;cases e:Rg.lZ (qV qs hs) m x with
 |none=>rw[e]at h;cases h
 |some y=>rw[e]at h;exact W.all h
theorem uO {hs:Hl} (h:x∉hs.map (·.1)):sY hs x=none:=by
 unfold sY;rw[ip.mpr fun z hz e=>h (bh.mpr ⟨z,hz,ao e⟩)];rfl
theorem Wd.noR (W:Wd n N T nx kd D qs hs) (hr:∀i,i<n->∃R,Rg.Ring (qV qs hs) R/\N i∈R/\∃j,j<n/\N j∈R/\kd j≠0):TQ hs:=fun y c=>by
 have le:∀x w,sY hs x=some w->qV qs hs x=some w:=fun x w h=>by
  by_cases hx:x∈hs.map (·.1)
  .unfold qV;rw[(pT hx W.hn).1];exact h
  .rw[uO hx]at h;cases h
 have hy:y∈hs.map (·.1):=cz fun hn=>by
  obtain⟨m,h⟩:=c;rw[Rg.lZ,uO hn]at h;cases h
 obtain⟨i,hi,_,rfl⟩:=(W.held y).mp hy;obtain⟨R,r,hR,j,hj,hm,hk⟩:=hr i hi;obtain⟨k,e⟩:=vE r hR hm;obtain⟨w,_,h1,_⟩:=c.back k;obtain⟨w',_,h2,_⟩:=c.back (k+1);have e1:=Rg.CJ le k h1;rw[e]at e1;cases e1;rw[Rg.uV,h1,bind_some,uO (W.free hj hk)]at h2;cases h2
end
end
section
open PySem L2 Mr
structure Rp (N T:Nat->Str) (nx:Nat->Nat) (kd:Nat->Int) (i:Nat) (L:List Let) (M:Hl) (D:Nat->Int) (Em:List Str) (Le:List (Int×Str)):Prop where
 q:∀l∈L,∃j,j<i/\((kd j=0/\l=⟨N j,0,"",[]⟩)\/ (kd j=1/\l=⟨N j,D j,"",[N (nx j)]⟩)\/ (kd j=2/\l=⟨T j,D j,"",[N (nx j),N j]⟩))
 q1:∀j,j<i->kd j=1->(⟨N j,D j,"",[N (nx j)]⟩:Let)∈L
 q2:∀j,j<i->kd j=2->(⟨T j,D j,"",[N (nx j),N j]⟩:Let)∈L
 h:∀x o,(x,o)∈M↔∃j,j<i/\kd j=0/\x=N j/\o=some (N (nx j))
 e:∀x,x∈Em↔∃j,j<i/\kd j=2/\x=N j
 le:∀z,z∈Le↔∃j,j<i/\kd j=1/\z=(D j,N j)
 ll:L.length<=i
 ml:M.length<=i
 el:Em.length<=i
 OC:Le.length<=i
 mn:(M.map (·.1)).Nodup
noncomputable def HR (D:Nat->Int) (i:Nat) (d:Int) (j:Nat):Int:=if j=i then d else D j
section
variable {N T:Nat->Str} {nx:Nat->Nat} {kd:Nat->Int} {i:Nat} {L:List Let} {M:Hl} {D:Nat->Int} {Em:List Str} {Le:List (Int×Str)}
theorem pY (h:j<i):HR D i d j=D j:=by unfold HR;rw[ah (by omega)]
theorem QQ:HR D i d i=d:=by unfold HR;rw[ai rfl]
theorem Rp.upd (R:Rp N T nx kd i L M D Em Le) (d:Int):Rp N T nx kd i L M (HR D i d) Em Le:=
 ⟨fun l hl=>by
  obtain⟨j,hj,h⟩:=R.q l hl;exact⟨j,hj,by rw[pY hj];exact h⟩,fun j hj h=>by rw[pY hj];exact R.q1 j hj h,fun j hj h=>by rw[pY hj];exact R.q2 j hj h,R.h,R.e,fun z=>by
  rw[R.le];exact⟨fun⟨j,hj,a,b⟩=>⟨j,hj,a,by rw[pY hj];exact b⟩,fun⟨j,hj,a,b⟩=>⟨j,hj,a,by rw[pY hj]at b;exact b⟩⟩,R.ll,R.ml,R.el,R.OC,R.mn⟩
theorem HI (h:¬P i):(∃j,j<i+1/\P j)↔∃j,j<i/\P j:=
 ⟨fun⟨j,a,b⟩=>⟨j,by rcases ie.mp a with a|rfl;exact a;exact absurd b h,b⟩,fun⟨j,a,b⟩=>⟨j,by omega,b⟩⟩
theorem JR:(∃j,j<i+1/\P j)↔(∃j,j<i/\P j)\/ P i:=
 ⟨fun⟨j,a,b⟩=>by
  rcases ie.mp a with a|rfl
  .exact .inl ⟨j,a,b⟩
  .exact .inr b,fun h=>h.elim (fun⟨j,a,b⟩=>⟨j,by omega,b⟩) fun b=>⟨i,by omega,b⟩⟩
theorem Rp.s0 (R:Rp N T nx kd i L M D Em Le) (h:kd i=0) (hN:∀j,j<i->N j≠N i) (b:Bool):Rp N T nx kd (i+1) (if b then L++[⟨N i,0,"",[]⟩]else L) (M++[(N i,some (N (nx i)))]) D Em Le:=by
 refine⟨fun l hl=>?_,fun j hj k=>?_,fun j hj k=>?_,fun x o=>?_,fun x=>?_,fun z=>?_,?_,by have:=R.ml;simp;omega,by have:=R.el;omega,by have:=R.OC;omega,?_⟩
 .have:l∈L\/ l=⟨N i,0,"",[]⟩:=by
   cases b
   .exact .inl hl
   .exact(bp.mp hl).elim .inl fun h=>.inr (cc.mp h)
  rcases this with hl|rfl
  .obtain⟨j,hj,z⟩:=R.q l hl;exact⟨j,by omega,z⟩
  .exact⟨i,by omega,.inl ⟨h,rfl⟩⟩
 .have hj':j<i:=by rcases ie.mp hj with a|rfl;exact a;rw[h]at k;exact absurd k (by decide)
  have:=R.q1 j hj' k;cases b
  .exact this
  .exact bw _ this
 .have hj':j<i:=by rcases ie.mp hj with a|rfl;exact a;rw[h]at k;exact absurd k (by decide)
  have:=R.q2 j hj' k;cases b
  .exact this
  .exact bw _ this
 .rw[bp,R.h,JR];simp[h]
 .rw[R.e,HI (P:=fun j=>kd j=2/\x=N j) (fun z=>by rw[h]at z;exact absurd z.1 (by decide))]
 .rw[R.le,HI (P:=fun j=>kd j=1/\z=(D j,N j)) (fun z=>by rw[h]at z;exact absurd z.1 (by decide))]
 .have:=R.ll;cases b
  .show L.length<=_;omega
  .show(L++_).length<=_;simp;omega
 .rw[bu,ff];refine⟨R.mn,by simp,fun a ha c hc e=>?_⟩;obtain⟨⟨x,o⟩,hz,rfl⟩:=bh.mp ha;obtain⟨j,hj,_,e1,_⟩:=(R.h x o).mp hz;simp at hc;exact hN j hj (by rw[<-e1,<-hc];exact e)
theorem Rp.s1 (R:Rp N T nx kd i L M D Em Le) (h:kd i=1):Rp N T nx kd (i+1) (L++[⟨N i,D i,"",[N (nx i)]⟩]) M D Em (Le++[(D i,N i)]):=by
 refine⟨fun l hl=>?_,fun j hj k=>?_,fun j hj k=>?_,fun x o=>?_,fun x=>?_,fun z=>?_,by have:=R.ll;simp;omega,by have:=R.ml;omega,by have:=R.el;omega,by have:=R.OC;simp;omega,R.mn⟩
 .rcases bp.mp hl with hl|hl
  .obtain⟨j,hj,z⟩:=R.q l hl;exact⟨j,by omega,z⟩
  .exact⟨i,by omega,.inr (.inl ⟨h,cc.mp hl⟩)⟩
 .rcases ie.mp hj with a|rfl
  .exact bw _ (R.q1 j a k)
  .simp
 .have hj':j<i:=by rcases ie.mp hj with a|rfl;exact a;rw[h]at k;exact absurd k (by decide)
  exact bw _ (R.q2 j hj' k)
 .rw[R.h,HI (P:=fun j=>kd j=0/\x=N j/\o=some (N (nx j))) (fun z=>by rw[h]at z;exact absurd z.1 (by decide))]
 .rw[R.e,HI (P:=fun j=>kd j=2/\x=N j) (fun z=>by rw[h]at z;exact absurd z.1 (by decide))]
 .rw[bp,R.le,JR];simp[h]
theorem Rp.s2 (R:Rp N T nx kd i L M D Em Le) (h:kd i=2):Rp N T nx kd (i+1) (L++[⟨T i,D i,"",[N (nx i),N i]⟩]) M D (Em++[N i]) Le:=by
 refine⟨fun l hl=>?_,fun j hj k=>?_,fun j hj k=>?_,fun x o=>?_,fun x=>?_,fun z=>?_,by have:=R.ll;simp;omega,by have:=R.ml;omega,by have:=R.el;simp;omega,by have:=R.OC;omega,R.mn⟩
 .rcases bp.mp hl with hl|hl
  .obtain⟨j,hj,z⟩:=R.q l hl;exact⟨j,by omega,z⟩
  .exact⟨i,by omega,.inr (.inr ⟨h,cc.mp hl⟩)⟩
 .have hj':j<i:=by rcases ie.mp hj with a|rfl;exact a;rw[h]at k;exact absurd k (by decide)
  exact bw _ (R.q1 j hj' k)
 .rcases ie.mp hj with a|rfl
  .exact bw _ (R.q2 j a k)
  .simp
 .rw[R.h,HI (P:=fun j=>kd j=0/\x=N j/\o=some (N (nx j))) (fun z=>by rw[h]at z;exact absurd z.1 (by decide))]
 .rw[bp,R.e,JR];simp[h]
 .rw[R.le,HI (P:=fun j=>kd j=1/\z=(D j,N j)) (fun z=>by rw[h]at z;exact absurd z.1 (by decide))]
end
structure rD (n:Nat) (N:Nat->Str) (kd D:Nat->Int) (r:Nat):Prop where
 lt:r<n
 free:kd r≠0
 emp:∀j,j<n->kd j=2->kd r=2/\l3 3 (.str (N r)) (.str (N j))=true
 full:(∀j,j<n->kd j≠2)->∀j,j<n->kd j=1->l3 3 (.tup [.int (D r),.str (N r)]) (.tup [.int (D j),.str (N j)])=true
noncomputable abbrev nA (nm:List Str) (i:Nat):Str:=nm.getD i ""
noncomputable abbrev V4 (Le:List (Int×Str)):List PV:=Le.map fun z=>.tup [.int z.1,.str z.2]
end
section
open PySem L2 Mr
theorem OA:∀{l:List Str} {r:Nat} {x:Str},l.Nodup->l[r]? =some x->l.idxOf x=r
 |[],_,_,_,h=>by simp at h
 |a::l,0,x,_,h=>by
  have:a=x:=by simpa using h
  rw[this,List.idxOf_cons_self]
 |a::l,r+1,x,nd,h=>by
  have h':l[r]? =some x:=by simpa using h
  have ne:a≠x:=fun e=>(fw.mp nd).1 (e▸ba h')
  rw[List.idxOf_cons,beq_eq_false_iff_ne.mpr ne,cond_false,OA (fw.mp nd).2 h']
theorem Q9 (xs:List PV) (h:r<=n) (hn:n<=xs.length):wJ xs (some (r:Int)) (some (n:Int))=(xs.take n).drop r:=by
 unfold wJ;rw[HT.tM,HT.tM,jq hn,jq (by omega),drop_take]
theorem RQ {nm:List Str} {v6 v7 v10 v11:Option Sl} {F:Out->Prop} (hn:nm.length=2*n) (n30:n<=30) (hr:r<n) (nd:nm.Nodup)
  (q:∀e,e[0]? =some v0->F (.rt (.val (.tup [.lst (L.map lP),.lst (mP M),.tup (((nm.take n).drop r++nm.take r).map PV.str)])) e)):
  Wp (dJ [v0,some (Sl.bor (PV.lst (nm.map PV.str))),v2,some (Sl.val (PV.int n)),some (Sl.loc (PV.lst (L.map lP))),some (Sl.loc (PV.lst (mP M))),v6,v7,v8,v9,v10,v11,some (Sl.val (.str (nA nm r))),none]) F:=by
 have ia:nm[r]? =some (nA nm r):=by unfold nA;rw[aq,ag (by omega)];rfl
 have it:(nm.take n)[r]? =some (nA nm r):=by rw[gf,ai hr];exact ia
 have ndt:(nm.take n).Nodup:=nd.sublist (ly _ _);have ii:=OA ndt it;have lt:(nm.take n).length=n:=by rw[di];omega
 walk_at "wp";rw[pQ,<-map_take,nR];walk_at "wp";rw[ii];refine⟨⟨ba it,by omega⟩,?_⟩;rw[Q9 _ (ir hr) (by rw[aj];omega),pQ,<-map_take,<-map_drop,<-map_take,<-bu];refine⟨?_,q _ rfl⟩;rw[aj,aj,dh,di,di];omega
end
section
open PySem L2 Mr
theorem sum_ints (zs:List Int):SJ [.lst (zs.map PV.int)]=some (.val (.int zs.sum)):=by
 show bO (xH (zs.map PV.int)) _=_;rw[G9];rfl
theorem BY {a b c:Int} (hp:Hand a b c m) (hm:m<10000) (q:∀(ks:List Int) (n:Nat) a' b' c',ks.length=n->2<=n->n<=30->(∀i,i<n->ks.getD i 0=0\/ ks.getD i 0=1\/ ks.getD i 0=2)->(∃i,i<n/\ks.getD i 0≠0)->Hand a' b' c' (m+40)->Q (.lst (ks.map PV.int),[hd a' b' c'])):Wp (eU [hd a b c]) Q:=by
 unfold eU m9;walk_at "wp";refine eP hp (by omega) (by decide) (by decide) fun d a1 b1 c1 d0 d1 hp=>?_
 walk_at "wp";refine qE d0 d1 fun p hp'=>?_
 obtain⟨ms,rfl,m0,m1,m2⟩:∃ms:List Int,p= .lst (ms.map PV.int)/\0<ms.length/\ms.length<=3/\∀z∈ms,z=0\/ z=1\/ z=2:=by
  simp only[br,not_mem_nil,or_false]at hp';rcases hp' with rfl|rfl|rfl|rfl|rfl|rfl
  .exact⟨[0,1],rfl,by decide,by decide,by decide⟩
  .exact⟨[0,2],rfl,by decide,by decide,by decide⟩
  .exact⟨[1,2],rfl,by decide,by decide,by decide⟩
  .exact⟨[0,1,2],rfl,by decide,by decide,by decide⟩
  .exact⟨[1],rfl,by decide,by decide,by decide⟩
  .exact⟨[2],rfl,by decide,by decide,by decide⟩
 clear d0 d1 hp';walk_at "wp";refine eP hp (by omega) (by decide) (by decide) fun fr a1 b1 c1 f0 f1 hp=>?_
 walk_at "wp";refine eP hp (by omega) (by decide) (by decide) fun s7 a1 b1 c1 s0 s1 hp=>?_
 walk_at "wp";refine eP hp (by omega) (by decide) (by decide) fun s8 a1 b1 c1 t0 t1 hp=>?_
 walk_at "wp";obtain⟨n,en,n2,n30⟩:∃n:Nat,oB [PV.int 30,PV.int (2+s7)] (if 0<s8 then 1 else 0)=some (.int (n:Int))/\2<=n/\n<=30:=by
  by_cases h:0<s8
  .rw[ai h];exact⟨(2+s7).toNat,by rw[Int.toNat_of_nonneg (by omega)];rfl,by omega,by omega⟩
  .rw[ah h];exact⟨30,rfl,by decide,by decide⟩
 rw[en];clear en s0 s1 t0 t1 s7 s8;walk_at "wp";refine⟨mJ (by omega) (by omega),?_⟩;rw[show((n:Nat):Int).toNat=n from toNat_natCast n];refine⟨by omega,iN (fun i acc e=>∃(zs:List Int) (s:Option Sl) (a b c:Int),acc=zs.map PV.int/\zs.length=i/\(∀z∈zs,z=0\/ z=1\/ z=2)/\Hand a b c (m+4+i)/\e=[s,some (Sl.val (PV.lst (ms.map PV.int))),some (Sl.own (hd a b c))]) ?_ ?_ ⟨[],_,_,_,_,rfl,rfl,fun _ h=>(nomatch h),hp,rfl⟩⟩
 .rintro i x e acc hx ⟨zs,s,a,b,c,rfl,hl,hz,hp,rfl⟩;have hi:=(ae.mp hx).1;rw[aj,eu]at hi;walk_at "wp";refine eP hp (by omega) (by omega) (by omega) fun d a1 b1 c1 d0 d1 hp=>?_
  walk_at "wp";refine qE d0 (by rw[aj];exact d1) fun p hp'=>?_
  obtain⟨y,hy,rfl⟩:=bh.mp hp';walk_at "wp";exact⟨zs++[y],_,_,_,_,by rw[bu];rfl,by rw[bq,hl];rfl,fun z h=>(bp.mp h).elim (hz z) fun h=>by rw[cc.mp h];exact m2 y hy,hp,rfl⟩
 rintro acc e ⟨zs,s,a,b,c,rfl,hl,hz,hp,rfl⟩;rw[aj,eu]at hl hp;have hp':=hp.mono (show _<=m+40 by omega);have YT:∀(zs:List Int) i,i<zs.length->zs.getD i 0∈zs:=fun zs i hi=>by rw[aq,ag hi];exact iu _
 walk_at "wp";refine N6 (sum_ints zs) ?_;walk_at "wp";refine⟨fun h=>?_,fun h=>?_⟩
 .refine eP hp (by omega) (by omega) (by omega) fun k a1 b1 c1 k0 k1 hp=>?_
  have hp':=hp.mono (show _<=m+40 by omega);have ek:uC zs.length k=some k.toNat:=by
   unfold uC;rw[ai k0,ai (by omega)]
  walk_at "wp";rw[ek];walk_at "wp";rw[<-List.map_set];have kl:k.toNat<zs.length:=by omega
  refine q _ n _ _ _ (by rw[jn];exact hl) n2 n30 (fun i hi=>?_) ⟨k.toNat,by omega,?_⟩ hp'
  .rw[aq]
   by_cases e:k.toNat=i
   .rw[e,dz (by omega)];show 1+fr=0\/ 1+fr=1\/ 1+fr=2;omega
   .rw[df e,<-aq];exact hz _ (YT zs i (by omega))
  .rw[aq,dz kl];show 1+fr≠0;omega
 .refine q zs n a b c hl n2 n30 (fun i hi=>hz _ (YT zs i (by omega))) (cz fun no=>?_) hp';have all:∀z∈zs,z=0:=fun z hz'=>by
   obtain⟨i,hi⟩:=du hz';have il:=(ae.mp hi).1;refine cz fun h=>no ⟨i,by omega,?_⟩
   rw[aq,hi];exact h
  have:zs.sum=0:=by
   clear h hl hz YT no hp hp'
   induction zs with
   |nil=>rfl
   |cons a l ih=>rw[List.sum_cons,all a (.head _),ih fun z hz=>all z (.tail _ hz)];rfl
  rw[this]at h;cases h
end
section
open PySem L2 Mr
theorem T7 (Le:List (Int×Str)):dW 3 (V4 Le)=true:=bb.mpr fun p hp=>by
 obtain⟨z,hz,rfl⟩:=bh.mp hp;rw[bz];refine⟨rfl,bb.mpr fun q hq=>?_⟩;obtain⟨y,hy,rfl⟩:=bh.mp hq;unfold qF c6;split
 .unfold c6;split
  .rfl
  .rfl
 .rfl
theorem FW {nm:List Str} {ks:List Int} {a b c:Int} (hp:Hand a b c m) (hm:m<10000) (hk:ks.length=n) (hn:nm.length=2*n) (n2:2<=n) (n30:n<=30) (nd:nm.Nodup) (k3:∀i,i<n->ks.getD i 0=0\/ ks.getD i 0=1\/ ks.getD i 0=2) (k0:∃i,i<n/\ks.getD i 0≠0)
  (q:∀L M D Em Le r a' b' c',Rp (nA nm) (fun i=>nA nm (n+i)) (fun i=>(i+1) % n) (fun i=>ks.getD i 0) n L M D Em Le->rD n (nA nm) (fun i=>ks.getD i 0) D r->Hand a' b' c' (m+3*30)->
   Q (.tup [.lst (L.map lP),.lst (mP M),.tup (((nm.take n).drop r++nm.take r).map PV.str)],[hd a' b' c'])):Wp (fS [hd a b c,.lst (nm.map PV.str),.lst (ks.map PV.int)]) Q:=by
 have atN:∀i,i<2*n->nm[i]? =some (nA nm i):=fun i hi=>by
  unfold nA;rw[aq,ag (by omega)];rfl
 have atK:∀i,i<n->ks[i]? =some (ks.getD i 0):=fun i hi=>by
  rw[aq,ag (by omega)];rfl
 have inj:∀i j,i<2*n->j<2*n->nA nm i=nA nm j->i=j:=fun i j hi hj e=>(jy (by omega) nd).mp (by rw[atN i hi,atN j hj,e])
 have ix:∀i:Nat,i<2*n->oB (nm.map PV.str) (i:Int)=some (.str (nA nm i)):=fun i hi=>by
  exact eQ (by rw[az,atN i hi];rfl)
 have ixk:∀i:Nat,i<n->oB (ks.map PV.int) (i:Int)=some (.int (ks.getD i 0)):=fun i hi=>by
  exact eQ (by rw[az,atK i hi];rfl)
 obtain⟨rest,hrest⟩:∃r,r=dJ:=⟨_,rfl⟩;unfold fS pC fM fK fO;rw[<-hrest];walk_at "wp";rw[hk];refine⟨mJ (by omega) (by omega),?_⟩;rw[show((n:Nat):Int).toNat=n from toNat_natCast n];refine dS (fun i e=>∃(L:List Let) (M:Hl) (D:Nat->Int) (Em:List Str) (Le:List (Int×Str)) (a b c:Int) (v8 v9 v10 v11:Option Sl),Rp (nA nm) (fun i=>nA nm (n+i)) (fun i=>(i+1) % n) (fun i=>ks.getD i 0) i L M D Em Le/\Hand a b c (m+3*i)/\
  e=[some (.own (hd a b c)),some (.bor (.lst (nm.map PV.str))),some (.bor (.lst (ks.map PV.int))),some (.val (.int n)),some (.loc (.lst (L.map lP))),some (.loc (.lst (mP M))),some (.loc (.lst (Em.map PV.str))),some (.loc (.lst (V4 Le))),v8,v9,v10,v11,none,none]) ?_ ?_
  ⟨[],[],fun _=>0,[],[],a,b,c,_,_,_,_,⟨by simp,by simp,by simp,by simp,by simp,by simp,by simp,by simp,by simp,by simp,by simp⟩,hp,rfl⟩
 .rintro i p e hx ⟨L,M,D,Em,Le,a,b,c,v8,v9,v10,v11,R,hp,rfl⟩;have hi:=(ae.mp hx).1;rw[aj,eu]at hi;rw[az,getElem?_range hi]at hx;obtain rfl:p= .int (i:Int):=by
   have:=Option.some.inj hx;rw[<-this];show PV.int (0+(i:Int))=_;rw[Int.zero_add]
  clear hx;have ll:=R.ll;have ml:=R.ml;have el:=R.el;have OC:=R.OC;have nxl:(i+1) % n<n:=mod_lt _ (by omega);have em:((i:Int)+1) % (n:Int)=(((i+1) % n:Nat):Int):=by rw[Int.natCast_emod];rfl
  walk_at "wp";rw[ix i (by omega)];walk_at "wp";rw[em,ix _ (by omega)];walk_at "wp";refine⟨by omega,eP hp (by omega) (by decide) (by decide) fun d a1 b1 c1 d0 d1 hp=>?_⟩;walk_at "wp";refine qE d0 d1 fun p hp'=>?_
  obtain⟨z,rfl,z0,z1⟩:∃z:Int,p= .int z/\0<z/\z<=100000000:=by
   simp only[br,not_mem_nil,or_false]at hp';rcases hp' with rfl|rfl|rfl<;>exact⟨_,rfl,by decide,by decide⟩
  clear d0 d1 hp';walk_at "wp";refine eP hp (by omega) z0 (by omega) fun day a1 b1 c1 d0 d1 hp=>?_
  clear d0 d1 z0 z1;walk_at "wp";rw[ixk i hi];walk_at "wp";replace R:=R.upd day;have dd:HR D i day i=day:=QQ;have hN:∀j,j<i->nA nm j≠nA nm i:=fun j hj e=>by have:=inj j i (by omega) (by omega) e;omega
  rcases k3 i hi with k|k|k
  .rw[k];walk_at "wp";refine⟨⟨by unfold mP;rw[aj];omega,eP hp (by omega) (by decide) (by decide) fun o a1 b1 c1 _ _ hp=>?_⟩,fun h=>h.elim⟩;walk_at "wp";have hp':=hp.mono (show _<=m+3*(i+1) by omega);have em1:mP (M++[(nA nm i,some (nA nm ((i+1) % n)))])=mP M++[PV.tup [PV.str (nA nm i),PV.str (nA nm ((i+1) % n))]]:=by unfold mP;rw[bu];rfl
   exact⟨fun h=>⟨by omega,_,_,_,_,_,_,_,_,_,_,_,_,R.s0 k hN true,hp',by rw[ai rfl,em1,bu];rfl⟩,fun h=>⟨_,_,_,_,_,_,_,_,_,_,_,_,R.s0 k hN false,hp',by rw[ah av,em1]⟩⟩
  .rw[k];refine⟨fun h=>(nomatch h),fun _=>?_⟩;rw[ixk i hi,k];walk_at "wp";have hp':=hp.mono (show _<=m+3*(i+1) by omega);have r:=R.s1 k;rw[dd]at r;exact⟨by omega,by omega,_,_,_,_,_,_,_,_,_,_,_,_,r,hp',by unfold V4;rw[bu,bu];rfl⟩
  .rw[k];refine⟨fun h=>(nomatch h),fun _=>?_⟩;rw[ixk i hi,k];walk_at "wp";refine⟨fun h=>(nomatch h),fun _=>?_⟩;rw[show(n:Int)+(i:Int)=((n+i:Nat):Int)from(Int.natCast_add n i).symm,ix _ (by omega)];walk_at "wp";have hp':=hp.mono (show _<=m+3*(i+1) by omega);have r:=R.s2 k;rw[dd]at r;exact⟨by omega,by omega,_,_,_,_,_,_,_,_,_,_,_,_,r,hp',by rw[bu,bu];rfl⟩
 .rintro e ⟨L,M,D,Em,Le,a,b,c,v8,v9,v10,v11,R,hp,rfl⟩;rw[aj,eu]at R hp;have hp':=hp.mono (show _<=m+3*30 by omega);walk_at "wp";have fin:∀r,rD n (nA nm) (fun i=>ks.getD i 0) D r->∀{F:Out->Prop},(∀e,e[0]? =some (some (Sl.own (hd a b c)))->F (.rt (.val (.tup [.lst (L.map lP),.lst (mP M),.tup (((nm.take n).drop r++nm.take r).map PV.str)])) e))->Wp (rest [some (Sl.own (hd a b c)),some (Sl.bor (PV.lst (nm.map PV.str))),some (Sl.bor (PV.lst (ks.map PV.int))),some (Sl.val (PV.int n)),some (Sl.loc (PV.lst (L.map lP))),some (Sl.loc (PV.lst (mP M))),some (Sl.loc (PV.lst (Em.map PV.str))),some (Sl.loc (PV.lst (V4 Le))),v8,v9,v10,v11,some (Sl.val (.str (nA nm r))),none]) F:=fun r hc F h=>by
   rw[hrest];exact RQ hn n30 hc.lt nd h
  have ll:=R.ll;have OC:=R.OC;cases Em with
  | cons z Em=>
   refine⟨qR _ 8,fun _=>⟨⟨Nat.succ_pos _,uL _⟩,?_⟩,fun h=>(nomatch h)⟩;obtain⟨x,hx,e⟩:=bh.mp (p9 (ps:=(z::Em).map PV.str) (by simp));obtain⟨r,hr,kr,rfl⟩:=(R.e x).mp hx;rw[<-e];have hcI:rD n (nA nm) (fun i=>ks.getD i 0) D r:=⟨hr,by rw[kr];decide,fun j hj kj=>⟨kr,by
    have:=kW (ps:=(z::Em).map PV.str) (q:=.str (nA nm j)) (bh.mpr ⟨_,(R.e _).mpr ⟨j,hj,kj,rfl⟩,rfl⟩);rw[<-e]at this;exact this⟩,fun h=>absurd kr (h r hr)⟩
   refine fin r hcI fun e he=>?_
   .walk_at "wp";rw[he];walk_at "wp";exact q L M D _ Le r _ _ _ R hcI hp'
  | nil=>
   have no2:∀j,j<n->ks.getD j 0≠2:=fun j hj k=>by have:=(R.e _).mpr ⟨j,hj,k,rfl⟩;cases this
   obtain⟨i0,hi0,k0⟩:=k0;have h1:(D i0,nA nm i0)∈Le:=(R.le _).mpr ⟨i0,hi0,((k3 i0 hi0).resolve_left k0).resolve_right (no2 i0 hi0),rfl⟩;have hpos:0<(V4 Le).length:=by unfold V4;rw[aj];exact kn h1
   refine⟨rfl,fun h=>(nomatch h),fun _=>⟨⟨kn h1,T7 Le⟩,?_⟩⟩;obtain⟨x,hx,e⟩:=bh.mp (p9 hpos);obtain⟨r,hr,kr,rfl⟩:=(R.le x).mp hx;rw[<-e];have hcI:rD n (nA nm) (fun i=>ks.getD i 0) D r:=⟨hr,by rw[kr];decide,fun j hj kj=>absurd kj (no2 j hj),fun _ j hj kj=>by
    have:=kW (ps:=V4 Le) (q:=.tup [.int (D j),.str (nA nm j)]) (bh.mpr ⟨_,(R.le _).mpr ⟨j,hj,kj,rfl⟩,rfl⟩);rw[<-e]at this;exact this⟩
   walk_at "wp";refine fin r hcI fun e he=>?_
   .walk_at "wp";rw[he];walk_at "wp";exact q L M D _ Le r _ _ _ R hcI hp'
end
section
open PySem L2 Mr
theorem MW (g:Good ss qs ks) (hss:ss.length<=124) (hl:qs.length<=100) (hk:ks.length<=100) (hkn:(ks.map (·.1)).Nodup)
  (e:cB [.tup (qs.map lP),.tup (mP ks),.a9 (gJ (O5 qs ks) (rY qs ks))]=some (.tup (Rs.map tT),[])) (q:Q (.tup (Rs.map tT),[])):Wp (pS [.tup (qs.map lP),.tup (mP ks)]) Q:=by
 unfold pS y8;walk_at "wp";refine xR g hl (by omega) ?_;walk_at "wp";refine vM (fun l h=>(g.1 l h).1) hl hk (xW qs ks) (by have:(cI (b8 (l4 qs ks))).length<=_:=uJ g;omega) (fun x hx R r=>vT hkn r) ?_;walk_at "wp";refine N6 e ?_;walk_at "wp";exact q
theorem V0 (Rs:List (List Str)):cZ (Rs.map tT) (Rs.map tT)=true:=rQ (n:=3) (fun h=>pV h) (bb.mpr fun p hp=>by obtain⟨R,_,rfl⟩:=bh.mp hp;exact TU R)
theorem XX (Rs:List (List Str)) (n:Nat):(Rs.map tT).all (jK (n+1))=true:=bb.mpr fun p hp=>by obtain⟨R,_,rfl⟩:=bh.mp hp;exact qR R n
theorem w8:∀{Rs:List (List Str)},Rs.flatten.Nodup->∀{R S:List Str} {x:Str},R∈Rs->S∈Rs->x∈R->x∈S->R=S
 |A::Rs,nd,R,S,x,hR,hS,h1,h2=>by
  rw[flatten_cons,ff]at nd;have ap:∀B∈Rs,x∈A->x∈B->False:=fun B hB a b=>nd.2.2 x a x (jr.mpr ⟨B,hB,b⟩) rfl
  rcases br.mp hR with e1|e1<;>rcases br.mp hS with e2|e2
  .rw[e1,e2]
  .exact(ap S e2 (e1▸h1) h2).elim
  .exact(ap R e1 (e2▸h2) h1).elim
  .exact w8 nd.2.1 e1 e2 h1 h2
theorem R5 {up:Str->Option Str} (r:Rg.Ring up R) {y:Str} (hy:R[j]? =some y):up y=R[(j+1) % R.length]?:=by
 have jl:=(ae.mp hy).1
 by_cases e:j+1<R.length
 .rw[Nat.mod_eq_of_lt e,ag e];exact r.path.next hy (ag _)
 .rw[show j+1=R.length by omega,mod_self,<-ko];have:=r.path.z7 hy;rw[show R.length - j=0+1 by omega,Rg.lZ]at this;rw[<-this];cases up y<;>rfl
theorem A4 (g:Good ss qs ks) (hss:ss.length<=124) (hl:qs.length<=100) (hk:ks.length<=100) (hkn:(ks.map (·.1)).Nodup) (nr:TQ ks) (hW:∀Rs,Q0 qs ks (rY qs ks) Rs->Rs=Ws) (q:Q (.bl true,[])):
  Wp (eV [.tup (qs.map lP),.tup (mP ks),.tup (Ws.map tT)]) Q:=by
 obtain⟨Rs,hRs,hcr⟩:=ZM g hss hl hk hkn nr;have e:=hW Rs hRs;subst e;have nl:=uJ g;unfold eV l8;walk_at "wp";refine MW g hss hl hk hkn hcr ?_;walk_at "wp";rw[V0];refine⟨XX Rs 7,fun h=>(nomatch h),fun _=>?_⟩;refine AB g hss hl hk hkn hRs hcr fun E Rn hc=>?_
 have Lm:∀x,x∈cI (rY qs ks)↔x∈rY qs ks:=fun x=>(dI _).mem_iff
 have Ln:(cI (rY qs ks)).Nodup:=(dI _).nodup_iff.mpr (xW qs ks);have Ll:=(dI (rY qs ks)).length_eq;have ca:=JT hRs (xW qs ks);generalize cI (rY qs ks)=L at Lm Ln Ll ca;walk_at "wp";refine dS (fun i e=>∃(v4 v5 v6:Option Sl),e=[some (Sl.val (PV.tup (List.map lP qs))),some (Sl.val (PV.tup (mP ks))),some (Sl.val (PV.tup (Rs.map tT))),some (Sl.loc (.a9 (gJ (fun x=>.tup [oP (E x),Rn x]) (L.take i)))),v4,v5,v6,none,none]) ?_ ?_ ⟨_,_,_,rfl⟩
 .rintro i p e hp ⟨v4,v5,v6,rfl⟩;rw[az]at hp;obtain⟨x,hx,rfl⟩:=cu.mp hp;have nx:x∉L.take i:=zL Ln hx;have tl:(L.take i).length<=L.length:=by rw[di];omega
  have tk:L.take (i+1)=L.take i++[x]:=by rw[gn,hx];rfl
  walk_at "wp";exact⟨by rw[tW];omega,_,_,_,by rw[tk,<-zY nx]⟩
 rintro e ⟨v4,v5,v6,rfl⟩;rw[aj,dq];walk_at "wp";refine dS (fun i e=>∃(v7 v8:Option Sl),e=[some (Sl.val (PV.tup (List.map lP qs))),some (Sl.val (PV.tup (mP ks))),some (Sl.val (PV.tup (Rs.map tT))),some (Sl.loc (.a9 (gJ (fun x=>.tup [oP (E x),Rn x]) L))),v4,v5,v6,v7,v8]) ?_ ?_ ⟨_,_,rfl⟩
 .rintro i p e hp ⟨v7,v8,rfl⟩;rw[az]at hp;obtain⟨R,hR,rfl⟩:=cu.mp hp;have hRm:=ba hR;have ring:=hRs.ring R hRm;obtain⟨h,hh⟩:∃h,R.head? =some h:=by cases R with|nil=>exact absurd rfl ring.ne|cons h R'=>exact⟨h,rfl⟩
  have hL:∀x∈R,x∈L:=fun x hx=>(Lm x).mpr (hRs.sub _ hRm x hx)
  obtain⟨he,hr⟩:=hc.hd _ hRm h hh;have Rl:R.length<=L.length:=iU ring.nd hL;have ix:∀i,(hi:i<R.length)->oB (R.map PV.str) (i:Int)=some (.str R[i]):=fun i hi=>eQ (by rw[az,ag hi];rfl)
  have h0:oB (R.map PV.str) 0=some (.str h):=eQ (j:=0) (by rw[az,<-ko,hh];rfl);have gh:(bY (gJ (fun x=>PV.tup [oP (E x),Rn x]) L) (Sum.inr h)).getD (PV.tup [])= .tup [.bH,.tup [.str (Str.ofString "ring"),tT R]]:=by
   rw[gG,ai (hL h (List.mem_of_mem_head? hh)),he,hr];rfl
  have pl:∀n,pB (n+3) (PV.tup [PV.bH,PV.tup [PV.str (Str.ofString "ring"),tT R]])=true:=fun n=>by
   have:=yD R n;show(true && ((true && ((R.map PV.str).all (pB n) && true)) && true))=true;rw[this];rfl
  walk_at "wp";rw[h0];walk_at "wp";rw[gh,pV (pl 0)];refine⟨⟨EK (pl 6),qR R 6⟩,fun h=>(nomatch h),fun _=>⟨⟨mJ (by decide) (by decide),mJ (by omega) (by omega)⟩,?_⟩⟩;refine dS (fun i e=>∃(v8:Option Sl),e=[some (Sl.val (PV.tup (List.map lP qs))),some (Sl.val (PV.tup (mP ks))),some (Sl.val (PV.tup (Rs.map tT))),some (Sl.loc (.a9 (gJ (fun x=>.tup [oP (E x),Rn x]) L))),v4,v5,v6,some (Sl.val (tT R)),v8]) ?_ ?_ ⟨_,rfl⟩
  .rintro k p e hp ⟨v8,rfl⟩;have hkl:=(ae.mp hp).1;rw[aj,eu]at hkl;rw[az,getElem?_range hkl]at hp;obtain rfl:p= .int ((1+k:Nat):Int):=by
    rw[<-Option.some.inj hp];show PV.int (1+(k:Int))=_;rw[Int.natCast_add];rfl
   clear hp;have kl:1+k<R.length:=by omega
   generalize hj:1+k=j at kl;have hy:R[j]? =some R[j]:=ag kl;have ym:=iu kl;have nh:∀S∈Rs,S.head?≠some R[j]:=fun S hS e=>by
    have:=w8 hRs.nd hRm hS ym (List.mem_of_mem_head? e);rw[<-this,ko]at e;have:=(jy (by omega) ring.nd).mp (e.trans hy.symm);omega
   have ey:=(hc.ot _ nh).1;have ml:(j+1) % R.length<R.length:=mod_lt _ (by omega);rw[R5 ring hy,ag ml]at ey;have em:((j:Int)+1) % (R.length:Int)=(((j+1) % R.length:Nat):Int):=by rw[Int.natCast_emod];rfl
   have i1:=ix j kl;have i2:=ix _ ml;have yL:=hL _ ym;generalize R[j]=y at i1 ey yL;generalize R[(j+1) % R.length]=z at i2 ey;have gy:(bY (gJ (fun x=>PV.tup [oP (E x),Rn x]) L) (Sum.inr y)).getD (PV.tup [PV.str (Str.ofString "")])= .tup [.str z,Rn y]:=by
    rw[gG,ai yL,ey];rfl
   walk_at "wp";rw[i1];walk_at "wp";rw[gy];walk_at "wp";refine⟨by omega,?_⟩;rw[em,i2];walk_at "wp";exact⟨_,rfl⟩
  .rintro e ⟨v8,rfl⟩;exact⟨_,_,rfl⟩
 .rintro e ⟨v7,v8,rfl⟩;walk_at "wp";rw[AU,tW];refine⟨by omega,mN (p:=fun x=>(nG Rs x).isSome) (I:=fun e=>∃s,e=[s,some (Sl.bor (.a9 (gJ (fun x=>.tup [oP (E x),Rn x]) L)))]) ⟨_,rfl⟩ ?_ ?_⟩
  .rintro x hx e ⟨s,rfl⟩;walk_at "wp";rw[gG,ai hx];cases hf:nG Rs x with
   |some R=>
    have hRm:R∈Rs:=fu hf;have hhd:R.head? =some x:=ao (by have:=jt hf;exact this);rw[(hc.hd R hRm x hhd).2];walk_at "wp";exact⟨rfl,_,rfl⟩
   | none=>
    rw[(hc.ot x (J8 hf)).2];have rr:(tD qs ks x).r=K1\/ (tD qs ks x).r=XU\/ (tD qs ks x).r=rJ\/ ∃n a,(tD qs ks x).r= .tup [.str (Str.ofString "told"),.str n,.int a]:=by
     by_cases hk':x∈ks.map (·.1)
     .exact .inl (pT hk' hkn).2
     .exact .inr (SA hk')
    rcases rr with e|e|e|⟨n,a,e⟩
    all_goals
     rw[e];walk_at "wp"
    all_goals exact⟨rfl,_,rfl⟩
  .rintro e ⟨s,rfl⟩;walk_at "wp";have len:∀l:List Str,(l.filter fun x=>(nG Rs x).isSome).length=(l.filterMap (nG Rs)).length:=fun l=>by
    induction l with
    |nil=>rfl
    |cons a l ih=>
     cases c:nG Rs a with
     |none=>rw[List.filterMap_cons_none c,List.filter_cons_of_neg (by rw[c];decide),ih]
     |some R=>rw[ma c,List.filter_cons_of_pos (by rw[c];rfl),length_cons,length_cons,ih]
   rw[len,ca,gV];exact q
end
section
open PySem L2 Mr
theorem ES {up:Str->Option Str}:∀{l:List Str} {e:Option Str},(∀i x y,l[i]? =some x->l[i+1]? =some y->up x=some y)->(∀x,l.getLast? =some x->up x=e)->Rg.Path up l e
 |[],_,_,_=>trivial
 |[x],_,_,h=>h x rfl
 |x::y::l,e,h1,h2=>⟨h1 0 x y rfl rfl,ES (fun i a b ha hb=>h1 (i+1) a b (by simpa using ha) (by simpa using hb)) fun a ha=>h2 a (by simpa using ha)⟩
theorem GV {up:Str->Option Str} (hl:A.length=n) (h1:1<=n) (nd:A.Nodup) (h:∀i x,A[i]? =some x->up x=A[(i+1) % n]?):Rg.Ring up A:=by
 refine⟨fun e=>by rw[e]at hl;simp at hl;omega,nd,ES (fun i x y hx hy=>?_) fun x hx=>?_⟩
 .rw[h i x hx,Nat.mod_eq_of_lt (by have:=(ae.mp hy).1;omega)];exact hy
 .rw[List.getLast?_eq_getElem?,hl]at hx;rw[h _ x hx,show n - 1+1=n by omega,mod_self,ko]
section
variable {n:Nat} {N T:Nat->Str} {nx:Nat->Nat} {kd D:Nat->Int} {qs:List Let} {hs:Hl}
theorem Wd.day (W:Wd n N T nx kd D qs hs) (hi:i<n) (h:kd i=1):vW qs (N i)= .int (D i):=by
 have:=nQ (W.st (W.q1 i hi h));unfold vW;dsimp only at this;rw[this]
theorem Wd.cut (W:Wd n N T nx kd D qs hs) {I:Nat->Prop} (hR:∀x,x∈R↔∃j,I j/\j<n/\x=N j) (hr:I r) (rn:r<n) (fr:kd r≠0) (emp:∀j,I j->j<n->kd j=2->kd r=2/\l3 3 (.str (N r)) (.str (N j))=true)
  (full:(∀j,I j->j<n->kd j≠2)->∀j,I j->j<n->kd j=1->l3 3 (.tup [.int (D r),.str (N r)]) (.tup [.int (D j),.str (N j)])=true):Cut qs hs R (N r):=by
 have k1:∀j,j<n->N j∉hs.map (·.1)->kd j≠0:=fun j hj h k=>h ((W.held _).mpr ⟨j,hj,k,rfl⟩)
 have st1:∀j,j<n->kd j=1->N j∈(My.st qs).map (·.name):=fun j hj k=>bh.mpr ⟨_,W.st (W.q1 j hj k),rfl⟩
 refine⟨(hR _).mpr ⟨r,hr,rn,rfl⟩,W.free rn fr,fun y hy hk hn=>?_,fun h y hy hk=>?_⟩
 .obtain⟨j,ij,hj,rfl⟩:=(hR y).mp hy;have kj:kd j=2:=by
   rcases W.k3 j hj with k|k|k
   .exact absurd k (k1 j hj hk)
   .exact absurd (st1 j hj k) hn
   .exact k
  obtain⟨a,b⟩:=emp j ij hj kj;exact⟨W.names rn a,b⟩
 .obtain⟨j,ij,hj,rfl⟩:=(hR y).mp hy;have no2:∀j,I j->j<n->kd j≠2:=fun j ij hj k=>W.names hj k (h _ ((hR _).mpr ⟨j,ij,hj,rfl⟩) (W.free hj (by rw[k];decide)))
  have one:∀j,I j->j<n->kd j≠0->kd j=1:=fun j ij hj k=>((W.k3 j hj).resolve_left k).resolve_right (no2 j ij hj)
  have kj:=one j ij hj (k1 j hj hk);rw[W.day rn (one r hr rn fr),W.day hj kj];exact full no2 j ij hj kj
theorem Wd.one (R:Rp N T nx kd n L M D Em Le) (ij:∀i j,i<n->j<n->N i=N j->i=j) (tj:∀i j,i<n->j<n->T i=T j->i=j) (nt:∀i j,i<n->j<n->N i≠T j) (lt:∀i,i<n->nx i<n) (ne:∀i,i<n->nx i≠i)
  (k3:∀i,i<n->kd i=0\/ kd i=1\/ kd i=2) (pq:qs.Perm L) (pm:hs.Perm M):Wd n N T nx kd D qs hs:=
 ⟨ij,tj,nt,lt,ne,k3,fun l hl=>R.q l (pq.mem_iff.mp hl),fun i hi h=>pq.mem_iff.mpr (R.q1 i hi h),fun i hi h=>pq.mem_iff.mpr (R.q2 i hi h),fun x o=>pm.mem_iff.trans (R.h x o),(pm.map _).nodup_iff.mpr R.mn⟩
end
theorem Rp.two {T N1 T1 N2 T2:Nat->Str} {nx nx1 nx2:Nat->Nat} {kd1 kd2:Nat->Int} {n1:Nat} {M1 M2:Hl} (R1:Rp N1 T1 nx1 kd1 n1 L1 M1 D1 E1 P1) (R2:Rp N2 T2 nx2 kd2 n2 L2 M2 D2 E2 P2)
  (l1:∀i,i<n1->nx1 i<n1) (l2:∀i,i<n2->nx2 i<n2) (a1:∀i,i<n1->N i=N1 i/\T i=T1 i/\nx i=nx1 i/\kd i=kd1 i/\D i=D1 i) (a2:∀j,j<n2->N (n1+j)=N2 j/\T (n1+j)=T2 j/\nx (n1+j)=n1+nx2 j/\kd (n1+j)=kd2 j/\D (n1+j)=D2 j)
  (qD:∀i j,i<n1->j<n2->N1 i≠N2 j):Rp N T nx kd (n1+n2) (L1++L2) (M1++M2) D (E1++E2) (P1++P2):=by
 have e1:∀i,i<n1->N (nx i)=N1 (nx1 i):=fun i hi=>by rw[(a1 i hi).2.2.1,(a1 _ (l1 i hi)).1]
 have e2:∀j,j<n2->N (nx (n1+j))=N2 (nx2 j):=fun j hj=>by rw[(a2 j hj).2.2.1,(a2 _ (l2 j hj)).1]
 have sp:∀{P:Nat->Prop},(∃j,j<n1+n2/\P j)↔(∃j,j<n1/\P j)\/ ∃j,j<n2/\P (n1+j):=fun{P}=>
  ⟨fun⟨j,hj,h⟩=>by
   by_cases c:j<n1
   .exact .inl ⟨j,c,h⟩
   .exact .inr ⟨j - n1,by omega,by rw[show n1+(j - n1)=j by omega];exact h⟩,fun h=>h.elim (fun⟨j,a,b⟩=>⟨j,by omega,b⟩) fun⟨j,a,b⟩=>⟨n1+j,by omega,b⟩⟩
 refine⟨fun l hl=>?_,fun j hj k=>?_,fun j hj k=>?_,fun x o=>?_,fun x=>?_,fun z=>?_,by have:=R1.ll;have:=R2.ll;rw[bq];omega,by have:=R1.ml;have:=R2.ml;rw[bq];omega,by have:=R1.el;have:=R2.el;rw[bq];omega,by have:=R1.OC;have:=R2.OC;rw[bq];omega,?_⟩
 .refine sp.mpr ((bp.mp hl).elim (fun h=>.inl ?_) fun h=>.inr ?_)
  .obtain⟨j,hj,h⟩:=R1.q l h;obtain⟨b1,b2,_,b4,b5⟩:=a1 j hj;exact⟨j,hj,by rw[b1,b2,b4,b5,e1 j hj];exact h⟩
  .obtain⟨j,hj,h⟩:=R2.q l h;obtain⟨b1,b2,_,b4,b5⟩:=a2 j hj;exact⟨j,hj,by rw[b1,b2,b4,b5,e2 j hj];exact h⟩
 .by_cases c:j<n1
  .obtain⟨b1,b2,_,b4,b5⟩:=a1 j c;rw[b1,b5,e1 j c];exact bw _ (R1.q1 j c (b4▸k))
  .obtain⟨i,rfl⟩:∃i,j=n1+i:=⟨j - n1,by omega⟩;obtain⟨b1,b2,_,b4,b5⟩:=a2 i (by omega);rw[b1,b5,e2 i (by omega)];exact bg _ (R2.q1 i (by omega) (b4▸k))
 .by_cases c:j<n1
  .obtain⟨b1,b2,_,b4,b5⟩:=a1 j c;rw[b1,b2,b5,e1 j c];exact bw _ (R1.q2 j c (b4▸k))
  .obtain⟨i,rfl⟩:∃i,j=n1+i:=⟨j - n1,by omega⟩;obtain⟨b1,b2,_,b4,b5⟩:=a2 i (by omega);rw[b1,b2,b5,e2 i (by omega)];exact bg _ (R2.q2 i (by omega) (b4▸k))
 .rw[bp,R1.h,R2.h,sp];refine or_congr (exists_congr fun j=>kg fun hj=>?_) (exists_congr fun j=>kg fun hj=>?_)
  .obtain⟨b1,b2,_,b4,b5⟩:=a1 j hj;rw[b1,b4,e1 j hj]
  .obtain⟨b1,b2,_,b4,b5⟩:=a2 j hj;rw[b1,b4,e2 j hj]
 .rw[bp,R1.e,R2.e,sp];refine or_congr (exists_congr fun j=>kg fun hj=>?_) (exists_congr fun j=>kg fun hj=>?_)
  .obtain⟨b1,b2,_,b4,b5⟩:=a1 j hj;rw[b1,b4]
  .obtain⟨b1,b2,_,b4,b5⟩:=a2 j hj;rw[b1,b4]
 .rw[bp,R1.le,R2.le,sp];refine or_congr (exists_congr fun j=>kg fun hj=>?_) (exists_congr fun j=>kg fun hj=>?_)
  .obtain⟨b1,b2,_,b4,b5⟩:=a1 j hj;rw[b1,b4,b5]
  .obtain⟨b1,b2,_,b4,b5⟩:=a2 j hj;rw[b1,b4,b5]
 .rw[bu,ff];refine⟨R1.mn,R2.mn,fun a ha b hb e=>?_⟩;obtain⟨⟨x,o⟩,hx,rfl⟩:=bh.mp ha;obtain⟨⟨y,p⟩,hy,rfl⟩:=bh.mp hb;obtain⟨i,hi,_,ei,_⟩:=(R1.h x o).mp hx;obtain⟨j,hj,_,ej,_⟩:=(R2.h y p).mp hy;exact qD i j hi hj (by rw[<-ei,<-ej];exact e)
end
section
open PySem L2 Mr
section
variable {n:Nat} {N T:Nat->Str} {nx:Nat->Nat} {kd D:Nat->Int} {qs:List Let} {hs:Hl}
structure Pt (n:Nat) (N:Nat->Str) (kd:Nat->Int) (qs:List Let) (hs:Hl) (a m:Nat) (B:List Str):Prop where
 ring:Rg.Ring (qV qs hs) B
 cut:∀x,B.head? =some x->Cut qs hs B x
 mem:∀x,x∈B↔∃j,(a<=j/\j<a+m)/\j<n/\x=N j
 free:∃j,j<n/\N j∈B/\kd j≠0
theorem Wd.part (W:Wd n N T nx kd D qs hs) {a:Nat} (hA:A.length=m) (m2:2<=m) (nd:A.Nodup) (at':∀i,i<m->A[i]? =some (N (a+i))) (hn:a+m<=n) (hx:∀i,i<m->nx (a+i)=a+(i+1) % m)
  (c:rD m (fun i=>N (a+i)) (fun i=>kd (a+i)) (fun i=>D (a+i)) r):Pt n N kd qs hs a m (A.drop r++A.take r):=by
 have rl:r<A.length:=by rw[hA];exact c.lt
 have pm:=Rg.mB A r;have mem:∀x,x∈A.drop r++A.take r↔∃j,(a<=j/\j<a+m)/\j<n/\x=N j:=fun x=>by
  rw[pm.mem_iff];constructor
  .intro h;obtain⟨i,hi⟩:=du h;have il:=(ae.mp hi).1;rw[at' i (by omega)]at hi;exact⟨a+i,by omega,by omega,(Option.some.inj hi).symm⟩
  .rintro⟨j,⟨h1,h2⟩,_,rfl⟩;have:=at' (j - a) (by omega);rw[show a+(j - a)=j by omega]at this;exact ba this
 have base:Rg.Ring (qV qs hs) A:=GV hA (by omega) nd fun i x h=>by
  have il:=(ae.mp h).1;rw[at' i (by omega)]at h;rw[<-Option.some.inj h,W.up (by omega),hx i (by omega),at' _ (mod_lt _ (by omega))]
 have hr:=c.lt;refine⟨base.rot r rl,fun x h=>?_,mem,a+r,by omega,(mem _).mpr ⟨a+r,by omega,by omega,rfl⟩,c.free⟩;rw[Rg.mC (by intro e;have:=cn List.length e;simp at this;omega),head?_drop,at' r c.lt]at h;rw[<-Option.some.inj h];refine W.cut (I:=fun j=>a<=j/\j<a+m) mem (by omega) (by omega) c.free (fun j hj _ k=>?_) fun no j hj _ k=>?_
 .have:=c.emp (j - a) (by omega) (by show kd (a+(j - a))=2;rw[show a+(j - a)=j by omega];exact k);rw[show a+(j - a)=j by omega]at this;exact this
 .have:=c.full (fun i hi=>no (a+i) (by omega) (by omega)) (j - a) (by omega) (by show kd (a+(j - a))=1;rw[show a+(j - a)=j by omega];exact k);rw[show a+(j - a)=j by omega]at this;exact this
theorem Wd.good (W:Wd n N T nx kd D qs hs) (hN:∀i,i<n->N i∈ss) (hT:∀i,i<n->T i∈ss):Good ss qs hs:=by
 refine⟨fun l hl=>?_,fun z hz=>?_⟩
 .obtain⟨i,hi,h|h|h⟩:=W.q l hl
  .rw[h.2];exact⟨by show(0:Nat)<=9;decide,hN i hi,fun x hx=>(nomatch hx)⟩
  .rw[h.2];exact⟨by show(1:Nat)<=9;decide,hN i hi,fun x hx=>by rw[cc.mp hx];exact hN _ (W.lt i hi)⟩
  .rw[h.2];refine⟨by show(2:Nat)<=9;decide,hT i hi,fun x hx=>?_⟩;rcases br.mp hx with rfl|hx
   .exact hN _ (W.lt i hi)
   .rw[cc.mp hx];exact hN i hi
 .obtain⟨i,hi,_,e1,e2⟩:=(W.h z.1 z.2).mp hz;refine⟨by rw[e1];exact hN i hi,fun y hy=>?_⟩;rw[e2]at hy;rw[<-Option.some.inj hy];exact hN _ (W.lt i hi)
theorem Q7 {A B:List (List Str)} (h:A.map tT=B.map tT):A=B:=by
 have s:∀{x y:List Str},x.map PV.str=y.map PV.str->x=y:=fun{x}=>by
  induction x with
  |nil=>intro y h;cases y with|nil=>rfl|cons a y=>cases h
  |cons a x ih=>intro y h;cases y with
   |nil=>cases h
   |cons b y=>injection h with h1 h2;rw[PV.str.inj h1,ih h2]
 induction A generalizing B with
 |nil=>cases B with|nil=>rfl|cons a y=>cases h
 |cons a x ih=>cases B with
  |nil=>cases h
  |cons b y=>injection h with h1 h2;rw[s (PV.tup.inj h1),ih h2]
theorem Wd.told (W:Wd n N T nx kd D qs hs) {Ks:List (List Str)} (hp:∀B∈Ws,∃a m,Pt n N kd qs hs a m B) (nd:Ws.flatten.Nodup) (all:∀i,i<n->N i∈Ws.flatten) (pk:Ks.Perm Ws) (hK:(Ks.map tT).Pairwise fun a b=>l3 3 a b=true):∀Rs,Q0 qs hs (rY qs hs) Rs->Rs=Ks:=fun Rs g=>by
 have pr:Rs.Perm Ws:=HW g (fun x c=>?_) (fun B hB=>let⟨_,_,p⟩:=hp B hB;p.ring) (fun B hB=>let⟨_,_,p⟩:=hp B hB;p.cut) nd fun x c=>?_
 .exact Q7 (mR g.N5 hK ((pr.trans pk.symm).map _) fun x hx y hy h1 h2=>pP (xA Rs) hx hy h1 h2)
 .obtain⟨j,hj,rfl⟩:=W.AJ c;refine(DW qs hs _).mpr (cz fun h=>?_);have:=W.up hj;unfold qV at this;rw[E8 h]at this;cases this
 .obtain⟨j,hj,rfl⟩:=W.AJ c;exact all j hj
theorem Wd.ZE (W:Wd n N T nx kd D qs hs) (hp:∀B∈Ws,∃a m,Pt n N kd qs hs a m B) (all:∀i,i<n->N i∈Ws.flatten):TQ hs:=W.noR fun i hi=>by
 obtain⟨B,hB,hm⟩:=jr.mp (all i hi);obtain⟨a,m,p⟩:=hp B hB;exact⟨B,p.ring,hm,p.free⟩
end
theorem u9 {M:Hl} {Q:Bv->Prop} (h:M.length<128) (hn:(M.map (·.1)).Nodup) (q:∀ks:Hl,ks.Perm M->Q (.new (.lst (mP ks)))):Wp (cN [.lst (mP M)]) Q:=by
 have mp:∀{ps:List PV} {M:Hl},ps.Perm (mP M)->∃ks:Hl,ks.Perm M/\ps=mP ks:=by
  intro ps
  induction ps with
  |nil=>intro M h;exact⟨[],by have:=h.length_eq;unfold mP at this;rw[aj]at this;rw[List.eq_nil_of_length_eq_zero this.symm],rfl⟩
  |cons p ps ih=>
   intro M h;obtain⟨z,hz,e⟩:=bh.mp (h.mem_iff.mp (bf));subst e;have h2:(PV.tup [PV.str z.1,oP z.2]::ps).Perm (mP (z::M.erase z)):=h.trans ((perm_cons_erase hz).map _);obtain⟨ks,k1,k2⟩:=ih h2.cons_inv;exact⟨z::ks,(k1.cons z).trans (perm_cons_erase hz).symm,by rw[k2];rfl⟩
 cases M with
 |nil=>exact⟨_,rfl,by rw[show cI []=[] by unfold cI;simp];exact q [] (.refl _)⟩
 | cons l ls=>
  have e1:rN [.lst (mP (l::ls))]=none:=rfl;have e2:m7 [.lst (mP (l::ls))]=none:=rfl;have led:(mP (l::ls)).all (uI true)=true:=bb.mpr fun p hp=>by obtain⟨z,_,rfl⟩:=bh.mp hp;rfl
  unfold cN;rw[e1,e2,none_or,none_or];unfold rT;simp only[cP,bP];refine⟨?_,?_⟩
  .rw[led,VG hn,show(mP (l::ls)).length=(l::ls).length by unfold mP;rw[aj],decide_eq_true h];rfl
  .obtain⟨ks,k1,k2⟩:=mp (fI 3 (mP (l::ls)));rw[k2];exact q ks k1
end
section
open PySem L2 Mr
theorem rD.congr {r:Nat} {N':Nat->Str} {kd' D':Nat->Int} (c:rD n N kd D r) (h:∀i,i<n->N' i=N i/\kd' i=kd i/\D' i=D i):rD n N' kd' D' r:=by
 obtain⟨h1,h2,h3⟩:=h r c.lt;refine⟨c.lt,by rw[h2];exact c.free,fun j hj k=>?_,fun no j hj k=>?_⟩
 .obtain⟨j1,j2,_⟩:=h j hj;rw[h1,h2,j1];exact c.emp j hj (by rw[<-j2];exact k)
 .obtain⟨j1,j2,j3⟩:=h j hj;rw[h1,h3,j1,j3];exact c.full (fun i hi=>by rw[<-(h i hi).2.1];exact no i hi) j hj (by rw[<-j2];exact k)
theorem x3 (h:i<ss.length):ss[i]? =some (nA ss i):=by
 unfold nA;rw[aq,ag h];rfl
theorem oN (nd:ss.Nodup) (hi:i<ss.length) (hj:j<ss.length) (e:nA ss i=nA ss j):i=j:=(jy hi nd).mp (by rw[x3 hi,x3 hj,e])
theorem yN {k:Nat} (h:i<k):nA (ss.take k) i=nA ss i:=by
 unfold nA;rw[aq,gf,ai h,aq]
theorem yG {k:Nat}:nA (ss.drop k) i=nA ss (k+i):=by
 unfold nA;rw[aq,jh,aq]
theorem rG (h:i<ss.length):nA ss i∈ss:=ba (x3 h)
noncomputable abbrev eZ (nm:List Str) (n r:Nat):List Str:=(nm.take n).drop r++nm.take r
theorem zE {nm:List Str} (h:r<n):eZ nm n r=(nm.take n).drop r++(nm.take n).take r:=by
 unfold eZ;rw[take_take,jq (ir h)]
theorem C0 (h2:2<=n) (hi:i<n):(i+1) % n≠i:=by
 by_cases e:i+1<n
 .rw[Nat.mod_eq_of_lt e];omega
 .rw[show i+1=n by omega,mod_self];omega
structure Made (ss:List Str) (qs:List Let) (hs:Hl) (Ws:List (List Str)):Prop where
 good:Good ss qs hs
 hn:(hs.map (·.1)).Nodup
 nr:TQ hs
 told:∀Ks:List (List Str),Ks.Perm Ws->((Ks.map tT).Pairwise fun a b=>l3 3 a b=true)->∀Rs,Q0 qs hs (rY qs hs) Rs->Rs=Ks
abbrev RpK (nm:List Str) (n:Nat) (ks:List Int) (L:List Let) (M:Hl) (D:Nat->Int) (Em:List Str) (Le:List (Int×Str)):Prop:=Rp (nA nm) (fun i=>nA nm (n+i)) (fun i=>(i+1) % n) (fun i=>ks.getD i 0) n L M D Em Le
theorem Z5 {nm:List Str} {ks:List Int} (sub:∀x∈nm,x∈ss) (nd:nm.Nodup) (hl:nm.length=2*n) (n2:2<=n) (k3:∀i,i<n->ks.getD i 0=0\/ ks.getD i 0=1\/ ks.getD i 0=2)
  (R:RpK nm n ks L M D Em Le) (c:rD n (nA nm) (fun i=>ks.getD i 0) D r) (pq:qs.Perm L) (pm:hs.Perm M):Made ss qs hs [eZ nm n r]:=by
 have W:Wd n (nA nm) (fun i=>nA nm (n+i)) (fun i=>(i+1) % n) (fun i=>ks.getD i 0) D qs hs:=Wd.one R (fun i j hi hj e=>oN nd (by omega) (by omega) e) (fun i j hi hj e=>by have:=oN nd (by omega) (by omega) e;omega)
  (fun i j hi hj e=>by have:=oN nd (by omega) (by omega) e;omega) (fun i hi=>mod_lt _ (by omega)) (fun i hi=>C0 n2 hi) k3 pq pm
 have lt:(nm.take n).length=n:=by rw[di];omega
 have P:=W.part (A:=nm.take n) (a:=0) (m:=n) (r:=r) lt n2 (nd.sublist (ly _ _)) (fun i hi=>by rw[gf,ai hi,x3 (by omega),fy]) (by omega) (fun i hi=>by rw[fy,fy]) (c.congr fun i hi=>⟨by rw[fy],by rw[fy],by rw[fy]⟩);rw[<-zE c.lt]at P;have hp:∀B∈[eZ nm n r],∃a m,Pt n (nA nm) (fun i=>ks.getD i 0) qs hs a m B:=fun B hB=>by rw[cc.mp hB];exact⟨_,_,P⟩
 have all:∀i,i<n->nA nm i∈[eZ nm n r].flatten:=fun i hi=>jr.mpr ⟨_,.head _,(P.mem _).mpr ⟨i,by omega,hi,rfl⟩⟩
 have fl:[eZ nm n r].flatten=eZ nm n r:=by simp
 exact⟨W.good (fun i hi=>sub _ (rG (by omega))) (fun i hi=>sub _ (rG (by omega))),W.hn,W.ZE hp all,fun Ks pk hK=>W.told hp (by rw[fl];exact P.ring.nd) all pk hK⟩
theorem Y3 {k1 k2:List Int} {n1 n2:Nat} {M1 M2:Hl} {D1 D2:Nat->Int} (nd:ss.Nodup) (hl:ss.length=2*n1+2*n2) (h1:2<=n1) (h2:2<=n2) (t1:∀i,i<n1->k1.getD i 0=0\/ k1.getD i 0=1\/ k1.getD i 0=2)
  (t2:∀i,i<n2->k2.getD i 0=0\/ k2.getD i 0=1\/ k2.getD i 0=2) (R1:RpK (ss.take (2*n1)) n1 k1 L1 M1 D1 E1 P1) (R2:RpK (ss.drop (2*n1)) n2 k2 L2 M2 D2 E2 P2) (c1:rD n1 (nA (ss.take (2*n1))) (fun i=>k1.getD i 0) D1 r1) (c2:rD n2 (nA (ss.drop (2*n1))) (fun i=>k2.getD i 0) D2 r2)
  (pq:qs.Perm (L1++L2)) (pm:hs.Perm (M1++M2)):Made ss qs hs [eZ (ss.take (2*n1)) n1 r1,eZ (ss.drop (2*n1)) n2 r2]:=by
 obtain⟨p,hp⟩:∃p:Nat->Nat,∀i,p i=if i<n1 then i else n1+i:=⟨_,fun _=>rfl⟩
 obtain⟨t,ht⟩:∃t:Nat->Nat,∀i,t i=if i<n1 then n1+i else n1+n2+i:=⟨_,fun _=>rfl⟩
 obtain⟨nx,hx⟩:∃nx:Nat->Nat,∀i,nx i=if i<n1 then(i+1) % n1 else n1+(i - n1+1) % n2:=⟨_,fun _=>rfl⟩
 obtain⟨kd,hk⟩:∃kd:Nat->Int,∀i,kd i=if i<n1 then k1.getD i 0 else k2.getD (i - n1) 0:=⟨_,fun _=>rfl⟩
 obtain⟨D,hD⟩:∃D:Nat->Int,∀i,D i=if i<n1 then D1 i else D2 (i - n1):=⟨_,fun _=>rfl⟩
 have a1:∀i,i<n1->nA ss (p i)=nA (ss.take (2*n1)) i/\nA ss (t i)=nA (ss.take (2*n1)) (n1+i)/\nx i=(i+1) % n1/\kd i=k1.getD i 0/\D i=D1 i:=fun i hi=>
  ⟨by rw[hp,ai hi,yN (by omega)],by rw[ht,ai hi,yN (by omega)],by rw[hx,ai hi],by rw[hk,ai hi],by rw[hD,ai hi]⟩
 have a2:∀j,j<n2->nA ss (p (n1+j))=nA (ss.drop (2*n1)) j/\nA ss (t (n1+j))=nA (ss.drop (2*n1)) (n2+j)/\nx (n1+j)=n1+(j+1) % n2/\kd (n1+j)=k2.getD j 0/\D (n1+j)=D2 j:=fun j hj=>by
  have no:¬n1+j<n1:=by omega
  have sb:n1+j - n1=j:=by omega
  exact⟨by rw[hp,ah no,yG];congr 1;omega,by rw[ht,ah no,yG];congr 1;omega,by rw[hx,ah no,sb],by rw[hk,ah no,sb],by rw[hD,ah no,sb]⟩
 have pl:∀i,i<n1+n2->p i<ss.length:=fun i hi=>by rw[hp];split<;>omega
 have tl:∀i,i<n1+n2->t i<ss.length:=fun i hi=>by rw[ht];split<;>omega
 have R:=Rp.two (N:=fun i=>nA ss (p i)) (T:=fun i=>nA ss (t i)) (nx:=nx) (kd:=kd) (D:=D) R1 R2 (fun i hi=>mod_lt _ (by omega)) (fun i hi=>mod_lt _ (by omega)) a1 a2 (fun i j hi hj e=>by
  rw[yN (by omega),yG]at e;have:=oN nd (by omega) (by omega) e;omega)
 have W:Wd (n1+n2) (fun i=>nA ss (p i)) (fun i=>nA ss (t i)) nx kd D qs hs:=Wd.one R (fun i j hi hj e=>by
   have:=oN nd (pl i hi) (pl j hj) e;rw[hp,hp]at this;split at this<;>split at this<;>omega) (fun i j hi hj e=>by
   have:=oN nd (tl i hi) (tl j hj) e;rw[ht,ht]at this;split at this<;>split at this<;>omega) (fun i j hi hj e=>by
   have:=oN nd (pl i hi) (tl j hj) e;rw[hp,ht]at this;split at this<;>split at this<;>omega) (fun i hi=>by
   rw[hx];split
   .have:=mod_lt (i+1) (show 0<n1 by omega);omega
   .have:=mod_lt (i - n1+1) (show 0<n2 by omega);omega) (fun i hi=>by
   rw[hx];split
   .rename_i c;exact C0 h1 c
   .rename_i c;have:=C0 h2 (show i - n1<n2 by omega);omega) (fun i hi=>by
   rw[hk];split
   .rename_i c;exact t1 i c
   .exact t2 _ (by omega)) pq pm
 have l1:((ss.take (2*n1)).take n1).length=n1:=by rw[di,di];omega
 have l2:((ss.drop (2*n1)).take n2).length=n2:=by rw[di,dh];omega
 have Q1:=W.part (A:=(ss.take (2*n1)).take n1) (a:=0) (m:=n1) (r:=r1) l1 h1 ((nd.sublist (ly _ _)).sublist (ly _ _)) (fun i hi=>by
  rw[gf,ai hi,gf,ai (by omega),x3 (by omega),fy,hp,ai hi]) (by omega) (fun i hi=>by rw[fy,fy,hx,ai hi]) (c1.congr fun i hi=>by
  rw[fy];obtain⟨b1,_,_,b4,b5⟩:=a1 i hi;exact⟨b1,b4,b5⟩)
 have Q2:=W.part (A:=(ss.drop (2*n1)).take n2) (a:=n1) (m:=n2) (r:=r2) l2 h2 ((nd.sublist (List.drop_sublist _ _)).sublist (ly _ _)) (fun i hi=>by
  rw[gf,ai hi,jh,x3 (by omega),hp,ah (by omega)];congr 2;omega) (by omega) (fun i hi=>(a2 i hi).2.2.1) (c2.congr fun i hi=>by
  obtain⟨b1,_,_,b4,b5⟩:=a2 i hi;exact⟨b1,b4,b5⟩)
 rw[<-zE c1.lt]at Q1;rw[<-zE c2.lt]at Q2;have hpt:∀B∈[eZ (ss.take (2*n1)) n1 r1,eZ (ss.drop (2*n1)) n2 r2],∃a m,Pt (n1+n2) (fun i=>nA ss (p i)) kd qs hs a m B:=fun B hB=>by
  rcases br.mp hB with rfl|hB
  .exact⟨_,_,Q1⟩
  .rw[cc.mp hB];exact⟨_,_,Q2⟩
 have fl:[eZ (ss.take (2*n1)) n1 r1,eZ (ss.drop (2*n1)) n2 r2].flatten=eZ (ss.take (2*n1)) n1 r1++eZ (ss.drop (2*n1)) n2 r2:=by simp
 have all:∀i,i<n1+n2->nA ss (p i)∈[eZ (ss.take (2*n1)) n1 r1,eZ (ss.drop (2*n1)) n2 r2].flatten:=fun i hi=>by
  rw[fl]
  by_cases c:i<n1
  .exact bw _ ((Q1.mem _).mpr ⟨i,by omega,hi,rfl⟩)
  .exact bg _ ((Q2.mem _).mpr ⟨i,by omega,hi,rfl⟩)
 refine⟨W.good (fun i hi=>rG (pl i hi)) (fun i hi=>rG (tl i hi)),W.hn,W.ZE hpt all,fun Ks pk hK=>W.told hpt ?_ all pk hK⟩;rw[fl];refine ff.mpr ⟨Q1.ring.nd,Q2.ring.nd,fun x hx y hy e=>?_⟩;obtain⟨i,hi,hi',e1⟩:=(Q1.mem x).mp hx;obtain⟨j,hj,hj',e2⟩:=(Q2.mem y).mp hy;have:=W.ij i j hi' hj' (by rw[<-e1,<-e2];exact e);omega
end
section
open PySem L2 Mr
theorem K5 {k1 k2:List Int} {n1:Nat} {M1 M2:Hl} {v1 v4 v5:Option Sl} {F:Out->Prop} (nd:ss.Nodup) (sl:ss.length=2*n1+2*n2) (h1:2<=n1) (h1':n1<=30) (h2:2<=n2) (h2':n2<=30) (t1:∀i,i<n1->k1.getD i 0=0\/ k1.getD i 0=1\/ k1.getD i 0=2)
  (t2:∀i,i<n2->k2.getD i 0=0\/ k2.getD i 0=1\/ k2.getD i 0=2) (R1:RpK (ss.take (2*n1)) n1 k1 L1 M1 D1 E1 P1) (R2:RpK (ss.drop (2*n1)) n2 k2 L2 M2 D2 E2 P2) (c1:rD n1 (nA (ss.take (2*n1))) (fun i=>k1.getD i 0) D1 r1) (c2:rD n2 (nA (ss.drop (2*n1))) (fun i=>k2.getD i 0) D2 r2)
  (q:∀e6 e7 v8 v9,F (.nx [v0,v1,v2,v3,v4,v5,e6,e7,v8,v9])):
  Wp (nK [v0,v1,v2,v3,v4,v5,some (Sl.val (.tup [.lst (L1.map lP),.lst (mP M1),tT (eZ (ss.take (2*n1)) n1 r1)])),some (Sl.val (.tup [.lst (L2.map lP),.lst (mP M2),tT (eZ (ss.drop (2*n1)) n2 r2)])),v8,v9]) F:=by
 have d1:(ss.take (2*n1)).length=2*n1:=by rw[di];omega
 have d2:(ss.drop (2*n1)).length=2*n2:=by rw[dh];omega
 have b1:=R1.ll;have b2:=R2.ll;have b3:=R1.ml;have b4:=R2.ml;have ap:=nd;rw[<-cp (2*n1) ss,ff]at ap;have mn:((M1++M2).map (·.1)).Nodup:=by
  rw[bu,ff];refine⟨R1.mn,R2.mn,fun x hx y hy=>ap.2.2 x ?_ y ?_⟩
  .obtain⟨⟨x,o⟩,hz,rfl⟩:=bh.mp hx;obtain⟨j,hj,_,e,_⟩:=(R1.h x o).mp hz;rw[show(x,o).1=x from rfl,e];exact rG (by omega)
  .obtain⟨⟨y,o⟩,hz,rfl⟩:=bh.mp hy;obtain⟨j,hj,_,e,_⟩:=(R2.h y o).mp hz;rw[show(y,o).1=y from rfl,e];exact rG (by omega)
 have ne:∀B∈[eZ (ss.take (2*n1)) n1 r1,eZ (ss.drop (2*n1)) n2 r2],B≠[]:=fun B hB e=>by
  have hc1:=c1.lt;have hc2:=c2.lt;rcases br.mp hB with rfl|hB
  .have:=cn List.length e;unfold eZ at this;simp at this;omega
  .rw[cc.mp hB]at e;have:=cn List.length e;unfold eZ at this;simp at this;omega
 have m2:∀{qs hs},qs.Perm (L1++L2)->hs.Perm (M1++M2)->Made ss qs hs [eZ (ss.take (2*n1)) n1 r1,eZ (ss.drop (2*n1)) n2 r2]:=fun pq pm=>Y3 nd sl h1 h2 t1 t2 R1 R2 c1 c2 pq pm
 have m1:∀{qs hs},qs.Perm L1->hs.Perm M1->Made ss qs hs [eZ (ss.take (2*n1)) n1 r1]:=fun pq pm=>Z5 (fun x hx=>fx hx) ap.1 d1 h1 t1 R1 c1 pq pm
 clear R2 c2 c1 t1 t2 ap;have mn1:=R1.mn;clear R1;generalize eZ (ss.take (2*n1)) n1 r1=A at*;generalize eZ (ss.drop (2*n1)) n2 r2=B at*;obtain⟨t1,ht1⟩:∃r,r=tZ:=⟨_,rfl⟩;unfold nK tY t7;rw[<-ht1];walk_at "wp";rw[<-bu];refine⟨by omega,xM (by rw[bq];omega) fun qs pq _=>?_⟩;walk_at "wp";rw[show mP M1++mP M2=mP (M1++M2) by unfold mP;rw[bu]];refine⟨by unfold mP;rw[aj,aj];omega,u9 (by rw[bq];omega) mn fun hs pm=>?_⟩;walk_at "wp";rw[show [tT A,tT B]=[A,B].map tT from rfl];refine vC (by show 2<128;decide) ne fun Ks pk hK=>?_
 walk_at "wp";have g2:=m2 pq pm;have lq:=pq.length_eq;have lm:=pm.length_eq;rw[bq]at lq lm;refine A4 g2.good (by omega) (by omega) (by omega) g2.hn g2.nr (g2.told Ks pk hK) ?_;walk_at "wp";rw[ht1];walk_at "wp";refine xM (by omega) fun qs' pq' _=>?_
 walk_at "wp";refine u9 (by omega) mn1 fun hs' pm'=>?_
 walk_at "wp";have g1:=m1 pq' pm';have lq':=pq'.length_eq;have lm':=pm'.length_eq;rw[show [tT A]=[A].map tT from rfl];refine A4 g1.good (by omega) (by omega) (by omega) g1.hn g1.nr (g1.told [A] (.refl _) (by simp)) ?_;walk_at "wp";exact q _ _ _ _
theorem UT {ns:List Int} (hn:ns.length<=63):Wp (yJ [.lst (ns.map PV.int)]) fun w=>w=(.bl true,[]):=by
 obtain⟨t4,ht4⟩:∃r,r=nK:=⟨_,rfl⟩;unfold yJ JZ tR tX tL t5 tK;rw[<-ht4];walk_at "wp";have kb:(0:Int)<=(if(if 3<(ns.length:Int)then 3 else(ns.length:Int))>1 then if 3<(ns.length:Int)then 3 else(ns.length:Int)else 1)/\(if(if 3<(ns.length:Int)then 3 else(ns.length:Int))>1 then if 3<(ns.length:Int)then 3 else(ns.length:Int)else 1)<=3:=by
  split<;>split<;>omega
 obtain⟨kb0,kb1⟩:=kb;refine⟨mJ (by omega) (by omega),?_⟩;generalize(if(if 3<(ns.length:Int)then 3 else(ns.length:Int))>1 then if 3<(ns.length:Int)then 3 else(ns.length:Int)else 1)=K at kb0 kb1;refine dS (fun i e=>∃v1 v2 v3 v4 v5 v6 v7 v8 v9,e=[some (Sl.bor (PV.lst (ns.map PV.int))),v1,v2,v3,v4,v5,v6,v7,v8,v9]) ?_ ?_ ⟨_,_,_,_,_,_,_,_,_,rfl⟩
 .rintro i p e hx ⟨v1,v2,v3,v4,v5,v6,v7,v8,v9,rfl⟩;have hi:=(ae.mp hx).1;rw[aj,eu]at hi;rw[az,getElem?_range hi]at hx;obtain rfl:p= .int (0+(i:Int)):=(Option.some.inj hx).symm;clear hx;walk_at "wp";refine QN (by omega) (by omega) hn fun a b hp=>?_
  walk_at "wp";refine BY hp (by decide) fun k1 n1 a b c l1 h1 h1' t1 z1 hp=>?_
  walk_at "wp";refine BY hp (by decide) fun k2 n2 a b c l2 h2 h2' t2 z2 hp=>?_
  walk_at "wp";rw[l1,l2];refine⟨rfl,rfl,?_⟩;refine KZ hp (by omega) (by omega) (by decide) fun ss a b c sl nd hp=>?_
  replace sl:ss.length=2*n1+2*n2:=by omega
  have c2:(2:Int)*(n1:Int)=((2*n1:Nat):Int):=by omega
  have d1:(ss.take (2*n1)).length=2*n1:=by rw[di];omega
  have d2:(ss.drop (2*n1)).length=2*n2:=by rw[dh];omega
  have nd1:(ss.take (2*n1)).Nodup:=nd.sublist (ly _ _);have nd2:(ss.drop (2*n1)).Nodup:=nd.sublist (List.drop_sublist _ _);walk_at "wp";rw[l1,c2,pQ,<-map_take];refine⟨rfl,FW hp (by decide) l1 d1 h1 h1' nd1 t1 z1 fun L1 M1 D1 E1 P1 r1 a b c R1 c1 hp=>?_⟩;walk_at "wp";rw[l1,c2,qT,<-map_drop];refine⟨rfl,FW hp (by decide) l2 d2 h2 h2' nd2 t2 z2 fun L2 M2 D2 E2 P2 r2 a b c R2 cc2 hp=>?_⟩;walk_at "wp";rw[ht4];exact K5 nd sl h1 h1' h2 h2' t1 t2 R1 R2 c1 cc2 fun _ _ _ _=>⟨_,_,_,_,_,_,_,_,_,rfl⟩
 .rintro e ⟨v1,v2,v3,v4,v5,v6,v7,v8,v9,rfl⟩;walk_at "wp"
theorem MQ:∀ns:List Int,ns.length<=63->yJ [.lst (ns.map PV.int)]=some (.bl true,[]):=fun ns hn=>(UT hn).eq
end
theorem all_mk {w:World} {K:Frag} {h:Heap} {mg:Str->Option Value} {fa f0 f1 f2 f3 f4 f5 f6 f7 f8 f9 f10 f11 f12 f13 f14 f15 f16 f17 f18 f19 f20:Addr} (X:K.In h) (G:h.Ns mainGlobals mg) (hfa:mg "law"=some (.ref fa))
  (h0:t8 K "elders" mD f0)
  (h1:t8 K "standing" lU f1)
  (h2:t8 K "days_of" jR f2)
  (h3:t8 K "rows_of" jQ f3)
  (h4:t8 K "claims_of" iA f4)
  (h5:t8 K "choice" pW f5)
  (h6:t8 K "choices" gL f6)
  (h7:t8 K "rings_in" kG f7)
  (h8:t8 K "places" qJ f8)
  (h9:t8 K "cut_one" fF f9)
  (h10:t8 K "begun_with" gD f10)
  (h11:t8 K "cut_rings" cW f11)
  (h12:t8 K "rings" tO f12)
  (h13:t8 K "by_names" gR f13)
  (h14:t8 K "_law_hand" kR f14)
  (h15:t8 K "_law_take" lQ f15)
  (h16:t8 K "_law_names" dZ f16)
  (h17:t8 K "_law_ring" j7 f17)
  (h18:t8 K "_law_kinds" fR f18)
  (h19:t8 K "_law_right" fU f19)
  (h20:t8 K "law" GD f20)
  (eB:nsIn K mainGlobals "enumerate"=some none)
  (cH:nsIn K mainGlobals "tuple"=some none)
  (oH:nsIn K mainGlobals "min"=some none)
  (fT:nsIn K mainGlobals "len"=some none)
  (cQ:nsIn K mainGlobals "sorted"=some none)
  (eI:nsIn K mainGlobals "range"=some none)
  (xY:nsIn K mainGlobals "str"=some none)
  (AF:nsIn K mainGlobals "int"=some none)
  (AN:nsIn K mainGlobals "sum"=some none)
  (B6:nsIn K mainGlobals "max"=some none)
  :∃fd:FuncData,(∀(s:Shared) (v:Value),BindsTo s fd ⟨[v],[]⟩ [("_law_script",v)])/\∀base:Heap,K.In base->base.Ns mainGlobals mg->pX l.prog w K mg base OD 6 fa fd ["_law_script"] (AM K):=by
 have T:Txt K mg:=⟨lh X G eB,lh X G cH,lh X G oH,lh X G fT,lh X G cQ,lh X G eI,lh X G xY,lh X G AF,lh X G AN,lh X G B6⟩;have d0:Dx K mg "elders" mD ["letter"]:=h0.dx X G (y9 fun _ _ _ _ _ _ _=>rfl);have d1:Dx K mg "standing" lU ["pack"]:=h1.dx X G (y9 fun _ _ _ _ _ _ _=>rfl);have d2:Dx K mg "days_of" jR ["pack"]:=h2.dx X G (y9 fun _ _ _ _ _ _ _=>rfl);have d3:Dx K mg "rows_of" jQ ["pack"]:=h3.dx X G (y9 fun _ _ _ _ _ _ _=>rfl);have d4:Dx K mg "claims_of" iA ["pack"]:=h4.dx X G (y9 fun _ _ _ _ _ _ _=>rfl);have d5:Dx K mg "choice" pW ["held","rows","claimed","name"]:=h5.dx X G (abY fun _ _ _ _ _ _ _ _ _ _=>rfl);have d6:Dx K mg "choices" gL ["pack","marks","names"]:=h6.dx X G (M6 fun _ _ _ _ _ _ _ _ _=>rfl);have d7:Dx K mg "rings_in" kG ["above"]:=h7.dx X G (y9 fun _ _ _ _ _ _ _=>rfl);have d8:Dx K mg "places" qJ ["pack","marks"]:=h8.dx X G (EI fun _ _ _ _ _ _ _ _=>rfl);have d9:Dx K mg "cut_one" fF ["ring","held","days"]:=h9.dx X G (M6 fun _ _ _ _ _ _ _ _ _=>rfl);have d10:Dx K mg "begun_with" gD ["ring","name"]:=h10.dx X G (EI fun _ _ _ _ _ _ _ _=>rfl);have d11:Dx K mg "cut_rings" cW ["pack","marks","ties"]:=h11.dx X G (M6 fun _ _ _ _ _ _ _ _ _=>rfl);have d12:Dx K mg "rings" tO ["pack","marks"]:=h12.dx X G (EI fun _ _ _ _ _ _ _ _=>rfl);have d13:Dx K mg "by_names" gR ["pack","marks"]:=h13.dx X G (EI fun _ _ _ _ _ _ _ _=>rfl);have d14:Dx K mg "_law_hand" kR ["_law_script","_law_k"]:=h14.dx X G (EI fun _ _ _ _ _ _ _ _=>rfl);have d15:Dx K mg "_law_take" lQ ["_law_hand_here","_law_many"]:=h15.dx X G (EI fun _ _ _ _ _ _ _ _=>rfl);have d16:Dx K mg "_law_names" dZ ["_law_hand_here","_law_many"]:=h16.dx X G (EI fun _ _ _ _ _ _ _ _=>rfl);have d17:Dx K mg "_law_ring" j7 ["_law_hand_here","_law_names_here","_law_kinds_here"]:=h17.dx X G (M6 fun _ _ _ _ _ _ _ _ _=>rfl);have d18:Dx K mg "_law_kinds" fR ["_law_hand_here"]:=h18.dx X G (y9 fun _ _ _ _ _ _ _=>rfl);have d19:Dx K mg "_law_right" fU ["_law_pack","_law_marks","_law_due"]:=h19.dx X G (M6 fun _ _ _ _ _ _ _ _ _=>rfl);have d20:Dx K mg "law" GD ["_law_script"]:=h20.dx X G (y9 fun _ _ _ _ _ _ _=>rfl);refine V2 hfa d20 (y9 fun _ _ _ _ _ _ _=>rfl) (fun base=>?_) MQ;have G_elders:=GY (P:=l.prog) (w:=w) (base:=base) T d0;have G_standing:=AO (P:=l.prog) (w:=w) (base:=base) T d1;have G_choice:=HU (P:=l.prog) (w:=w) (base:=base) T d5;have G_rings_in:=AD (P:=l.prog) (w:=w) (base:=base) T d7;have G_cut_one:=D6 (P:=l.prog) (w:=w) (base:=base) T d9;have G_begun_with:=wK (P:=l.prog) (w:=w) (base:=base) T d10;have G_law_hand:=BE (P:=l.prog) (w:=w) (base:=base) T d14;have G_law_take:=BW (P:=l.prog) (w:=w) (base:=base) T d15;have G_days_of:=DR (P:=l.prog) (w:=w) (base:=base) T d2 G_standing;have G_rows_of:=C8 (P:=l.prog) (w:=w) (base:=base) T d3 G_elders G_standing;have G_claims_of:=yQ (P:=l.prog) (w:=w) (base:=base) T d4 G_standing G_elders;have G_places:=JF (P:=l.prog) (w:=w) (base:=base) T d8 G_standing G_elders;have G_law_names:=yA (P:=l.prog) (w:=w) (base:=base) T d16 G_law_take;have G_law_ring:=AL (P:=l.prog) (w:=w) (base:=base) T d17 G_law_take;have G_law_kinds:=yH (P:=l.prog) (w:=w) (base:=base) T d18 G_law_take;have G_choices:=DA (P:=l.prog) (w:=w) (base:=base) T d6 G_rows_of G_claims_of G_choice;have G_cut_rings:=zZ (P:=l.prog) (w:=w) (base:=base) T d11 G_days_of G_rings_in G_begun_with G_cut_one;have G_rings:=NL (P:=l.prog) (w:=w) (base:=base) T d12 G_cut_rings G_choices G_places;have G_by_names:=AG (P:=l.prog) (w:=w) (base:=base) T d13 G_choices G_cut_rings G_places;have G_law_right:=yY (P:=l.prog) (w:=w) (base:=base) T d19 G_by_names G_rings;exact VL T d20 G_law_hand G_law_names G_law_ring G_law_kinds G_law_right
theorem walk {q:Program} {loose:List Str} {XP:(Str->Option Value)->Heap->Prop} {YP:World->Heap->Prop} {d:DefRec} {K:Params->Frag} (hn:l.most=some 63) (hdf:d.params.defaults=[])
  (hY:∀(w:World) (h:Heap),YP w h->(K w.params).In h)
  (F:∀(w:World) (mg:Str->Option Value) (fa:Addr) (h:Heap),(K w.params).In h->h.Ns mainGlobals mg->mg d.name=some (.ref fa)->
   ∃fd:FuncData,(∀(s:Shared) (u:Value),BindsTo s fd ⟨[u],[]⟩ [("_law_script",u)])/\∀base:Heap,(K w.params).In base->base.Ns mainGlobals mg->pX l.prog w (K w.params) mg base OD 6 fa fd ["_law_script"] (AM (K w.params))):
  PySem.W.WalkO q loose XP YP l.row.toRowW d [] (fun f vs=>PySem.call f vs):=
 L2.RG (n:=63) (k:=6) (x:="_law_script") (CX:=fun _=>OD) (sp:=fun w=>AM (K w.params)) hn (by decide) hdf ⟨rfl,by decide,by decide⟩ hY F (fun _ _ a ns hl _ hS=>⟨a,ns,rfl,hS,hl,fun _=>rfl⟩) fun _ _ _ _ _ z=>z
end My
namespace PySem.W.Fast
def tw2635615654512707621:=()
def tw4802586520280871461:=()
def tw2127175585569301333:=()
def tw7887891731942800075:=()
def tw9209403462840562027:=()
def tw4146498576163155244:=()
def tw11520398385229523433:=()
def tw4772422211795873068:=()
def tw11637076185289317259:=()
def tw10968074238914176088:=()
def tw17589897275694501290:=()
def tw18163947804224723918:=()
def tw11116195870207939277:=()
def tw5000824308558079877:=()
def tw4417284424773691959:=()
def tw1204215387623490377:=()
def tw8776963069000743229:=()
def tw314202193757276699:=()
def tw16785033823844647094:=()
def tw7621639888663370949:=()
def tw15237974263873096606:=()
def tw10351035057477369779:=()
def tw15962972268051198674:=()
def tw3677290074696280965:=()
def tw3268084781872682891:=()
def tw3444710709439670400:=()
def tw361968247228030479:=()
def tw14720335975380901466:=()
def tw6538671058594938642:=()
def tw9767750620889277792:=()
def tw17252994668458864628:=()
def tw4582351421966779329:=()
def tw164606919244788213:=()
def tw15657786479106686434:=()
def tw17862286929741761667:=()
def tw4842849726626679702:=()
def tw12746408837473549483:=()
def tw15044262240589042078:=()
def tw5442175901046695463:=()
def tw13304519204157980242:=()
def tw6289557577691686721:=()
def tw8802666253840433327:=()
def tw6113802845704497731:=()
def tw9697993067395605306:=()
def tw4626509604099831317:=()
def tw1993898984711687736:=()
def tw14994580848079223061:=()
def tw4372721856753312579:=()
def tw6954711560722398249:=()
def tw4918547276495794128:=()
def tw14507434426556101338:=()
def tw3171072971795516214:=()
def tw5730544618443009401:=()
def tw14471595861977566364:=()
def tw2995125867416390160:=()
def tw1604197067434944981:=()
def tw8769940569524522488:=()
def tw11811308708580180962:=()
def tw14350876440736995578:=()
end PySem.W.Fast
open PySem PySem.W PyProof.Rows
set_option maxRecDepth 100000 in
set_option maxHeartbeats 0 in
theorem PySem.Challenge.cw_answertrees_k20_who_is_cut_holds : PySem.Challenge.rw_answertrees_k20_who_is_cut.Holds := by
 w_on;o_law;k_head;(case hw=>w_witness2)
 k_fill
 refine My.walk (l:=PySem.Challenge.rw_answertrees_k20_who_is_cut) rfl rfl (fun w h Y=>PySem.W.kIn_of Y) ?F
 case F=>
  intro w mg fa h KX G hmg
  refine' My.all_mk KX G hmg ?h0 ?h1 ?h2 ?h3 ?h4 ?h5 ?h6 ?h7 ?h8 ?h9 ?h10 ?h11 ?h12 ?h13 ?h14 ?h15 ?h16 ?h17 ?h18 ?h19 ?h20 ?eB ?cH ?oH ?fT ?cQ ?eI ?xY ?AF ?AN ?B6
  (case h0=>refine' Mr.cG ?a ?l ?c ?k;(case a=>k_is);(case l=>k_is);(case c=>k_is);(case k=>k_is))
  (case h1=>refine' Mr.cG ?a ?l ?c ?k;(case a=>k_is);(case l=>k_is);(case c=>k_is);(case k=>k_is))
  (case h2=>refine' Mr.cG ?a ?l ?c ?k;(case a=>k_is);(case l=>k_is);(case c=>k_is);(case k=>k_is))
  (case h3=>refine' Mr.cG ?a ?l ?c ?k;(case a=>k_is);(case l=>k_is);(case c=>k_is);(case k=>k_is))
  (case h4=>refine' Mr.cG ?a ?l ?c ?k;(case a=>k_is);(case l=>k_is);(case c=>k_is);(case k=>k_is))
  (case h5=>refine' Mr.cG ?a ?l ?c ?k;(case a=>k_is);(case l=>k_is);(case c=>k_is);(case k=>k_is))
  (case h6=>refine' Mr.cG ?a ?l ?c ?k;(case a=>k_is);(case l=>k_is);(case c=>k_is);(case k=>k_is))
  (case h7=>refine' Mr.cG ?a ?l ?c ?k;(case a=>k_is);(case l=>k_is);(case c=>k_is);(case k=>k_is))
  (case h8=>refine' Mr.cG ?a ?l ?c ?k;(case a=>k_is);(case l=>k_is);(case c=>k_is);(case k=>k_is))
  (case h9=>refine' Mr.cG ?a ?l ?c ?k;(case a=>k_is);(case l=>k_is);(case c=>k_is);(case k=>k_is))
  (case h10=>refine' Mr.cG ?a ?l ?c ?k;(case a=>k_is);(case l=>k_is);(case c=>k_is);(case k=>k_is))
  (case h11=>refine' Mr.cG ?a ?l ?c ?k;(case a=>k_is);(case l=>k_is);(case c=>k_is);(case k=>k_is))
  (case h12=>refine' Mr.cG ?a ?l ?c ?k;(case a=>k_is);(case l=>k_is);(case c=>k_is);(case k=>k_is))
  (case h13=>refine' Mr.cG ?a ?l ?c ?k;(case a=>k_is);(case l=>k_is);(case c=>k_is);(case k=>k_is))
  (case h14=>refine' Mr.cG ?a ?l ?c ?k;(case a=>k_is);(case l=>k_is);(case c=>k_is);(case k=>k_is))
  (case h15=>refine' Mr.cG ?a ?l ?c ?k;(case a=>k_is);(case l=>k_is);(case c=>k_is);(case k=>k_is))
  (case h16=>refine' Mr.cG ?a ?l ?c ?k;(case a=>k_is);(case l=>k_is);(case c=>k_is);(case k=>k_is))
  (case h17=>refine' Mr.cG ?a ?l ?c ?k;(case a=>k_is);(case l=>k_is);(case c=>k_is);(case k=>k_is))
  (case h18=>refine' Mr.cG ?a ?l ?c ?k;(case a=>k_is);(case l=>k_is);(case c=>k_is);(case k=>k_is))
  (case h19=>refine' Mr.cG ?a ?l ?c ?k;(case a=>k_is);(case l=>k_is);(case c=>k_is);(case k=>k_is))
  (case h20=>refine' Mr.cG ?a ?l ?c ?k;(case a=>k_is);(case l=>k_is);(case c=>k_is);(case k=>k_is))
  (case eB=>k_is)
  (case cH=>k_is)
  (case oH=>k_is)
  (case fT=>k_is)
  (case cQ=>k_is)
  (case eI=>k_is)
  (case xY=>k_is)
  (case AF=>k_is)
  (case AN=>k_is)
  (case B6=>k_is)
#print axioms PySem.Challenge.cw_answertrees_k20_who_is_cut_holds
