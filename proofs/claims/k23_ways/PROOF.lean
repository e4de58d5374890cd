import PyProof.Rows.All
import Wide.All
import OpenK.AllK
import Wide.FinOn
import Lean
import PyProof.EqAt
import PyProof.EqKinds
import PyProof.TupleCall
import PySem.Challenge.RW_answertrees_k23_ways
open List (mem_range filterMap_cons of_mem_zip map_nil map_cons lookup_cons forIn_cons getElem_mem find?_cons any_cons length_cons length_nil ext_getElem toList_toArray any_map drop_zero drop_length contains_iff_mem append_assoc all_cons not_lt foldl_append getElem_map map_map cons_append map_id' getElem_idxOf foldl_cons length_zip length_pos_of_mem mem_flatten getElem_range nil_append all_nil map_take take_of_length_le perm_cons_erase take_succ map_drop find?_some find?_append getElem?_take getElem?_inj length_pos_iff head?_drop getLast?_map length_filter_le)
open Nat (lt_of_lt_of_le lt_irrefl le_trans le_of_lt lt_trans le_succ_of_le zero_add not_lt_zero)
open Bool (false_eq_true or_eq_true not_eq_true')
open Option (getD_none isSome_map bind_some none_or or_none toList_some)
open Array (length_toList getElem?_toList toArray_toList)
open Int (toNat_natCast)
open PySem.Heap (lt_size)
open PySem.W (Frag methodObj keepIn fnOf codeIn kitOne kia_one nsIn mg_of)
open PySem.F (slot_tuple_add entry_tuple_add args_tuple_add_2 slot_dict_get entry_dict_get plainAttrs_dict type_dict_get slot_list_index type_list_index)
set_option compiler.extract_closed false
set_option Elab.async false
set_option linter.all false
set_option maxRecDepth 100000
abbrev ae:=@PySem.wpAny_bind
abbrev af:=@List.getElem?_eq_some_iff
abbrev ag:=@List.length_map
abbrev ah:=@PySem.Heap.get?_push_of_some
abbrev ai:=@if_neg
abbrev aj:=@List.getElem?_eq_getElem
abbrev ao:=@if_pos
abbrev aq:=@List.getElem?_map
abbrev au:=@PySem.wpAny_pure
abbrev av:=@of_decide_eq_true
abbrev ax:=@Bool.false_ne_true
abbrev ay:=@List.mem_of_getElem?
abbrev ba:=@List.mem_cons_of_mem
abbrev bc:=@Nat.le_refl
abbrev bf:=@Option.map_eq_some_iff
abbrev bg:=@List.all_eq_true
abbrev bh:=@List.mem_cons_self
abbrev bj:=@List.mem_append
abbrev bp:=@List.mem_map
abbrev bq:=@List.mem_append_right
abbrev br:=@List.length_append
abbrev bu:=@List.mem_singleton
abbrev bw:=@List.mem_cons
abbrev bz:=@PySem.Heap.get?_push_size
abbrev cc:=@List.getD_eq_getElem?_getD
abbrev cf:=@List.map_append
abbrev cj:=@Bool.and_eq_true
abbrev cm:=@PySem.Heap.lt_size
abbrev cn:=@Nat.ne_of_lt
abbrev cp:=@List.size_toArray
abbrev cq:=@PySem.PassesOwn.never
abbrev cv:=@Classical.byContradiction
abbrev cw:=@List.length_range
abbrev dc:=@List.mem_append_left
abbrev de:=@List.take_length
abbrev df:=@List.append_nil
abbrev dg:=@List.mem_flatMap
abbrev dh:=@List.getElem?_set_ne
abbrev di:=@List.take_add_one
abbrev dk:=@PySem.wpAny_newObj_type
abbrev dq:=@congrArg
abbrev du:=@Nat.lt_of_lt_of_le
abbrev dv:=@List.not_mem_nil
abbrev dw:=@Nat.lt_succ_of_lt
abbrev dy:=@PySem.wpAny_mono
abbrev dz:=@List.nodup_append
abbrev eh:=@List.drop_eq_getElem_cons
abbrev ff:=@PySem.Around.under_plainId
abbrev fj:=@PySem.F.slot_list_append
abbrev fm:=@PySem.F.type_list_append
abbrev fq:=@List.nodup_cons
abbrev fu:=@List.getElem?_of_mem
abbrev fw:=@List.take_append_drop
abbrev fx:=@List.getElem?_set_self
abbrev fy:=@List.length_drop
abbrev fz:=@of_decide_eq_false
abbrev gd:=@PySem.wpAny_holding
abbrev gf:=@Nat.le_trans
abbrev gh:=@PySem.F.plainAttrs_list
abbrev gi:=@List.mem_of_mem_take
abbrev gj:=@beq_self_eq_true
abbrev gm:=@PySem.mem_of_lookup
abbrev gn:=@PySem.wpAny_seqItems
abbrev gp:=@List.append_assoc
abbrev gq:=@PySem.codeAny_builtin
abbrev gu:=@List.length_replicate
abbrev gv:=@PySem.wpAny_call_entry
abbrev gw:=@PySem.F.plain_min_loop
abbrev gx:=@Nat.le_of_lt
abbrev gy:=@List.length_take
abbrev gV:=@PySem.plainId_quiet
abbrev ic:=@Nat.zero_le
abbrev ie:=@PyProof.Rows.callWith_type1
abbrev ig:=@PySem.Heap.size_push
abbrev ij:=@PyProof.Rows.KeyOrd.kle_refl
abbrev ik:=@List.getElem?_zipIdx
abbrev ip:=@PySem.Calls.callWith_builtin
abbrev iq:=@List.any_eq_true
abbrev ir:=@List.mem_filterMap
abbrev iu:=@List.pairwise_cons
abbrev iw:=@Nat.ne_of_gt
abbrev iz:=@List.map_map
abbrev ja:=@List.map_congr_left
abbrev jb:=@PyProof.Rows.slot_tuple_getitem
abbrev jc:=@PySem.sizeLine_eq
abbrev jd:=@PySem.wpAny_field
abbrev je:=@List.mem_of_find?_eq_some
abbrev jf:=@PySem.W.mg_none_of
abbrev jg:=@Nat.le_succ
abbrev jh:=@List.nodup_nil
abbrev ji:=@List.length_zipIdx
abbrev jj:=@PySem.wpAny_callSpecial?_slot
abbrev jk:=@Int.emod_lt_of_pos
abbrev jl:=@List.mem_filter
abbrev jm:=@Nat.lt_irrefl
abbrev jn:=@PySem.Calls.spliced_cons
abbrev jo:=@Nat.lt_succ_self
abbrev jq:=@PySem.wpAny_pyIter_tuple
abbrev jr:=@PySem.tupleKind_room_in1
abbrev jt:=@List.any_eq_false
abbrev ju:=@PySem.wpAny_passesOwn
abbrev jv:=@List.getElem?_append_right
abbrev jw:=@PySem.F.slot_tuple_iterator_next
abbrev jx:=@List.find?_eq_none
abbrev jy:=@Option.isSome_iff_exists
abbrev jz:=@PySem.Heap.get?_update_other
abbrev ka:=@PySem.wpAny_pyIter_list
abbrev ke:=@List.getElem?_append_left
abbrev kg:=@List.length_set
abbrev kh:=@List.getElem?_zip_eq_some
abbrev ki:=@List.getLast?_eq_none_iff
abbrev kj:=@Int.emod_nonneg
abbrev ko:=@PySem.Heap.get?_update_self
abbrev ku:=@List.idxOf_lt_length_iff
abbrev kz:=@beq_eq_false_iff_ne
abbrev lb:=@List.getElem?_replicate
abbrev lg:=@PySem.wpAny_getItem_str_slice
abbrev lh:=@decide_eq_false_iff_not
namespace L2
open PySem PySem.Spec PyProof.Rows
variable {a b it:Addr} {A:Around} {g':Array GenState} {op:CmpOp} {X:Cx} {d':Drawn} {c e tg:Expr} {fd:FuncData} {base h:Heap} {H:Hp} {g:Int->Int->Int} {zq:List (Addr×Obj)} {ch fp:List Addr} {es:List Expr} {body:List Stmt} {N ps:List Str} {xs:List V} {us:List Value} {M:Model} {i j k n t':Nat} {CX:O2} {o:Obj} {p pos:Pos} {P:Program} {K:Frag} {r:R2} {scope:Scope} {s:Shared} {sp:Sp} {σ:St} {qual x:Str} {kindOf:Str->Option NameKind} {mg:Str->Option Value} {ta:TA} {t te:TE} {tb:TS} {tc:TT} {α κ:Type} {y:V} {u v:Value} {E Q:Value->Shared->Prop} {f:Value->Value->Sem Value} {w:World}
abbrev Key:=Sum Int Str
noncomputable def pC:Key->Value->Bool
 | .inl k,v=>Value.isInt k v
 | .inr x,v=>Value.isStrOf x v
noncomputable def ag4 (w:World):Key->Int
 | .inl k=>hashInt k
 | .inr x=>hashStr w x
theorem cE:∀{k:Key} {v:Value},pC k v=true->(∃i t,k=Sum.inl i/\v=Value.int i t)\/ (∃x t,k=Sum.inr x/\v=Value.str x t)
 | .inl i,v,h=>by
  obtain⟨t,e⟩:=Value.isInt_shape (k:=i) (v:=v) h;exact .inl ⟨i,t,rfl,e⟩
 | .inr x,v,h=>by
  obtain⟨t,e⟩:=Value.isStrOf_shape (x:=x) (v:=v) h;exact .inr ⟨x,t,rfl,e⟩
theorem OJ (i:Int) (t:Tok):pC (.inl i) (.int i t)=true:=by simp[pC,Value.isInt]
theorem OE (x:Str) (t:Tok):pC (.inr x) (.str x t)=true:=by simp[pC,Value.isStrOf]
theorem adC (a b:Int):decide ((Sum.inl a:Key)=Sum.inl b)=(a==b):=by
 by_cases e:a=b
 .subst e;simp
 .have h:¬(Sum.inl a:Key)=Sum.inl b:=fun q=>e (Sum.inl.inj q)
  rw[decide_eq_false h];exact(kz.mpr e).symm
theorem abC (a b:Str):decide ((Sum.inr a:Key)=Sum.inr b)=decide (a=b):=by
 by_cases e:a=b
 .subst e;simp
 .have h:¬(Sum.inr a:Key)=Sum.inr b:=fun q=>e (Sum.inr.inj q)
  rw[decide_eq_false h,decide_eq_false e]
theorem acU (a:Int) (b:Str):decide ((Sum.inl a:Key)=Sum.inr b)=false:=decide_eq_false (fun q=>nomatch q)
theorem acG (a:Str) (b:Int):decide ((Sum.inr a:Key)=Sum.inl b)=false:=decide_eq_false (fun q=>nomatch q)
noncomputable def bP (prog:Program) (w:World):PySem.KeyKind prog w Key where
 is:=pC
 hash:=ag4 w
 inj:=fun v a b ha hb=>by
  rcases cE ha with⟨i,t,rfl,rfl⟩|⟨x,t,rfl,rfl⟩
  .rcases cE hb with⟨j,u,rfl,e⟩|⟨y,u,rfl,e⟩
   .injection e with e1 _;rw[e1]
   .exact nomatch e
  .rcases cE hb with⟨j,u,rfl,e⟩|⟨y,u,rfl,e⟩
   .exact nomatch e
   .injection e with e1 _;rw[e1]
 byValue:=fun k v h=>by
  rcases cE h with⟨i,t,rfl,rfl⟩|⟨x,t,rfl,rfl⟩<;>rfl
 pyHash:=fun hv h=>by
  rcases cE hv with⟨i,t,rfl,rfl⟩|⟨x,t,rfl,rfl⟩
  .exact wpAny_pyHash_int h
  .exact wpAny_pyHash_str h
 eqBool:=fun hu hv h=>by
  rcases cE hu with⟨i,t,rfl,rfl⟩|⟨x,t,rfl,rfl⟩
  .rcases cE hv with⟨j,u,rfl,rfl⟩|⟨y,u,rfl,rfl⟩
   .rw[adC]at h;exact wpAny_eqBool_int h
   .rw[acU]at h;exact SeqAt.EqAt.int_str i t y u _ _ _ _ h
  .rcases cE hv with⟨j,u,rfl,rfl⟩|⟨y,u,rfl,rfl⟩
   .rw[acG]at h;exact SeqAt.EqAt.str_int x t j u _ _ _ _ h
   .rw[abC]at h;exact wpAny_eqBool_str h
 «strs»:=fun k x t v h=>by
  rcases cE h with⟨i,u,rfl,e⟩|⟨y,u,rfl,e⟩
  .exact nomatch e
  .injection e with e1 _
   subst e1;cases v<;>rfl
theorem FP (prog:Program) (w:World) (i:Int) (t:Tok):(bP prog w).is (.inl i) (.int i t)=true:=OJ i t
theorem GH (prog:Program) (w:World) (x:Str) (t:Tok):(bP prog w).is (.inr x) (.str x t)=true:=OE x t
inductive V where
 |bG|bl (b:Bool)|int (i:Int)|str (x:Str)|byt (b:Array UInt8)|flt (b:UInt64)|ref (a:Addr)|ty (n:String)
 deriving DecidableEq
def RelV:V->Value->Prop
 | .bG,u=>u=Value.none
 | .bl b,u=>u=Value.bool b
 | .int i,u=>∃t,u=Value.int i t
 | .str x,u=>∃t,u=Value.str x t
 | .byt b,u=>∃t,u=Value.bytes b t
 | .flt b,u=>∃t,u=Value.float b t
 | .ref a,u=>u=Value.ref a
 | .ty n,u=>u=Value.type n
abbrev Vals:List V->List Value->Prop:=Paired RelV
theorem Vals.length (r:Vals xs us):xs.length=us.length:=Paired.length r
theorem Vals.get:∀{xs:List V} {us:List Value} {i:Nat} {x:V},Vals xs us->xs[i]? =some x->∃u,us[i]? =some u/\RelV x u
 |_,_,_,_,.nil,e=>by simp at e
 |_,_,0,_,.cons r _,e=>by simp at e;subst e;exact⟨_,rfl,r⟩
 |_,_,i+1,x,.cons _ t,e=>by
  obtain⟨u,h1,h2⟩:=Vals.get (i:=i) (x:=x) t (by simpa using e);exact⟨u,by simpa using h1,h2⟩
theorem Vals.set {x:V} (r:RelV x u):∀{xs:List V} {us:List Value} (i:Nat),Vals xs us->Vals (xs.set i x) (us.set i u)
 |_,_,_,.nil=>.nil
 |_,_,0,.cons _ t=>.cons r t
 |_,_,i+1,.cons q t=>.cons q (Vals.set r i t)
theorem Vals.append:∀{xs ys:List V} {us ws:List Value},Vals xs us->Vals ys ws->Vals (xs++ys) (us++ws)
 |_,_,_,_,.nil,s=>s
 |_,_,_,_,.cons r t,s=>.cons r (Vals.append t s)
theorem Vals.take:∀{xs:List V} {us:List Value} (n:Nat),Vals xs us->Vals (xs.take n) (us.take n)
 |_,_,0,_=>.nil
 |_,_,_+1,.nil=>.nil
 |_,_,n+1,.cons r t=>.cons r (Vals.take n t)
theorem Vals.drop:∀{xs:List V} {us:List Value} (n:Nat),Vals xs us->Vals (xs.drop n) (us.drop n)
 |_,_,0,r=>r
 |_,_,_+1,.nil=>.nil
 |_,_,n+1,.cons _ t=>Vals.drop n t
def w6:Option V->Option Value->Prop
 |some v,some u=>RelV v u
 |none,none=>True
 |_,_=>False
def KV:List (κ×V)->List (κ×Value)->Prop:=Paired fun(p:κ×V) (q:κ×Value)=>p.1=q.1/\RelV p.2 q.2
noncomputable def kV:Key->V
 | .inl i=>.int i
 | .inr x=>.str x
inductive HO where
 |lst (xs:List V)
 |tup (xs:List V)
 |dK (kvs:List (Key×V)) (ep:Nat)|dT (kvs:List (List Key×V))
 |set (S:Int->Bool) (n:Nat)
 |ins (C dx:Addr) (fs:List (Str×V))
 |own (x:Addr)
 |xd (fs:List (Str×V))
 |met (f x:Addr)
 |rng (lo hi:Int)
 |UU (o:Obj) (u:HO)
 |tbl (ps:Array Value)
 |ext (φ:Heap->Prop)
abbrev Hp:=Addr->Option HO
noncomputable def upd (H:Hp) (a:Addr) (o:HO):Hp:=fun b=>if b=a then some o else H b
theorem aU {o:HO}:upd H a o a=some o:=by unfold upd;rw[ao rfl]
theorem aX {o:HO} (h:b≠a):upd H a o b=H b:=by unfold upd;rw[ai h]
theorem UM {o u:HO} (h:H a=some o) (h':H b=some u) (d:o≠u):a≠b:=by
 intro e;subst e;rw[h]at h';exact d (Option.some.inj h')
theorem bX {o:HO} (h:H a=some o) (h':H b=none):a≠b:=by
 intro e;subst e;rw[h]at h';cases h'
def r6 (h:Heap) (a:Addr) (items:Array Value):Prop:=IsTup h a items/\∀o,h.get? a=some o->o.dict=none
theorem r6.new (h:Heap) (items:Array Value):r6 (h.push {cls:=.type "tuple",data:=.seq items}) h.objs.size items:=⟨IsTup.new _ _,fun o e=>by rw[bz _ rfl]at e;cases e;rfl⟩
theorem r6.of {items:Array Value} {sl:Array (Option Value)} (e:h.get? a=some {cls:=.type "tuple",dict:=none,data:=.seq items n,slots:=sl}):r6 h a items:=⟨⟨_,e,rfl,_,rfl⟩,fun o q=>by rw[e]at q;cases q;rfl⟩
section
variable (P:Program) (w:World)
def dQ (H:Hp) (h:Heap) (a:Addr):HO->Prop
 | .lst xs=>xs.length<=sizeLine/\∃(its:List Value) (n:Nat),Vals xs its/\h.get? a=some {cls:=.type "list",data:=.seq its.toArray n}
 | .tup xs=>xs.length<=sizeLine/\∃its:List Value,Vals xs its/\r6 h a its.toArray
 | .dK kvs ep=>kvs.length<=sizeLine/\(a==sysModules)=false/\∃vs,KV kvs vs/\h.DictAt (bP P w) a vs ep
 | .dT kvs=>kvs.length<=sizeLine/\(a==sysModules)=false/\∃xs:List (List Key×Addr×Value),
   Paired (fun(p:List Key×V) (q:List Key×Addr×Value)=>p.1=q.1/\H q.2.1=some (.tup (p.1.map kV))/\RelV p.2 q.2.2) kvs xs/\
   ∃o es ep,h.get? a=some o/\o.ExactDict/\o.data= .dict es ep/\es.toList=xs.map (entryOfKey (tupleKind (bP P w)))/\(xs.map (·.1)).Nodup
 | .set S n=>h.SetOf (intKind P w) a S n
 | .ins C dx fs=>H dx=some (.own a)/\fs.length<=1000/\dx≠a/\h.get? a=some (PySem.W.instObj C dx)/\
   ∃mA,h.Ns1 dx mA/\(∀f,w6 (fs.lookup f) (mA f))/\PySem.Within mA (fs.map (·.1))
 | .own _=>∃o,h.get? a=some o
 | .xd fs=>∃mA,h.Ns1 a mA/\∀f,w6 (fs.lookup f) (mA f)
 | .rng lo hi=>∃t u v,h.get? a=some {cls:=.type "range",data:=.fields #[.int lo t,.int hi u,.int 1 v]}
 | .UU o u=>h.get? a=some o/\dQ H h a u
 | .tbl ps=>h.get? a=some {cls:=.none,data:=.fields ps}
 | .met f x=>h.get? a=some (methodObj (.ref f) (.ref x))
 | .ext φ=>φ h/\(∃o,h.get? a=some o)/\∀h1 h2:Heap,φ h1->(∀o,h1.get? a=some o->h2.get? a=some o)->φ h2
def qW (H:Hp) (h:Heap):Prop:=∀a o,H a=some o->dQ P w H h a o
end
section
variable {P:Program} {w:World} {H H':Hp} {h h':Heap} {a:Addr} {o:HO}
theorem dQ.lt (x:dQ P w H h a o):a<h.objs.size:=by
 cases o with
 |lst xs=>obtain⟨_,_,_,_,e⟩:=x;exact cm e
 |tup xs=>obtain⟨_,_,_,p⟩:=x;exact p.1.lt
 |dK kvs ep=>obtain⟨_,_,_,_,o,_,e,_⟩:=x;exact cm e
 |dT kvs=>obtain⟨_,_,_,_,o,_,_,e,_⟩:=x;exact cm e
 |set S n=>obtain⟨o,_,_,_,e,_⟩:=x;exact cm e
 |ins C dx fs=>obtain⟨_,_,_,e,_⟩:=x;exact cm e
 |own y=>obtain⟨_,e⟩:=x;exact cm e
 |xd fs=>obtain⟨_,⟨_,_,_,e,_⟩,_⟩:=x;exact cm e
 |rng lo hi=>obtain⟨_,_,_,e⟩:=x;exact cm e
 |UU ob u=>obtain⟨e,_⟩:=x;exact cm e
 |tbl ps=>exact cm (show h.get? a=some _ from x)
 |met f y=>exact cm (show h.get? a=some _ from x)
 |ext φ=>obtain⟨_,⟨_,e⟩,_⟩:=x;exact cm e
theorem Paired.ZV {β:Type} {F G:α->β->Prop}:∀{l₁:List α} {l₂:List β},Paired F l₁ l₂->(∀a b,F a b->G a b)->Paired G l₁ l₂
 |_,_,.nil,_=>.nil
 |_,_,.cons r t,f=>.cons (f _ _ r) (Paired.ZV t f)
theorem dQ.aK (x:dQ P w H h a o) (k:∀b u,(b=a\/ H b=some (.own a))->h.get? b=some u->h'.get? b=some u)
  (ho:∀b,H b=some (.own a)->H' b=some (.own a)) (ht:∀b xs,H b=some (.tup xs)->H' b=some (.tup xs)):dQ P w H' h' a o:=by
 induction o with
 |lst xs=>obtain⟨z,its,n,r,e⟩:=x;exact⟨z,its,n,r,k _ _ (.inl rfl) e⟩
 |tup xs=>obtain⟨z,its,r,⟨ob,e,c⟩,nd⟩:=x;exact⟨z,its,r,⟨ob,k _ _ (.inl rfl) e,c⟩,fun o' e'=>by rw[k _ _ (.inl rfl) e]at e';cases e';exact nd _ e⟩
 |dK kvs ep=>obtain⟨z,y,vs,r,ob,es,e,c⟩:=x;exact⟨z,y,vs,r,ob,es,k _ _ (.inl rfl) e,c⟩
 |dT kvs=>
  obtain⟨z,y,xs,r,ob,es,ep,e,c⟩:=x;exact⟨z,y,xs,Paired.ZV r fun p q z=>⟨z.1,ht _ _ z.2.1,z.2.2⟩,ob,es,ep,k _ _ (.inl rfl) e,c⟩
 |set S n=>obtain⟨ob,es,ep,t,e,c⟩:=x;exact⟨ob,es,ep,t,k _ _ (.inl rfl) e,c⟩
 |ins C dx fs=>
  obtain⟨d,z,ne,e,mA,⟨od,es,ep,e2,c⟩,r⟩:=x;exact⟨ho _ d,z,ne,k _ _ (.inl rfl) e,mA,⟨od,es,ep,k _ _ (.inr d) e2,c⟩,r⟩
 |own y=>obtain⟨ob,e⟩:=x;exact⟨ob,k _ _ (.inl rfl) e⟩
 |xd fs=>obtain⟨mA,⟨od,es,ep,e,c⟩,r⟩:=x;exact⟨mA,⟨od,es,ep,k _ _ (.inl rfl) e,c⟩,r⟩
 |rng lo hi=>obtain⟨t,u,v,e⟩:=x;exact⟨t,u,v,k _ _ (.inl rfl) e⟩
 |UU ob u ih=>obtain⟨e,q⟩:=x;exact⟨k _ _ (.inl rfl) e,ih q⟩
 |tbl ps=>
  have e:h.get? a=some {cls:=.none,data:=.fields ps}:=x;show h'.get? a=some {cls:=.none,data:=.fields ps};exact k a _ (.inl rfl) e
 |met f y=>
  have e:h.get? a=some (methodObj (.ref f) (.ref y)):=x;show h'.get? a=some (methodObj (.ref f) (.ref y));exact k a _ (.inl rfl) e
 |ext φ=>obtain⟨p,⟨o,e⟩,st⟩:=x;exact⟨st _ _ p fun o q=>k _ _ (.inl rfl) q,⟨o,k _ _ (.inl rfl) e⟩,st⟩
theorem qW.lt (x:qW P w H h) (e:H a=some o):a<h.objs.size:=(x a o e).lt
theorem qW.fresh (x:qW P w H h) (e:h.objs.size<=a):H a=none:=by
 cases q:H a with
 |none=>rfl
 |some u=>exact absurd (du (x.lt q) e) (jm _)
theorem qW.kept (x:qW P w H h) (k:∀b u,h.get? b=some u->h'.get? b=some u):qW P w H h':=fun a o e=>
 (x a o e).aK (fun b u _ q=>k b u q) (fun _ q=>q) fun _ _ q=>q
theorem qW.laid (x:qW P w H h) (k:∀b u,h.get? b=some u->h'.get? b=some u) (hp:h.objs.size<=a) (new:dQ P w (upd H a o) h' a o):qW P w (upd H a o) h':=fun b u e=>by
 have hn:=x.fresh hp
 by_cases hb:b=a
 .subst hb;rw[aU]at e;cases e;exact new
 .rw[aX hb]at e;exact(x b u e).aK (fun c v _ q=>k c v q) (fun c q=>by rw[aX (bX q hn)];exact q) fun c xs q=>by rw[aX (bX q hn)];exact q
end
def Rd (H:Hp) (a:Addr) (u:HO):Prop:=H a=some u\/ ∃o,H a=some (.UU o u)
theorem Rd.ok {a:Addr} {u:HO} (r:Rd H a u) (x:qW P w H h):dQ P w H h a u:=by
 rcases r with r|⟨o,r⟩
 .exact x a u r
 .obtain⟨_,q⟩:=x a _ r;exact q
def Mut:Option HO->Prop
 |some (.lst _)=>True
 |some (.dK _ _)=>True
 |some (.dT _)=>True
 |some (.set _ _)=>True
 |some (.ins _ _ _)=>True
 |some (.ext _)=>True
 |_=>False
section
variable {P:Program} {w:World} {H:Hp} {h h':Heap} {x e:Addr} {o':HO}
theorem qW.write (ok:qW P w H h) (mu:Mut (H x)) (he:e=x\/ H e=some (.own x)) (k:∀b u,b≠e->h.get? b=some u->h'.get? b=some u) (heo:∃u,h'.get? e=some u)
  (new:dQ P w (upd H x o') h' x o'):qW P w (upd H x o') h':=fun b u q=>by
 have nown:∀c y,H c=some (.own y)->c≠x:=fun c y r z=>by subst z;rw[r]at mu;exact mu
 have ntup:∀c xs,H c=some (.tup xs)->c≠x:=fun c xs r z=>by subst z;rw[r]at mu;exact mu
 by_cases hb:b=x
 .subst hb;rw[aU]at q;cases q;exact new
 .rw[aX hb]at q
  by_cases hbe:b=e
  .have q':H b=some (.own x):=by
    rcases he with z|z
    .exact absurd (hbe.trans z) hb
    .rw[hbe];exact z
   rw[q]at q';cases q'
   obtain⟨v,hv⟩:=heo;exact⟨v,by rw[hbe];exact hv⟩
  .refine(ok b u q).aK (fun c v hc r=>k c v ?_ r) (fun c r=>by rw[aX (nown c b r)];exact r) fun c xs r=>by rw[aX (ntup c xs r)];exact r
   rcases hc with rfl|hc
   .exact hbe
   .rintro rfl;rcases he with z|z
    .exact nown c b hc z
    .rw[hc]at z;cases z;exact hb rfl
end
structure Un (fs ex:List Addr) (H H':Hp) (h h':Heap):Prop where
 keep:∀b o,h.get? b=some o->H b=none->b∉fs->b∉ex->h'.get? b=some o
 slot:∀b o,h.get? b=some o->H b=none->b∈fs->b∉ex->∃sl,h'.get? b=some {o with slots:=sl}
 free:∀b o,h.get? b=some o->H b=none->b∉ex->H' b=none
 there:∀b o,h.get? b=some o->b∉ex->∃o',h'.get? b=some o'
 AQ:∀b xs,H b=some (.tup xs)->H' b=some (.tup xs)
 zH:∀b o u,H b=some (.UU o u)->H' b=some (.UU o u)
 AV:∀b ps,H b=some (.tbl ps)->∃more,H' b=some (.tbl (ps++more))
section
variable {fs fs' ex ex':List Addr} {H H1 H2:Hp} {h h1 h2 h':Heap} {a x e:Addr} {o:HO}
theorem Un.any (u:Un fs ex H H1 h h1) {ob:Obj} (q:h.get? b=some ob) (n:H b=none) (hx:b∉ex):∃sl,h1.get? b=some {ob with slots:=sl}:=by
 by_cases hb:b∈fs
 .exact u.slot b ob q n hb hx
 .exact⟨ob.slots,u.keep b ob q n hb hx⟩
theorem Un.kept (k:∀b u,h.get? b=some u->h'.get? b=some u):Un fs ex H H h h':=
 ⟨fun b ob q _ _ _=>k b ob q,fun b ob q _ _ _=>⟨ob.slots,k b ob q⟩,fun _ _ _ n _=>n,fun b ob q _=>⟨ob,k b ob q⟩,fun _ _ q=>q,fun _ _ _ q=>q,fun _ ps q=>⟨#[],by rw[q];simp⟩⟩
theorem Un.refl:Un fs ex H H h h:=Un.kept fun _ _ q=>q
theorem Un.laid (k:∀b u,h.get? b=some u->h'.get? b=some u) (hp:h.objs.size<=a) (hn:H a=none):Un fs ex H (upd H a o) h h' where
 keep:=fun b u q _ _ _=>k b u q
 slot:=fun b u q _ _ _=>⟨u.slots,k b u q⟩
 free:=fun b u q n _=>by rw[aX (cn (du (cm q) hp))];exact n
 there:=fun b u q _=>⟨u,k b u q⟩
 AQ:=fun b xs q=>by rw[aX (bX q hn)];exact q
 zH:=fun b u xs q=>by rw[aX (bX q hn)];exact q
 AV:=fun b ps q=>⟨#[],by rw[aX (bX q hn),q];simp⟩
theorem Un.write (mu:Mut (H x)) (he:e=x\/ H e=some (.own x)) (k:∀b u,b≠e->h.get? b=some u->h'.get? b=some u) (heo:∃u,h'.get? e=some u):Un fs ex H (upd H x o) h h':=by
 have hx:∀b,H b=none->b≠x:=fun b n z=>by subst z;rw[n]at mu;exact mu
 have hb:∀b,H b=none->b≠e:=fun b n z=>by
  subst z;rcases he with r|r
  .exact hx b n r
  .rw[n]at r;cases r
 have hm:∀b u,H b=some u->¬Mut (some u)->b≠x:=fun b u q nm z=>by subst z;rw[q]at mu;exact nm mu
 refine⟨fun b u q n _ _=>k b u (hb b n) q,fun b u q n _ _=>⟨u.slots,k b u (hb b n) q⟩,fun b u q n _=>by rw[aX (hx b n)];exact n,fun b u q _=>?_,
  fun b xs q=>by rw[aX (hm b _ q fun z=>z)];exact q,fun b u xs q=>by rw[aX (hm b _ q fun z=>z)];exact q,fun b ps q=>⟨#[],by rw[aX (hm b _ q fun z=>z),q];simp⟩⟩
 by_cases hbe:b=e
 .subst hbe;exact heo
 .exact⟨u,k b u hbe q⟩
end
noncomputable def trk (h:Heap) (H:Hp):List Addr:=(List.range h.objs.size).filter fun a=>(H a).isSome
noncomputable def ED (h:Heap) (H:Hp):Heap:=PySem.W.hideAll h (trk h H)
theorem M5 (h:Heap) (H:Hp):(ED h H).objs.size=h.objs.size:=PySem.W.hideAll_size _ _
theorem PR (e:h.get? b=some o) (n:H b=none):(ED h H).get? b=some o:=
 PySem.W.hideAll_get _ e fun hm=>by
  have q:(H b).isSome=true:=(jl.mp hm).2;rw[n]at q;simp at q
theorem V0 {H:Hp} {b:Addr} (e:(ED h H).get? b=some o):h.get? b=some o/\H b=none:=by
 have e':h.get? b=some o:=PySem.W.of_hideAll (trk h H) e;refine⟨e',?_⟩;cases q:H b with
 |none=>rfl
 |some x=>
  have hm:b∈trk h H:=jl.mpr ⟨mem_range.mpr (cm e'),by simp[q]⟩;have z:(ED h H).get? b=none:=PySem.W.hideAll_none (trk h H) hm;rw[z]at e;cases e
structure Mod (K:Frag) (mg:Str->Option Value) (base:Heap):Prop where
 kin:K.In base
 glob:base.Ns mainGlobals mg
 blt:∃mb,base.Ns builtinsNs mb/\∀x:Str,x≠"__name__"->mb x=bootBuiltins x
 nolimit:base.NoLimit
structure Cx where
 prog:Program
 w:World
 K:Frag
 mg:Str->Option Value
 base:Heap
 A:Around
 N:List Str
 jD:Shared
 S5:Hp
 env:Env
 outer:List Env
 stack:List Env
 ex:List Addr
 fn:Str->Bool
 calm:Bool
 pn:List (Addr×Obj)
 xe:Value->Shared->Prop
noncomputable def NW (l:List Env):List Addr:=l.filterMap (·.frame)
noncomputable abbrev Cx.fs (X:Cx):List Addr:=NW X.outer
def Vis (sc:Scope) (x:Str):Prop:=sc.names.lookup x=some .local\/ sc.names.lookup x=some .cell\/ sc.names.lookup x=some .free
def Loc (sc:Scope) (x:Str):Prop:=sc.names.lookup x=some .local\/ sc.names.lookup x=some .cell
def Look (env:Env) (h:Heap) (m:Str->Option Value) (x:Str) (u:Value):Prop:=
 (env.kindOf x=some .local/\m x=some u)\/ ((env.kindOf x=some .cell\/ env.kindOf x=some .free)/\∃c,env.cells.lookup x=some c/\h.IsCell c (some u))
structure Cx.Ok (X:Cx):Prop where
 mod:Mod X.K X.mg X.base
 kind:X.env.scope.kind= .function
 glob:X.env.globals=mainGlobals
 blt:X.env.builtins=builtinsNs
 above:X.jD.heap.objs.size<=X.env.locals
 inj:∀x y c,X.env.cells.lookup x=some c->X.env.cells.lookup y=some c->x=y
 has:∀x,(X.env.kindOf x=some .cell\/ X.env.kindOf x=some .free)->∃c,X.env.cells.lookup x=some c
 cab:∀x c,X.fn x=true->X.env.cells.lookup x=some c->X.jD.heap.objs.size<=c
 hd:X.calm=true->X.A.handled=none
 frames:X.A.frames=some X.stack
 stk:X.stack=X.outer\/ (X.stack=X.env::X.outer/\X.env.frame=some X.env.locals)
 exf:∀b∈X.ex,b≠X.env.locals/\∀x c,X.env.cells.lookup x=some c->c≠b
 bs:∀b o,X.base.get? b=some o->X.jD.heap.get? b=some o/\X.S5 b=none
 XY:X.base.objs.size<=X.jD.heap.objs.size
 NK:∀b o,X.base.get? b=some o->b∉X.ex
 FC:∀b∈X.ex,b∉X.fs
 wW:X.jD.heap.FunFrames X.base X.outer
 frf:∀b∈X.fs,X.S5 b=none
structure Inv (X:Cx) (zq:List (Addr×Obj)) (σ:List (Option V)) (H:Hp) (s:Shared):Prop where
 ok:X.Ok
 os:s.os=X.jD.os
 bare:AllBare s.gens
 base:Un X.fs X.ex X.S5 H X.jD.heap s.heap
 loc:∃m,s.heap.Ns X.env.locals m/\∀(i:Nat) (x:Str) (v:V),X.N[i]? =some x->σ[i]? =some (some v)->Vis X.env.scope x->∃u,RelV v u/\Look X.env s.heap m x u
 cell:∀x c,X.env.cells.lookup x=some c->∃v,s.heap.IsCell c v
 free:H X.env.locals=none
 p4:∀x c,X.env.cells.lookup x=some c->H c=none
 pin:∀p∈X.pn++zq,s.heap.get? p.1=some p.2/\H p.1=none/\p.1≠X.env.locals/\p.1∉X.fs/\∀v,p.2.data≠ .cell v
 bR:qW X.prog X.w H s.heap
 len:σ.length=X.N.length
section
variable {X:Cx} {zq:List (Addr×Obj)} {σ:List (Option V)} {H H':Hp} {s:Shared} {h':Heap}
theorem Cx.Ok.ah4 (ok:X.Ok) (e:X.base.get? b=some o):b∉X.fs:=fun hb=>by
 have:=(ok.wW.mem hb).1;rw[e]at this;cases this
theorem Inv.bs (I:Inv X zq σ H s):∀b o,X.base.get? b=some o->s.heap.get? b=some o/\H b=none:=fun b o e=>
 ⟨I.base.keep b o (I.ok.bs b o e).1 (I.ok.bs b o e).2 (I.ok.ah4 e) (I.ok.NK b o e),I.base.free b o (I.ok.bs b o e).1 (I.ok.bs b o e).2 (I.ok.NK b o e)⟩
theorem Inv.bk (I:Inv X zq σ H s):∀b o,X.base.get? b=some o->s.heap.get? b=some o:=fun b o e=>(I.bs b o e).1
theorem Inv.mod (I:Inv X zq σ H s):Mod X.K X.mg X.base:=I.ok.mod
theorem Inv.MA (I:Inv X zq σ H s):X.K.In s.heap:=I.ok.mod.kin.keeps I.bk
theorem Inv.lt (I:Inv X zq σ H s):X.env.locals<s.heap.objs.size:=let⟨_,hn,_⟩:=I.loc;hn.lt
theorem Inv.sz (I:Inv X zq σ H s):X.jD.heap.objs.size<=s.heap.objs.size:=gf I.ok.above (gx I.lt)
theorem Inv.afV (I:Inv X zq σ H s) (h:s.heap.objs.size<=a):a∉X.fs:=fun hb=>by
 obtain⟨_,o,ho,_⟩:=I.ok.wW.mem hb;exact absurd (du (cm ho) (gf I.sz h)) (jm _)
theorem Inv.cne (I:Inv X zq σ H s):∀x c,X.env.cells.lookup x=some c->c≠X.env.locals:=fun x c e z=>by
 obtain⟨v,o,ho,hd⟩:=I.cell x c e;obtain⟨m,⟨o',es,ep,ho',hd',_⟩,_⟩:=I.loc;rw[z,ho']at ho;cases ho;rw[hd']at hd;cases hd
theorem Inv.wW (I:Inv X zq σ H s):s.heap.FunFrames X.base X.outer:=by
 have all:∀(l:List Env),(∀b∈NW l,b∈X.fs)->X.jD.heap.FunFrames X.base l->s.heap.FunFrames X.base l:=by
  intro l
  induction l with
  |nil=>intro _ _;trivial
  |cons env r ih=>
   intro hs hl;obtain⟨hk,⟨L,o,hf,hn,ho,hd⟩,hr⟩:=hl;have hL:L∈X.fs:=hs L (by unfold NW;rw[filterMap_cons,hf];exact bh);obtain⟨sl,e⟩:=I.base.slot L o ho (I.ok.frf L hL) hL fun z=>I.ok.FC L z hL
   exact⟨hk,⟨L,_,hf,hn,e,hd⟩,ih (fun b hb=>hs b (by unfold NW;rw[filterMap_cons,hf];exact ba _ hb)) hr⟩
 exact all X.outer (fun _ hb=>hb) I.ok.wW
theorem Inv.stack (I:Inv X zq σ H s):s.heap.FunFrames X.base X.stack:=by
 rcases I.ok.stk with e|⟨e,hf⟩
 .rw[e];exact I.wW
 .rw[e];obtain⟨m,hn,_⟩:=I.loc;refine .cons (by rw[I.ok.kind];decide) hf hn ?_ I.wW;exact Heap.get?_none_of_le (gf I.ok.XY I.ok.above)
theorem Inv.HZ (I:Inv X zq σ H s):∀b∈NW X.stack,b∈X.env.locals::X.fs:=fun b hb=>by
 rcases I.ok.stk with e|⟨e,hf⟩
 .rw[e]at hb;exact ba _ hb
 .rw[e]at hb;unfold NW at hb;rw[filterMap_cons,hf]at hb;exact hb
theorem Inv.LB (I:Inv X zq σ H s):∀b∈NW X.stack,H b=none:=fun b hb=>by
 rcases bw.mp (I.HZ b hb)with e|hb
 .rw[e];exact I.free
 .obtain⟨_,o,ho,_⟩:=I.ok.wW.mem hb;exact I.base.free b o ho (I.ok.frf b hb) fun z=>I.ok.FC b z hb
theorem Inv.step (I:Inv X zq σ H s)
  (hch:∀b∈ch,(b∈X.ex\/ X.jD.heap.objs.size<=b)/\b≠X.env.locals/\(∀x c,X.env.cells.lookup x=some c->c≠b)/\∀p∈X.pn++zq,p.1≠b)
  (keep:∀b o,b≠X.env.locals->b∉X.fs->b∉ch->s.heap.get? b=some o->H b=none->h'.get? b=some o)
  (slot:∀b o,b≠X.env.locals->b∈X.fs->b∉ch->s.heap.get? b=some o->H b=none->∃sl,h'.get? b=some {o with slots:=sl}) (free:∀b o,b∉ch->s.heap.get? b=some o->H b=none->H' b=none)
  (there:∀b o,b∉ch->s.heap.get? b=some o->∃o',h'.get? b=some o')
  (AQ:∀b xs,H b=some (.tup xs)->H' b=some (.tup xs)) (zH:∀b o u,H b=some (.UU o u)->H' b=some (.UU o u)) (AV:∀b ps,H b=some (.tbl ps)->∃more,H' b=some (.tbl (ps++more)))
  (ns:∀m,s.heap.Ns X.env.locals m->h'.Ns X.env.locals m) (bR:qW X.prog X.w H' h') (hg:AllBare g'):
  Inv X zq σ H' {s with heap:=h',gens:=g',drawn:=d',toks:=t'}:=by
 have neL:∀b o,X.jD.heap.get? b=some o->b≠X.env.locals:=fun b o e=>cn (du (cm e) I.ok.above)
 have neC:∀b o,X.jD.heap.get? b=some o->b∉X.ex->b∉ch:=fun b o e hx hb=>by
  rcases(hch b hb).1 with z|z
  .exact hx z
  .exact absurd (du (cm e) z) (jm _)
 have cellK:∀x c,X.env.cells.lookup x=some c->∀v,s.heap.IsCell c v->h'.IsCell c v:=fun x c e v ⟨o,ho,hd⟩=>by
  have nch:c∉ch:=fun z=>(hch c z).2.2.1 x c e rfl
  by_cases hc:c∈X.fs
  .obtain⟨sl,q⟩:=slot c o (I.cne x c e) hc nch ho (I.p4 x c e);exact⟨_,q,hd⟩
  .exact⟨o,keep c o (I.cne x c e) hc nch ho (I.p4 x c e),hd⟩
 refine⟨I.ok,I.os,hg,⟨fun b o e n hb hx=>?_,fun b o e n hb hx=>?_,fun b o e n hx=>?_,fun b o e hx=>?_,fun b xs e=>AQ b xs (I.base.AQ b xs e),fun b o xs e=>zH b o xs (I.base.zH b o xs e),fun b ps e=>?_⟩,?_,fun x c e=>?_,?_,fun x c e=>?_,fun p hp=>?_,bR,I.len⟩
 .exact keep b o (neL b o e) hb (neC b o e hx) (I.base.keep b o e n hb hx) (I.base.free b o e n hx)
 .obtain⟨sl,e1⟩:=I.base.slot b o e n hb hx;obtain⟨sl',e2⟩:=slot b _ (neL b o e) hb (neC b o e hx) e1 (I.base.free b o e n hx);exact⟨sl',e2⟩
 .obtain⟨o',e1⟩:=I.base.there b o e hx;exact free b o' (neC b o e hx) e1 (I.base.free b o e n hx)
 .obtain⟨o',e1⟩:=I.base.there b o e hx;exact there b o' (neC b o e hx) e1
 .obtain⟨m1,e1⟩:=I.base.AV b ps e;obtain⟨m2,e2⟩:=AV b _ e1;exact⟨m1++m2,by rw[e2,Array.append_assoc]⟩
 .obtain⟨m,hn,hl⟩:=I.loc;refine⟨m,ns m hn,fun i x v e1 e2 e3=>?_⟩;obtain⟨u,r,l⟩:=hl i x v e1 e2 e3;refine⟨u,r,?_⟩;rcases l with l|⟨k,c,e,z⟩
  .exact .inl l
  .exact .inr ⟨k,c,e,cellK x c e _ z⟩
 .obtain⟨v,z⟩:=I.cell x c e;exact⟨v,cellK x c e v z⟩
 .obtain⟨m,⟨o,_,_,ho,_⟩,_⟩:=I.loc;exact free _ o (fun z=>(hch _ z).2.1 rfl) ho I.free
 .obtain⟨v,o,ho,hd⟩:=I.cell x c e;exact free c o (fun z=>(hch c z).2.2.1 x c e rfl) ho (I.p4 x c e)
 .obtain⟨e,n,ne,nf,d⟩:=I.pin p hp;have nch:p.1∉ch:=fun z=>(hch p.1 z).2.2.2 p hp rfl
  exact⟨keep p.1 p.2 ne nf nch e n,free p.1 p.2 nch e n,ne,nf,d⟩
theorem Inv.un (I:Inv X zq σ H s) (u:Un X.fs [] H H' s.heap h') (bR:qW X.prog X.w H' h'):Inv X zq σ H' {s with heap:=h',toks:=t'}:=by
 obtain⟨m,⟨o,es,ep,ho,r⟩,_⟩:=id I.loc;obtain⟨sl,hL⟩:=u.any ho I.free (by simp);exact I.step (g':=s.gens) (d':=s.drawn) (ch:=[]) (fun _ z=>nomatch z) (fun b o _ hb _ e n=>u.keep b o e n hb (by simp)) (fun b o _ hb _ e n=>u.slot b o e n hb (by simp)) (fun b o _ e n=>u.free b o e n (by simp)) (fun b o _ e=>u.there b o e (by simp)) u.AQ u.zH u.AV (fun m' hm=>by
  obtain⟨o',es',ep',ho',r'⟩:=hm;rw[ho]at ho';cases ho'
  exact⟨_,es',ep',hL,r'⟩) bR I.bare
theorem Inv.call (I:Inv X zq σ H s) (u:Un (NW X.stack) ch H H' s.heap h') (bR:qW X.prog X.w H' h') (hg:AllBare g')
  (hch:∀b∈ch,(b∈X.ex\/ X.jD.heap.objs.size<=b)/\b≠X.env.locals/\(∀x c,X.env.cells.lookup x=some c->c≠b)/\∀p∈X.pn++zq,p.1≠b):
  Inv X zq σ H' {s with heap:=h',gens:=g',drawn:=d',toks:=t'}:=by
 obtain⟨m,⟨o,es,ep,ho,r⟩,_⟩:=id I.loc;obtain⟨sl,hL⟩:=u.any ho I.free fun z=>(hch _ z).2.1 rfl
 exact I.step (ch:=ch) hch (fun b o hL hb hc e n=>u.keep b o e n (fun z=>(bw.mp (I.HZ b z)).elim hL hb) hc) (fun b o _ _ hc e n=>u.any e n hc) (fun b o hc e n=>u.free b o e n hc) (fun b o hc e=>u.there b o e hc) u.AQ u.zH u.AV (fun m' hm=>by
  obtain⟨o',es',ep',ho',r'⟩:=hm;rw[ho]at ho';cases ho'
  exact⟨_,es',ep',hL,r'⟩) bR hg
theorem Inv.turned (I:Inv X zq σ H s) (k:∀b o,b≠it->s.heap.get? b=some o->h'.get? b=some o) (hn:H it=none) (hL:it≠X.env.locals)
  (h1:it∈X.ex\/ X.jD.heap.objs.size<=it) (h2:∀x c,X.env.cells.lookup x=some c->c≠it) (h3:∀p∈X.pn++zq,p.1≠it):Inv X zq σ H {s with heap:=h',toks:=t'}:=by
 have nit:∀b u,H b=some u->b≠it:=fun b u e z=>by rw[z,hn]at e;cases e
 refine I.step (g':=s.gens) (d':=s.drawn) (ch:=[it]) (fun b hb=>?_) (fun b o _ _ hc e _=>k b o (fun z=>hc (by simp[z])) e) (fun b o _ _ hc e _=>⟨o.slots,k b o (fun z=>hc (by simp[z])) e⟩) (fun _ _ _ _ n=>n)
  (fun b o hc e=>⟨o,k b o (fun z=>hc (by simp[z])) e⟩) (fun _ _ e=>e) (fun _ _ _ e=>e) (fun b ps e=>⟨#[],by rw[e];simp⟩) (fun m hm=>?_) (fun b u e=>?_) I.bare
 .have e:b=it:=by simpa using hb
  subst e;exact⟨h1,hL,h2,h3⟩
 .obtain⟨o,es,ep,ho,r⟩:=hm;exact⟨o,es,ep,k _ o (Ne.symm hL) ho,r⟩
 .refine(I.bR b u e).aK (fun c v hc q=>k c v ?_ q) (fun _ q=>q) fun _ _ q=>q
  rcases hc with z|z
  .rw[z];exact nit b u e
  .exact nit c _ z
theorem Inv.tok (I:Inv X zq σ H s) (t:Nat):Inv X zq σ H {s with toks:=t}:=I.un (h':=s.heap) (t':=t) Un.refl I.bR
theorem Inv.kept (I:Inv X zq σ H s) (k:∀b u,s.heap.get? b=some u->h'.get? b=some u):Inv X zq σ H {s with heap:=h',toks:=t'}:=I.un (Un.kept k) (I.bR.kept k)
theorem Inv.laid {o:HO} (I:Inv X zq σ H s) (k:∀b u,s.heap.get? b=some u->h'.get? b=some u) (hp:s.heap.objs.size<=a) (new:dQ X.prog X.w (upd H a o) h' a o):
  Inv X zq σ (upd H a o) {s with heap:=h',toks:=t'}:=I.un (Un.laid k hp (I.bR.fresh hp)) (I.bR.laid k hp new)
theorem Inv.write {x e:Addr} {o:HO} (I:Inv X zq σ H s) (mu:Mut (H x)) (he:e=x\/ H e=some (.own x)) (k:∀b u,b≠e->s.heap.get? b=some u->h'.get? b=some u) (heo:∃u,h'.get? e=some u)
  (new:dQ X.prog X.w (upd H x o) h' x o):Inv X zq σ (upd H x o) {s with heap:=h',toks:=t'}:=I.un (Un.write mu he k heo) (I.bR.write mu he k heo new)
theorem Inv.xW {pins':List (Addr×Obj)} (I:Inv X zq σ H s) (h:∀p∈pins',s.heap.get? p.1=some p.2/\H p.1=none/\p.1≠X.env.locals/\p.1∉X.fs/\∀v,p.2.data≠ .cell v):Inv X pins' σ H s:=
 ⟨I.ok,I.os,I.bare,I.base,I.loc,I.cell,I.free,I.p4,fun p hp=>(bj.mp hp).elim (fun z=>I.pin p (dc _ z)) (h p),I.bR,I.len⟩
theorem GO (hN:N.Nodup) (a:N[i]? =some x) (b:N[j]? =some x):i=j:=by
 obtain⟨h1,e1⟩:=af.mp a;obtain⟨h2,e2⟩:=af.mp b;exact(List.getElem_inj hN).mp (e1.trans e2.symm)
theorem OM {x:Str} {v:V} {Q:Unit->Shared->Prop} (I:Inv X zq σ H s) (hN:X.N.Nodup) (hi:X.N[i]? =some x) (hx:Loc X.env.scope x) (r:RelV v u)
  (h:∀s',Inv X zq (σ.set i (some v)) H s'->(∃a,Heap.SameBut a s.heap s'.heap/\(a=X.env.locals\/ X.env.cells.lookup x=some a))->Q () s') (hf:X.fn x=true\/ X.env.scope.names.lookup x=some .local:=by first|exact .inl rfl|exact .inr rfl|assumption):wpAny M A (storeName X.env x u) Q E s:=by
 obtain⟨m,hn,hl⟩:=id I.loc;have hcls:(X.env.scope.kind== .class||(X.env.scope.kind== .module && X.env.locals !=X.env.globals))=false:=by rw[I.ok.kind];rfl
 have hiσ:i<σ.length:=by rw[I.len];exact(af.mp hi).1
 have cne:=I.cne;have tracked:∀{a:Addr} {h':Heap},(∃o,s.heap.get? a=some o/\H a=none)->Heap.SameBut a s.heap h'->qW X.prog X.w H h':=fun{a h'} ha hs b ob e=>by
  obtain⟨_,_,hfree⟩:=ha;refine(I.bR b ob e).aK (fun c w' hc q=>(hs.2 c ?_).trans q) (fun _ q=>q) fun _ _ q=>q
  rintro rfl;rcases hc with rfl|hc
  .rw[hfree]at e;cases e
  .rw[hfree]at hc;cases hc
 rcases hx with hk|hk
 .refine wpAny_storeName_local hk hn (fun h' hn' hs=>?_) hcls;obtain⟨oL,_,_,hoL,_⟩:=id hn;refine h _ ⟨I.ok,I.os,I.bare,⟨fun b o e n hb hx=>?_,fun b o e n hb hx=>?_,I.base.free,fun b o e hx=>?_,I.base.AQ,I.base.zH,I.base.AV⟩,⟨_,hn',fun j y v' e1 e2 e3=>?_⟩,fun y c e=>?_,I.free,I.p4,fun p hp=>?_,tracked ⟨oL,hoL,I.free⟩ hs,by simpa using I.len⟩ ⟨_,hs,.inl rfl⟩
  .exact(hs.2 b (cn (du (cm e) I.ok.above))).trans (I.base.keep b o e n hb hx)
  .obtain⟨sl,e1⟩:=I.base.slot b o e n hb hx;exact⟨sl,(hs.2 b (cn (du (cm e) I.ok.above))).trans e1⟩
  .obtain⟨o',e1⟩:=I.base.there b o e hx;exact⟨o',(hs.2 b (cn (du (cm e) I.ok.above))).trans e1⟩
  .by_cases hj:j=i
   .subst hj;rw[hi]at e1;cases e1
    rw[fx hiσ]at e2;cases e2;exact⟨u,r,.inl ⟨hk,by simp⟩⟩
   .rw[dh (Ne.symm hj)]at e2;obtain⟨u',r',q⟩:=hl j y v' e1 e2 e3;refine⟨u',r',?_⟩;rcases q with⟨k,e⟩|⟨k,c,e,z⟩
    .refine .inl ⟨k,?_⟩;have:y≠x:=fun e=>hj (GO hN e1 (e▸hi))
     simp[this,e]
    .exact .inr ⟨k,c,e,z.sameBut hs (cne y c e)⟩
  .obtain⟨w',z⟩:=I.cell y c e;exact⟨w',z.sameBut hs (cne y c e)⟩
  .obtain⟨e,n,ne,nf,d⟩:=I.pin p hp;exact⟨(hs.2 p.1 ne).trans e,n,ne,nf,d⟩
 .have hfn:X.fn x=true:=by
   rcases hf with z|z
   .exact z
   .rw[z]at hk;cases hk
  obtain⟨c,hc⟩:=I.ok.has x (.inl hk);obtain⟨w',z⟩:=I.cell x c hc;refine wpAny_storeName_cell I.ok.kind hk hc z (fun h' hc' hs=>?_);obtain⟨oc,hoc,hocd⟩:=id z;refine h {s with heap:=h'} ⟨I.ok,I.os,I.bare,⟨fun b o e n hb hx=>?_,fun b o e n hb hx=>?_,I.base.free,fun b o e hx=>?_,I.base.AQ,I.base.zH,I.base.AV⟩,⟨m,hn.sameBut hs (Ne.symm (cne x c hc)),fun j y v' e1 e2 e3=>?_⟩,fun y c' e=>?_,I.free,I.p4,fun p hp=>?_,tracked ⟨oc,hoc,I.p4 x c hc⟩ hs,by simpa using I.len⟩ ⟨c,hs,.inr hc⟩
  .exact(hs.2 b (cn (du (cm e) (I.ok.cab x c hfn hc)))).trans (I.base.keep b o e n hb hx)
  .obtain⟨sl,e1⟩:=I.base.slot b o e n hb hx;exact⟨sl,(hs.2 b (cn (du (cm e) (I.ok.cab x c hfn hc)))).trans e1⟩
  .obtain⟨o',e1⟩:=I.base.there b o e hx;exact⟨o',(hs.2 b (cn (du (cm e) (I.ok.cab x c hfn hc)))).trans e1⟩
  .by_cases hj:j=i
   .subst hj;rw[hi]at e1;cases e1
    rw[fx hiσ]at e2;cases e2;exact⟨u,r,.inr ⟨.inl hk,c,hc,hc'⟩⟩
   .rw[dh (Ne.symm hj)]at e2;obtain⟨u',r',q⟩:=hl j y v' e1 e2 e3;refine⟨u',r',?_⟩;rcases q with q|⟨k,c',e,z'⟩
    .exact .inl q
    .refine .inr ⟨k,c',e,z'.sameBut hs ?_⟩;rintro rfl;exact hj (GO hN e1 (I.ok.inj _ _ _ e hc▸hi))
  .by_cases hcc:c'=c
   .subst hcc;exact⟨_,hc'⟩
   .obtain⟨w2,z2⟩:=I.cell y c' e;exact⟨w2,z2.sameBut hs hcc⟩
  .obtain⟨e,n,ne,nf,d⟩:=I.pin p hp;refine⟨(hs.2 p.1 ?_).trans e,n,ne,nf,d⟩;intro q;rw[q,hoc]at e;have q':oc=p.2:=Option.some.inj e;exact d w' (by rw[<-q'];exact hocd)
theorem pI {v:V} {Q:Unit->Shared->Prop} (I:Inv X zq σ H s) (hN:X.N.Nodup) (hi:X.N[i]? =some x) (hx:Loc X.env.scope x) (r:RelV v u)
  (h:∀s',Inv X zq (σ.set i (some v)) H s'->Q () s') (hf:X.fn x=true\/ X.env.scope.names.lookup x=some .local:=by first|exact .inl rfl|exact .inr rfl|assumption):wpAny M A (storeName X.env x u) Q E s:=
 OM I hN hi hx r (fun s' I' _=>h s' I') hf
theorem Inv.R3 {s':Shared} (I:Inv X zq σ H s) (ho:s'.os=s.os) (u:Un (NW X.stack) ch H H' s.heap s'.heap) (bR:qW X.prog X.w H' s'.heap) (hg:AllBare s'.gens)
  (hch:∀b∈ch,(b∈X.ex\/ X.jD.heap.objs.size<=b)/\b≠X.env.locals/\(∀x c,X.env.cells.lookup x=some c->c≠b)/\∀p∈X.pn++zq,p.1≠b):Inv X zq σ H' s':=by
 obtain⟨h',g',d',t',o'⟩:=s';have e:o'=s.os:=ho;subst e;exact I.call (g':=g') (t':=t') (d':=d') u bR hg hch
end
abbrev XK:=Value->Option Addr->Hp->Prop
abbrev St:=List (Option V)
abbrev VK:=V->Hp->Prop
abbrev TE:=St->Hp->VK->Prop
abbrev TT:=St->Hp->(Bool->Hp->Prop)->Prop
abbrev TA:=St->Hp->(List V->Hp->Prop)->Prop
structure Ends where
 nx:St->Hp->Prop
 rt:VK
 bk:St->Hp->Prop:=fun _ _=>False
 ct:St->Hp->Prop:=fun _ _=>False
abbrev TS:=Ends->St->Hp->Prop
def EP (X:Cx) (zq:List (Addr×Obj)) (σ:St) (Q:VK) (u:Value) (s':Shared):Prop:=∃v H',Inv X zq σ H' s'/\RelV v u/\Q v H'
def TP (X:Cx) (zq:List (Addr×Obj)) (σ:St) (Q:Bool->Hp->Prop) (b:Bool) (s':Shared):Prop:=∃H',Inv X zq σ H' s'/\Q b H'
def AP (X:Cx) (zq:List (Addr×Obj)) (σ:St) (Q:List V->Hp->Prop) (us:List Value) (s':Shared):Prop:=∃vs H',Inv X zq σ H' s'/\Vals vs us/\Q vs H'
def SP (X:Cx) (zq:List (Addr×Obj)) (D:Ends) (f:Flow) (s':Shared):Prop:=
 match f with
 | .next=>∃σ' H',Inv X zq σ' H' s'/\D.nx σ' H'
 | .brk=>∃σ' H',Inv X zq σ' H' s'/\D.bk σ' H'
 | .cont=>∃σ' H',Inv X zq σ' H' s'/\D.ct σ' H'
 | .ret u=>∃v σ' H',Inv X zq σ' H' s'/\RelV v u/\D.rt v H'
def PE (X:Cx) (e:Expr) (t:TE):Prop:=
 ∀(zq:List (Addr×Obj)) (s:Shared) (σ:St) (H:Hp) (Q:VK),Inv X zq σ H s->t σ H Q->wpAny (model X.prog X.w) X.A (eval e X.env) (EP X zq σ Q) X.xe s
def PT (X:Cx) (e:Expr) (t:TT):Prop:=
 ∀(zq:List (Addr×Obj)) (s:Shared) (σ:St) (H:Hp) (Q:Bool->Hp->Prop),Inv X zq σ H s->t σ H Q->wpAny (model X.prog X.w) X.A (isTrue e X.env (eval e X.env)) (TP X zq σ Q) X.xe s
def PW (X:Cx) (e:Expr) (t:TT):Prop:=
 ∀(whole:Sem Value) (zq:List (Addr×Obj)) (s:Shared) (σ:St) (H:Hp) (Q:Bool->Hp->Prop),Inv X zq σ H s->t σ H Q->wpAny (model X.prog X.w) X.A (isTrue e X.env whole) (TP X zq σ Q) X.xe s
theorem PW.pt {t:TT} (h:PW X e t):PT X e t:=h _
def PA (X:Cx) (es:List Expr) (t:TA):Prop:=
 ∀(pos:Pos) (zq:List (Addr×Obj)) (s:Shared) (σ:St) (H:Hp) (Q:List V->Hp->Prop),Inv X zq σ H s->t σ H Q->wpAny (model X.prog X.w) X.A (spliced (backTo pos (starEach es X.env))) (AP X zq σ Q) X.xe s
def PS (X:Cx) (st:Stmt) (t:TS):Prop:=
 ∀(zq:List (Addr×Obj)) (s:Shared) (σ:St) (H:Hp) (D:Ends),Inv X zq σ H s->t D σ H->wpAny (model X.prog X.w) X.A (exec st X.env) (SP X zq D) X.xe s
def LL (X:Cx) (st:List Stmt) (t:TS):Prop:=
 ∀(zq:List (Addr×Obj)) (s:Shared) (σ:St) (H:Hp) (D:Ends),Inv X zq σ H s->t D σ H->wpAny (model X.prog X.w) X.A (execs st X.env) (SP X zq D) X.xe s
theorem cS {t:Sem α} {Q Q':α->Shared->Prop} (h:wpAny M A t Q E s) (hQ:∀a s,Q a s->Q' a s):wpAny M A t Q' E s:=dy h hQ fun _ _ x=>x
section
variable {X:Cx}
def yX (i:Nat):TE:=fun σ H Q=>∃v,σ[i]? =some (some v)/\Q v H
def tC (v:V):TE:=fun _ H Q=>Q v H
theorem Z6 {i:Nat} {x:Str} (hN:X.N[i]? =some x) (hv:Vis X.env.scope x) (hd:(x==("__debug__":Str))=false:=by decide) (hcd:(x==("__classdict__":Str))=false:=by decide):PE X (.Name x pos) (yX i):=by
 intro zq s σ H Q I h;obtain⟨v,e,h⟩:=h;obtain⟨m,hn,hl⟩:=I.loc;obtain⟨u,r,l⟩:=hl i x v hN e hv;have fin:EP X zq σ Q u s:=⟨v,H,I,r,h⟩;rcases l with⟨hk,hm⟩|⟨hk,c,hc,hcell⟩
 .exact wpAny_Name (wpAny_loadName_local I.ok.kind hk hn hm fin) hd
 .rcases hk with hk|hk
  .exact wpAny_Name (wpAny_loadName_cell I.ok.kind hk hc hcell fin) hd
  .exact wpAny_Name (wpAny_loadName_free I.ok.kind hk hc hcell fin hcd) hd
theorem aG {i j pos}:PE X (.Constant (.int i) j pos) (tC (.int i)):=fun _ _ _ H _ I h=>wpAny_Constant_int ⟨.int i,H,I.tok _,⟨_,rfl⟩,h⟩
theorem tR {b j pos}:PE X (.Constant (.bool b) j pos) (tC (.bl b)):=fun _ _ _ H _ I h=>Constant_bool ⟨.bl b,H,I,rfl,h⟩
theorem eR {j pos}:PE X (.Constant .none j pos) (tC .bG):=fun _ _ _ H _ I h=>Constant_none ⟨.bG,H,I,rfl,h⟩
theorem dH {x j pos}:PE X (.Constant (.str x) j pos) (tC (.str x)):=fun _ _ _ H _ I h=>Calls.Constant_str ⟨.str x,H,I.tok _,⟨_,rfl⟩,h⟩
def Gl (X:Cx) (x:Str):Prop:=X.env.kindOf x=some .globalImplicit
theorem WL (I:Inv X zq σ H s) (hg:Gl X x) (hm:X.mg x=some u) (h:Q u s)
  (hd:(x==("__debug__":Str))=false:=by decide):wpAny (model X.prog X.w) X.A (eval (.Name x pos) X.env) Q E s:=
 Calls.Name_function_global I.ok.kind hg (Calls.loadGlobal_global (by rw[I.ok.glob];exact I.mod.glob.keeps I.bk) hm h) hd
theorem tG (I:Inv X zq σ H s) (hg:Gl X x) (hm:X.mg x=none) (hv:bootBuiltins x=some u) (h:Q u s)
  (hn:x≠"__name__":=by decide) (hd:(x==("__debug__":Str))=false:=by decide):wpAny (model X.prog X.w) X.A (eval (.Name x pos) X.env) Q E s:=by
 obtain⟨mb,h1,h2⟩:=I.mod.blt;exact Calls.Name_function_global I.ok.kind hg (Calls.loadGlobal_builtin (by rw[I.ok.glob];exact I.mod.glob.keeps I.bk) hm (by rw[I.ok.blt];exact h1.keeps I.bk) ((h2 x hn).trans hv) h) hd
theorem WX {v:V} (hg:Gl X x) (hm:X.mg x=none) (hv:bootBuiltins x=some u) (r:RelV v u) (hn:x≠"__name__":=by decide) (hd:(x==("__debug__":Str))=false:=by decide):PE X (.Name x pos) (tC v):=
 fun _ _ _ H _ I h=>tG I hg hm hv ⟨v,H,I,r,h⟩ hn hd
variable {a b:Expr} {ta tb:TE} {pos:Pos}
def tB (t:TE):TT:=fun σ H Q=>t σ H fun x H1=>∃c,x= .bl c/\Q c H1
theorem Q1 (h:PE X e t) (he:∀whole,isTrue e X.env whole=(do let v<-whole;standAt e.pos;holding [v] (truthy v)):=by intro _;rfl):PT X e (tB t):=by
 intro zq s σ H Q I hw;refine isTrue_plain (cS (h zq s σ H _ I hw) fun v s1 ⟨x,H1,I1,r1,q1⟩=>?_) (he _);obtain⟨d,rfl,q⟩:=q1;cases r1;exact wpAny_truthy_bool ⟨H1,I1,q⟩
variable {tA tB':TT} {rest:List Expr}
def afT (t u:TT):TT:=fun σ H Q=>t σ H fun c H1=>if c=true then u σ H1 Q else Q false H1
def tOr (t u:TT):TT:=fun σ H Q=>t σ H fun c H1=>if c=true then Q true H1 else u σ H1 Q
def afY (t:TT):TT:=fun σ H Q=>t σ H fun c H1=>Q (!c) H1
theorem iY (ha:PT X a tA):PW X (.BoolOp .And [a] pos) tA:=by
 intro wh zq s σ H Q I h;refine isTrue_and (cS (ha zq s σ H Q I h) fun c s1 e=>?_);cases c with
 |true=>exact isTrue_and_nil e
 |false=>exact e
theorem ac6 (ha:PT X a tA):PW X (.BoolOp .Or [a] pos) tA:=by
 intro wh zq s σ H Q I h;refine isTrue_or (cS (ha zq s σ H Q I h) fun c s1 e=>?_);cases c with
 |false=>exact isTrue_or_nil e
 |true=>exact e
theorem nD (ha:PT X a tA) (hb:PW X (.BoolOp .And (b::rest) pos) tB'):PW X (.BoolOp .And (a::b::rest) pos) (afT tA tB'):=by
 intro wh zq s σ H Q I h;refine isTrue_and (cS (ha zq s σ H _ I h) fun c s1 ⟨H1,I1,q1⟩=>?_);cases c with
 |true=>exact hb wh zq s1 σ H1 Q I1 q1
 |false=>exact⟨H1,I1,q1⟩
theorem ae7 (ha:PT X a tA) (hb:PW X (.BoolOp .Or (b::rest) pos) tB'):PW X (.BoolOp .Or (a::b::rest) pos) (tOr tA tB'):=by
 intro wh zq s σ H Q I h;refine isTrue_or (cS (ha zq s σ H _ I h) fun c s1 ⟨H1,I1,q1⟩=>?_);cases c with
 |true=>exact⟨H1,I1,q1⟩
 |false=>exact hb wh zq s1 σ H1 Q I1 q1
theorem SA (ha:PT X a tA):PT X (.UnaryOp .Not a pos) (afY tA):=by
 intro zq s σ H Q I h;exact isTrue_not (ha zq s σ H (fun c H1=>Q (!c) H1) I h)
def ZG (ta tb:TE):TE:=fun σ H Q=>ta σ H fun x H1=>∃c,x= .bl c/\if c=true then tb σ H1 Q else Q (.bl false) H1
theorem adI {op} (h:PE X a t):PE X (.BoolOp op [a] pos) t:=fun zq s σ H Q I hw=>BoolOp_one (h zq s σ H Q I hw)
theorem acV (ha:PE X a ta) (hb:PE X (.BoolOp .And (b::rest) pos) tb):PE X (.BoolOp .And (a::b::rest) pos) (ZG ta tb):=by
 intro zq s σ H Q I h;refine BoolOp_and (cS (ha zq s σ H _ I h) fun v s1 ⟨x,H1,I1,r1,q1⟩=>?_);obtain⟨c,rfl,q1⟩:=q1;cases r1;refine wpAny_truthy_bool ?_;cases c with
 |true=>exact hb zq s1 σ H1 Q I1 q1
 |false=>exact⟨.bl false,H1,I1,rfl,q1⟩
def tIf (t:TT) (ta tb:TE):TE:=fun σ H Q=>t σ H fun c H1=>if c=true then ta σ H1 Q else tb σ H1 Q
theorem p9 (hc:PT X c tA) (ha:PE X a ta) (hb:PE X b tb):PE X (.IfExp c a b pos) (tIf tA ta tb):=by
 intro zq s σ H Q I h;refine wpAny_IfExp (cS (hc zq s σ H _ I h) fun d s1 ⟨H1,I1,q1⟩=>?_);cases d with
 |true=>exact ha zq s1 σ H1 Q I1 q1
 |false=>exact hb zq s1 σ H1 Q I1 q1
end
def gE (K:Frag) (H:Hp) (a:Addr) (xs:List V):Prop:=
 Rd H a (.lst xs)\/
  ∃(o:Obj) (its:Array Value) (n:Nat),K.lookup a=some o/\o.cls= .type "list"/\o.dict=none/\o.data= .seq its n/\its.size<=sizeLine/\Vals xs its.toList
def rB (K:Frag) (H:Hp) (a:Addr) (xs:List V):Prop:=
 Rd H a (.tup xs)\/
  ∃(o:Obj) (its:Array Value) (n:Nat),K.lookup a=some o/\o.cls= .type "tuple"/\o.data= .seq its n/\its.size<=sizeLine/\Vals xs its.toList
noncomputable def ahK:Value->Option V
 | .none=>some .bG
 | .bool b=>some (.bl b)
 | .int i _=>some (.int i)
 | .str x _=>some (.str x)
 | .bytes b _=>some (.byt b)
 | .float b _=>some (.flt b)
 | .ref a=>some (.ref a)
 | .type n=>some (.ty n)
 |_=>none
theorem RelV.abs {x:V} (r:RelV x u):ahK u=some x:=by
 cases x with
 |bG=>cases r;rfl
 |bl _=>cases r;rfl
 |int _=>obtain⟨t,rfl⟩:=r;rfl
 |str _=>obtain⟨t,rfl⟩:=r;rfl
 |byt _=>obtain⟨t,rfl⟩:=r;rfl
 |flt _=>obtain⟨t,rfl⟩:=r;rfl
 |ref _=>cases r;rfl
 |ty _=>cases r;rfl
theorem RelV.inj {x:V} (r:RelV x u) (q:RelV y u):x=y:=Option.some.inj (r.abs.symm.trans q.abs)
theorem Vals.inj:∀{xs ys:List V} {us:List Value},Vals xs us->Vals ys us->xs=ys
 |_,_,_,.nil,.nil=>rfl
 |_,_,_,.cons r t,.cons r' t'=>by rw[r.inj r',Vals.inj t t']
section
variable {X:Cx} {zq:List (Addr×Obj)} {σ:St} {H:Hp} {s:Shared} {a:Addr} {xs ys:List V}
theorem gE.of (h:H a=some (.lst xs)):gE K H a xs:=.inl (.inl h)
theorem rB.of (h:H a=some (.tup xs)):rB K H a xs:=.inl (.inl h)
theorem Inv.list (I:Inv X zq σ H s) (h:gE X.K H a xs):∃its:List Value,Vals xs its/\PlainL s.heap a its.toArray/\xs.length<=sizeLine:=by
 rcases h with h|⟨o,its,n,hk,hc,hd,hs,hz,r⟩
 .obtain⟨z,its,n,r,e⟩:=h.ok I.bR;exact⟨its,r,⟨_,n,e,rfl,rfl,rfl⟩,z⟩
 .refine⟨its.toList,r,⟨o,n,I.MA a o hk,hc,hd,by simpa using hs⟩,?_⟩;have e:=r.length;simp only[length_toList]at e;omega
theorem Inv.tuple (I:Inv X zq σ H s) (h:rB X.K H a xs):∃its:List Value,Vals xs its/\IsTup s.heap a its.toArray/\xs.length<=sizeLine:=by
 rcases h with h|⟨o,its,n,hk,hc,hs,hz,r⟩
 .obtain⟨z,its,r,p⟩:=h.ok I.bR;exact⟨its,r,p.1,z⟩
 .refine⟨its.toList,r,⟨o,I.MA a o hk,hc,n,by simpa using hs⟩,?_⟩;have e:=r.length;simp only[length_toList]at e;omega
theorem Inv.pL (I:Inv X zq σ H s) (h:gE X.K H a xs) (h':gE X.K H a ys):xs=ys:=by
 obtain⟨its,r,⟨o,n,e,_,_,d⟩,_⟩:=I.list h;obtain⟨its',r',⟨o',n',e',_,_,d'⟩,_⟩:=I.list h';rw[e]at e';cases e'
 rw[d]at d';injection d' with d1 _
 have:its=its':=by simpa using dq Array.toList d1
 subst this;exact r.inj r'
theorem Inv.BN (I:Inv X zq σ H s) (h:rB X.K H a xs) (h':rB X.K H a ys):xs=ys:=by
 obtain⟨its,r,⟨o,e,_,n,d⟩,_⟩:=I.tuple h;obtain⟨its',r',⟨o',e',_,n',d'⟩,_⟩:=I.tuple h';rw[e]at e';cases e'
 rw[d]at d';injection d' with d1 _
 have:its=its':=by simpa using dq Array.toList d1
 subst this;exact r.inj r'
end
noncomputable abbrev Cx.AU (X:Cx) (E:Value->Shared->Prop):Cx:={X with xe:=E}
noncomputable abbrev Cx.nox (X:Cx):Cx:=X.AU fun _ _=>False
theorem Cx.Ok.AU (ok:X.Ok) (E:Value->Shared->Prop):(X.AU E).Ok:=
 ⟨ok.mod,ok.kind,ok.glob,ok.blt,ok.above,ok.inj,ok.has,ok.cab,ok.hd,ok.frames,ok.stk,ok.exf,ok.bs,ok.XY,ok.NK,ok.FC,ok.wW,ok.frf⟩
theorem Cx.Ok.pD (ok:(X.AU E).Ok):X.Ok:=
 ⟨ok.mod,ok.kind,ok.glob,ok.blt,ok.above,ok.inj,ok.has,ok.cab,ok.hd,ok.frames,ok.stk,ok.exf,ok.bs,ok.XY,ok.NK,ok.FC,ok.wW,ok.frf⟩
section
variable {X:Cx} {zq:List (Addr×Obj)} {σ:St} {H:Hp} {s:Shared} {E:Value->Shared->Prop}
theorem Inv.AU (I:Inv X zq σ H s) (E:Value->Shared->Prop):Inv (X.AU E) zq σ H s:=⟨I.ok.AU E,I.os,I.bare,I.base,I.loc,I.cell,I.free,I.p4,I.pin,I.bR,I.len⟩
theorem Inv.pD (I:Inv (X.AU E) zq σ H s):Inv X zq σ H s:=⟨I.ok.pD,I.os,I.bare,I.base,I.loc,I.cell,I.free,I.p4,I.pin,I.bR,I.len⟩
theorem SP.pD {D:Ends} {f:Flow} {s':Shared} (h:SP (X.AU E) zq D f s'):SP X zq D f s':=by
 cases f with
 |next=>obtain⟨σ',H',I,q⟩:=h;exact⟨σ',H',I.pD,q⟩
 |brk=>obtain⟨σ',H',I,q⟩:=h;exact⟨σ',H',I.pD,q⟩
 |cont=>obtain⟨σ',H',I,q⟩:=h;exact⟨σ',H',I.pD,q⟩
 |ret u=>obtain⟨v,σ',H',I,r,q⟩:=h;exact⟨v,σ',H',I.pD,r,q⟩
theorem LL.nox {st:List Stmt} {t:TS} (h:LL X.nox st t):LL X st t:=fun zq s σ H D I hw=>
 dy (h zq s σ H D (I.AU _) hw) (fun _ _ q=>q.pD) fun _ _ z=>False.elim z
end
section
variable {X:Cx} {st:Stmt} {rest:List Stmt} {t u:TS} {e:Expr} {te:TE} {pos:Pos}
def PZ:TS:=fun D σ H=>D.nx σ H
def VV (t u:TS):TS:=fun D σ H=>t {D with nx:=u D} σ H
theorem cH:LL X [] PZ:=fun _ _ σ H _ I h=>wpAny_execs_nil ⟨σ,H,I,h⟩
theorem aE (h1:PS X st t) (h2:LL X rest u):LL X (st::rest) (VV t u):=by
 intro zq s σ H D I h;refine wpAny_execs_cons (cS (h1 zq s σ H {D with nx:=u D} I h) fun f s1 q=>?_);cases f with
 |next=>
  obtain⟨σ',H',I',q⟩:=q;exact h2 zq s1 σ' H' D I' q
 |ret v=>exact q
 |brk=>exact q
 |cont=>exact q
theorem aH (h1:PS X st t):LL X [st] t:=by
 intro zq s σ H D I h;refine wpAny_execs_cons (cS (h1 zq s σ H D I h) fun f s1 q=>?_);cases f with
 |next=>exact wpAny_execs_nil q
 |ret v=>exact q
 |brk=>exact q
 |cont=>exact q
theorem Inv.quiet (I:Inv X zq σ H s):interactive X.env=false:=by simp[interactive,I.ok.kind]
def QO (te:TE):TS:=fun D σ H=>te σ H fun _ H1=>D.nx σ H1
theorem iO (he:PE X e te) (hs:swapsWith e none pos.line X.env=pure false:=by rfl):PS X (.Expr e pos) (QO te):=by
 intro zq s σ H D I h;exact wpAny_Expr_any (cS (he zq s σ H _ I h) fun v s1 ⟨x,H1,I1,r1,q1⟩=>⟨σ,H1,I1,q1⟩) I.quiet hs
def aaE (te:TE):TS:=fun D σ H=>te σ H D.rt
theorem bM (he:PE X e te):PS X (.Return (some e) pos) (aaE te):=by
 intro zq s σ H D I h;exact wpAny_Return_some (cS (he zq s σ H _ I h) fun v s1 ⟨x,H1,I1,r1,q1⟩=>⟨x,σ,H1,I1,r1,q1⟩)
def abL (c:TT) (t u:TS):TS:=fun D σ H=>c σ H fun b H1=>if b=true then t D σ H1 else u D σ H1
theorem eZ {a b:List Stmt} (hc:PT X c tc) (ha:LL X a t) (hb:LL X b u):PS X (.If c a b pos) (abL tc t u):=by
 intro zq s σ H D I h;refine wpAny_If (cS (hc zq s σ H _ I h) fun d s1 ⟨H1,I1,q1⟩=>?_);cases d with
 |true=>exact ha zq s1 σ H1 D I1 q1
 |false=>exact hb zq s1 σ H1 D I1 q1
end
abbrev TG:=V->St->Hp->(St->Hp->Prop)->Prop
abbrev K3:=List V->St->Hp->(St->Hp->Prop)->Prop
def PG (X:Cx) (target:Expr) (t:TG):Prop:=
 ∀(zq:List (Addr×Obj)) (s:Shared) (σ:St) (H:Hp) (v:V) (u:Value) (Q:St->Hp->Prop),Inv X zq σ H s->RelV v u->t v σ H Q->
  wpAny (model X.prog X.w) X.A (assign target X.env u) (fun _ s'=>∃σ' H',Inv X zq σ' H' s'/\Q σ' H') X.xe s
def PGs (X:Cx) (ts:List Expr) (t:K3):Prop:=
 ∀(zq:List (Addr×Obj)) (s:Shared) (σ:St) (H:Hp) (vs:List V) (us:List Value) (Q:St->Hp->Prop),Inv X zq σ H s->Vals vs us->t vs σ H Q->
  wpAny (model X.prog X.w) X.A (assignInOrder ((assignEach ts X.env).map (·.2)) us) (fun _ s'=>∃σ' H',Inv X zq σ' H' s'/\Q σ' H') X.xe s
abbrev aaY:=V->V->V->Hp->(Hp->Prop)->Prop
def aeV (X:Cx) (t:aaY):Prop:=
 ∀(zq:List (Addr×Obj)) (s:Shared) (σ:St) (H:Hp) (o i v:V) (ov iv u:Value) (Q:Hp->Prop),Inv X zq σ H s->RelV o ov->RelV i iv->RelV v u->t o i v H Q->
  wpAny (model X.prog X.w) X.A (setItem ov iv u) (fun _ s'=>∃H',Inv X zq σ H' s'/\Q H') X.xe s
section
variable {X:Cx} {pos:Pos}
def jY (i:Nat):TG:=fun v σ H Q=>Q (σ.set i (some v)) H
theorem bL (hN:X.N.Nodup) (hi:X.N[i]? =some x) (hx:Loc X.env.scope x) (hf:X.fn x=true\/ X.env.scope.names.lookup x=some .local:=by first|exact .inl rfl|exact .inr rfl|assumption):PG X (.Name x pos) (jY i):=by
 intro zq s σ H v u Q I r h;exact wpAny_assign_Name (pI I hN hi hx r (fun s' I'=>⟨_,H,I',h⟩) hf)
def acK:K3:=fun vs σ H Q=>vs=[]/\Q σ H
def S7 (t:TG) (u:K3):K3:=fun vs σ H Q=>∃v r,vs=v::r/\t v σ H fun σ' H'=>u r σ' H' Q
theorem fI:PGs X [] acK:=by
 intro zq s σ H vs us Q I r h;obtain⟨e,h⟩:=h;subst e;cases r;exact assignInOrder_nil ⟨σ,H,I,h⟩
theorem bK {t:TG} {u:K3} (h1:PG X e t) (h2:PGs X es u)
  (hs:(assignEach (e::es) X.env).map (·.2)=assign e X.env::(assignEach es X.env).map (·.2):=by rfl):PGs X (e::es) (S7 t u):=by
 intro zq s σ H vs us Q I r h;obtain⟨v,vr,e1,h⟩:=h;subst e1;cases r with
 |cons r rr=>
  rw[hs];refine assignInOrder_cons (cS (h1 zq s σ H _ _ _ I r h) fun _ s1 ⟨σ1,H1,I1,q1⟩=>?_);exact h2 zq s1 σ1 H1 _ _ Q I1 rr q1
def XU (K:Frag) (n:Nat) (t:K3):TG:=fun v σ H Q=>∃a xs,v= .ref a/\rB K H a xs/\xs.length=n/\t xs σ H Q
theorem Z1 {t:K3} (hc:X.calm=true) (h:PGs X es t)
  (hn:(assignEach es X.env).length=n:=by rfl) (hst:(assignEach es X.env).findIdx? (·.1)=none:=by rfl):PG X (.Tuple es k pos) (XU X.K n t):=by
 intro zq s σ H v u Q I r hw;obtain⟨a,xs,e1,hq,hl,hw⟩:=hw;subst e1;cases r;obtain⟨its,rv,ht,hz⟩:=I.tuple hq;refine assign_Tuple_tuple (I.ok.hd hc) ht (by simp[hn,<-hl,rv.length]) hst fun h' hx=>?_
 have I1:Inv X zq σ H {s with heap:=h'}:=I.kept (t':=s.toks) fun b o e=>hx b o (cn (cm e)) e
 exact h zq _ σ H xs _ Q I1 (by simpa using rv) hw
def AO (to ti:TE) (t:aaY):TG:=fun v σ H Q=>to σ H fun o H1=>ti σ H1 fun i H2=>t o i v H2 fun H3=>Q σ H3
theorem TK {o i:Expr} {to ti:TE} {t:aaY} (ho:PE X o to) (hi:PE X i ti) (hs:aeV X t)
  (ha:∀v,assign (.Subscript o i pos) X.env v=(do
   let ov<-holding [v] (eval o X.env)
   let iv<-holding [v,ov] (eval i X.env)
   standAt pos
   holding [v,ov,iv] (setItem ov iv v)
   release [v,ov,iv] []):=by intro _;rfl):PG X (.Subscript o i pos) (AO to ti t):=by
 intro zq s σ H v u Q I r h;rw[ha];refine ae (gd (cS (ho zq s σ H _ I h) fun ov s1 ⟨x,H1,I1,r1,q1⟩=>?_));refine ae (gd (cS (hi zq s1 σ H1 _ I1 q1) fun iv s2 ⟨y,H2,I2,r2,q2⟩=>?_));refine ae (wpAny_standAt (ae (gd (cS (hs zq s2 σ H2 x y v ov iv u _ I2 r1 r2 r q2) fun _ s3 ⟨H3,I3,q3⟩=>?_))));exact wpAny_release ⟨σ,H3,I3,q3⟩
def t9 (te:TE) (g:TG):TS:=fun D σ H=>te σ H fun x H1=>g x σ H1 D.nx
theorem KC {g:TG} (he:PE X e te) (hg:PG X tg g) (hs:swapsWithSole [tg] e pos.line X.env=pure false:=by rfl) (hw:swappedStores [tg] e X.env=pure none:=by rfl)
  (h1:(assignEach [tg] X.env).map (·.2)=[assign tg X.env]:=by rfl):PS X (.Assign [tg] e pos) (t9 te g):=by
 intro zq s σ H D I h;refine wpAny_Assign_stores (cS (he zq s σ H _ I h) fun v s1 ⟨x,H1,I1,r1,q1⟩=>?_) hs hw;rw[h1];exact cS (hg zq s1 σ H1 x v _ I1 r1 q1) fun _ s2 q=>q
theorem ac2 {pos':Pos} (hN:X.N.Nodup) (hi:X.N[i]? =some x) (hx:Loc X.env.scope x) (he:PE X e te) (hs:swapsWith e (some (.Name x pos')) pos.line X.env=pure false:=by rfl) (hf:X.fn x=true\/ X.env.scope.names.lookup x=some .local:=by first|exact .inl rfl|exact .inr rfl|assumption):
  PS X (.Assign [.Name x pos'] e pos) (t9 te (jY i)):=by
 intro zq s σ H D I h;refine wpAny_Assign_Name (cS (he zq s σ H _ I h) fun v s1 ⟨y,H1,I1,r1,q1⟩=>?_) hs;exact pI I1 hN hi hx r1 (fun s2 I2=>⟨_,H1,I2,q1⟩) hf
def acC (i j:Nat) (ta:TA):TS:=fun D σ H=>ta σ H fun vs H1=>∃v w,vs=[v,w]/\D.nx ((σ.set i (some v)).set j (some w)) H1
theorem CJ {y:Str} {a b:Expr} {px py pt:Pos} {kt k2 pt2} (hc:X.calm=true) (hN:X.N.Nodup) (hi:X.N[i]? =some x) (hj:X.N[j]? =some y) (hij:i≠j)
  (hx:X.env.scope.names.lookup x=some .local) (hy:X.env.scope.names.lookup y=some .local) (ha:PA X [a,b] ta)
  (hw:swappedStores [.Tuple [.Name x px,.Name y py] kt pt] (.Tuple [a,b] k2 pt2) X.env=pure (some [x,y]))
  (hs:swapsWithSole [.Tuple [.Name x px,.Name y py] kt pt] (.Tuple [a,b] k2 pt2) pos.line X.env=pure false:=by rfl):
  PS X (.Assign [.Tuple [.Name x px,.Name y py] kt pt] (.Tuple [a,b] k2 pt2) pos) (acC i j ta):=by
 intro zq s σ H D I h;rw[exec_Assign_arm];refine ae (wpAny_standAt ?_);rw[hs];refine ae (au ?_);rw[ai (by decide)];refine ae (Tuple_ (cS (ha _ zq s σ H _ I h) fun us s1 ⟨vs,H1,I1,r1,q1⟩=>?_));obtain⟨v,w,e1,q1⟩:=q1;subst e1;obtain⟨u1,u2,rfl,rv,rw'⟩:∃u1 u2,us=[u1,u2]/\RelV v u1/\RelV w u2:=by
  cases r1 with
  | cons p q=>
   cases q with
   |cons p' q'=>
    cases q';exact⟨_,_,rfl,p,p'⟩
 refine dk ?_ (by show 2<=sizeLine;decide);have I2:Inv X zq σ H1 {s1 with heap:=s1.heap.push {cls:=.type "tuple",data:=.seq [u1,u2].toArray}}:=I1.kept (t':=s1.toks) fun b o e=>ah _ e
 rw[hw];refine ae (au ?_);show wpAny (model X.prog X.w) X.A (do rule "assign.swapped-stores";let items<-unpackItems (.ref s1.heap.objs.size) 2 none;assignInOrder [fun v=>bindName X.env y v,fun v=>bindName X.env x v] items.reverse;pure Flow.next) _ _ _;refine ae (wpAny_rule (ae (unpackItems_tuple (items:= #[u1,u2]) (I.ok.hd hc) (IsTup.new s1.heap _) fun h' hx'=>?_)));have I3:=I2.kept (h':=h') (t':=s1.toks) fun b o e=>hx' b o (cn (cm e)) e
 show wpAny _ _ (assignInOrder [fun v=>bindName X.env y v,fun v=>bindName X.env x v] [u2,u1]>>=fun _=>pure Flow.next) _ _ _;refine ae (assignInOrder_cons (wpAny_bindName (pI I3 hN hj (.inl hy) rw' (fun s2 I4=>?_) (.inr hy))));refine assignInOrder_cons (wpAny_bindName (pI I4 hN hi (.inl hx) rv (fun s3 I5=>assignInOrder_nil (au ?_)) (.inr hx)));rw[List.set_comm _ _ (Ne.symm hij)]at I5;exact⟨_,H1,I5,q1⟩
end
section
variable {X:Cx} {pos:Pos}
def UJ (c:TT) (tb:TS):TS:=fun D σ H=>∃W:Nat->St->Hp->Prop,(∃m,W m σ H)/\∀m σ H,W m σ H->
 c σ H fun b H1=>if b=true then∃N:St->Hp->Prop,(∀σ' H',N σ' H'->∃m',m'<m/\W m' σ' H')/\tb {D with nx:=N,ct:=N,bk:=D.nx} σ H1 else D.nx σ H1
theorem tX (hp:PassesOwn (model X.prog X.w) X.A X.env X.xe) (hc:PT X c tc) (hb:LL X body tb):PS X (.While c body [] pos) (UJ tc tb):=by
 intro zq s σ H D I h;obtain⟨W,⟨m0,w0⟩,turn⟩:=h;refine wpAny_While (codeAny_whileLoop (fun n s'=>∃σ' H',Inv X zq σ' H' s'/\W n σ' H') ?_ m0 ⟨σ,H,I,w0⟩);rintro n s1 ⟨σ1,H1,I1,w1⟩;refine ju hp (cS (hc zq s1 σ1 H1 _ I1 (turn n σ1 H1 w1)) fun b s2 ⟨H2,I2,q2⟩=>?_);cases b with
 | true=>
  obtain⟨N,hN,q2⟩:=q2;rw[ao rfl];refine ju hp (cS (hb zq s2 σ1 H2 _ I2 q2) fun f s3 q3=>?_);cases f with
  |next=>
   obtain⟨σ3,H3,I3,n3⟩:=q3;obtain⟨m',hm,w3⟩:=hN σ3 H3 n3;exact⟨m',hm,σ3,H3,I3,w3⟩
  |cont=>
   obtain⟨σ3,H3,I3,n3⟩:=q3;obtain⟨m',hm,w3⟩:=hN σ3 H3 n3;exact⟨m',hm,σ3,H3,I3,w3⟩
  |brk=>exact q3
  |ret v=>exact q3
 |false=>
  rw[ai ax];exact wpAny_execs_nil ⟨σ1,H2,I2,q2⟩
end
structure It where
 go:Nat->Hp->Prop
 yld:Nat->Hp->V->Hp->Prop
 stop:Nat->Hp->Prop
def tS (X:Cx) (zq:List (Addr×Obj)) (H:Hp) (b:Addr):Prop:=
 H b=none/\b≠X.env.locals/\b∉X.fs/\(b∈X.ex\/ X.jD.heap.objs.size<=b)/\(∀x c,X.env.cells.lookup x=some c->c≠b)/\∀p∈X.pn++zq,p.1≠b
theorem Inv.xA {H':Hp} (I:Inv X zq σ H s) (hb:s.heap.objs.size<=b) (hn:H' b=none):tS X zq H' b:=by
 refine⟨hn,iw (du I.lt hb),I.afV hb,.inr (gf I.sz hb),fun x c e z=>?_,fun p hp z=>?_⟩
 .obtain⟨v,q⟩:=I.cell x c e;exact absurd (du q.lt (by rw[z];exact hb)) (jm _)
 .exact absurd (du (cm (I.pin p hp).1) (by rw[z];exact hb)) (jm _)
structure Turn (P:Program) (w:World) (K:Frag) (tg:Expr) (J:It) (fp:List Addr) (it:Addr) (tn:Nat->Heap->Prop):Prop where
 mem:it∈fp
 obj:∀i h,tn i h->∀b∈fp,∃o,h.get? b=some o/\∀v,o.data≠ .cell v
 keep:∀i h h',tn i h->(∀b∈fp,∀o,h.get? b=some o->h'.get? b=some o)->tn i h'
 item:∀(X:Cx),X.prog=P->X.w=w->X.K=K->X.calm=true->∀(i:Nat) (zq:List (Addr×Obj)) (s:Shared) (σ:St) (H:Hp) (E:Value->Shared->Prop),Inv X zq σ H s->(∀b∈fp,tS X zq H b)->tn i s.heap->J.go i H->
  wpAny (model P w) X.A (pyNext (.ref it)) (fun r s1=>∃u,r=some u/\
   wpAny (model P w) X.A (letOwnedTupleGo tg (.ref it) u) (fun _ s2=>∃x H',Inv X zq σ H' s2/\RelV x u/\J.yld i H x H'/\tn (i+1) s2.heap/\∀b∈fp,H' b=none) E s1) E s
 done:∀(X:Cx),X.prog=P->X.w=w->X.K=K->X.calm=true->∀(i:Nat) (zq:List (Addr×Obj)) (s:Shared) (σ:St) (H:Hp) (E:Value->Shared->Prop),Inv X zq σ H s->(∀b∈fp,tS X zq H b)->tn i s.heap->J.stop i H->
  wpAny (model P w) X.A (pyNext (.ref it)) (fun r s1=>r=none/\Inv X zq σ H s1) E s
 self:∀(A:Around) (i:Nat) (s:Shared) (Q:Value->Shared->Prop) (E:Value->Shared->Prop),tn i s.heap->Q (.ref it) s->wpAny (model P w) A (pyIter (.ref it)) Q E s
abbrev TI:=St->Hp->(It->Hp->Prop)->Prop
def PIE (X:Cx) (zq:List (Addr×Obj)) (σ:St) (tg:Expr) (R:It->Hp->Prop) (itv:Value) (s2:Shared):Prop:=
 ∃(it:Addr) (fp:List Addr) (tn:Nat->Heap->Prop) (J:It) (H':Hp),itv= .ref it/\Inv X zq σ H' s2/\Turn X.prog X.w X.K tg J fp it tn/\tn 0 s2.heap/\(∀b∈fp,tS X zq H' b)/\R J H'
def PI (X:Cx) (tg iter:Expr) (wi:TI):Prop:=
 ∀(zq:List (Addr×Obj)) (s:Shared) (σ:St) (H:Hp) (R:It->Hp->Prop),Inv X zq σ H s->wi σ H R->
  wpAny (model X.prog X.w) X.A (eval iter X.env) (fun v s1=>wpAny (model X.prog X.w) X.A (pyIter v) (PIE X zq σ tg R) X.xe s1) X.xe s
theorem BW {tg:Expr} {u:Value} {n:String} {vs:Array Value} {Q:Unit->Shared->Prop} (ho:s.heap.get? it=some o) (hc:o.cls= .type n) (hd:o.data= .fields vs)
    (hn:["enumerate","zip","dict_itemiterator","dict_reverseitemiterator","odict_iterator","itertools.zip_longest","itertools.pairwise"].contains n=false) (hQ:Q () s):wpAny M A (letOwnedTupleGo tg (.ref it) u) Q E s:=by
  unfold letOwnedTupleGo;cases tg<;>first
    |exact au hQ
    |(cases u<;>first
        |exact au hQ
        | (refine ae (wpAny_load ho ?_)
           rw[hc,hd];show wpAny M A (if(["enumerate","zip","dict_itemiterator","dict_reverseitemiterator","odict_iterator","itertools.zip_longest","itertools.pairwise"].contains n && vs[0]? ==some (rawInt _))=true then _ else _) Q E s;rw[ai (by intro h;rw[hn,Bool.false_and]at h;cases h)];exact au hQ))
noncomputable def Itl (K:Frag) (a:Addr):It:=
 ⟨fun i H=>∃xs x,gE K H a xs/\xs[i]? =some x,fun i H x H'=>H'=H/\∀xs,gE K H a xs->xs[i]? =some x,fun i H=>∃xs,gE K H a xs/\xs.length<=i⟩
noncomputable def Itt (K:Frag) (a:Addr):It:=
 ⟨fun i H=>∃xs x,rB K H a xs/\xs[i]? =some x,fun i H x H'=>H'=H/\∀xs,rB K H a xs->xs[i]? =some x,fun i H=>∃xs,rB K H a xs/\xs.length<=i⟩
noncomputable def Itr (lo:Int) (n:Nat):It:=⟨fun i _=>i<n,fun i H x H'=>H'=H/\x= .int (lo+i),fun i _=>n<=i⟩
theorem OT (a it:Addr):Turn P w K tg (Itl K a) [it] it (fun i h=>h.IsListIter it a i)where
 mem:=by simp
 obj:=fun i h st b hb=>by
  have e:b=it:=by simpa using hb
  subst e;obtain⟨o,e,c,d⟩:=st;exact⟨o,e,fun v z=>by rw[d]at z;cases z⟩
 keep:=fun i h h' st k=>st.at fun o e=>k it (by simp) o e
 item:=by
  intro X hP hw hK hc i zq s σ H E I hf st hg;subst hP hw hK;obtain⟨xs,x,hq,hx⟩:=hg;obtain⟨its,rv,p,hz⟩:=I.list hq;obtain⟨u,hu,ru⟩:=rv.get hx;obtain⟨f0,f1,f2,f3,f4,f5⟩:=hf it (by simp);refine wpAny_pyNext_list_item st p.isList (x:=u) (by simpa using hu) fun h' st' sb=>?_
  have I1:Inv X zq σ H {s with heap:=h'}:=I.turned (t':=s.toks) (fun b o hb e=>(sb.2 b hb).trans e) f0 f1 f3 f4 f5;obtain⟨o,e,c,d⟩:=id st';exact⟨u,rfl,BW (s:={s with heap:=h'}) e c d (by decide) ⟨x,H,I1,ru,⟨rfl,fun ys hy=>by rw[I.pL hy hq];exact hx⟩,st',fun b hb=>(hf b hb).1⟩⟩
 done:=by
  intro X hP hw hK hc i zq s σ H E I hf st hg;subst hP hw hK;obtain⟨xs,hq,hx⟩:=hg;obtain⟨its,rv,p,hz⟩:=I.list hq;obtain⟨f0,f1,f2,f3,f4,f5⟩:=hf it (by simp);have hl:=rv.length;exact wpAny_pyNext_list_end (I.ok.hd hc) st p.isList (by simp;omega) fun h' eb=>⟨rfl,I.turned (t':=s.toks) (fun b o hb e=>eb b o hb e) f0 f1 f3 f4 f5⟩
 self:=fun _ _ _ _ _ st h=>wpAny_pyIter_listiter st h
theorem KL (a it:Addr):Turn P w K tg (Itt K a) [it] it (fun i h=>h.IsTupleIter it a i)where
 mem:=by simp
 obj:=fun i h st b hb=>by
  have e:b=it:=by simpa using hb
  subst e;obtain⟨o,e,c,d⟩:=st;exact⟨o,e,fun v z=>by rw[d]at z;cases z⟩
 keep:=fun i h h' st k=>st.at fun o e=>k it (by simp) o e
 item:=by
  intro X hP hw hK hc i zq s σ H E I hf st hg;subst hP hw hK;obtain⟨xs,x,hq,hx⟩:=hg;obtain⟨its,rv,p,hz⟩:=I.tuple hq;obtain⟨u,hu,ru⟩:=rv.get hx;obtain⟨f0,f1,f2,f3,f4,f5⟩:=hf it (by simp);refine wpAny_pyNext_tuple_item st (show s.heap.IsTuple a its.toArray from p) (x:=u) (by simpa using hu) fun h' st' sb=>?_
  have I1:Inv X zq σ H {s with heap:=h'}:=I.turned (t':=s.toks) (fun b o hb e=>(sb.2 b hb).trans e) f0 f1 f3 f4 f5;obtain⟨o,e,c,d⟩:=id st';exact⟨u,rfl,BW (s:={s with heap:=h'}) e c d (by decide) ⟨x,H,I1,ru,⟨rfl,fun ys hy=>by rw[I.BN hy hq];exact hx⟩,st',fun b hb=>(hf b hb).1⟩⟩
 done:=by
  intro X hP hw hK hc i zq s σ H E I hf st hg;subst hP hw hK;obtain⟨xs,hq,hx⟩:=hg;obtain⟨its,rv,p,hz⟩:=I.tuple hq;obtain⟨f0,f1,f2,f3,f4,f5⟩:=hf it (by simp);have hl:=rv.length;exact wpAny_pyNext_tuple_end (I.ok.hd hc) st (show s.heap.IsTuple a its.toArray from p) (by simp;omega) fun h' eb=>⟨rfl,I.turned (t':=s.toks) (fun b o hb e=>eb b o hb e) f0 f1 f3 f4 f5⟩
 self:=fun _ _ _ _ _ st h=>wpAny_pyIter_tupleiter st h
theorem IY (it:Addr) (lo:Int) (n:Nat):Turn P w K tg (Itr lo n) [it] it (fun i h=>IsRangeIter h it (lo+(i:Nat)*1) ((n:Int) - (i:Nat)) 1)where
 mem:=by simp
 obj:=fun i h st b hb=>by
  have e:b=it:=by simpa using hb
  subst e;exact⟨_,st,fun v z=>by
   have z':Data.fields _=Data.cell v:=z;cases z'⟩
 keep:=fun i h h' st k=>k it (by simp) _ st
 item:=by
  intro X hP hw hK hc i zq s σ H E I hf st hg;subst hP hw hK;obtain⟨f0,f1,f2,f3,f4,f5⟩:=hf it (by simp);have W:=Walks.range (prog:=X.prog) (w:=X.w) (I.ok.hd hc) it lo 1 n;refine W.item i s _ _ hg st fun v h' tk hv st' kk=>?_
  obtain⟨t,rfl⟩:=hv;have I1:Inv X zq σ H {s with heap:=h',toks:=tk}:=I.turned (fun b o hb e=>kk b o (by simpa using hb) e) f0 f1 f3 f4 f5;refine⟨_,rfl,BW (s:={s with heap:=h',toks:=tk}) (n:="range_iterator") st' rfl rfl (by decide) ⟨.int (lo+i),H,I1,⟨t,?_⟩,⟨rfl,rfl⟩,st',fun b hb=>(hf b hb).1⟩⟩;rw[Int.mul_one]
 done:=by
  intro X hP hw hK hc i zq s σ H E I hf st hg;subst hP hw hK;obtain⟨f0,f1,f2,f3,f4,f5⟩:=hf it (by simp);exact wpAny_pyNext_range_end (I.ok.hd hc) st (by have:n<=i:=hg;omega) fun h' eb=>⟨rfl,I.turned (t':=s.toks) (fun b o hb e=>eb b o hb e) f0 f1 f3 f4 f5⟩
 self:=fun _ _ _ _ _ st h=>wpAny_pyIter_rangeiter st h
section
variable {X:Cx} {tg:Expr}
theorem GJ {R:It->Hp->Prop} {lo hi:Int} {t u v:Tok} {tk:Nat} (I:Inv X zq σ H s) (h1: -(2^62)<=lo) (h2:lo<2^62) (h3: -(2^62)<=hi) (h4:hi<2^62)
  (q:R (Itr lo (hi - lo).toNat) H):wpAny (model X.prog X.w) X.A (pyIter (.ref s.heap.objs.size)) (PIE X zq σ tg R) E {s with heap:=s.heap.push {cls:=.type "range",data:=.fields #[.int lo t,.int hi u,.int 1 v]},toks:=tk}:=by
 refine wpAny_pyIter_range (IsRange.new ..) (small_one h1 h2 h3 h4) ?_;have I1:Inv X zq σ H {s with heap:=s.heap.push {cls:=.type "range",data:=.fields #[.int lo t,.int hi u,.int 1 v]},toks:=tk}:=I.kept fun b o e=>ah _ e
 refine⟨(s.heap.push {cls:=.type "range",data:=.fields #[.int lo t,.int hi u,.int 1 v]}).objs.size,[(s.heap.push {cls:=.type "range",data:=.fields #[.int lo t,.int hi u,.int 1 v]}).objs.size],_,_,H,rfl,
  I1.kept (t':=tk) fun b o e=>ah _ e,IY _ lo (hi - lo).toNat,?_,fun b hb=>?_,q⟩
 .have e1:lo+((0:Nat):Int)*1=lo:=by simp
  have e2:(((hi - lo).toNat:Nat):Int) - ((0:Nat):Int)=Builtin.Range.rangeSize lo hi 1:=by rw[rangeSize_one];split<;>omega
  show IsRangeIter _ _ (lo+((0:Nat):Int)*1) ((((hi - lo).toNat:Nat):Int) - ((0:Nat):Int)) 1;rw[e1,e2];exact bz _ rfl
 .have e:b=(s.heap.push {cls:=.type "range",data:=.fields #[.int lo t,.int hi u,.int 1 v]}).objs.size:=by simpa using hb
  subst e;exact I1.xA (bc _) (I1.bR.fresh (bc _))
def ZN (ta:TA):TI:=fun σ H R=>ta σ H fun vs H1=>∃j:Int,vs=[.int j]/\ -(2^62)<=j/\j<2^62/\R (Itr 0 j.toNat) H1
def YO (ta:TA):TI:=fun σ H R=>ta σ H fun vs H1=>∃i j:Int,vs=[.int i,.int j]/\(-(2^62)<=i/\i<2^62/\ -(2^62)<=j/\j<2^62)/\R (Itr i (j - i).toNat) H1
theorem eX {a:Expr} (hg:Gl X "range") (hm:X.mg "range"=none) (ha:PA X [a] ta) (hs:starEach [a] X.env=[(false,eval a X.env)]:=by rfl):PI X tg (.Call (.Name "range" p) [a] [] pos) (ZN ta):=by
 intro zq s σ H R I h;refine Call_ (tG I hg hm boot_range (ie (cS (ha pos zq s σ H _ I h) fun us s1 ⟨vs,H1,I1,r1,q1⟩=>?_) hs rfl));obtain⟨j,e,q1,q2,q⟩:=q1;subst e;cases r1 with
 |cons r rr=>
  cases rr;obtain⟨t,rfl⟩:=r;exact call_range_1 (GJ I1 (by omega) (by omega) q1 q2 (by simpa using q))
theorem MX {a b:Expr} (hg:Gl X "range") (hm:X.mg "range"=none) (ha:PA X [a,b] ta) (hs:starEach [a,b] X.env=[(false,eval a X.env),(false,eval b X.env)]:=by rfl) (hs2:starEach [b] X.env=[(false,eval b X.env)]:=by rfl):
  PI X tg (.Call (.Name "range" p) [a,b] [] pos) (YO ta):=by
 intro zq s σ H R I h;refine Call_ (tG I hg hm boot_range (ie (cS (ha pos zq s σ H _ I h) fun us s1 ⟨vs,H1,I1,r1,q1⟩=>?_) (by rw[hs,hs2]) (by rw[hs2];rfl)));obtain⟨i,j,e,⟨q1,q2,q3,q4⟩,q⟩:=q1;subst e;cases r1 with
 | cons r rr=>
  cases rr with
  |cons r' rr=>
   cases rr;obtain⟨t,rfl⟩:=r;obtain⟨t',rfl⟩:=r';exact call_range_2 (GJ I1 q1 q2 q3 q4 q)
def aaO (wi:TI) (g:TG) (tb:TS):TS:=fun D σ H=>wi σ H fun J H1=>∃W:Nat->Nat->St->Hp->Prop,(∃m,W 0 m σ H1)/\∀i m σ H,W i m σ H->
 (J.stop i H/\D.nx σ H)\/ (J.go i H/\∃N:St->Hp->Prop,(∀σ' H',N σ' H'->∃m',m'<m/\W (i+1) m' σ' H')/\∀x H',J.yld i H x H'->g x σ H' fun σ2 H2=>tb {D with nx:=N,ct:=N,bk:=D.nx} σ2 H2)
noncomputable def sQ (fp:List Addr) (h:Heap):List (Addr×Obj):=fp.filterMap fun b=>(h.get? b).map fun o=>(b,o)
theorem eJ (hb:b∈fp) (e:h.get? b=some o):(b,o)∈sQ fp h:=ir.mpr ⟨b,hb,by rw[e];rfl⟩
theorem M6 {h:Heap} {p:Addr×Obj} (hp:p∈sQ fp h):p.1∈fp/\h.get? p.1=some p.2:=by
 obtain⟨b,hb,e⟩:=ir.mp hp;cases q:h.get? b with
 |none=>rw[q]at e;cases e
 |some o=>
  rw[q]at e;have e':(b,o)=p:=Option.some.inj e;subst e';exact⟨hb,q⟩
theorem Inv.pinned (I:Inv X zq σ H s) (hf:∀b∈fp,tS X zq H b) (ho:∀b∈fp,∃o,s.heap.get? b=some o/\∀v,o.data≠ .cell v):Inv X (zq++sQ fp s.heap) σ H s:=
 I.xW fun p hp=>(bj.mp hp).elim (fun z=>I.pin p (bq _ z)) fun z=>by
  obtain⟨hb,e⟩:=M6 z;obtain⟨f0,f1,f2,_⟩:=hf p.1 hb;obtain⟨o,e',d⟩:=ho p.1 hb;rw[e]at e';cases e'
  exact⟨e,f0,f1,f2,d⟩
theorem Inv.mB {pl:List (Addr×Obj)} (I:Inv X (zq++pl) σ H s):Inv X zq σ H s:=I.xW fun p hp=>I.pin p (bq _ (dc _ hp))
theorem cT {iter:Expr} {wi:TI} {g:TG} (hp:PassesOwn (model X.prog X.w) X.A X.env X.xe) (hc:X.calm=true) (hi:PI X tg iter wi) (hg:PG X tg g) (hb:LL X body tb)
  (hs:∀x,foldedSetIterable iter X.env x=pure x:=by intro _;rfl):PS X (.For tg iter body [] pos) (aaO wi g tb):=by
 intro zq s σ H D I h;refine wpAny_For (cS (hi zq s σ H _ I h) fun v s1 h1=>cS h1 fun itv s2 h2=>?_) hs;obtain⟨it,fp,tn,J,H2,e,I2,T,st2,f2,W,⟨m0,w0⟩,turn⟩:=h2;subst e;have stat:∀{H':Hp},(∀b∈fp,H' b=none)->∀b∈fp,tS X zq H' b:=fun hn b hb=>⟨hn b hb,(f2 b hb).2⟩
 refine codeAny_forLoop_any (fun n s'=>∃i σ' H',Inv X zq σ' H' s'/\tn i s'.heap/\(∀b∈fp,H' b=none)/\W i n σ' H') ?_ m0 ⟨0,σ,H2,I2,st2,fun b hb=>(f2 b hb).1,w0⟩;rintro n s3 ⟨i,σ3,H3,I3,st3,fr3,w3⟩;rcases turn i n σ3 H3 w3 with⟨stop,qn⟩|⟨go,N,hN,step⟩
 .refine ju hp (cS (T.done X rfl rfl rfl hc i zq s3 σ3 H3 X.xe I3 (stat fr3) st3 stop) fun r s4 ⟨hr,I4⟩=>?_);subst hr;exact wpAny_execs_nil ⟨σ3,H3,I4,qn⟩
 .refine ju hp (cS (T.item X rfl rfl rfl hc i zq s3 σ3 H3 X.xe I3 (stat fr3) st3 go) fun r s4 ⟨u,hr,h4⟩=>?_);subst hr;refine ju hp (cS h4 fun _ s5 ⟨x,H5,I5,r5,y5,st5,fr5⟩=>?_);have I5':=I5.pinned (stat fr5) (T.obj _ _ st5);refine ju hp (cS (hg _ s5 σ3 H5 x u _ I5' r5 (step x H5 y5)) fun _ s6 ⟨σ6,H6,I6,q6⟩=>?_);refine ju hp (cS (hb _ s6 σ6 H6 _ I6 q6) fun f s7 q7=>?_);have again:∀{σ7:St} {H7:Hp},Inv X (zq++sQ fp s5.heap) σ7 H7 s7->N σ7 H7->∃m,m<n/\∃i σ' H',Inv X zq σ' H' s7/\tn i s7.heap/\(∀b∈fp,H' b=none)/\W i m σ' H':=fun{σ7 H7} I7 n7=>by
   obtain⟨m',hm,w7⟩:=hN σ7 H7 n7;refine⟨m',hm,i+1,σ7,H7,I7.mB,T.keep _ _ _ st5 fun b hb o e=>(I7.pin (b,o) (bq _ (bq _ (eJ hb e)))).1,fun b hb=>?_,w7⟩;obtain⟨o,e,d⟩:=T.obj _ _ st5 b hb;exact(I7.pin (b,o) (bq _ (bq _ (eJ hb e)))).2.1
  cases f with
  |next=>obtain⟨σ7,H7,I7,n7⟩:=q7;exact again I7 n7
  |cont=>obtain⟨σ7,H7,I7,n7⟩:=q7;exact again I7 n7
  |brk=>obtain⟨σ7,H7,I7,q7⟩:=q7;exact⟨σ7,H7,I7.mB,q7⟩
  |ret v=>obtain⟨x7,σ7,H7,I7,r7,q7⟩:=q7;exact⟨x7,σ7,H7,I7.mB,r7,q7⟩
end
abbrev R2:=V->V->Hp->VK->Prop
def kA (X:Cx) (f:Value->Value->Sem Value) (r:R2):Prop:=
 ∀(zq:List (Addr×Obj)) (s:Shared) (σ:St) (H:Hp) (x y:V) (v u:Value) (Q:VK),Inv X zq σ H s->RelV x v->RelV y u->r x y H Q->
  wpAny (model X.prog X.w) X.A (f v u) (EP X zq σ Q) X.xe s
def UnR (X:Cx) (f:Value->Sem Value) (r:V->Hp->VK->Prop):Prop:=
 ∀(zq:List (Addr×Obj)) (s:Shared) (σ:St) (H:Hp) (x:V) (v:Value) (Q:VK),Inv X zq σ H s->RelV x v->r x H Q->
  wpAny (model X.prog X.w) X.A (f v) (EP X zq σ Q) X.xe s
def cK (X:Cx) (f:Value) (r:List V->Hp->VK->Prop):Prop:=
 ∀(zq:List (Addr×Obj)) (s:Shared) (σ:St) (H:Hp) (xs:List V) (us:List Value) (Q:VK),Inv X zq σ H s->Vals xs us->r xs H Q->
  wpAny (model X.prog X.w) X.A (call f us) (EP X zq σ Q) X.xe s
def ahV (X:Cx) (r:V->Hp->(Bool->Hp->Prop)->Prop):Prop:=
 ∀(zq:List (Addr×Obj)) (s:Shared) (σ:St) (H:Hp) (x:V) (v:Value) (Q:Bool->Hp->Prop),Inv X zq σ H s->RelV x v->r x H Q->
  wpAny (model X.prog X.w) X.A (truthy v) (TP X zq σ Q) X.xe s
def tOp (r:R2) (ta tb:TE):TE:=fun σ H Q=>ta σ H fun x H1=>tb σ H1 fun y H2=>r x y H2 Q
def tUn (r:V->Hp->VK->Prop) (ta:TE):TE:=fun σ H Q=>ta σ H fun x H1=>r x H1 Q
def rI (C:Int->Int->Prop) (g:Int->Int->V):R2:=fun x y H Q=>∃i j,x= .int i/\y= .int j/\C i j/\Q (g i j) H
def NY (g:Int->Int->V):R2:=fun x y H Q=>∃i j,x= .int i/\y= .int j/\Q (g i j) H
def rU (g:Int->V):V->Hp->VK->Prop:=fun x H Q=>∃i,x= .int i/\Q (g i) H
section
variable {X:Cx} {a b c:Expr} {ta tb tc:TE} {pos:Pos}
theorem acP (ha:PE X a ta) (hb:PE X b tb) {R:V->V->Hp->Prop} (I:Inv X zq σ H s)
  (h:ta σ H fun x H1=>tb σ H1 fun y H2=>R x y H2)
  (hf:∀v u s2 x y H2,Inv X zq σ H2 s2->RelV x v->RelV y u->R x y H2->wpAny (model X.prog X.w) X.A (f v u) Q X.xe s2):
  wpAny (model X.prog X.w) X.A (eval a X.env) (fun v s₁=>wpAny (model X.prog X.w) X.A (eval b X.env) (fun u s₂=>wpAny (model X.prog X.w) X.A (f v u) Q X.xe s₂) X.xe s₁) X.xe s:=by
 refine cS (ha zq s σ H _ I h) fun v s1 ⟨x,H1,I1,r1,q1⟩=>?_
 refine cS (hb zq s1 σ H1 _ I1 q1) fun u s2 ⟨y,H2,I2,r2,q2⟩=>?_
 exact hf v u s2 x y H2 I2 r1 r2 q2
theorem bQ {op:Operator} (ho:kA X (binaryOp op) r) (ha:PE X a ta) (hb:PE X b tb):PE X (.BinOp a op b pos) (tOp r ta tb):=by
 intro zq s σ H Q I h;exact wpAny_BinOp (acP ha hb I h fun v u s2 x y H2 I2 rx ry q=>ho zq s2 σ H2 x y v u Q I2 rx ry q)
theorem MM {op:UnaryOp} {r:V->Hp->VK->Prop} (ho:UnR X (unaryOp op) r) (ha:PE X a ta):PE X (.UnaryOp op a pos) (tUn r ta):=by
 intro zq s σ H Q I h;exact UnaryOp_ (cS (ha zq s σ H _ I h) fun v s1 ⟨x,H1,I1,r1,q1⟩=>ho zq s1 σ H1 x v Q I1 r1 q1)
theorem opI {C:Int->Int->Prop}
  (rule:∀(i j:Int) (t u:Tok) (s:Shared) (Q:Value->Shared->Prop) (E:Value->Shared->Prop),C i j->Q (.int (g i j) s.toks) {s with toks:=s.toks+1}->wpAny (model X.prog X.w) X.A (f (.int i t) (.int j u)) Q E s):
  kA X f (rI C fun i j=>.int (g i j)):=by
 intro zq s σ H x y v u Q I rx ry h;obtain⟨i,j,rfl,rfl,hc,q⟩:=h;obtain⟨t,rfl⟩:=rx;obtain⟨t',rfl⟩:=ry;exact rule i j t t' s _ _ hc ⟨.int (g i j),H,I.tok _,⟨_,rfl⟩,q⟩
theorem aeB
  (rule:∀(i j:Int) (t u:Tok) (s:Shared) (Q:Value->Shared->Prop) (E:Value->Shared->Prop),Q (.int (g i j) s.toks) {s with toks:=s.toks+1}->wpAny (model X.prog X.w) X.A (f (.int i t) (.int j u)) Q E s):
  kA X f (NY fun i j=>.int (g i j)):=by
 intro zq s σ H x y v u Q I rx ry h;obtain⟨i,j,rfl,rfl,q⟩:=h;obtain⟨t,rfl⟩:=rx;obtain⟨t',rfl⟩:=ry;exact rule i j t t' s _ _ ⟨.int (g i j),H,I.tok _,⟨_,rfl⟩,q⟩
theorem aaX {g:Int->Int->Bool}
  (rule:∀(i j:Int) (t u:Tok) (s:Shared) (Q:Value->Shared->Prop) (E:Value->Shared->Prop),Q (.bool (g i j)) s->wpAny (model X.prog X.w) X.A (f (.int i t) (.int j u)) Q E s):
  kA X f (NY fun i j=>.bl (g i j)):=by
 intro zq s σ H x y v u Q I rx ry h;obtain⟨i,j,rfl,rfl,q⟩:=h;obtain⟨t,rfl⟩:=rx;obtain⟨t',rfl⟩:=ry;exact rule i j t t' s _ _ ⟨.bl (g i j),H,I,rfl,q⟩
def XH (i j:Int):Prop:=(-(2^64)<i/\i<2^64)\/ (-(2^64)<j/\j<2^64)
theorem XH.ok {i j:Int} (h:XH i j):IntMulOk i j:=by
 rcases h with⟨h1,h2⟩|⟨h1,h2⟩
 .exact .of_left (intBits_le_64 h1 h2)
 .exact .of_right (intBits_le_64 h1 h2)
theorem aaF:kA X (binaryOp .Add) (NY fun i j=>.int (i+j)):=aeB fun _ _ _ _ _ _ _ q=>add_int q
theorem D0:kA X (binaryOp .Sub) (NY fun i j=>.int (i - j)):=aeB fun _ _ _ _ _ _ _ q=>sub_int q
theorem oF:kA X (binaryOp .Mult) (rI XH fun i j=>.int (i*j)):=opI fun _ _ _ _ _ _ _ hc q=>mul_int q hc.ok
theorem jJ:kA X (binaryOp .Mod) (rI (fun _ j=>0<j) fun i j=>.int (i % j)):=opI fun i j _ _ _ _ _ hc q=>by
 have h1:(0:Int)<j:=hc;exact mod_int' (by omega) (by rw[Int.fmod_eq_emod_of_nonneg i (by omega)];exact q)
theorem unI {f:Value->Sem Value} {g:Int->Int}
  (rule:∀(i:Int) (t:Tok) (s:Shared) (Q:Value->Shared->Prop) (E:Value->Shared->Prop),Q (.int (g i) s.toks) {s with toks:=s.toks+1}->wpAny (model X.prog X.w) X.A (f (.int i t)) Q E s):
  UnR X f (rU fun i=>.int (g i)):=by
 intro zq s σ H x v Q I rx h;obtain⟨i,rfl,q⟩:=h;obtain⟨t,rfl⟩:=rx;exact rule i t s _ _ ⟨.int (g i),H,I.tok _,⟨_,rfl⟩,q⟩
theorem D5:UnR X (unaryOp .USub) (rU fun i=>.int (-i)):=unI fun _ _ _ _ _ q=>neg_int q
end
section
variable {X:Cx} {a b c:Expr} {ta tb tc:TE} {pos:Pos}
theorem j6 {Q:VK} {k k':Bool} (I:Inv X zq σ H s) (q:Q (.bl k) H) (e:k=k'):EP X zq σ Q (.bool k') s:=by
 subst e;exact⟨.bl k,H,I,rfl,q⟩
theorem aeW:kA X (compareOp .Lt) (NY fun i j=>.bl (decide (i<j))):=aaX fun _ _ _ _ _ _ _ q=>lt_int q
theorem R1:kA X (compareOp .Gt) (NY fun i j=>.bl (decide (j<i))):=aaX fun _ _ _ _ _ _ _ q=>gt_int q
theorem aeS:kA X (compareOp .GtE) (NY fun i j=>.bl (decide (j<=i))):=aaX fun _ _ _ _ _ _ _ q=>ge_int q
theorem OO:kA X (compareOp .Lt) (fun x y H Q=>∃i j,x= .str i/\y= .str j/\Q (.bl (decide (i.cps.toList<j.cps.toList))) H):=by
 intro zq s σ H x y v u Q I rx ry h;obtain⟨i,j,rfl,rfl,q⟩:=h;obtain⟨t,rfl⟩:=rx;obtain⟨t',rfl⟩:=ry;exact lt_str (j6 I q rfl)
theorem OL:kA X (compareOp .In) (fun x y H Q=>∃i j,x= .str i/\y= .str j/\Q (.bl (!(Builtin.Str.occurrences j i 0 j.length 1).isEmpty)) H):=by
 intro zq s σ H x y v u Q I rx ry h;obtain⟨i,j,rfl,rfl,q⟩:=h;obtain⟨t,rfl⟩:=rx;obtain⟨t',rfl⟩:=ry;exact in_str (j6 I q rfl)
theorem aa3:kA X (compareOp .Is) (fun x y H Q=>y= .bG/\Q (.bl (decide (x= .bG))) H):=by
 intro zq s σ H x y v u Q I rx ry h;obtain⟨rfl,q⟩:=h;cases ry;refine is_none_gen (j6 I q ?_);cases x<;>first
  |(cases rx;rfl)
  |(obtain⟨t,rfl⟩:=rx;rfl)
theorem kW:kA X (compareOp .IsNot) (fun x y H Q=>y= .bG/\Q (.bl (!decide (x= .bG))) H):=by
 intro zq s σ H x y v u Q I rx ry h;obtain⟨rfl,q⟩:=h;cases ry;refine isnot_none_gen (j6 I q ?_);cases x<;>first
  |(cases rx;rfl)
  |(obtain⟨t,rfl⟩:=rx;rfl)
theorem C3:kA X (compareOp .NotIn) (fun x y H Q=>∃i j,x= .str i/\y= .str j/\Q (.bl (!(!(Builtin.Str.occurrences j i 0 j.length 1).isEmpty))) H):=by
 intro zq s σ H x y v u Q I rx ry h;obtain⟨i,j,rfl,rfl,q⟩:=h;obtain⟨t,rfl⟩:=rx;obtain⟨t',rfl⟩:=ry;exact notIn_str (j6 I q rfl)
theorem cF (b:Expr) {op:CmpOp} (h:op≠ .In:=by decide) (h2:op≠ .NotIn:=by decide):behindInMarks op b=false:=by
 have e1:(op==CmpOp.In)=false:=by cases op<;>first|rfl|exact absurd rfl h
 have e2:(op==CmpOp.NotIn)=false:=by cases op<;>first|rfl|exact absurd rfl h2
 cases b<;>simp[behindInMarks,e1,e2]
theorem xO (ho:kA X (compareOp op) r) (ha:PE X a ta) (hb:PE X b tb) (hm:behindInMarks op b=false):PE X (.Compare a [op] [b] pos) (tOp r ta tb):=by
 intro zq s σ H Q I h;exact wpAny_Compare1 (acP ha hb I h fun v u s2 x y H2 I2 rx ry q=>ho zq s2 σ H2 x y v u Q I2 rx ry q) hm
def ZK (t:TE):TT:=fun σ H Q=>t σ H fun x H'=>∃k,x= .bl k/\Q k H'
theorem a9 (ho:kA X (compareOp op) r) (ha:PE X a ta) (hb:PE X b tb) (hm:behindInMarks op b=false):PT X (.Compare a [op] [b] pos) (ZK (tOp r ta tb)):=by
 intro zq s σ H Q I h;refine wpAny_isTrue_Compare1 (cS (ha zq s σ H _ I h) fun v s1 ⟨x,H1,I1,r1,q1⟩=>cS (hb zq s1 σ H1 _ I1 q1) fun u s2 ⟨y,H2,I2,r2,q2⟩=>
  cS (ho zq s2 σ H2 x y v u _ I2 r1 r2 q2) fun c s3 ⟨z,H3,I3,r3,k,e,q3⟩=>?_) hm
 subst e;cases r3;exact wpAny_truthy_bool ⟨H3,I3,q3⟩
def WE (K:Frag) (x:V) (H:Hp) (k:Bool):Prop:=
 match x with
 | .bG=>k=false
 | .bl b=>k=b
 | .int i=>k=(i !=0)
 | .str y=>y.length<=sizeLine/\k=((y.length:Int) !=0)
 | .byt y=>y.size<=sizeLine/\k=((y.size:Int) !=0)
 | .ref p=>(∃xs,gE K H p xs/\k=!xs.isEmpty)\/ (∃xs,rB K H p xs/\k=!xs.isEmpty)\/ ∃kvs ep,H p=some (.dK kvs ep)/\k=!kvs.isEmpty
 |_=>False
theorem KW {kvs:List (κ×V)} {vs:List (κ×Value)} (r:KV kvs vs):(!vs.isEmpty)=!kvs.isEmpty:=by
 cases r<;>rfl
theorem yQ {its:List Value} (r:Vals xs its):(!its.toArray.isEmpty)=!xs.isEmpty:=by
 cases r<;>simp
theorem sH:(sizeLine:Nat)<2^63:=by rw[jc];decide
theorem acH:ahV X (fun x H Q=>∃k,WE X.K x H k/\Q k H):=by
 intro zq s σ H x v Q I rx h;obtain⟨k,e,q⟩:=h;have hl:=sH;have hs:sizeLine=16777216:=jc;cases x with
 |bG=>
  cases rx;have e':k=false:=e;subst e';exact truthy_none ⟨H,I,q⟩
 |bl b=>
  cases rx;have e':k=b:=e;subst e';exact wpAny_truthy_bool ⟨H,I,q⟩
 |int i=>
  obtain⟨t,rfl⟩:=rx;have e':k=(i !=0):=e;subst e';exact PySem.P.truthy_int ⟨H,I,q⟩
 |str y=>
  obtain⟨t,rfl⟩:=rx;obtain⟨hy,e'⟩:y.length<=sizeLine/\k=((y.length:Int) !=0):=e;subst e';exact PySem.P.truthy_str (by omega) ⟨H,I.tok _,q⟩
 |byt y=>
  obtain⟨t,rfl⟩:=rx;obtain⟨hy,e'⟩:y.size<=sizeLine/\k=((y.size:Int) !=0):=e;subst e';exact PySem.W.truthy_bytes (by omega) ⟨H,I.tok _,q⟩
 | ref p=>
  cases rx;have e':(∃xs,gE X.K H p xs/\k=!xs.isEmpty)\/ (∃xs,rB X.K H p xs/\k=!xs.isEmpty)\/ ∃kvs ep,H p=some (.dK kvs ep)/\k=!kvs.isEmpty:=e;rcases e' with⟨xs,hx,e'⟩|⟨xs,hx,e'⟩|⟨kvs,ep,hx,e'⟩
  .subst e';obtain⟨its,r,pl,hz⟩:=I.list hx;have hlen:=r.length;exact wpAny_truthy_list pl.isList (by simp only[cp];omega) ⟨H,I.tok _,by rw[yQ r];exact q⟩
  .subst e';obtain⟨its,r,pl,hz⟩:=I.tuple hx;have hlen:=r.length;exact truthy_tuple pl (by simp only[cp];omega) ⟨H,I.tok _,by rw[yQ r];exact q⟩
  .subst e';obtain⟨hz,hS,vs,r,m⟩:kvs.length<=sizeLine/\(p==sysModules)=false/\∃vs,KV kvs vs/\s.heap.DictAt (bP X.prog X.w) p vs ep:=I.bR p _ hx;have hlen:kvs.length=vs.length:=Paired.length r;exact wpAny_truthy_dict hS m.dictOf (by omega) ⟨H,I.tok _,by rw[KW r];exact q⟩
 |_=>exact(show False from e).elim
theorem QJ (ha:PE X a ta) (he:∀whole,isTrue a X.env whole=(do let v<-whole;standAt a.pos;holding [v] (truthy v))):
  PT X a (fun σ H Q=>ta σ H fun x H'=>∃k,WE X.K x H' k/\Q k H'):=by
 intro zq s σ H Q I h;exact isTrue_plain (cS (ha zq s σ H _ I h) fun v s1 ⟨x,H1,I1,r1,q1⟩=>acH zq s1 σ H1 x v Q I1 r1 q1) (he _)
theorem JV:kA X (binaryOp .Add) (fun x y H Q=>∃i j,x= .str i/\y= .str j/\i.length+j.length<=sizeLine/\Q (.str (i++j)) H):=by
 intro zq s σ H x y v u Q I rx ry h;obtain⟨i,j,rfl,rfl,hz,q⟩:=h;obtain⟨t,rfl⟩:=rx;obtain⟨t',rfl⟩:=ry;exact add_str (fun t' tk=>⟨.str (i++j),H,I.tok _,⟨_,rfl⟩,q⟩) hz
theorem vals1 {x:V} (r:Vals [x] us):∃u,us=[u]/\RelV x u:=by
 cases r with
 |cons r1 r2=>cases r2;exact⟨_,rfl,r1⟩
theorem vals2 {x:V} (r:Vals [x,y] us):∃u w',us=[u,w']/\RelV x u/\RelV y w':=by
 cases r with
 |cons r1 r2=>
  cases r2 with
  |cons r3 r4=>cases r4;exact⟨_,_,rfl,r1,r3⟩
theorem NX (hc:X.calm=true):cK X (.builtin "min") (fun xs H Q=>∃i j,xs=[.int i,.int j]/\Q (.int (if j<i then j else i)) H):=by
 intro zq s σ H xs us Q I r h;obtain⟨i,j,rfl,q⟩:=h;obtain⟨u,w',rfl,⟨t,rfl⟩,⟨t',rfl⟩⟩:=vals2 r;refine min_two_ints (I.ok.hd hc) fun h' tk k=>⟨_,H,I.kept k,?_,q⟩
 by_cases hj:j<i
 .rw[ao hj,ao hj];exact⟨_,rfl⟩
 .rw[ai hj,ai hj];exact⟨_,rfl⟩
theorem BE:cK X (.type "int") (fun xs H Q=>(∃i,xs=[.int i]/\Q (.int i) H)\/ ∃k,xs=[.bl k]/\Q (.int (if k then 1 else 0)) H):=by
 intro zq s σ H xs us Q I r h;rcases h with⟨i,rfl,q⟩|⟨k,rfl,q⟩
 .obtain⟨u,rfl,t,rfl⟩:=vals1 r;exact call_int_int ⟨.int i,H,I,⟨_,rfl⟩,q⟩
 .obtain⟨u,rfl,r1⟩:=vals1 r;cases r1;exact call_int_bool ⟨.int (if k then 1 else 0),H,I.tok _,⟨_,rfl⟩,q⟩
theorem uT:cK X (.type "str") (fun xs H Q=>∃i,xs=[.int i]/\i.natAbs.log2<1920/\Q (.str (toString i)) H):=by
 intro zq s σ H xs us Q I r h;obtain⟨i,rfl,hz,q⟩:=h;obtain⟨u,rfl,t,rfl⟩:=vals1 r;exact PySem.P.str_of_int hz ⟨.str _,H,I.tok _,⟨_,rfl⟩,q⟩
end
theorem w6.some_of {v:V} {o:Option Value} (r:w6 (some v) o):∃u,o=some u/\RelV v u:=by
 cases o with
 |none=>exact(show False from r).elim
 |some u=>exact⟨u,rfl,r⟩
structure dW (k:Nat) (A:Around):Prop where
 hd:A.handled=none
 dp:A.depth+3*k+5<recursionLimit
 un:A.units+16*k+200<cLine
theorem dW.mono (r:dW k A) (h:j<=k):dW j A:=⟨r.hd,by have:=r.dp;omega,by have:=r.un;omega⟩
theorem dW.deeper (r:dW (k+1) A) (env:Env):dW k (A.deeper env):=
 ⟨r.hd,by have:=r.dp;show A.depth+1+3*k+5<_;omega,by have:=r.un;show A.units+3+16*k+200<_;omega⟩
theorem dW.depth (r:dW k A):A.depth<recursionLimit:=by have:=r.dp;omega
theorem dW.units (r:dW k A):A.units+64<cLine:=by have:=r.un;omega
def tN:TA:=fun _ H Q=>Q [] H
def eI (ta:TE) (tr:TA):TA:=fun σ H Q=>ta σ H fun x H1=>tr σ H1 fun xs H2=>Q (x::xs) H2
section
variable {X:Cx} {e:Expr} {es:List Expr} {te:TE} {t:TA} {pos:Pos}
theorem aD:PA X [] tN:=fun _ _ _ _ H Q I h=>Calls.spliced_nil ⟨[],H,I,.nil,h⟩
theorem aA (ha:PE X e te) (hr:PA X es t) (hs:starEach (e::es) X.env=(false,eval e X.env)::starEach es X.env:=by rfl):PA X (e::es) (eI te t):=by
 intro pos zq s σ H Q I h;rw[hs];show wpAny _ _ (spliced ((false,eval e X.env)::backTo pos (starEach es X.env))) _ _ s;refine jn (cS (ha zq s σ H _ I h) fun u s1 ⟨x,H1,I1,r1,q1⟩=>?_);exact cS (hr pos zq s1 σ H1 _ I1 q1) fun us s2 ⟨xs,H2,I2,r2,q2⟩=>⟨x::xs,H2,I2,.cons r1 r2,q2⟩
def aaN (t:TA):TE:=fun σ H Q=>t σ H fun xs H1=>xs.length<=sizeLine/\∀p,H1 p=none->Q (.ref p) (upd H1 p (.tup xs))
def R7 (t:TA):TE:=fun σ H Q=>t σ H fun xs H1=>xs.length<=sizeLine/\∀p,H1 p=none->Q (.ref p) (upd H1 p (.lst xs))
theorem bT {x1} (h:PA X es t):PE X (.Tuple es x1 pos) (aaN t):=by
 intro zq s σ H Q I hq;refine wpAny_Tuple_spliced (cS (h pos zq s σ H _ I hq) fun us s1 ⟨xs,H1,I1,r,z,q⟩=>⟨by rw[<-r.length];exact z,?_⟩);have hf:H1 s1.heap.objs.size=none:=I1.bR.fresh (bc _);refine⟨.ref s1.heap.objs.size,upd H1 s1.heap.objs.size (.tup xs),I1.laid (t':=s1.toks) (fun b u e=>ah _ e) (bc _) ?_,rfl,q _ hf⟩;exact⟨z,us,r,r6.new _ _⟩
theorem dG (h:PA X es t):PE X (.List es pos) (R7 t):=by
 intro zq s σ H Q I hq;refine wpAny_List_spliced (cS (h pos zq s σ H _ I hq) fun us s1 ⟨xs,H1,I1,r,z,q⟩=>⟨by rw[<-r.length];exact z,?_⟩);have hf:H1 s1.heap.objs.size=none:=I1.bR.fresh (bc _);refine⟨.ref s1.heap.objs.size,upd H1 s1.heap.objs.size (.lst xs),I1.laid (t':=s1.toks) (fun b u e=>ah _ e) (bc _) ?_,rfl,q _ hf⟩;exact⟨z,us,0,r,bz _ rfl⟩
end
abbrev Sp:=List V->Hp->VK->XK->Prop
abbrev O2:=List Env->Hp->Shared->XK->Value->Shared->Prop
structure WN (P:Program) (w:World) (K:Frag) (mg:Str->Option Value) (base:Heap) (A:Around) (outer:List Env) (s:Shared) (H:Hp):Prop where
 frames:A.frames=some outer
 mod:Mod K mg base
 bs:∀b o,base.get? b=some o->s.heap.get? b=some o/\H b=none
 XY:base.objs.size<=s.heap.objs.size
 wW:s.heap.FunFrames base outer
 frf:∀b∈NW outer,H b=none
 bR:qW P w H s.heap
 bare:AllBare s.gens
def CE (outer:List Env) (P:Program) (w:World) (H:Hp) (s:Shared) (Q:VK) (u:Value) (s':Shared):Prop:=
 ∃v H',s'.os=s.os/\AllBare s'.gens/\Un (NW outer) [] H H' s.heap s'.heap/\qW P w H' s'.heap/\RelV v u/\Q v H'
def CR (CX:O2) (outer:List Env) (P:Program) (w:World) (H:Hp) (s:Shared) (Q:VK) (E:XK) (r:Result) (s':Shared):Prop:=
 match r with
 | .ok (.ret u)=>CE outer P w H s Q u s'
 | .ok _=>False
 | .error e=>CX outer H s E e s'
structure t7 (P:Program) (w:World) (K:Frag) (mg:Str->Option Value) (base:Heap) (CX:O2) (k:Nat) (f:Addr) (fd:FuncData) (ps:List Str) (sp:Sp):Prop where
 len:∀vs H Q E,sp vs H Q E->vs.length=ps.length
 run:∀(A:Around) (outer:List Env) (s:Shared) (H:Hp) (args:Args) (us:List Value) (vs:List V) (Q:VK) (E:XK),dW k A->WN P w K mg base A outer s H->BindsTo s fd args (ps.zip us)->Vals vs us->sp vs H Q E->
  codeAny (model P w) A (.call (.ref f) args) (CR CX outer P w H s Q E) s
theorem t7.imp {f:Addr} {sp':Sp} (F:t7 P w K mg base CX k f fd ps sp)
  (h:∀vs H Q E,sp' vs H Q E->sp vs H Q E):t7 P w K mg base CX k f fd ps sp':=
 ⟨fun vs H Q E q=>F.len vs H Q E (h _ _ _ _ q),fun A outer s H args us vs Q E hr he hb hv hs=>F.run A outer s H args us vs Q E hr he hb hv (h _ _ _ _ hs)⟩
section
variable {X:Cx} {zq:List (Addr×Obj)} {σ:St} {H:Hp} {s s':Shared}
theorem Inv.qX (I:Inv X zq σ H s):WN X.prog X.w X.K X.mg X.base X.A X.stack s H:=
 ⟨I.ok.frames,I.ok.mod,I.bs,gf I.ok.XY I.sz,I.stack,I.LB,I.bR,I.bare⟩
theorem Inv.after {Q:VK} (I:Inv X zq σ H s) (h:CE X.stack X.prog X.w H s Q u s'):EP X zq σ Q u s':=by
 obtain⟨v,H',os,bare,un,bR,r,q⟩:=h;obtain⟨hh,g,d,t,os'⟩:=s';obtain rfl:os'=s.os:=os;exact⟨v,H',I.call (h':=hh) (g':=g) (d':=d) (t':=t) (ch:=[]) un bR bare (fun b z=>absurd z (by simp)),r,q⟩
end
def BY (sp:Sp) (dvs:List V) (E:XK) (t:TA):TE:=fun σ H Q=>t σ H fun vs H1=>sp (vs++dvs) H1 Q E
def Binds (K:Frag) (fd:FuncData) (ps:List Str) (ds:List Value):Prop:=
 ∀(s:Shared) (us:List Value),K.In s.heap->(us++ds).length=ps.length->BindsTo s fd ⟨us,[]⟩ (ps.zip (us++ds))
theorem Binds.all (h:∀us:List Value,us.length=ps.length->bindArgs fd ⟨us,[]⟩=pure (ps.zip us)):Binds K fd ps []:=fun s us _ hl=>by
 rw[df]at hl⊢
 exact .of_eq (h us hl)
def Passes (CX:O2) (X:Cx) (E:XK):Prop:=∀(zq:List (Addr×Obj)) (σ:St) (H:Hp) (s:Shared) (e:Value) (s':Shared),Inv X zq σ H s->CX X.stack H s E e s'->X.xe e s'
section
variable {X:Cx} {CX:O2} {k:Nat} {f C:Addr} {fd:FuncData} {ps:List Str} {sp:Sp} {dvs:List V} {ds:List Value} {E:XK} {x m:Str} {p pos apos:Pos} {e o:Expr} {es:List Expr} {ta:TE} {t:TA}
theorem ZW {Q:VK} {vs:List V} (F:t7 X.prog X.w X.K X.mg X.base CX k f fd ps sp) (hr:dW k X.A) (hb:Binds X.K fd ps ds) (hd:Vals dvs ds) (hx:Passes CX X E)
  (I:Inv X zq σ H s) (r:Vals vs us) (h:sp (vs++dvs) H Q E):wpAny (model X.prog X.w) X.A (call (.ref f) us) (EP X zq σ Q) X.xe s:=by
 have r2:Vals (vs++dvs) (us++ds):=r.append hd;have hl:(us++ds).length=ps.length:=by rw[<-r2.length];exact F.len _ _ _ _ h
 refine wpAny_call (codeAny_mono (F.run X.A X.stack s H ⟨us,[]⟩ (us++ds) (vs++dvs) Q E hr I.qX (hb s us I.MA hl) r2 h) fun r s' hq=>?_);cases r with
 |error e=>exact hx zq σ H s e s' I hq
 |ok fl=>
  cases fl with
  |ret u=>exact I.after hq
  |next=>exact False.elim hq
  |brk=>exact False.elim hq
  |cont=>exact False.elim hq
theorem WG (F:t7 X.prog X.w X.K X.mg X.base CX k f fd ps sp) (hr:dW k X.A) (hg:Gl X x) (hm:X.mg x=some (.ref f)) (hk:keepIn X.K (.ref f)=true) (hb:Binds X.K fd ps ds) (hd:Vals dvs ds) (hx:Passes CX X E)
  (ha:PA X (e::es) t) (hdb:(x==("__debug__":Str))=false:=by decide) (he:starEach (e::es) X.env=(false,eval e X.env)::starEach es X.env:=by rfl) (hpl:(backTo pos (starEach es X.env)).any (·.1)=false:=by rfl):
  PE X (.Call (.Name x p) (e::es) [] pos) (BY sp dvs E t):=by
 intro zq s σ H Q I h;refine wpAny_Call_Name_kw (WL I hg hm ?_ hdb);refine PySem.W.callWith_K (h₀:=X.base) I.ok.mod.kin hk (cS (ha pos zq s σ H _ I h) fun us s1 ⟨vs,H1,I1,r,q⟩=>⟨I1.MA,?_⟩) he hpl;exact ZW F hr hb hd hx I1 r q
end
structure uQ (N P:List Str) (sc:Scope):Prop where
 kind:sc.kind= .function
 co:sc.isCoroutine=false
 gen:sc.isGenerator=false
 nd:N.Nodup
 pre:N.take P.length=P
 par:∀x∈P,sc.names.lookup x=some .local\/ sc.names.lookup x=some .cell
 ZY:∀y∈sc.names,y.2≠ .free
theorem BS:∀{binds:List (Str×Value)} {m:Str->Option Value},(∀v,(x,v)∉binds)->bindL kindOf binds m x=m x
 |[],_,_=>rfl
 | (n,v)::r,m,h=>by
  unfold bindL;rw[BS fun w hw=>h w (ba _ hw)];split
  .have:x≠n:=by rintro rfl;exact h v bh
   simp[this]
  .rfl
theorem BO:∀{binds:List (Str×Value)} {m:Str->Option Value},(∀v,(x,v)∉binds)->bindC kindOf binds m x=m x
 |[],_,_=>rfl
 | (n,v)::r,m,h=>by
  unfold bindC;rw[BO fun w hw=>h w (ba _ hw)];split
  .rfl
  .have:x≠n:=by rintro rfl;exact h v bh
   simp[this]
theorem BC:∀{P:List Str} {vs:List Value} {i:Nat} {m:Str->Option Value},P.Nodup->P[i]? =some x->vs[i]? =some v->kindOf x=some .local->
  bindL kindOf (P.zip vs) m x=some v
 |[],_,_,_,_,h,_,_=>by simp at h
 |_::_,[],_,_,_,_,h,_=>by simp at h
 |p::P,w::vs,0,m,nd,h1,h2,hk=>by
  simp at h1 h2;subst h1;subst h2
  show bindL kindOf ((p,w)::P.zip vs) m p=_;unfold bindL;rw[BS fun v hv=>(fq.mp nd).1 (of_mem_zip hv).1,ao hk];simp
 |p::P,w::vs,i+1,m,nd,h1,h2,hk=>by
  show bindL kindOf ((p,w)::P.zip vs) m x=_;unfold bindL;exact BC (i:=i) (fq.mp nd).2 (by simpa using h1) (by simpa using h2) hk
theorem A4:∀{P:List Str} {vs:List Value} {i:Nat} {m:Str->Option Value},P.Nodup->P[i]? =some x->vs[i]? =some v->kindOf x≠some .local->
  bindC kindOf (P.zip vs) m x=some v
 |[],_,_,_,_,h,_,_=>by simp at h
 |_::_,[],_,_,_,_,h,_=>by simp at h
 |p::P,w::vs,0,m,nd,h1,h2,hk=>by
  simp at h1 h2;subst h1;subst h2
  show bindC kindOf ((p,w)::P.zip vs) m p=_;unfold bindC;rw[BO fun v hv=>(fq.mp nd).1 (of_mem_zip hv).1,ai hk];simp
 |p::P,w::vs,i+1,m,nd,h1,h2,hk=>by
  show bindC kindOf ((p,w)::P.zip vs) m x=_;unfold bindC;exact A4 (i:=i) (fq.mp nd).2 (by simpa using h1) (by simpa using h2) hk
noncomputable def start (N:List Str) (vs:List V):St:=vs.map some++List.replicate (N.length - vs.length) none
noncomputable def J9 (CX:O2) (P:Program) (w:World) (K:Frag) (mg:Str->Option Value) (base:Heap) (N:List Str) (qual:Str) (scope:Scope) (f:Addr) (cd:Value) (A:Around) (outer:List Env) (s:Shared) (H:Hp) (E:XK):Cx where
 prog:=P
 w:=w
 K:=K
 mg:=mg
 base:=base
 A:=A.deeper (envOfC qual scope s.heap.objs.size f cd)
 N:=N
 jD:=s
 S5:=H
 env:=envOfC qual scope s.heap.objs.size f cd
 outer:=outer
 stack:=envOfC qual scope s.heap.objs.size f cd::outer
 ex:=[]
 calm:=true
 fn:=fun _=>true
 pn:=[]
 xe:=fun e s'=>wpAny (model P w) (A.deeper (envOfC qual scope s.heap.objs.size f cd)) (leaving (envOfC qual scope s.heap.objs.size f cd) e) (fun _ s''=>CX outer H s E e s'') (fun e' s''=>CX outer H s E e' s'') s'
theorem HA {sc:Scope} (h:sc.names.lookup x=some .cell):∃c,(cellsFrom n sc.names []).lookup x=some c:=by
 have q:=PySem.W.cellsFrom_some sc.names n [] (.inl h);exact jy.mp q
theorem NB {f:Addr} {cd:Value} {outer:List Env} {s s1:Shared} {E:XK} {vs:List V}
  (S:uQ N ps scope) (hd:A.handled=none) (e0:WN P w K mg base A outer s H) (hl:vs.length=ps.length) (r:Vals vs us)
  (x:InCallC s s.heap.objs.size (bindL (envOfC qual scope s.heap.objs.size f cd).kindOf (ps.zip us) fun _=>none) (cellsFrom (s.heap.objs.size+1) scope.names []) (bindC (envOfC qual scope s.heap.objs.size f cd).kindOf (ps.zip us) fun _=>none) s1):
  Inv (J9 CX P w K mg base N qual scope f cd A outer s H E) [] (start N vs) H s1:=by
 have hpl:ps.length<=N.length:=by have:=dq List.length S.pre;rw[gy]at this;omega
 obtain⟨h1,tk,rfl,hk⟩:=x.done;have cY:∀b:Addr,b∉(J9 CX P w K mg base N qual scope f cd A outer s H E).ex:=fun b z=>absurd (show b∈([]:List Addr)from z) (by simp)
 refine⟨⟨e0.mod,S.kind,rfl,rfl,bc _,fun y z c h1 h2=>?_,fun y hy=>?_,fun y c _ h=>?_,fun _=>hd,Around.frames_deeper e0.frames,.inr ⟨rfl,rfl⟩,fun b z=>absurd z (cY b),e0.bs,e0.XY,fun b _ _=>cY b,fun b z=>absurd z (cY b),e0.wW,e0.frf⟩,
  rfl,e0.bare,Un.kept hk,⟨_,x.toInCall.ns,fun i y v h1 h2 h3=>?_⟩,fun y c h=>⟨_,x.cell y c h⟩,e0.bR.fresh (bc _),fun y c h=>?_,fun p hp=>absurd (show p∈([]:List (Addr×Obj))from hp) (by simp),e0.bR.kept hk,?_⟩
 .exact name_of_addr x.apart (gm h1) (gm h2)
 .have hy:scope.names.lookup y=some .cell\/ scope.names.lookup y=some .free:=hy;rcases hy with hy|hy
  .exact HA hy
  .exact absurd rfl (S.ZY _ (gm hy))
 .exact gx (x.above y c (gm h))
 .have hi:i<vs.length:=by
   unfold start at h2
   by_cases hi:i<vs.length
   .exact hi
   .rw[jv (by simpa using hi)]at h2;rw[lb]at h2;split at h2<;>cases h2
  have ha:vs[i]? =some v:=by
   unfold start at h2;rw[ke (by simpa using hi),aq]at h2;cases e:vs[i]? with
   |none=>rw[e]at h2;cases h2
   |some a=>rw[e]at h2;cases h2;rfl
  obtain⟨u,hu,rv⟩:=r.get ha;have hp:ps[i]? =some y:=by
   rw[<-S.pre,List.getElem?_take_of_lt (by omega)];exact h1
  have ndP:ps.Nodup:=by rw[<-S.pre];exact S.nd.sublist (List.take_sublist _ _)
  refine⟨u,rv,?_⟩;rcases S.par y (ay hp)with k|k
  .exact .inl ⟨k,BC ndP hp hu k⟩
  .obtain⟨c,e⟩:=HA (n:=s.heap.objs.size+1) k;refine .inr ⟨.inl k,c,e,?_⟩;have q:=x.cell y c e;rw[A4 ndP hp hu (by show scope.names.lookup y≠_;rw[k];decide)]at q;exact q
 .exact e0.bR.fresh (gx (x.above y c (gm h)))
 .unfold start;show _=N.length;rw[br,ag,gu];omega
theorem af5 {f:Addr} {name:Str} {params:Arguments} {dV kV doc pm cdv ct oc:Value} {an od:Option Addr}
  {osl:Array (Option Value)} (lk:K.lookup f=some ⟨oc,od,.func (fnOf name qual params body scope dV kV doc pm an cdv ct),osl⟩) (hcd:codeIn K cdv qual=true) (S:uQ N ps scope)
  (len:∀vs H Q E,sp vs H Q E->vs.length=ps.length)
  (hbody:∀(A:Around) (outer:List Env) (s:Shared) (H:Hp) (vs:List V) (Q:VK) (E:XK),dW k (A.deeper (envOfC qual scope s.heap.objs.size f cdv))->sp vs H Q E->
   ∃t,LL (J9 CX P w K mg base N qual scope f cdv A outer s H E) body t/\t {nx:=fun _ H'=>Q .bG H',rt:=Q} (start N vs) H):
  t7 P w K mg base CX (k+1) f (fnOf name qual params body scope dV kV doc pm an cdv ct) ps sp:=by
 refine⟨len,fun A outer s H args us vs Q E hr e0 hb r hsp=>?_⟩;have hl:=len _ _ _ _ hsp;have KX:K.In s.heap:=e0.mod.kin.keeps fun b o e=>(e0.bs b o e).1
 have lim:s.heap.NoLimit:=e0.mod.nolimit.keeps fun b o e=>(e0.bs b o e).1
 have hkind:∀y∈ps.zip us,scope.names.lookup y.1=some .local\/ (scope.names.lookup y.1=some .cell/\((cellsFrom (s.heap.objs.size+1) scope.names []).lookup y.1).isSome=true):=fun⟨n,v⟩ hy=>by
  rcases S.par n (of_mem_zip hy).1 with q|q
  .exact .inl q
  .exact .inr ⟨q,PySem.W.cellsFrom_some _ _ _ (.inl q)⟩
 refine codeAny_call_function hr.depth (KX _ _ lk) rfl S.co S.gen rfl (PySem.W.codeRec_of KX hcd) (hb _ _ _ _ ?_);refine wpAny_newFunctionEnv_cells S.kind hkind fun env he s1 x=>?_
 subst he;refine⟨lim.keeps x.toInCall.keep,codeAny_func ?_⟩;obtain⟨t,ht,hq⟩:=hbody A outer s H vs Q E (hr.deeper _) hsp;have I:Inv (J9 CX P w K mg base N qual scope f cdv A outer s H E) [] (start N vs) H s1:=NB S hr.hd e0 hl r x;refine dy (ht [] s1 (start N vs) H _ I hq) (fun fl s' hs=>?_) fun e s' hs=>hs
 have fin:∀{σ':St} {H':Hp} {v:V} {u:Value},Inv (J9 CX P w K mg base N qual scope f cdv A outer s H E) [] σ' H' s'->RelV v u->Q v H'->CE outer P w H s Q u s':=
  fun{σ' H' v u} J rv q=>⟨v,H',J.os,J.bare,J.base,J.bR,rv,q⟩
 cases fl with
 |ret u=>
  obtain⟨v,σ',H',J,rv,q⟩:=hs;exact fin J rv q
 |next=>
  obtain⟨σ',H',J,q⟩:=hs;exact fin (v:=V.bG) (u:=Value.none) J rfl q
 |brk=>
  obtain⟨_,_,_,q⟩:=hs;exact False.elim q
 |cont=>
  obtain⟨_,_,_,q⟩:=hs;exact False.elim q
section
variable {X:Cx} {x:Str} {p pos:Pos} {e:Expr} {es:List Expr} {t:TA} {id T:String} {r:List V->Hp->VK->Prop}
def tCB (r:List V->Hp->VK->Prop) (t:TA):TE:=fun σ H Q=>t σ H fun vs H1=>r vs H1 Q
theorem bN (hc:cK X (.builtin id) r) (hg:Gl X x) (hm:X.mg x=none) (hv:bootBuiltins x=some (.builtin id)) (ha:PA X (e::es) t) (hn:x≠"__name__":=by decide) (hdb:(x==("__debug__":Str))=false:=by decide)
  (he:starEach (e::es) X.env=(false,eval e X.env)::starEach es X.env:=by rfl) (hpl:(backTo pos (starEach es X.env)).any (·.1)=false:=by rfl):PE X (.Call (.Name x p) (e::es) [] pos) (tCB r t):=by
 intro zq s σ H Q I h;refine wpAny_Call_Name_kw (tG I hg hm hv ?_ hn hdb);exact PyProof.Rows.callWith_builtin1 (cS (ha pos zq s σ H _ I h) fun us s1 ⟨vs,H1,I1,r1,q1⟩=>hc zq s1 σ H1 vs us Q I1 r1 q1) he hpl
theorem bU (hc:cK X (.type T) r) (hg:Gl X x) (hm:X.mg x=none) (hv:bootBuiltins x=some (.type T)) (ha:PA X (e::es) t) (hn:x≠"__name__":=by decide) (hdb:(x==("__debug__":Str))=false:=by decide)
  (he:starEach (e::es) X.env=(false,eval e X.env)::starEach es X.env:=by rfl) (hpl:(backTo pos (starEach es X.env)).any (·.1)=false:=by rfl):PE X (.Call (.Name x p) (e::es) [] pos) (tCB r t):=by
 intro zq s σ H Q I h;refine wpAny_Call_Name_kw (tG I hg hm hv ?_ hn hdb);exact ie (cS (ha pos zq s σ H _ I h) fun us s1 ⟨vs,H1,I1,r1,q1⟩=>hc zq s1 σ H1 vs us Q I1 r1 q1) he hpl
end
end L2
namespace HT
open PySem PyProof.Rows
variable {sl t:Addr} {vl vu:Value} {Q:Value->Shared->Prop}
section
variable {prog:Program} {w:World} {A:Around} {E:Value->Shared->Prop} {s:Shared}
theorem VQ {b:Addr} {vs ws:List Value} (ht:IsTup s.heap t vs.toArray) (hb:IsTup s.heap b ws.toArray) (hv:vs≠[])
  (h1:ws=[]->Q (.ref t) s) (h2:ws≠[]->Q (.ref s.heap.objs.size) {s with heap:=s.heap.push {cls:=.type "tuple",data:=.seq (vs++ws).toArray}})
  (hsz:vs.length+ws.length<=sizeLine):wpAny (model prog w) A (binaryOp .Add (.ref t) (.ref b)) Q E s:=by
 obtain⟨⟨cls,dd,data,sl⟩,ho,hc,n,hd⟩:=id ht;obtain⟨⟨cls2,dd2,data2,sl2⟩,ho2,hc2,n2,hd2⟩:=id hb;simp only at hc hd hc2 hd2;subst hc hd hc2 hd2;have e:vs.toArray++ws.toArray=(vs++ws).toArray:=by simp
 by_cases hw:ws=[]
 .exact concat_meets ⟨_,ho,rfl⟩ ⟨_,ho2,rfl⟩ noFill_tuple_add seq_tuple_add slot_tuple_add entry_tuple_add (args_tuple_add_2 _ _)
   (tuple_addW1 t b vs.toArray ws.toArray n n2 dd dd2 sl sl2 (by simpa using hv) (by simp[hw])) ⟨ho,ho2,h1 hw⟩
 .refine concat_meets ⟨_,ho,rfl⟩ ⟨_,ho2,rfl⟩ noFill_tuple_add seq_tuple_add slot_tuple_add entry_tuple_add (args_tuple_add_2 _ _)
   (tuple_addW2 t b vs.toArray ws.toArray n n2 dd dd2 sl sl2 (by simpa using hv) (by simpa using hw) (by rw[cp,cp];exact hsz)) ⟨ho,ho2,?_⟩
  rw[e];exact h2 hw
noncomputable def e9 (n d:Nat):Option Int->Nat
 |none=>d
 |some v=>if v<0 then(v+(n:Int)).toNat else min v.toNat n
theorem HI (n d:Nat):e9 n d none=d:=rfl
theorem LW (n d k:Nat):e9 n d (some (k:Int))=min k n:=by
 show(if(k:Int)<0 then((k:Int)+(n:Int)).toNat else min (k:Int).toNat n)=min k n;rw[ai (by omega),toNat_natCast]
theorem aaT (n d:Nat) (hd:d<=n) (o:Option Int):e9 n d o<=n:=by
 cases o with
 |none=>exact hd
 |some v=>
  show(if v<0 then(v+(n:Int)).toNat else min v.toNat n)<=n
  by_cases hv:v<0
  .rw[ao hv];omega
  .rw[ai hv];exact Nat.min_le_right _ _
theorem LF (v:Int) (n d:Nat):(if v<0 then max (v+(n:Int)) 0 else min v (n:Int))=((e9 n d (some v):Nat):Int):=by
 show(if v<0 then max (v+(n:Int)) 0 else min v (n:Int))=(((if v<0 then(v+(n:Int)).toNat else min v.toNat n):Nat):Int)
 by_cases hv:v<0
 .simp only[ao hv];omega
 .simp only[ai hv];omega
theorem HY (lo hi:Option Int) (n:Nat):Builtin.Slice.sliceAdjust lo hi 1 (n:Int)=(((e9 n 0 lo:Nat):Int),((e9 n n hi:Nat):Int)):=by
 have h1:¬((1:Int)<0):=by omega
 unfold Builtin.Slice.sliceAdjust;simp only[h1,if_false];refine Prod.ext ?_ ?_
 .cases lo with
  |none=>rfl
  |some v=>exact LF v n 0
 .cases hi with
  |none=>rfl
  |some v=>exact LF v n n
theorem JZ (i j:Nat):Builtin.Slice.slicePlaces (i:Int) (j:Int) 1=j - i:=by
 unfold Builtin.Slice.slicePlaces;have h1:(1:Int)>0:=by omega
 simp only[h1,if_true,Int.ediv_one];split<;>omega
theorem y8 {v:Value} {o:Option Int} {Q:Option Int->Shared->Prop} (p:IsPart v o) (h:Q o s):wpAny (model prog w) A (Builtin.Slice.slicePartIndex v) Q E s:=by
 cases p with
 |none=>exact slicePart_none h
 |int i t=>exact slicePart_int h
theorem mK {lo hi:Option Int} {n:Nat} {Q:Int×Int×Nat->Shared->Prop} (hs:s.heap.IsSliceOf sl vl vu .none) (pl:IsPart vl lo) (pu:IsPart vu hi)
  (h:Q (((e9 n 0 lo:Nat):Int),1,e9 n n hi - e9 n 0 lo) s):wpAny (model prog w) A (Builtin.Slice.sliceApplied (.ref sl) (pure (n:Int))) Q E s:=by
 obtain⟨os,hos,hcs,hds⟩:=id hs;unfold Builtin.Slice.sliceApplied Builtin.Slice.sliceFields;refine ae (ae (jd hos hds (x:=vl) rfl (ae (jd hos hds (x:=vu) rfl (ae (jd hos hds (x:=.none) rfl (au ?_)))))));refine ae (slicePart_none ?_);show wpAny _ _ (if((1:Int)==0)=true then _ else _) _ _ s;rw[ai (by decide)];refine ae (y8 pl (ae (y8 pu (ae (au ?_)))));show wpAny _ _ (match Builtin.Slice.sliceAdjust lo hi 1 (n:Int)with|(lo,hi)=>pure (lo,(1:Int),Builtin.Slice.slicePlaces lo hi 1)) _ _ s;rw[HY lo hi n];show wpAny _ _ (pure (((e9 n 0 lo:Nat):Int),(1:Int),Builtin.Slice.slicePlaces ((e9 n 0 lo:Nat):Int) ((e9 n n hi:Nat):Int) 1)) _ _ s;rw[JZ];exact au h
theorem TU (xs:Array Value) (i k:Nat):((List.range k).filterMap fun(m:Nat)=>xs[((i:Int)+(m:Int)*1).toNat]?).toArray=((xs.toList.drop i).take k).toArray:=by
 have e:(fun(m:Nat)=>xs[((i:Int)+(m:Int)*1).toNat]?)=fun m=>xs[i+m]?:=by
  funext m;have:((i:Int)+(m:Int)*1).toNat=i+m:=by omega
  rw[this]
 rw[e];have:=pick_run xs i k;rw[List.filterMap_map]at this;have e2:((fun x=>xs[x]?)∘fun x=>i+x)=fun m=>xs[i+m]?:=rfl
 rw[e2]at this;rw[this]
theorem uS {items:Array Value} {lo hi:Option Int} (ht:IsTup s.heap t items) (hs:s.heap.IsSliceOf sl vl vu .none) (pl:IsPart vl lo) (pu:IsPart vu hi)
  (hw:¬(e9 items.size 0 lo=0/\e9 items.size items.size hi=items.size))
  (h:Q (.ref s.heap.objs.size) {s with heap:=s.heap.push {cls:=.type "tuple",data:=.seq ((items.toList.drop (e9 items.size 0 lo)).take (e9 items.size items.size hi - e9 items.size 0 lo)).toArray}})
  (hsz:items.size<=sizeLine):wpAny (model prog w) A (getItem (.ref t) (.ref sl)) Q E s:=by
 have htake:sizeOk (.seq ((items.toList.drop (e9 items.size 0 lo)).take (e9 items.size items.size hi - e9 items.size 0 lo)).toArray):=by
  show((items.toList.drop (e9 items.size 0 lo)).take (e9 items.size items.size hi - e9 items.size 0 lo)).toArray.size<=sizeLine;rw[cp,gy,fy,length_toList];omega
 have hj:e9 items.size items.size hi<=items.size:=aaT _ _ (bc _) hi;obtain⟨os,hos,hcs,hds⟩:=id hs;have hTs:s.TypeIs (.ref sl) "slice":=⟨os,hos,hcs⟩;unfold getItem
 try with_reducible refine gd ?_
 first|refine ae (au ?_)|skip
 refine ae (wpAny_sequenceKey ht.typeIs (by decide) ?_);refine ae (jj (name:=Str.ofString "__getitem__") ht.typeIs jb
  (gv jb ht.typeIs entry_tuple_getitem ?_ (args_tuple_getitem _ _)))
 show wpAny _ _ (Builtin.Tuple.tupleItemsOf (.ref t)>>=_) _ _ s;refine ae (tupleItemsOf_ ht ?_);refine ae (wpAny_typeOf hTs ?_);rw[ao (by decide)];refine ae (mK hs pl pu ?_);have hno:¬((((e9 items.size 0 lo:Nat):Int)==0 && (1:Int)==1 && (e9 items.size items.size hi - e9 items.size 0 lo)==items.size)=true):=by
  intro q;rw[cj,cj]at q;have q1:((e9 items.size 0 lo:Nat):Int)=0:=eq_of_beq q.1.1;have q2:e9 items.size items.size hi - e9 items.size 0 lo=items.size:=eq_of_beq q.2;exact hw ⟨by omega,by omega⟩
 show wpAny _ _ (if(((e9 items.size 0 lo:Nat):Int)==0 && (1:Int)==1 && (e9 items.size items.size hi - e9 items.size 0 lo)==items.size)=true then _ else _) _ _ s;rw[ai hno,TU]
 first
  |exact ae (m:=Builtin.Tuple.tupleExact _) (dk (au ⟨_,rfl,au h⟩) htake)
  |exact ae (m:=Builtin.Tuple.tupleExact _) (dk (ae (au (au ⟨_,rfl,au h⟩))) htake)
  |exact ae (ae (m:=Builtin.Tuple.tupleExact _) (dk (au (au ⟨_,rfl,au h⟩)) htake))
  |exact ae (ae (m:=Builtin.Tuple.tupleExact _) (dk (au ⟨_,rfl,au h⟩) htake))
end
end HT
namespace L2
open PySem PySem.Spec PyProof.Rows
variable {H:Hp} {zq:List (Addr×Obj)} {xs:List V} {its its':List Value} {j n:Nat} {s:Shared} {σ:St} {α:Type} {r:V->Option Int->Option Int->Hp->VK->Prop}
abbrev TO:=St->Hp->(Option Int->Hp->Prop)->Prop
def PO (X:Cx) (e:Option Expr) (t:TO):Prop:=
 ∀(zq:List (Addr×Obj)) (s:Shared) (σ:St) (H:Hp) (Q:Option Int->Hp->Prop),Inv X zq σ H s->t σ H Q->
  wpAny (model X.prog X.w) X.A (evalPart e X.env) (fun u s'=>∃o H',Inv X zq σ H' s'/\IsPart u o/\Q o H') X.xe s
def L3:TO:=fun _ H Q=>Q none H
def ZC (t:TE):TO:=fun σ H Q=>t σ H fun x H1=>∃i,x= .int i/\Q (some i) H1
section
variable {X:Cx} {e:Expr} {te:TE} {lo hi:Option Expr} {tl th:TO} {pos p2:Pos}
theorem i0:PO X none L3:=by
 intro zq s σ H Q I h;rw[evalPart_none];exact au ⟨none,H,I,.none,h⟩
theorem iS (h:PE X e te):PO X (some e) (ZC te):=by
 intro zq s σ H Q I hw;rw[evalPart_some];refine cS (h zq s σ H _ I hw) fun u s1 ⟨x,H1,I1,r1,q1⟩=>?_
 obtain⟨i,rfl,q⟩:=q1;obtain⟨t,rfl⟩:=r1;exact⟨some i,H1,I1,.int i t,q⟩
def N2 (X:Cx) (r:V->Option Int->Option Int->Hp->VK->Prop):Prop:=
 ∀(zq:List (Addr×Obj)) (s:Shared) (σ:St) (H:Hp) (x:V) (v vl vu:Value) (lo hi:Option Int) (sl:Addr) (Q:VK),Inv X zq σ H s->RelV x v->s.heap.IsSliceOf sl vl vu .none->IsPart vl lo->IsPart vu hi->r x lo hi H Q->
  ∃T id,typeLookup (.type T) "__getitem__"=pure (some (.builtin id))/\s.TypeIs v T/\wpAny (model X.prog X.w) X.A (getItem v (.ref sl)) (EP X zq σ Q) X.xe s
theorem N2.or {r':V->Option Int->Option Int->Hp->VK->Prop} (h:N2 X r) (h':N2 X r'):N2 X (fun x lo hi H Q=>r x lo hi H Q\/ r' x lo hi H Q):=by
 intro zq s σ H x v vl vu lo hi sl Q I rx hs pl pu q;rcases q with q|q
 .exact h zq s σ H x v vl vu lo hi sl Q I rx hs pl pu q
 .exact h' zq s σ H x v vl vu lo hi sl Q I rx hs pl pu q
def tSl (r:V->Option Int->Option Int->Hp->VK->Prop) (te:TE) (tl th:TO):TE:=fun σ H Q=>te σ H fun x H1=>tl σ H1 fun l H2=>th σ H2 fun u H3=>r x l u H3 Q
theorem gB (hr:N2 X r) (he:PE X e te) (hl:PO X lo tl) (hu:PO X hi th):PE X (.Subscript e (.Slice lo hi none p2) pos) (tSl r te tl th):=by
 intro zq s σ H Q I h;refine Subscript_ (cS (he zq s σ H _ I h) fun v s1 ⟨x,H1,I1,r1,q1⟩=>?_);refine wpAny_Slice (cS (hl zq s1 σ H1 _ I1 q1) fun vl s2 ⟨l,H2,I2,pl,q2⟩=>cS (hu zq s2 σ H2 _ I2 q2) fun vu s3 ⟨u,H3,I3,pu,q3⟩=>?_);rw[evalPart_none];refine au ?_;have I4:Inv X zq σ H3 {s3 with heap:=s3.heap.push {cls:=.type "slice",data:=.fields #[vl,vu,.none]}}:=I3.kept (t':=s3.toks) fun b ob q=>ah _ q
 obtain⟨T,id,hT,ht,hg⟩:=hr zq {s3 with heap:=s3.heap.push {cls:=.type "slice",data:=.fields #[vl,vu,.none]}} σ H3 x v vl vu l u s3.heap.objs.size Q I4 r1 (Heap.IsSliceOf.new ..) pl pu q3;show wpAny (model X.prog X.w) X.A (subscriptTail e (.Slice lo hi none p2) v (.ref s3.heap.objs.size)) (EP X zq σ Q) X.xe {s3 with heap:=s3.heap.push {cls:=.type "slice",data:=.fields #[vl,vu,.none]}};exact tail_any (ops:=[.ref s3.heap.objs.size,v]) ht hT hg (by with_unfolding_all rfl)
noncomputable def zZ (xs:List V) (lo hi:Option Int):List V:=(xs.drop (HT.e9 xs.length 0 lo)).take (HT.e9 xs.length xs.length hi - HT.e9 xs.length 0 lo)
theorem wQ (xs:List V) (lo hi:Option Int):(zZ xs lo hi).length<=xs.length:=by
 unfold zZ;rw[gy,fy];omega
def ah1 (K:Frag):V->Option Int->Option Int->Hp->VK->Prop:=fun x lo hi H Q=>∃a xs,x= .ref a/\rB K H a xs/\
 ¬(HT.e9 xs.length 0 lo=0/\HT.e9 xs.length xs.length hi=xs.length)/\∀p,H p=none->Q (.ref p) (upd H p (.tup (zZ xs lo hi)))
theorem Z7:N2 X (ah1 X.K):=by
 intro zq s σ H x v vl vu lo hi sl Q I rx hs pl pu h;obtain⟨a,xs,rfl,hx,hw,q⟩:=h;cases rx;obtain⟨its,r,ht,hz⟩:=I.tuple hx;have hlen:its.toArray.size=xs.length:=by rw[cp];exact r.length.symm
 refine⟨"tuple",_,PyProof.Rows.slot_tuple_getitem.lookup,ht.typeIs,?_⟩;refine HT.uS ht hs pl pu (by rw[hlen];exact hw) ?_ (by rw[hlen];exact hz);rw[hlen];refine⟨.ref s.heap.objs.size,_,I.laid (t':=s.toks) (o:=.tup (zZ xs lo hi)) (fun b ob q=>ah _ q) (bc _) ?_,rfl,q _ (I.bR.fresh (bc _))⟩;exact⟨gf (wQ xs lo hi) hz,_,(r.drop (HT.e9 xs.length 0 lo)).take (HT.e9 xs.length xs.length hi - HT.e9 xs.length 0 lo),r6.new _ _⟩
theorem Vals.LZ {us:List Value} (r:Vals xs us):us=[]↔xs=[]:=by
 cases r with
 |nil=>simp
 |cons _ _=>simp
end
noncomputable def AD (n:Nat) (i:Int):Option Nat:=if 0<=i then(if i<n then some i.toNat else none)else if -(n:Int)<=i then some (i+n).toNat else none
noncomputable def rK (xs:List α) (i:Int):Option α:=(AD xs.length i).bind fun j=>xs[j]?
theorem K9 {i:Int} (h:AD n i=some j):seqIndex? i n=some j/\j<n/\ -(n:Int)<=i/\i<n:=by
 unfold AD at h
 by_cases h0:0<=i
 .rw[ao h0]at h
  by_cases h1:i<n
  .rw[ao h1]at h;have e:i.toNat=j:=Option.some.inj h;exact⟨by rw[seqIndex_of h0 h1,e],by omega,by omega,h1⟩
  .rw[ai h1]at h;cases h
 .rw[ai h0]at h
  by_cases h1: -(n:Int)<=i
  .rw[ao h1]at h;have e:(i+n).toNat=j:=Option.some.inj h;exact⟨by rw[seqIndex_neg (by omega) h1,e],by omega,h1,by omega⟩
  .rw[ai h1]at h;cases h
theorem DI {xs:List α} {i:Int} {v:α} (h:rK xs i=some v):∃j,seqIndex? i xs.length=some j/\xs[j]? =some v/\j<xs.length/\ -(xs.length:Int)<=i/\i<xs.length:=by
 unfold rK at h;cases e:AD xs.length i with
 |none=>rw[e]at h;cases h
 |some j=>
  rw[e]at h;obtain⟨h1,h2,h3,h4⟩:=K9 e;exact⟨j,h1,h,h2,h3,h4⟩
theorem iP {xs:List α} {v:α} (h:xs[j]? =some v):rK xs (j:Int)=some v:=by
 have hj:j<xs.length:=(af.mp h).1;have e:AD xs.length (j:Int)=some j:=by
  unfold AD;rw[ao (by omega),ao (by omega)];simp
 unfold rK;rw[e];exact h
def WZ (b:Expr):Prop:=∀o i,subscripted b false o i=operate [o,i] (getItem o i)
def JM (X:Cx) (r:R2):Prop:=
 ∀(value slice:Expr) (zq:List (Addr×Obj)) (s:Shared) (σ:St) (H:Hp) (x y:V) (v u:Value) (Q:VK),Inv X zq σ H s->RelV x v->RelV y u->r x y H Q->
  subscripted slice false v u=operate [v,u] (getItem v u)->wpAny (model X.prog X.w) X.A (subscriptTail value slice v u) (EP X zq σ Q) X.xe s
def MtR (X:Cx) (id:String) (r:V->List V->Hp->VK->Prop):Prop:=
 ∀(zq:List (Addr×Obj)) (s:Shared) (σ:St) (H:Hp) (x:V) (xs:List V) (v:Value) (us:List Value) (Q:VK),Inv X zq σ H s->RelV x v->Vals xs us->r x xs H Q->
  wpAny (model X.prog X.w) X.A (call (.builtin id) (v::us)) (EP X zq σ Q) X.xe s
section
variable {X:Cx} {a b:Expr} {ta tb:TE} {pos:Pos}
theorem JM.or {r r':R2} (h:JM X r) (h':JM X r'):JM X (fun x y H Q=>r x y H Q\/ r' x y H Q):=by
 intro value slice zq s σ H x y v u Q I rx ry q hs;rcases q with q|q
 .exact h value slice zq s σ H x y v u Q I rx ry q hs
 .exact h' value slice zq s σ H x y v u Q I rx ry q hs
theorem aY {r:R2} (hr:JM X r) (ha:PE X a ta) (hb:PE X b tb) (hs:WZ b):PE X (.Subscript a b pos) (tOp r ta tb):=by
 intro zq s σ H Q I h;exact Subscript_ (acP ha hb I h fun v u s2 x y H2 I2 rx ry q=>hr a b zq s2 σ H2 x y v u Q I2 rx ry q (hs _ _))
def aaL (K:Frag):R2:=fun x y H Q=>∃p xs i v,x= .ref p/\y= .int i/\gE K H p xs/\rK xs i=some v/\Q v H
def adL (K:Frag):R2:=fun x y H Q=>∃p xs i v,x= .ref p/\y= .int i/\rB K H p xs/\rK xs i=some v/\Q v H
def ae1:R2:=fun x y H Q=>∃z i c,x= .str z/\y= .int i/\z.length<=sizeLine/\rK z.cps.toList i=some c/\Q (.str ⟨#[c]⟩) H
theorem VL:JM X (aaL X.K):=by
 intro value slice zq s σ H x y v u Q I rx ry h hs;obtain⟨p,xs,i,z,rfl,rfl,hq,he,q⟩:=h;cases rx;obtain⟨t,rfl⟩:=ry;obtain⟨its,r,pl,hz⟩:=I.list hq;obtain⟨j,h1,h2,h3,h4,h5⟩:=DI he;obtain⟨w,ew,rw'⟩:=r.get h2;have hl:=r.length;have hn:=sH;have fin:EP X zq σ Q w s:=⟨z,H,I,rw',q⟩
 by_cases h0:0<=i
 .have hj:i.toNat=j:=by
   rw[seqIndex_of h0 h5]at h1;exact Option.some.inj h1
  exact item_listR pl.isList h0 (by omega) (by rw[hj];simpa using ew) fin hs
 .have hj:(i+(its.toArray.size:Int)).toNat=j:=by
   rw[seqIndex_neg (by omega) h4]at h1;rw[cp,<-hl];exact Option.some.inj h1
  exact subscriptTail_builtinR (x:=w) pl.isList.typeIs slot_list_getitem.lookup
   (wpAny_getItem_list_neg (Q:=fun r s'=>r=w/\EP X zq σ Q r s') pl.isList (by omega) (by rw[cp]<;>omega) (by omega) (by rw[hj];simpa using ew) ⟨rfl,fin⟩) hs
theorem abP:JM X (adL X.K):=by
 intro value slice zq s σ H x y v u Q I rx ry h hs;obtain⟨p,xs,i,z,rfl,rfl,hq,he,q⟩:=h;cases rx;obtain⟨t,rfl⟩:=ry;obtain⟨its,r,pl,hz⟩:=I.tuple hq;obtain⟨j,h1,h2,h3,h4,h5⟩:=DI he;obtain⟨w,ew,rw'⟩:=r.get h2;have hl:=r.length;have hn:=sH;have fin:EP X zq σ Q w s:=⟨z,H,I,rw',q⟩;exact subscriptTail_builtinR (x:=w) pl.typeIs slot_tuple_getitem.lookup
  (getItem_tuple (j:=j) (Q:=fun r s'=>r=w/\EP X zq σ Q r s') pl (by omega) (by omega) (by rw[cp,<-hl];exact h1) (by simpa using ew) ⟨rfl,fin⟩) hs
theorem ac1:JM X ae1:=by
 intro value slice zq s σ H x y v u Q I rx ry h hs;obtain⟨z,i,c,rfl,rfl,hz,he,q⟩:=h;obtain⟨t,rfl⟩:=rx;obtain⟨t',rfl⟩:=ry;obtain⟨j,h1,h2,h3,h4,h5⟩:=DI he;have hl:z.cps.toList.length=z.length:=by simp[Str.length]
 rw[hl]at h1 h4 h5;have hn:=sH;exact tail_any (typeIs_str s z t) slot_str_getitem.lookup (getItem_str (c:=c) (by
  have e1:decide (i< -(2^63:Int))=false:=decide_eq_false (by omega);have e2:decide (i≥2^63)=false:=decide_eq_false (by omega);rw[e1,e2,Bool.or_false]) (by rw[h1];simpa using h2) ⟨.str ⟨#[c]⟩,H,I.tok _,⟨_,rfl⟩,q⟩) hs
theorem KN (its:List Value) (n j:Nat) (u:Value):Obj.mapSeq (·.setIfInBounds j u) {cls:=.type "list",data:=.seq its.toArray n}={cls:=.type "list",data:=.seq (its.set j u).toArray n}:=by
 simp[Obj.mapSeq]
theorem Inv.lst {p:Addr} (I:Inv X zq σ H s) (h:H p=some (.lst xs)):
  ∃(its:List Value) (n:Nat),Vals xs its/\s.heap.get? p=some {cls:=.type "list",data:=.seq its.toArray n}/\xs.length<=sizeLine:=by
 obtain⟨z,its,n,r,e⟩:=I.bR p _ h;exact⟨its,n,r,e,z⟩
theorem Inv.acI {p:Addr} {ys:List V} {n':Nat} {f:Obj->Obj} (I:Inv X zq σ H s) (h:H p=some (.lst xs))
  (ho:s.heap.get? p=some {cls:=.type "list",data:=.seq its.toArray n}) (hf:f {cls:=.type "list",data:=.seq its.toArray n}={cls:=.type "list",data:=.seq its'.toArray n'}) (r:Vals ys its') (hz:ys.length<=sizeLine) (t:Nat):
  Inv X zq σ (upd H p (.lst ys)) {s with heap:=s.heap.update p f,toks:=t}:=by
 have e:(s.heap.update p f).get? p=some {cls:=.type "list",data:=.seq its'.toArray n'}:=by
  rw[ko f ho (by rw[hf]<;>rfl),hf]
 refine I.write (x:=p) (e:=p) (by rw[h];trivial) (.inl rfl) (fun b u hb q=>(jz _ _ (Ne.symm hb)).trans q) ⟨_,e⟩ ?_;exact⟨hz,its',n',r,e⟩
def YR:V->V->V->Hp->(Hp->Prop)->Prop:=fun o i v H Q=>∃p xs k j,o= .ref p/\i= .int k/\H p=some (.lst xs)/\AD xs.length k=some j/\Q (upd H p (.lst (xs.set j v)))
theorem set_list:aeV X YR:=by
 intro zq s σ H o i v ov iv u Q I ro ri rv h;obtain⟨p,xs,k,j,rfl,rfl,hp,hj,q⟩:=h;cases ro;obtain⟨t,rfl⟩:=ri;obtain⟨its,n,r,ho,hz⟩:=I.lst hp;obtain⟨h1,h2,h3,h4⟩:=K9 hj;have hl:=r.length;have hn:=sH;have I':Inv X zq σ (upd H p (.lst (xs.set j v))) {s with heap:=s.heap.update p (Obj.mapSeq (·.setIfInBounds j u))}:=
  I.acI hp ho (KN its n j u) (r.set rv j) (by rw[kg];exact hz) s.toks
 by_cases h0:0<=k
 .have hk:k.toNat=j:=by
   rw[seqIndex_of h0 h4]at h1;exact Option.some.inj h1
  exact PySem.W.ki_setAt ho h0 (by omega) (by rw[cp,<-hl];exact h4) (by rw[hk];exact⟨_,I',q⟩)
 .have hk:(k+(its.toArray.size:Int)).toNat=j:=by
   rw[seqIndex_neg (by omega) h3]at h1;rw[cp,<-hl];exact Option.some.inj h1
  exact PySem.W.ki_setBack ho (by omega) (by rw[cp,<-hl];exact h3) (by omega) (by rw[hk];exact⟨_,I',q⟩)
theorem D2 (lo hi:Option Int) (n:Nat):(sliceBounds lo hi none n).1=((HT.e9 n 0 lo:Nat):Int)/\(sliceBounds lo hi none n).2.1=((HT.e9 n n hi:Nat):Int)/\(sliceBounds lo hi none n).2.2=1:=by
 refine⟨?_,?_,rfl⟩
 .cases lo with
  |none=>simp[sliceBounds,HT.e9]
  |some i=>
   simp only[sliceBounds,HT.e9,getD_none,show(1:Int)>0 by decide,if_true]
   by_cases h:i<0
   .simp only[h,if_true]<;>omega
   .simp only[h,if_false]<;>omega
 .cases hi with
  |none=>simp[sliceBounds,HT.e9]
  |some i=>
   simp only[sliceBounds,HT.e9,getD_none,show(1:Int)>0 by decide,if_true]
   by_cases h:i<0
   .simp only[h,if_true]<;>omega
   .simp only[h,if_false]<;>omega
theorem AK (its:List Value) (lo hi:Option Int):slicePick its.toArray lo hi none=((its.drop (HT.e9 its.length 0 lo)).take (HT.e9 its.length its.length hi - HT.e9 its.length 0 lo)).toArray:=by
 obtain⟨h1,h2,h3⟩:=D2 lo hi its.toArray.size;unfold slicePick;rw[h1,h2,h3];simp only[sliceRange_one,pick_run,cp]<;>rfl
def aaM (K:Frag):V->Option Int->Option Int->Hp->VK->Prop:=fun x lo hi H Q=>∃a xs,x= .ref a/\gE K H a xs/\∀p,H p=none->Q (.ref p) (upd H p (.lst (zZ xs lo hi)))
theorem VO:N2 X (aaM X.K):=by
 intro zq s σ H x v vl vu lo hi sl Q I rx hs pl pu h;obtain⟨a,xs,rfl,hx,q⟩:=h;cases rx;obtain⟨its,r,ht,hz⟩:=I.list hx;have hlen:=r.length;refine⟨"list",_,slot_list_getitem.lookup,ht.isList.typeIs,?_⟩;refine wpAny_getItem_list_slice ht.isList hs pl pu .none (by simp) ?_ (by rw[cp]<;>omega);rw[AK,<-hlen];refine⟨.ref s.heap.objs.size,_,I.laid (t':=s.toks) (o:=.lst (zZ xs lo hi)) (fun b ob q=>ah _ q) (bc _) ?_,rfl,q _ (I.bR.fresh (bc _))⟩;exact⟨gf (wQ xs lo hi) hz,_,0,(r.drop (HT.e9 xs.length 0 lo)).take (HT.e9 xs.length xs.length hi - HT.e9 xs.length 0 lo),bz _ rfl⟩
theorem EE:cK X (.builtin "len") (fun xs H Q=>∃p ys,xs=[.ref p]/\(gE X.K H p ys\/ rB X.K H p ys)/\Q (.int ys.length) H):=by
 intro zq s σ H xs us Q I r h;obtain⟨p,ys,rfl,hq,q⟩:=h;obtain⟨u,rfl,rx⟩:=vals1 r;cases rx;have hn:=sH;rcases hq with hq|hq
 .obtain⟨its,r',pl,hz⟩:=I.list hq;have hlen:=r'.length;exact Calls.call_len_list pl.isList (by simp only[cp]<;>omega) ⟨.int ys.length,H,I.tok _,⟨s.toks+1,by rw[cp,hlen]⟩,q⟩
 .obtain⟨its,r',pl,hz⟩:=I.tuple hq;have hlen:=r'.length;exact len_tuple pl (by simp only[cp]<;>omega) ⟨.int ys.length,H,I.tok _,⟨s.toks+1,by rw[cp,hlen]⟩,q⟩
theorem D6:cK X (.builtin "len") (fun xs H Q=>∃z,xs=[.str z]/\z.length<=sizeLine/\Q (.int z.length) H):=by
 intro zq s σ H xs us Q I r h;obtain⟨z,rfl,hz,q⟩:=h;obtain⟨u,rfl,t,rfl⟩:=vals1 r;have hn:=sH;exact len_str (by omega) ⟨.int z.length,H,I.tok _,⟨_,rfl⟩,q⟩
theorem cK.or {f:Value} {r r':List V->Hp->VK->Prop} (h:cK X f r) (h':cK X f r'):cK X f (fun xs H Q=>r xs H Q\/ r' xs H Q):=by
 intro zq s σ H xs us Q I rs q;rcases q with q|q
 .exact h zq s σ H xs us Q I rs q
 .exact h' zq s σ H xs us Q I rs q
theorem EL:cK X (.type "list") (fun xs H Q=>∃p ys,xs=[.ref p]/\(gE X.K H p ys\/ rB X.K H p ys)/\∀l,H l=none->Q (.ref l) (upd H l (.lst ys))):=by
 intro zq s σ H xs us Q I r h;obtain⟨p,ys,rfl,hq,q⟩:=h;obtain⟨u,rfl,rx⟩:=vals1 r;cases rx;have fin:∀(its:List Value),Vals ys its->ys.length<=sizeLine->∀(h':Heap) (c':Nat),(∀b o',s.heap.get? b=some o'->h'.get? b=some o')->
   h'.get? s.heap.objs.size=some {cls:=.type "list",dict:=none,data:=.seq its.toArray c',slots:= #[]}->EP X zq σ Q (.ref s.heap.objs.size) {s with heap:=h'}:=fun its r' hz h' c' kp e=>
  ⟨.ref s.heap.objs.size,_,I.laid (t':=s.toks) kp (bc _) (show dQ X.prog X.w _ h' _ (.lst ys)from⟨hz,its,c',r',e⟩),rfl,q _ (I.bR.fresh (bc _))⟩
 rcases hq with hq|hq
 .obtain⟨its,r',pl,hz⟩:=I.list hq;have hlen:=r'.length;obtain⟨o,ho,hc,n,hd⟩:=pl.isList;exact call_list_seq p (.inl rfl) ho hc hd (fun h' c' kp e=>fin its r' hz h' c' kp e) (by simp only[cp]<;>omega)
 .obtain⟨its,r',pl,hz⟩:=I.tuple hq;have hlen:=r'.length;obtain⟨o,ho,hc,n,hd⟩:=pl;exact call_list_seq p (.inr rfl) ho hc hd (fun h' c' kp e=>fin its r' hz h' c' kp e) (by simp only[cp]<;>omega)
theorem AI:cK X (.type "tuple") (fun xs H Q=>∃p ys,xs=[.ref p]/\((gE X.K H p ys/\∀l,H l=none->Q (.ref l) (upd H l (.tup ys)))\/ (rB X.K H p ys/\Q (.ref p) H))):=by
 intro zq s σ H xs us Q I r h;obtain⟨p,ys,rfl,h⟩:=h;obtain⟨u,rfl,rx⟩:=vals1 r;cases rx;rcases h with⟨hq,q⟩|⟨hq,q⟩
 .obtain⟨its,r',pl,hz⟩:=I.list hq;have hlen:=r'.length;refine call_tuple_list pl.isList (fun h' kp=>?_) (by simp only[cp]<;>omega);have I1:Inv X zq σ H {s with heap:=h'}:=I.kept (t':=s.toks) kp;have I2:Inv X zq σ (upd H h'.objs.size (.tup ys)) {s with heap:=h'.push {cls:=.type "tuple",data:=.seq its.toArray}}:=
   I1.laid (t':=s.toks) (fun b o e=>ah _ e) (bc _) (show dQ X.prog X.w _ _ _ (.tup ys)from⟨hz,its,r',r6.new _ _⟩)
  exact⟨.ref h'.objs.size,_,I2,rfl,q _ (I1.bR.fresh (bc _))⟩
 .obtain⟨its,r',pl,hz⟩:=I.tuple hq;exact call_tuple_same pl ⟨.ref p,H,I,rfl,q⟩
def tyV (K:Frag) (T:String) (x:V) (H:Hp):Prop:=match x with
 | .str _=>T="str"
 | .int _=>T="int"
 | .ref p=>(T="list"/\∃xs,gE K H p xs)\/ (T="tuple"/\∃o,K.lookup p=some o/\o.cls= .type "tuple"/\o.dict=none)\/
   (T="dict"/\((∃kvs ep,H p=some (.dK kvs ep))\/ ∃kvs,H p=some (.dT kvs)))\/ (T="set"/\∃S n,H p=some (.set S n))
 |_=>False
theorem abH {T:String} {x:V} {v:Value} (I:Inv X zq σ H s) (r:RelV x v) (ty:tyV X.K T x H):
  s.TypeIs v T/\∀a,v= .ref a->∃ob,s.heap.get? a=some ob/\ob.dict=none:=by
 cases x with
 |str z=>
  obtain⟨t,rfl⟩:=r;cases(show T="str"from ty);exact⟨typeIs_str s z t,fun _ e=>nomatch e⟩
 |int i=>
  obtain⟨t,rfl⟩:=r;cases(show T="int"from ty);exact⟨typeIs_int s i t,fun _ e=>nomatch e⟩
 | ref p=>
  cases r;rcases ty with⟨rfl,xs,hq⟩|⟨rfl,o,hk,hc,hd⟩|⟨rfl,hk⟩|⟨rfl,S,n,hk⟩
  .obtain⟨its,_,pl,_⟩:=I.list hq;refine⟨pl.isList.typeIs,fun a e=>?_⟩;cases e;obtain⟨o,n,e,c,hd,_⟩:=pl;exact⟨o,e,hd⟩
  .refine⟨⟨o,I.MA p o hk,hc⟩,fun a e=>?_⟩;cases e;exact⟨o,I.MA _ o hk,hd⟩
  .have z:∃o,s.heap.get? p=some o/\o.ExactDict:=by
    rcases hk with⟨kvs,ep,hk⟩|⟨kvs,hk⟩
    .obtain⟨_,_,_,_,o,_,e,ex,_⟩:=I.bR p _ hk;exact⟨o,e,ex⟩
    .obtain⟨_,_,_,_,o,_,_,e,ex,_⟩:=I.bR p _ hk;exact⟨o,e,ex⟩
   obtain⟨o,e,ex⟩:=z;refine⟨⟨o,e,ex.1⟩,fun a e2=>?_⟩;cases e2;exact⟨o,e,ex.2.1⟩
  .obtain⟨o,_,_,_,e,ex,_⟩:=I.bR p _ hk;refine⟨⟨o,e,ex.1⟩,fun a e2=>?_⟩;cases e2;exact⟨o,e,ex.2.1⟩
 |_=>exact False.elim ty
def tBM (K:Frag) (T:String) (r:V->List V->Hp->VK->Prop) (to:TE) (t:TA):TE:=fun σ H Q=>to σ H fun x H1=>tyV K T x H1/\t σ H1 fun xs H2=>r x xs H2 Q
variable {o e:Expr} {es:List Expr} {to:TE} {t:TA} {name:Str} {apos cpos:Pos} {T id:String} {r:V->List V->Hp->VK->Prop}
theorem aeY (pa:PlainAttrs T) (slot:Slot T name id) (hty:typeOf (.builtin id)=pure (.type "method_descriptor")) (hm:MtR X id r) (ho:PE X o to) (ha:PA X (e::es) t)
  (hbase:attributeBase o name X.env (eval o X.env)=eval o X.env:=by rfl)
  (hfew:((backTo cpos (starEach (e::es) X.env)).all (fun x=>!x.1) && (backToKw cpos (keywordEach [] X.env)).all (fun x=>x.1.isSome)
   && decide ((e::es).length+([]:List Keyword).length+(if([]:List Keyword).isEmpty then 0 else 1)<30))=true:=by rfl)
  (hline:(apos.endLine==cpos.line)=true:=by rfl) (hs:starEach (e::es) X.env=(false,eval e X.env)::starEach es X.env:=by rfl) (hplain:(backTo cpos (starEach es X.env)).any (·.1)=false:=by rfl):
  PE X (.Call (.Attribute o name apos) (e::es) [] cpos) (tBM X.K T r to t):=by
 intro zq s σ H Q I h;refine wpAny_Call_method_late hbase hfew hline rfl (cS (ho zq s σ H _ I h) fun v s1 ⟨x,H1,I1,r1,ty,q1⟩=>?_);obtain⟨h1,h2⟩:=abH I1 r1 ty;refine⟨T,id,pa,slot,hty,h1,h2,?_⟩;have hA:=ha cpos zq s1 σ H1 _ I1 q1;rw[hs]at hA⊢
 refine ip (by show(false||(backTo cpos (starEach es X.env)).any (·.1))=false;rw[hplain]<;>rfl) (Calls.evalArgs_plain ?_);exact cS hA fun us s2 ⟨vs,H2,I2,r2,q2⟩=>hm zq s2 σ H2 x vs v us Q I2 r1 r2 q2
end
def MtM (X:Cx) (id:String) (r:V->List V->Hp->VK->Prop):Prop:=
 ∀(zq:List (Addr×Obj)) (s:Shared) (σ:St) (H:Hp) (x:V) (xs:List V) (v:Value) (us:List Value) (Q:VK),Inv X zq σ H s->RelV x v->Vals xs us->r x xs H Q->
  wpAny (model X.prog X.w) X.A (call (.builtin id) (v::us)) (EP X zq σ Q) X.xe s
theorem Vals.one:∀{x:V} {us:List Value},Vals [x] us->∃u,us=[u]/\RelV x u
 |_,_,.cons r .nil=>⟨_,rfl,r⟩
section
variable {X:Cx} {zq:List (Addr×Obj)} {σ:St} {H:Hp} {s:Shared} {l b:Addr} {xs ys zs:List V}
theorem Inv.agU {f:Array Value->Array Value} {t':Nat} (I:Inv X zq σ H s) (hH:H l=some (.lst xs))
  (e:s.heap.get? l=some {cls:=.type "list",data:=.seq its.toArray n}) (hf:f its.toArray=its'.toArray) (hv:Vals ys its') (hz:ys.length<=sizeLine):
  Inv X zq σ (upd H l (.lst ys)) {s with heap:=s.heap.update l (Obj.mapSeq f),toks:=t'}:=by
 have q:=PySem.IsL.update e f;rw[hf]at q;refine I.write (x:=l) (e:=l) (by rw[hH];exact trivial) (.inl rfl) (fun b' u hb hu=>(jz s.heap (Obj.mapSeq f) (Ne.symm hb)).trans hu) ⟨_,q⟩ ?_;exact⟨hz,its',_,hv,q⟩
theorem Inv.ah9 (I:Inv X zq σ H s) (hH:H l=some (.lst xs)):xs.length<=sizeLine/\∃(its:List Value) (n:Nat),Vals xs its/\xs.length=its.length/\s.heap.get? l=some {cls:=.type "list",data:=.seq its.toArray n}:=by
 obtain⟨z,its,n,r,e⟩:=I.bR l _ hH;exact⟨z,its,n,r,r.length,e⟩
end
section
variable {X:Cx}
def xR:V->List V->Hp->VK->Prop:=fun x vs H Q=>∃l xs y,x= .ref l/\vs=[y]/\H l=some (.lst xs)/\xs.length<sizeLine/\Q .bG (upd H l (.lst (xs++[y])))
theorem dB:MtM X "list.append" xR:=by
 intro zq s σ H x vs v us Q I rx rv h;obtain⟨l,xs,y,rfl,rfl,hH,hz,q⟩:=h;cases rx;obtain⟨u,rfl,ru⟩:=rv.one;obtain⟨z,its,n,r,hl,e⟩:=I.ah9 hH;refine call_meets F.slot_list_append ⟨_,e,rfl⟩ F.entry_list_append (F.args_list_append_2 _ _) (PySem.list_append l its.toArray n u (by rw[cp];omega)) ⟨e,?_⟩;refine⟨.bG,_,I.agU (its':=its++[u]) hH e (by simp) (r.append (.cons ru .nil)) ?_,rfl,q⟩;rw[br,List.length_singleton];omega
end
end L2
namespace Att
open PySem PySem.W PySem.Calls PyProof.Rows
variable {h:Heap} {n:Nat} {l:OpenLaw} {P:Params}
theorem xD:∀(ns:List Int) (vs:List Value),WellAll P h vs (ns.map WData.int)->IntsAre vs ns:=by
 intro ns
 induction ns with
 |nil=>
  intro vs w;rw[map_nil]at w;cases w;exact .nil
 | cons n ns ih=>
  intro vs w;rw[map_cons]at w;cases w with
  |cons a b=>
   cases a;exact .cons _ _ (ih _ b)
theorem NM (hn:l.most=some n) {args:List WData} {vals:List Value}
  (hpre:l.row.toRowW.claim.pre args=true) (hwl:WellAll P h vals args):
  ∃a vs ns,vals=[Value.ref a]/\args=[WData.list (ns.map WData.int)]/\h.get? a=some {cls:=.type "list",data:=.seq vs.toArray}/\IntsAre vs ns/\ns.length<=n:=by
 have hsh:WShape.hasAll [] args [.list .int]=true:=(pre_splitW hpre).1;have hc:l.pre.holds [] {args:=args}=true:=(pre_splitW hpre).2;obtain⟨d,r,rfl,h1,h2⟩:=hasAllW_cons hsh;obtain rfl:=hasAllW_nil h2;obtain⟨xs,rfl,h3⟩:=hasW_list h1;obtain⟨ns,rfl⟩:=items_int h3;have hlen:ns.length<=n:=by
  unfold OpenLaw.pre at hc;have h4:(WTm.not (.lt (.lit (.int (n:Int))) (.len (.arg 0)))).holds [] {args:=[.list (ns.map .int)]}=true:=by
   have h4:=(holds_andW hc).1;rw[hn]at h4;exact h4
  have h5:=condW_of h4 (w_not (w_lt w_lit (w_len_list (w_arg rfl))));rw[ag]at h5;refine Nat.le_of_not_lt fun q=>?_
  have q':(n:Int)<((ns.length:Nat):Int):=by omega
  first
   |(rw[decide_eq_true q']at h5;exact absurd h5 (by decide))
   |(simp at h5;omega)
 cases hwl with
 |cons w1 w2=>
  cases w2;cases w1 with
  |list ho hall=>exact⟨_,_,ns,rfl,rfl,ho,xD ns _ hall,hlen⟩
theorem M3 (l:OpenLaw) (args:List WData):l.row.toRowW.claim.post args (.bool true) args=true:=
 postW_of (r:=l.row.toRowW) (X:=(true==true))
  (show WShape.has [] (.bool true) .bool=true by first|rfl|decide|simp[WShape.has,WShape.arms,WShape.armsAll])
  (show(WTm.eq .res (.lit (.bool true))).value [] {args:=args,res:=some (.bool true),after:=args}=some (.bool (true==true))from w_eq_bool (w_res rfl) w_lit) rfl
theorem FR {q:Program} {loose:List Str} {XP:(Str->Option Value)->Heap->Prop} {YP:World->Heap->Prop} {d:DefRec}
  (hn:l.most=some n) (hdf:d.params.defaults=[])
  (call:∀(w:World) (jD s₁:Shared) (mg mb:Str->Option Value) (fa:Addr) (o:Obj) (pm cd doc:Value) (a:Addr) (vs:List Value) (ns:List Int),
   Ground q loose [] XP w jD mg mb s₁.heap->YP w s₁.heap->
   s₁.heap.get? fa=some o->o.data= .func (docDef d.name d.params d.body d.scope pm cd doc)->s₁.heap.CodeRec cd d.name->mg d.name=some (.ref fa)->
   s₁.heap.get? a=some {cls:=.type "list",data:=.seq vs.toArray}->IntsAre vs ns->ns.length<=n->s₁.gens= #[]->
   codeAny (model l.prog w) callerA (.call (.ref fa) ⟨[.ref a],[]⟩) (fun r s'=>r= .ok (.ret (.bool true))/\OldK s₁.heap s'.heap/\s'.os=s₁.os/\AllBare s'.gens) s₁):
  WalkO q loose XP YP l.row.toRowW d [] (fun f vs=>PySem.call f vs):=by
 intro w jD s₁ mg mb G Y fa o pm cd doc dV kV ho hd hcd hD hmg hg args vals as hpre hlay hrd hwl hlo;obtain rfl:dV= .none:=Dflts.none hD hdf;obtain rfl:kV= .none:=Dflts.noKw hD;obtain⟨a,vs,ns,rfl,rfl,hobj,hints,hlen⟩:=NM hn hpre hwl;refine enter_call (codeAny_mono (call w jD s₁ mg mb fa o pm cd doc a vs ns G Y ho (fd_plain hd) hcd hmg hobj hints hlen hg) fun r s' hq=>?_);obtain⟨rfl,h2,h3,h4⟩:=hq;exact⟨.inl ⟨.bool true,.bool true,[],rfl,fun _=>rfl,.bool true,M3 l _,fun _=>⟨List.Pairwise.nil,fun _ hm=>(nomatch hm)⟩⟩,h2,h3,h4⟩
end Att
namespace L2
open PySem PySem.Spec PyProof.Rows
variable {f:Addr} {fd:FuncData} {ps:List Str} {k:Nat} {sp:Sp} {qual x:Str}
theorem B6:∀{vs:List Value} {ns:List Int},IntsAre vs ns->Vals (ns.map V.int) vs
 |_,_,.nil=>.nil
 |_,_,.cons n t h=>.cons ⟨t,rfl⟩ (B6 h)
def ab6 (H:Hp):Prop:=∀b,H b=none\/ ∃o xs,H b=some (.UU o (.lst xs))
theorem RW {P:Program} {w:World} {K:Frag} {mg mb:Str->Option Value} {CX:O2} {fa a:Addr} {s₁:Shared} {vs:List Value} {ns:List Int}
  (KX:K.In s₁.heap) (hns:s₁.heap.Ns mainGlobals mg) (hb:s₁.heap.Ns builtinsNs mb) (hbb:∀x:Str,x≠"__name__"->mb x=bootBuiltins x) (hlim:s₁.heap.NoLimit) (hg:s₁.gens= #[])
  (ha:s₁.heap.get? a=some {cls:=.type "list",data:=.seq vs.toArray}) (hi:IntsAre vs ns) (hl:ns.length<=sizeLine) (hr:dW k callerA)
  (F:∀base:Heap,K.In base->base.Ns mainGlobals mg->t7 P w K mg base CX k fa fd [x] sp) (hbind:∀(s:Shared) (u:Value),BindsTo s fd ⟨[u],[]⟩ [(x,u)])
  (hsp:∀H:Hp,ab6 H->gE K H a (ns.map V.int)->sp [.ref a] H (fun v _=>v= .bl true) fun _ _ _=>False)
  (hCX:∀H e s',CX [] H s₁ (fun _ _ _=>False) e s'->False):
  codeAny (model P w) callerA (.call (.ref fa) ⟨[.ref a],[]⟩) (fun r s'=>r= .ok (.ret (.bool true))/\OldK s₁.heap s'.heap/\s'.os=s₁.os/\AllBare s'.gens) s₁:=by
 have rv:=B6 hi;have lenV:=hi.length;have core:∀H:Hp,ab6 H->gE K H a (ns.map V.int)->qW P w H s₁.heap->(∀b,H b≠none->b=a)->(H a≠none->K.lookup a=none)->
   codeAny (model P w) callerA (.call (.ref fa) ⟨[.ref a],[]⟩) (fun r s'=>r= .ok (.ret (.bool true))/\OldK s₁.heap s'.heap/\s'.os=s₁.os/\AllBare s'.gens) s₁:=by
  intro H hO hS bR hA hK;have base_of:∀{b:Addr} {o:Obj},s₁.heap.get? b=some o->H b=none->(ED s₁.heap H).get? b=some o:=fun e n=>PR e n
  have cY:∀{b:Addr} {o:Obj} {es:Array DictEntry} {ep:Nat},s₁.heap.get? b=some o->o.data= .dict es ep->H b=none:=fun{b o es ep} e d=>by
   cases q:H b with
   |none=>rfl
   |some u=>
    have e':b=a:=hA b (by rw[q];simp);subst e';rw[ha]at e;cases e
    have d':Data.seq vs.toArray _=Data.dict es ep:=d;cases d'
  have nsK:∀{b:Addr} {m:Str->Option Value},s₁.heap.Ns b m->(ED s₁.heap H).Ns b m:=fun{b m} ⟨o,es,ep,e,d,r⟩=>⟨o,es,ep,base_of e (cY e d),d,r⟩
  have hKb:K.In (ED s₁.heap H):=fun b o e=>base_of (KX b o e) (by
   cases q:H b with
   |none=>rfl
   |some u=>
    have e':b=a:=hA b (by rw[q];simp);subst e';rw[hK (by rw[q];simp)]at e;cases e)
  have hM:Mod K mg (ED s₁.heap H):=⟨hKb,nsK hns,⟨mb,nsK hb,hbb⟩,let⟨mc,h1,h2⟩:=hlim;⟨mc,nsK h1,h2⟩⟩;have e0:WN P w K mg (ED s₁.heap H) callerA [] s₁ H:=⟨rfl,hM,fun b o e=>V0 e,Nat.le_of_eq (M5 _ _),trivial,fun b hb=>absurd (show b∈([]:List Addr)from hb) (by simp),bR,.of_eq hg⟩;refine codeAny_mono ((F _ hKb (nsK hns)).run callerA [] s₁ H ⟨[.ref a],[]⟩ [.ref a] [.ref a] _ _ hr e0 (hbind s₁ (.ref a)) (.cons rfl .nil) (hsp H hO hS)) fun r s' h=>?_
  cases r with
  |error e=>exact(hCX H e s' h).elim
  | ok fl=>
   cases fl with
   |next=>exact False.elim h
   |brk=>exact False.elim h
   |cont=>exact False.elim h
   | ret u=>
    obtain⟨v,H',os,bare,un,hok',r',q⟩:=h;have q':v= .bl true:=q;subst q';obtain rfl:u=Value.bool true:=r';refine⟨rfl,OldK.of_keep fun b o e=>?_,os,bare⟩;cases q:H b with
    |none=>exact un.keep b o e q (by intro z;exact absurd (show b∈([]:List Addr)from z) (by simp)) (by simp)
    | some u=>
     rcases hO b with z|⟨ob,xs,z⟩
     .rw[q]at z;cases z
     .have z2:=un.zH b ob _ z;obtain⟨e1,_⟩:=bR b _ z;obtain⟨e2,_⟩:=hok' b _ z2;rw[e]at e1;cases e1
      exact e2
 cases hk:K.lookup a with
 |some o=>
  have e:=KX a o hk;rw[ha]at e;cases e;refine core (fun _=>none) (fun _=>.inl rfl) (.inr ⟨_,vs.toArray,_,hk,rfl,rfl,rfl,by rw[cp,lenV];exact hl,by simpa using rv⟩) (fun b u z=>by have z':(none:Option HO)=some u:=z;cases z') (fun b z=>absurd rfl z) fun z=>absurd rfl z
 | none=>
  refine core (fun b=>if b=a then some (.UU {cls:=.type "list",data:=.seq vs.toArray} (.lst (ns.map V.int)))else none) (fun b=>?_) (.inl (.inr ⟨{cls:=.type "list",data:=.seq vs.toArray},ao rfl⟩)) (fun b u z=>?_) (fun b z=>?_) fun _=>hk
  .by_cases hb:b=a
   .exact .inr ⟨_,_,ao hb⟩
   .exact .inl (ai hb)
  .by_cases hb:b=a
   .have z':=(ao hb).symm.trans z;cases z';subst hb;exact⟨ha,by rw[ag];exact hl,vs,_,rv,ha⟩
   .have z':=(ai hb).symm.trans z;cases z'
  .by_cases hb:b=a
   .exact hb
   .exact absurd (ai hb) z
theorem WO {l:PySem.W.OpenLaw} {n:Nat} {q:Program} {loose:List Str} {XP:(Str->Option Value)->Heap->Prop} {YP:World->Heap->Prop} {d:DefRec} {K:Params->Frag} {CX:World->O2} {sp:World->Sp}
  (hn:l.most=some n) (hn2:n<=sizeLine) (hdf:d.params.defaults=[]) (hr:dW k callerA)
  (hY:∀(w:World) (h:Heap),YP w h->(K w.params).In h)
  (F:∀(w:World) (mg:Str->Option Value) (fa:Addr) (h:Heap),(K w.params).In h->h.Ns mainGlobals mg->mg d.name=some (.ref fa)->
   ∃fd:FuncData,(∀(s:Shared) (u:Value),BindsTo s fd ⟨[u],[]⟩ [(x,u)])/\
    ∀base:Heap,(K w.params).In base->base.Ns mainGlobals mg->t7 l.prog w (K w.params) mg base (CX w) k fa fd [x] (sp w))
  (hsp:∀(w:World) (H:Hp) (a:Addr) (ns:List Int),ns.length<=n->ab6 H->gE (K w.params) H a (ns.map V.int)->sp w [.ref a] H (fun v _=>v= .bl true) fun _ _ _=>False)
  (hCX:∀(w:World) (H:Hp) (s:Shared) (e:Value) (s':Shared),CX w [] H s (fun _ _ _=>False) e s'->False):
  PySem.W.WalkO q loose XP YP l.row.toRowW d [] (fun f vs=>PySem.call f vs):=by
 refine Att.FR hn hdf fun w jD s₁ mg mb fa o pm cd doc a vs ns G Y ho hd hcd hmg hobj hints hlen hg=>?_
 have KX:=hY w _ Y;obtain⟨fd,hb,hF⟩:=F w mg fa _ KX G.T.g hmg;exact RW KX G.T.g G.T.b G.T.builtins G.T.nolimit hg hobj hints (gf hlen hn2) hr hF hb (fun H hO hS=>hsp w H a ns hlen hO hS) fun H e s'=>hCX w H s₁ e s'
noncomputable def gT (s:Stmt):Arguments:=match s with
 | .FunctionDef _ a _ _ _ _ _ _ _ _=>a
 |_=>{posonlyargs:=[],args:=[],vararg:=none,kwonlyargs:=[],kw_defaults:=[],kwarg:=none,defaults:=[]}
noncomputable def fH (s:Stmt):List Stmt:=match s with
 | .FunctionDef _ _ b _ _ _ _ _ _ _=>b
 |_=>[]
noncomputable def aS (s:Stmt):Scope:=match s with
 | .FunctionDef _ _ _ _ _ _ sc _ _ _=>sc
 |_=>{kind:=.function,names:=[],isGenerator:=false,isCoroutine:=false}
abbrev UT:O2:=fun _ _ _ _ _ _=>False
abbrev E0:XK:=fun _ _ _=>False
theorem agD {X:Cx}:Passes UT X E0:=fun _ _ _ _ _ _ _ h=>h.elim
structure Fun (K:Frag) (x qual:Str) (st:Stmt) (f:Addr) (fd:FuncData):Prop where
 ex:∃(oc:Value) (od:Option Addr) (kV doc pm:Value) (an:Option Addr) (cdv ct:Value) (osl:Array (Option Value)),
  fd=fnOf x qual (gT st) (fH st) (aS st) .none kV doc pm an cdv ct/\K.lookup f=some ⟨oc,od,.func fd,osl⟩/\codeIn K cdv qual=true
 kp:keepIn K (.ref f)=true
section
variable {P:Program} {w:World} {K:Frag} {mg:Str->Option Value} {base:Heap}
theorem Fun.ok {st:Stmt} {N:List Str} (F:Fun K x qual st f fd) (S:uQ N ps (aS st)) (len:∀vs H Q E,sp vs H Q E->vs.length=ps.length)
  (hbody:∀(cdv:Value) (A:Around) (outer:List Env) (s:Shared) (H:Hp) (vs:List V) (Q:VK) (E:XK),dW k (A.deeper (envOfC qual (aS st) s.heap.objs.size f cdv))->sp vs H Q E->
   ∃t,LL (J9 UT P w K mg base N qual (aS st) f cdv A outer s H E).nox (fH st) t/\t {nx:=fun _ H'=>Q .bG H',rt:=Q} (start N vs) H):t7 P w K mg base UT (k+1) f fd ps sp:=by
 obtain⟨oc,od,kV,doc,pm,an,cdv,ct,osl,rfl,lk,hcd⟩:=F.ex;refine af5 lk hcd S len fun A outer s H vs Q E hr hsp=>?_
 obtain⟨t,h,q⟩:=hbody cdv A outer s H vs Q E hr hsp;exact⟨t,h.nox,q⟩
theorem Fun.binds {st:Stmt} (F:Fun K x qual st f fd)
  (h:∀(kV doc pm:Value) (an:Option Addr) (cdv ct:Value) (us:List Value),us.length=ps.length->bindArgs (fnOf x qual (gT st) (fH st) (aS st) .none kV doc pm an cdv ct) ⟨us,[]⟩=pure (ps.zip us)):Binds K fd ps []:=by
 obtain⟨oc,od,kV,doc,pm,an,cdv,ct,osl,rfl,lk,hcd⟩:=F.ex;exact .all (h kV doc pm an cdv ct)
theorem Z9 {st:Stmt} {oc:Value} {od an:Option Addr} {osl:Array (Option Value)} {kV doc pm cdv ct:Value} (l:K.lookup f=some ⟨oc,od,.func (fnOf x qual (gT st) (fH st) (aS st) .none kV doc pm an cdv ct),osl⟩)
  (c:codeIn K cdv qual=true) (k:keepIn K (.ref f)=true):Fun K x qual st f (fnOf x qual (gT st) (fH st) (aS st) .none kV doc pm an cdv ct):=⟨⟨oc,od,kV,doc,pm,an,cdv,ct,osl,rfl,l,c⟩,k⟩
end
theorem eL {A:Around} (hr:dW k A):A.units+1<cLine:=Nat.lt_of_le_of_lt (Nat.add_le_add_left (by decide:1<=64) _) hr.units
section
variable {X:Cx}
theorem pv (i:Nat) {pos:Pos} (hN:X.N[i]? =some x:=by rfl) (hv:Vis X.env.scope x:=by first|exact Or.inl rfl|exact Or.inr (Or.inl rfl)|exact Or.inr (Or.inr rfl)) (hd:(x==("__debug__":Str))=false:=by decide)
  (hcd:(x==("__classdict__":Str))=false:=by decide):PE X (.Name x pos) (yX i):=Z6 hN hv hd hcd
end
def aT (H H':Hp):Prop:=∀b o,H b=some o->H' b=some o
theorem aT.refl (H:Hp):aT H H:=fun _ _ h=>h
end L2
set_option maxHeartbeats 4000000
namespace L2
open PySem PySem.Spec PyProof.Rows
variable {C:Addr} {X:Cx} {env:Env} {tg:Expr} {H H2:Hp} {zq:List (Addr×Obj)} {cl:List (Str×Addr)} {fp:List Addr} {P:Program} {K:Frag} {scope:Scope} {s2:Shared} {σ:St} {w:World}
theorem sT:∀(names:List (Str×NameKind)) (acc:List (Str×Addr)),(∀p∈names,p.2= .free->∃c,env.cells.lookup p.1=some c)->
  (∀y c,acc.lookup y=some c->env.cells.lookup y=some c)->
  ∃cl,(forIn names acc (fun(p:Str×NameKind) (cs:List (Str×Addr))=>if(p.2==NameKind.free)=true then(do let a<-cellOf env p.1;pure (ForInStep.yield ((p.1,a)::cs)))else(pure (ForInStep.yield cs):Sem _)):Sem _)=pure cl/\
   (∀y c,cl.lookup y=some c->env.cells.lookup y=some c)/\(∀y,(acc.lookup y).isSome=true->(cl.lookup y).isSome=true)/\∀y,(y,NameKind.free)∈names->(cl.lookup y).isSome=true
 |[],acc,_,h=>⟨acc,rfl,h,fun _ z=>z,fun _ z=>nomatch z⟩
 | (n,k)::r,acc,hf,h=>by
  by_cases hk:k= .free
  .subst hk;obtain⟨c,hc⟩:=hf (n,.free) bh rfl;obtain⟨cl,e,h1,h2,h3⟩:=sT r ((n,c)::acc) (fun p hp=>hf p (ba _ hp)) (fun y d hd=>by
    rw[lookup_cons]at hd;cases q:y==n with
    |true=>rw[q]at hd;cases hd;rw[eq_of_beq q];exact hc
    |false=>rw[q]at hd;exact h y d hd)
   refine⟨cl,?_,h1,fun y hy=>h2 y ?_,fun y hy=>?_⟩
   .rw[forIn_cons];have e0:cellOf env n=pure c:=by unfold cellOf;rw[hc]
    simp only[gj,if_true,e0,pure_bind];exact e
   .rw[lookup_cons];cases q:y==n with
    |true=>rfl
    |false=>exact hy
   .rcases bw.mp hy with q|q
    .cases q;refine h2 n ?_;rw[lookup_cons,gj];rfl
    .exact h3 y q
  .obtain⟨cl,e,h1,h2,h3⟩:=sT r acc (fun p hp=>hf p (ba _ hp)) h;refine⟨cl,?_,h1,h2,fun y hy=>?_⟩
   .rw[forIn_cons];have e0:(k==NameKind.free)=false:=by simpa using hk
    simp only[e0,false_eq_true,if_false,pure_bind];exact e
   .rcases bw.mp hy with q|q
    .cases q;exact absurd rfl hk
    .exact h3 y q
theorem k8 {env:Env} {scope:Scope} (hf:∀p∈scope.names,p.2= .free->∃c,env.cells.lookup p.1=some c):
  ∃cl,closureFor scope env=pure cl/\(∀y c,cl.lookup y=some c->env.cells.lookup y=some c)/\∀y,(y,NameKind.free)∈scope.names->(cl.lookup y).isSome=true:=by
 obtain⟨cl,e,h1,_,h3⟩:=sT (env:=env) scope.names [] hf (fun y c h=>by simp at h);refine⟨cl,?_,h1,h3⟩;unfold closureFor;have e':=dq (fun m:Sem (List (Str×Addr))=>m>>=fun cs=>pure cs) e;simp only[pure_bind]at e';rw[<-e']
structure adH where
 cl:List (Str×Addr)
 C:Addr
 s:Shared
 H:Hp
 ex:List Addr
noncomputable def bJ (X:Cx) (scope:Scope) (N:List Str) (c:adH):Cx:=
 {X with N:=N,jD:=c.s,S5:=c.H,env:=compEnvC scope c.cl c.C X.env,outer:=X.stack,stack:=X.stack,ex:=c.ex,fn:=fun _=>false,pn:=[],xe:=fun _ _=>False}
noncomputable def gG (k:Nat) (cap:List Nat) (σ:St):St:=List.replicate k none++cap.map fun i=>(σ[i]?).getD none
def ZQ:TT:=fun _ H Q=>Q true H
section
variable {prog:Program} {w:World} {A:Around} {R:Result->Shared->Prop} {s:Shared}
theorem BL {elt target iter:Expr} {ifs:List Expr} {pos:Pos} {it acc:Value} (I:Nat->Shared->Prop)
  (turn:∀n s,I n s->wpAny (model prog w) A (pyNext it) (fun r s₁=>match r with
   |none=>R (.ok .next) s₁
   | some v=>wpAny (model prog w) A (letOwnedTupleGo target it v) (fun _ s₁'=>wpAny (model prog w) A (assign target env v) (fun _ s₂=>
     wpAny (model prog w) A (forIn ifs true fun c r=>if r=true then do let ok<-isTrue c env (eval c env);pure (ForInStep.yield ok)else pure (ForInStep.yield r)) (fun ok s₃=>
      if ok=true then wpAny (model prog w) A (eval elt env) (fun x s₄=>
       wpAny (model prog w) A (call (.builtin "list.append") [acc,x]) (fun _ s₅=>∃m,m<n/\I m s₅) (fun _ _=>False) s₄) (fun _ _=>False) s₃
      else∃m,m<n/\I m s₃) (fun _ _=>False) s₂) (fun _ _=>False) s₁') (fun _ _=>False) s₁) (fun _ _=>False) s)
  (n:Nat) (h:I n s):
  codeAny (model prog w) A (.compLoop (.ListComp elt [⟨target,iter,ifs,0⟩] scope pos) 0 it acc env) R s:=by
 refine codeAny_loop rfl I (fun n s hI=>?_) n h;show wpAny _ A ((compTurn (.ListComp elt [⟨target,iter,ifs,0⟩] scope pos) 0 it acc env).onRaise (fun x=>do noteFrame x env;theTreesLotGoes x)) _ _ s;refine wpAny_noted ?_;refine dy (E:=fun _ _=>False) ?_ (fun _ _ q=>q) (fun _ _ z=>z.elim);rw[compTurn_list];refine ae (wpAny_standAt (ae (dy (turn n s hI) (fun r s₁ h₁=>?_) fun _ _ h'=>h')));cases r with
 |none=>exact au h₁
 | some v=>
  refine ae (dy h₁ (fun _ s₁' h₁'=>?_) fun _ _ h'=>h');refine ae (dy h₁' (fun _ s₂ h₂=>ae (dy h₂ (fun ok s₃ h₃=>?_) fun _ _ h'=>h')) fun _ _ h'=>h');cases ok with
  |false=>exact au ⟨rfl,h₃⟩
  |true=>
   exact ae (ae (dy h₃ (fun x s₄ h₄=>ae (dy h₄ (fun _ s₅ h₅=>au (au ⟨rfl,h₅⟩)) fun _ _ h'=>h')) fun _ _ h'=>h'))
end
def YT (X:Cx) (ifs:List Expr) (t:TT):Prop:=
 ∀(zq:List (Addr×Obj)) (s:Shared) (σ:St) (H:Hp) (Q:Bool->Hp->Prop),Inv X zq σ H s->t σ H Q->
  wpAny (model X.prog X.w) X.A (forIn ifs true fun c r=>if r=true then do let ok<-isTrue c X.env (eval c X.env);pure (ForInStep.yield ok)else pure (ForInStep.yield r)) (TP X zq σ Q) X.xe s
theorem cP:YT X [] ZQ:=fun zq s σ H Q I h=>wpAny_tests_nil ⟨H,I,h⟩
theorem m6 {c:Expr} {t:TT} (h:PT X c t):YT X [c] t:=fun zq s σ H Q I hq=>wpAny_tests_one (h zq s σ H Q I hq)
theorem e8 {env:Env}:∀{names:List (Str×NameKind)} {x:Str},names.lookup x=some .free->
  (names.map fun(n,k)=>if(k==NameKind.free && env.scope.kind== .function && env.kindOf n==some .cell)then(n,NameKind.cell)else(n,k)).lookup x=some .cell\/
  (names.map fun(n,k)=>if(k==NameKind.free && env.scope.kind== .function && env.kindOf n==some .cell)then(n,NameKind.cell)else(n,k)).lookup x=some .free
 |[],_,h=>by simp at h
 | (n,k)::r,x,h=>by
  have ih:= @e8 env r x;show List.lookup x ((if(k==NameKind.free && env.scope.kind== .function && env.kindOf n==some .cell)=true then(n,NameKind.cell)else(n,k))::_)=_\/ List.lookup x ((if(k==NameKind.free && env.scope.kind== .function && env.kindOf n==some .cell)=true then(n,NameKind.cell)else(n,k))::_)=_;cases hx:x==n with
  |true=>
   simp only[lookup_cons,hx]at h;cases h
   by_cases hc:(NameKind.free==NameKind.free && env.scope.kind== .function && env.kindOf n==some .cell)=true
   .rw[ao hc];left;simp only[lookup_cons,hx]
   .rw[ai hc];right;simp only[lookup_cons,hx]
  |false=>
   simp only[lookup_cons,hx]at h
   by_cases hc:(k==NameKind.free && env.scope.kind== .function && env.kindOf n==some .cell)=true
   .rw[ao hc];simp only[lookup_cons,hx];exact ih h
   .rw[ai hc];simp only[lookup_cons,hx];exact ih h
theorem kI {env:Env}:∀{names:List (Str×NameKind)} {x:Str},(∀y∈names,y.2≠ .cell)->
  ((names.map fun(n,k)=>if(k==NameKind.free && env.scope.kind== .function && env.kindOf n==some .cell)then(n,NameKind.cell)else(n,k)).lookup x=some .cell\/
  (names.map fun(n,k)=>if(k==NameKind.free && env.scope.kind== .function && env.kindOf n==some .cell)then(n,NameKind.cell)else(n,k)).lookup x=some .free)->(x,NameKind.free)∈names
 |[],_,_,h=>by simp at h
 | (n,k)::r,x,hn,h=>by
  have ih:= @kI env r x (fun y hy=>hn y (ba _ hy));have h':List.lookup x ((if(k==NameKind.free && env.scope.kind== .function && env.kindOf n==some .cell)=true then(n,NameKind.cell)else(n,k))::(r.map fun(n,k)=>if(k==NameKind.free && env.scope.kind== .function && env.kindOf n==some .cell)then(n,NameKind.cell)else(n,k)))=some .cell\/ List.lookup x ((if(k==NameKind.free && env.scope.kind== .function && env.kindOf n==some .cell)=true then(n,NameKind.cell)else(n,k))::(r.map fun(n,k)=>if(k==NameKind.free && env.scope.kind== .function && env.kindOf n==some .cell)then(n,NameKind.cell)else(n,k)))=some .free:=h;cases hx:x==n with
  | true=>
   have e:=eq_of_beq hx;subst e
   by_cases hc:(k==NameKind.free && env.scope.kind== .function && env.kindOf x==some .cell)=true
   .have hk:k= .free:=by
     have:=(cj _ _|>.mp ((cj _ _|>.mp hc).1)).1;exact eq_of_beq this
    subst hk;exact bh
   .rw[ai hc]at h';simp only[lookup_cons,hx]at h';have hk:=hn (x,k) bh;rcases h' with z|z
    .exact absurd (Option.some.inj z) hk
    .rw[Option.some.inj z];exact bh
  |false=>
   refine ba _ (ih ?_)
   by_cases hc:(k==NameKind.free && env.scope.kind== .function && env.kindOf n==some .cell)=true
   .rw[ao hc]at h';simp only[lookup_cons,hx]at h';exact h'
   .rw[ai hc]at h';simp only[lookup_cons,hx]at h';exact h'
def aeC (J:It) (g:TG) (tt:TT) (te:TE) (l:Addr) (σ0:St) (H0:Hp) (Q:VK):Prop:=
 ∃W:Nat->Nat->St->Hp->Prop,(∃m,W 0 m σ0 H0)/\
   ∀i m σ' H2,W i m σ' H2->(J.stop i H2/\Q (.ref l) H2)\/ (J.go i H2/\∃N:St->Hp->Prop,(∀σ3 H3,N σ3 H3->∃m',m'<m/\W (i+1) m' σ3 H3)/\
    ∀x H3,J.yld i H2 x H3->g x σ' H3 fun σ4 H4=>tt σ4 H4 fun b H5=>if b=true then te σ4 H5 fun y H6=>∃xs,H6 l=some (.lst xs)/\xs.length<sizeLine/\N σ4 (upd H6 l (.lst (xs++[y])))else N σ4 H5)
def A9 (wi:TI) (k:Nat) (cap:List Nat) (g:TG) (tt:TT) (te:TE):TE:=fun σ H Q=>wi σ H fun J H1=>∀l,H1 l=none->aeC J g tt te l (gG k cap σ) (upd H1 l (.lst [])) Q
structure gM (X:Cx) (scope:Scope) (N:List Str) (k:Nat) (cap:List Nat):Prop where
 kind:scope.kind= .function
 names:∀y∈scope.names,y.2= .local->scope.names.lookup y.1=some .local
 cell:∀y∈scope.names,y.2≠ .cell
 free:∀y∈scope.names,y.2= .free->X.env.kindOf y.1=some .cell\/ X.env.kindOf y.1=some .free
 len:N.length=k+cap.length
 cap:∀j i,cap[j]? =some i->∃y,N[k+j]? =some y/\X.N[i]? =some y/\scope.names.lookup y=some .free
theorem BI {k:Nat} {cap:List Nat} {σ:St} {j:Nat} {v:V} (h:(gG k cap σ)[j]? =some (some v)):∃q i,j=k+q/\cap[q]? =some i/\σ[i]? =some (some v):=by
 unfold gG at h
 by_cases hj:j<k
 .rw[ke (by simpa using hj),lb]at h;split at h<;>cases h
 .rw[jv (by simpa using hj),gu,aq]at h;cases q:cap[j - k]? with
  |none=>rw[q]at h;cases h
  |some i=>
   rw[q]at h;have h':(σ[i]?).getD none=some v:=Option.some.inj h;refine⟨j - k,i,by omega,q,?_⟩;cases r:σ[i]? with
   |none=>rw[r]at h';cases h'
   |some o=>rw[r]at h';have:o=some v:=h';rw[this]
theorem qW.but {h h':Heap} (x:qW P w H h) (hC:H C=none) (k:∀b o,b≠C->h.get? b=some o->h'.get? b=some o):qW P w H h':=fun b u e=>by
 have nit:∀b u,H b=some u->b≠C:=fun b u e z=>by rw[z,hC]at e;cases e
 refine(x b u e).aK (fun c v hc q=>k c v ?_ q) (fun _ q=>q) fun _ _ q=>q
 rcases hc with z|z
 .rw[z];exact nit b u e
 .exact nit c _ z
section
variable {X:Cx} {elt tg iter:Expr} {ifs:List Expr} {scope:Scope} {pos:Pos} {wi:TI} {g:TG} {tt:TT} {te:TE} {N:List Str} {k:Nat} {cap:List Nat}
theorem yE (S:gM X scope N k cap) (I2:Inv X zq σ H2 s2)
  (hcl1:∀y c,cl.lookup y=some c->X.env.cells.lookup y=some c) (hcl2:∀y,(y,NameKind.free)∈scope.names->(cl.lookup y).isSome=true) (hC:s2.heap.objs.size<=C)
  (hf:∀b∈fp,tS X zq H2 b) (ho:∀b∈fp,b<s2.heap.objs.size):(bJ X scope N ⟨cl,C,s2,H2,fp⟩).Ok where
 mod:=I2.ok.mod
 kind:=S.kind
 glob:=I2.ok.glob
 blt:=I2.ok.blt
 above:=hC
 inj:=fun x y c h1 h2=>I2.ok.inj x y c (hcl1 x c h1) (hcl1 y c h2)
 has:=fun x h=>by
  have h':(x,NameKind.free)∈scope.names:=kI (env:=X.env) S.cell h;exact jy.mp (hcl2 x h')
 cab:=fun _ _ z=>by cases z
 hd:=I2.ok.hd
 frames:=I2.ok.frames
 stk:=.inl rfl
 exf:=fun b hb=>⟨cn (du (ho b hb) hC),fun x c e=>(hf b hb).2.2.2.2.1 x c (hcl1 x c e)⟩
 bs:=I2.bs
 XY:=gf I2.ok.XY I2.sz
 NK:=fun b o e hb=>by
  rcases(hf b hb).2.2.2.1 with z|z
  .exact I2.ok.NK b o e z
  .exact absurd (du (cm e) (gf I2.ok.XY z)) (jm _)
 FC:=fun b hb hb'=>by
  rcases bw.mp (I2.HZ b hb')with z|z
  .exact(hf b hb).2.1 z
  .exact(hf b hb).2.2.1 z
 wW:=I2.stack
 frf:=I2.LB
theorem MD {h1:Heap} {tk:Nat} {m0:Str->Option Value} (S:gM X scope N k cap) (I2:Inv X zq σ H2 s2)
  (hcl1:∀y c,cl.lookup y=some c->X.env.cells.lookup y=some c) (hcl2:∀y,(y,NameKind.free)∈scope.names->(cl.lookup y).isSome=true) (hC:C=s2.heap.objs.size+1)
  (hf:∀b∈fp,tS X zq H2 b) (ho:∀b∈fp,b<s2.heap.objs.size) (hk:∀b o,s2.heap.get? b=some o->h1.get? b=some o) (hD:h1.get? s2.heap.objs.size=some {cls:=.type "list",data:=.seq #[] 0}) (hns:h1.Ns C m0):
  Inv (bJ X scope N ⟨cl,C,s2,H2,fp⟩) [] (gG k cap σ) (upd H2 s2.heap.objs.size (.lst [])) {s2 with heap:=h1,toks:=tk}:=by
 have fr:H2 s2.heap.objs.size=none:=I2.bR.fresh (bc _);have hCf:H2 C=none:=I2.bR.fresh (hC▸jg _);refine⟨yE S I2 hcl1 hcl2 (hC▸jg _) hf ho,rfl,I2.bare,Un.laid hk (bc _) fr,⟨m0,hns,fun i y v e1 e2 e3=>?_⟩,fun x c e=>?_,?_,fun x c e=>?_,fun p hp=>absurd (show p∈([]:List (Addr×Obj))from hp) (by simp),I2.bR.laid hk (bc _) ?_,?_⟩
 .obtain⟨q,j,rfl,hj,hv⟩:=BI e2;obtain⟨z,hz1,hz2,hz3⟩:=S.cap q j hj;have e1':N[k+q]? =some y:=e1;rw[hz1]at e1';cases e1';obtain⟨m,hn,hl⟩:=I2.loc;have hfr:=S.free (y,.free) (gm hz3) rfl;obtain⟨u,r,l⟩:=hl j y v hz2 hv (by rcases hfr with z|z;exact .inr (.inl z);exact .inr (.inr z));refine⟨u,r,.inr ⟨e8 (env:=X.env) hz3,?_⟩⟩;obtain⟨c,hc⟩:=jy.mp (hcl2 y (gm hz3));rcases l with⟨hk',_⟩|⟨_,c',hc',hcell⟩
  .rcases hfr with z|z<;>(rw[hk']at z;cases z)
  .have e:=hcl1 y c hc;rw[hc']at e;cases e;obtain⟨o,ho',hd⟩:=hcell;exact⟨_,hc,o,hk _ _ ho',hd⟩
 .obtain⟨v,o,ho',hd⟩:=I2.cell x c (hcl1 x c e);exact⟨v,o,hk _ _ ho',hd⟩
 .show upd H2 s2.heap.objs.size (.lst []) C=none;rw[aX (iw (hC▸jo _))];exact hCf
 .have e':=hcl1 x c e;obtain⟨v,q⟩:=I2.cell x c e';rw[aX (cn q.lt)];exact I2.p4 x c e'
 .exact⟨ic _,[],0,.nil,hD⟩
 .show(gG k cap σ).length=N.length;unfold gG;rw[br,gu,ag,S.len]
theorem XR (hc:X.calm=true) (S:gM X scope N k cap) (hi:PI X tg iter wi) (hg:∀c,PG (bJ X scope N c) tg g) (ht:∀c,YT (bJ X scope N c) ifs tt) (he:∀c,PE (bJ X scope N c) elt te)
  (hs:∀x,foldedSetIterable iter X.env x=pure x:=by intro _;rfl):PE X (.ListComp elt [⟨tg,iter,ifs,0⟩] scope pos) (A9 wi k cap g tt te):=by
 intro zq s σ H Q I h;rw[eval_ListComp];obtain⟨cl,hclos,hcl1,hcl2⟩:=k8 (scope:=scope) (env:=X.env) (fun p hp hf=>I.ok.has p.1 (S.free p hp hf));refine wpAny_comprehension_free (use:=none) rfl hs hclos S.kind S.names (cS (hi zq s σ H _ I h) fun v s1 h1=>cS h1 fun itv s2 h2=>?_);obtain⟨it,fp,tn,J,H2,e,I2,T,st2,f2,q2⟩:=h2;subst e;obtain⟨W,⟨m0,w0⟩,turn⟩:=q2 s2.heap.objs.size (I2.bR.fresh (bc _));have hob:∀b∈fp,b<s2.heap.objs.size:=fun b hb=>let⟨o,e,_⟩:=T.obj _ _ st2 b hb;cm e
 refine dk (wpAny_newFunctionEnv S.cell (by intro y hy;simp at hy) (fun h₁ hns₁ hsb₁=>?_) S.kind);dsimp only at hns₁ hsb₁⊢
 generalize hHH:s2.heap.push {cls:=.type "list",dict:=none,data:=.seq ([]:List Value).toArray}=HH at hns₁ hsb₁⊢
 have hCC:HH.objs.size=s2.heap.objs.size+1:=by rw[<-hHH,ig]
 have old:∀b o,s2.heap.get? b=some o->h₁.get? b=some o:=fun b o e=>hsb₁.extBut b o (cn (hCC▸dw (cm e))) (ah _ (hHH▸ah _ e))
 have hD:h₁.get? s2.heap.objs.size=some {cls:=.type "list",data:=.seq #[] 0}:=hsb₁.extBut _ _ (cn (hCC▸jo _)) (ah _ (hHH▸bz _ rfl));have I4:=fun tk=>MD (tk:=tk) S I2 hcl1 hcl2 hCC f2 hob old hD hns₁
 have X':=bJ X scope N ⟨cl,HH.objs.size,s2,H2,fp⟩;have stat:∀{H':Hp},(∀b∈fp,H' b=none)->∀b∈fp,tS (bJ X scope N ⟨cl,HH.objs.size,s2,H2,fp⟩) [] H' b:=fun hn b hb=>
  ⟨hn b hb,cn (hCC▸dw (hob b hb)),(yE S I2 hcl1 hcl2 (hCC▸jg _) f2 hob).FC b hb,.inl hb,fun x c e=>(f2 b hb).2.2.2.2.1 x c (hcl1 x c e),fun p hp=>absurd (show p∈([]:List (Addr×Obj))from hp) (by simp)⟩
 have loop:∀s₃:Shared,s₃={s2 with heap:=h₁,toks:=s2.toks+([]:List (Str×Value)).length}->
   codeAny (model X.prog X.w) X.A (.compLoop (.ListComp elt [⟨tg,iter,ifs,0⟩] scope pos) 0 (.ref it) (.ref s2.heap.objs.size) (compEnvC scope cl HH.objs.size X.env))
    (compPost (model X.prog X.w) X.A X.xe none (EP X zq σ Q) (.ref s2.heap.objs.size) HH.objs.size) s₃:=by
  rintro s₃ rfl;refine BL (fun n s'=>∃i σ' H',Inv (bJ X scope N ⟨cl,HH.objs.size,s2,H2,fp⟩) [] σ' H' s'/\tn i s'.heap/\(∀b∈fp,H' b=none)/\W i n σ' H') ?_ m0
   ⟨0,gG k cap σ,_,I4 _,T.keep _ _ _ st2 fun b _ o e=>old b o e,fun b hb=>by rw[aX (cn (hob b hb))];exact(f2 b hb).1,w0⟩
  rintro n s3 ⟨i,σ3,H3,I3,st3,fr3,w3⟩;rcases turn i n σ3 H3 w3 with⟨stop,qn⟩|⟨go,NN,hN,step⟩
  .refine cS (T.done (bJ X scope N ⟨cl,HH.objs.size,s2,H2,fp⟩) rfl rfl rfl hc i [] s3 σ3 H3 _ I3 (stat fr3) st3 stop) fun r s4 ⟨hr,J4⟩=>?_
   subst hr;obtain⟨m,hn,_⟩:=J4.loc;refine⟨m,hn,fun h' hs'=>?_⟩;have keepC:∀b o,b≠HH.objs.size->s4.heap.get? b=some o->h'.get? b=some o:=fun b o hb e=>hs'.extBut b o hb e
   have gZ:∀b o,s2.heap.get? b=some o->b≠HH.objs.size:=fun b o e=>cn (hCC▸dw (cm e))
   have u:=J4.base;have u':Un (NW X.stack) fp H2 H3 s2.heap h':=⟨fun b o q n hb hx=>keepC b o (gZ b o q) (u.keep b o q n hb hx),fun b o q n hb hx=>by
     obtain⟨sl,e⟩:=u.slot b o q n hb hx;exact⟨sl,keepC b _ (gZ b o q) e⟩,u.free,fun b o q hx=>by
     obtain⟨o',e⟩:=u.there b o q hx;exact⟨o',keepC b _ (gZ b o q) e⟩,u.AQ,u.zH,u.AV⟩
   refine⟨.ref s2.heap.objs.size,H3,I2.R3 (ch:=fp) J4.os u' (J4.bR.but J4.free keepC) J4.bare fun b hb=>?_,rfl,qn⟩;obtain⟨_,f1,_,f3,f4,f5⟩:=f2 b hb;exact⟨f3,f1,f4,f5⟩
  .refine cS (T.item (bJ X scope N ⟨cl,HH.objs.size,s2,H2,fp⟩) rfl rfl rfl hc i [] s3 σ3 H3 _ I3 (stat fr3) st3 go) fun r s4 ⟨u,hr,h4⟩=>?_
   subst hr;refine cS h4 fun _ s5 ⟨x,H5,I5,r5,y5,st5,fr5⟩=>?_
   have I5':=I5.pinned (stat fr5) (T.obj _ _ st5);have again:∀{s7:Shared} {σ7:St} {H7:Hp},Inv (bJ X scope N ⟨cl,HH.objs.size,s2,H2,fp⟩) ([]++sQ fp s5.heap) σ7 H7 s7->NN σ7 H7->
     ∃m,m<n/\∃i σ' H',Inv (bJ X scope N ⟨cl,HH.objs.size,s2,H2,fp⟩) [] σ' H' s7/\tn i s7.heap/\(∀b∈fp,H' b=none)/\W i m σ' H':=fun{s7 σ7 H7} I7 n7=>by
    obtain⟨m',hm,w7⟩:=hN σ7 H7 n7;refine⟨m',hm,i+1,σ7,H7,I7.mB,T.keep _ _ _ st5 fun b hb o e=>(I7.pin (b,o) (bq _ (bq _ (eJ hb e)))).1,fun b hb=>?_,w7⟩;obtain⟨o,e,d⟩:=T.obj _ _ st5 b hb;exact(I7.pin (b,o) (bq _ (bq _ (eJ hb e)))).2.1
   refine cS (hg _ _ s5 σ3 H5 x u _ I5' r5 (step x H5 y5)) fun _ s6 ⟨σ6,H6,I6,q6⟩=>?_
   refine cS (ht _ _ s6 σ6 H6 _ I6 q6) fun b s7 ⟨H7,I7,q7⟩=>?_
   cases b with
   |false=>exact again I7 q7
   |true=>
    refine cS (he _ _ s7 σ6 H7 _ I7 q7) fun y s8 ⟨yv,H8,I8,r8,xs,hl,hz,n8⟩=>?_
    refine cS (dB _ s8 σ6 H8 (.ref s2.heap.objs.size) [yv] (.ref s2.heap.objs.size) [y] (fun _ H9=>NN σ6 H9) I8 rfl (.cons r8 .nil) ⟨_,xs,yv,rfl,rfl,hl,hz,n8⟩) fun _ s9 ⟨_,H9,I9,_,q9⟩=>?_
    exact again I9 q9
 exact codeAny_compStart_list (loop _ rfl) (T.self X.A 0 _ _ _ (T.keep _ _ _ st2 fun b _ o e=>old b o e) (loop _ rfl))
end
noncomputable def Its (z:Str):It:=⟨fun i _=>i<z.cps.size,fun i H x H'=>H'=H/\∃c,z.cps[i]? =some c/\x= .str ⟨#[c]⟩,fun i _=>z.cps.size<=i⟩
theorem OX (z:Str) (t:Tok) (it:Addr):Turn P w K tg (Its z) [it] it (fun i h=>h.IsStrIter it "str_ascii_iterator" z t i)where
 mem:=by simp
 obj:=fun i h st b hb=>by
  have e:b=it:=by simpa using hb
  subst e;obtain⟨o,e,c,d⟩:=st;exact⟨o,e,fun v z=>by rw[d]at z;cases z⟩
 keep:=fun i h h' st k=>let⟨o,e,r⟩:=st;⟨o,k it (by simp) o e,r⟩
 item:=by
  intro X hP hw hK hc i zq s σ H E I hf st hg;subst hP hw hK;obtain⟨f0,f1,f2,f3,f4,f5⟩:=hf it (by simp);have hg':i<z.cps.size:=hg;refine wpAny_pyNext_ascii_item st (c:=z.cps[i]) (by simp[hg']) fun h' st' sb=>?_
  have I1:Inv X zq σ H {s with heap:=h',toks:=s.toks+1}:=I.turned (fun b o hb e=>(sb.2 b hb).trans e) f0 f1 f3 f4 f5;obtain⟨o,e,c,d⟩:=id st';exact⟨_,rfl,BW (s:={s with heap:=h',toks:=s.toks+1}) e c d (by decide) ⟨.str ⟨#[z.cps[i]]⟩,H,I1,⟨_,rfl⟩,⟨rfl,_,by simp[hg'],rfl⟩,st',fun b hb=>(hf b hb).1⟩⟩
 done:=by
  intro X hP hw hK hc i zq s σ H E I hf st hg;subst hP hw hK;obtain⟨f0,f1,f2,f3,f4,f5⟩:=hf it (by simp);exact wpAny_pyNext_ascii_end (I.ok.hd hc) st (Array.getElem?_eq_none hg) fun h' eb=>⟨rfl,I.turned (t':=s.toks) (fun b o hb e=>eb b o hb e) f0 f1 f3 f4 f5⟩
 self:=fun A i s Q E st h=>by
  refine wpAny_pyIter_slot st.typeIs F.slot_str_ascii_iterator_iter (gv F.slot_str_ascii_iterator_iter st.typeIs F.entry_str_ascii_iterator_iter ?_ (F.args_str_ascii_iterator_iter_1 _));show wpAny _ _ (ret (.ref it)) _ _ s;exact au ⟨_,rfl,"str_ascii_iterator",_,st.typeIs,F.slot_str_ascii_iterator_next.lookup,h⟩
theorem OS (z:Str) (t:Tok) (it:Addr):Turn P w K tg (Its z) [it] it (fun i h=>h.IsStrIter it "str_iterator" z t i)where
 mem:=by simp
 obj:=fun i h st b hb=>by
  have e:b=it:=by simpa using hb
  subst e;obtain⟨o,e,c,d⟩:=st;exact⟨o,e,fun v z=>by rw[d]at z;cases z⟩
 keep:=fun i h h' st k=>let⟨o,e,r⟩:=st;⟨o,k it (by simp) o e,r⟩
 item:=by
  intro X hP hw hK hc i zq s σ H E I hf st hg;subst hP hw hK;obtain⟨f0,f1,f2,f3,f4,f5⟩:=hf it (by simp);have hg':i<z.cps.size:=hg;refine wpAny_pyNext_wide_item st (c:=z.cps[i]) (by simp[hg']) fun h' st' sb=>?_
  have I1:Inv X zq σ H {s with heap:=h',toks:=s.toks+1}:=I.turned (fun b o hb e=>(sb.2 b hb).trans e) f0 f1 f3 f4 f5;obtain⟨o,e,c,d⟩:=id st';exact⟨_,rfl,BW (s:={s with heap:=h',toks:=s.toks+1}) e c d (by decide) ⟨.str ⟨#[z.cps[i]]⟩,H,I1,⟨_,rfl⟩,⟨rfl,_,by simp[hg'],rfl⟩,st',fun b hb=>(hf b hb).1⟩⟩
 done:=by
  intro X hP hw hK hc i zq s σ H E I hf st hg;subst hP hw hK;obtain⟨f0,f1,f2,f3,f4,f5⟩:=hf it (by simp);exact wpAny_pyNext_wide_end (I.ok.hd hc) st (Array.getElem?_eq_none hg) fun h' eb=>⟨rfl,I.turned (t':=s.toks) (fun b o hb e=>eb b o hb e) f0 f1 f3 f4 f5⟩
 self:=fun A i s Q E st h=>by
  refine wpAny_pyIter_slot st.typeIs F.slot_str_iterator_iter (gv F.slot_str_iterator_iter st.typeIs F.entry_str_iterator_iter ?_ (F.args_str_iterator_iter_1 _));show wpAny _ _ (ret (.ref it)) _ _ s;exact au ⟨_,rfl,"str_iterator",_,st.typeIs,F.slot_str_iterator_next.lookup,h⟩
section
variable {X:Cx}
theorem ac8:N2 X (fun x lo hi H Q=>∃z,x= .str z/\z.length<=sizeLine/\Q (.str (Txt.slice z lo hi)) H):=by
 intro zq s σ H x v vl vu lo hi sl Q I rx hs pl pu h;obtain⟨z,rfl,hz,q⟩:=h;obtain⟨t,rfl⟩:=rx;refine⟨"str",_,F.slot_str_getitem.lookup,typeIs_str _ _ _,?_⟩;obtain⟨o,ho,hc,hd⟩:=hs;have fin:∀(t':Tok) (k:Nat),EP X zq σ Q (.str (Txt.slice z lo hi) t') {s with toks:=k}:=fun t' k=>⟨.str (Txt.slice z lo hi),H,I.tok k,⟨t',rfl⟩,q⟩
 have hle:=gf (Txt.slice_le z lo hi) hz;cases pl with
 |none=>cases pu with
  |none=>exact lg (l:=none) (u:=none) (st:=none) ⟨o,ho,hc,hd⟩ rfl (post_val_or_str ⟨hle,fun t' k=>fin t' k⟩)
  |int j uj=>exact lg (l:=none) (u:=some (j,uj)) (st:=none) ⟨o,ho,hc,hd⟩ rfl (post_val_or_str ⟨hle,fun t' k=>fin t' k⟩)
 |int i ui=>cases pu with
  |none=>exact lg (l:=some (i,ui)) (u:=none) (st:=none) ⟨o,ho,hc,hd⟩ rfl (post_val_or_str ⟨hle,fun t' k=>fin t' k⟩)
  |int j uj=>exact lg (l:=some (i,ui)) (u:=some (j,uj)) (st:=none) ⟨o,ho,hc,hd⟩ rfl (post_val_or_str ⟨hle,fun t' k=>fin t' k⟩)
theorem xS:∀{ys:List Str} {its:List Value},Vals (ys.map V.str) its->StrsAre its ys
 |[],_,r=>by cases r;exact .nil
 | y::ys,_,r=>by
  cases r with
  |cons r rr=>
   obtain⟨t,rfl⟩:=r;exact .cons y t (xS rr)
def rJoin (K:Frag):V->List V->Hp->VK->Prop:=fun x vs H Q=>∃z p ys,x= .str z/\vs=[.ref p]/\gE K H p (ys.map V.str)/\(ys.map (·.length)).sum+ys.length*z.length<=16777216/\Q (.str (Txt.join z ys)) H
theorem VX:MtR X "str.join" (rJoin X.K):=by
 intro zq s σ H x vs v us Q I rx rv h;obtain⟨z,p,ys,rfl,rfl,hq,hz,q⟩:=h;obtain⟨t,rfl⟩:=rx;obtain⟨u,rfl,rp⟩:=vals1 rv;cases rp;obtain⟨its,r,pl,_⟩:=I.list hq;exact join_list pl.isList (by simpa using xS r) hz fun t' k=>⟨.str (Txt.join z ys),H,I.tok k,⟨t',rfl⟩,q⟩
theorem uP:kA X (binaryOp .Pow) (rI (fun i j=>0<=j/\(Builtin.Int.intBits i:Int)*j<=2^27) fun i j=>.int (i^j.toNat)):=opI fun _ _ _ _ _ _ _ hc q=>pow_int hc.1 hc.2 q
end
noncomputable def tU (XN:List Str) (xs scope:Scope) (N:List Str) (k:Nat) (cap:List Nat):Bool:=
 scope.kind== .function && (scope.names.all fun y=>y.2 != .local||scope.names.lookup y.1==some .local) && (scope.names.all fun y=>y.2 != .cell) &&
 (scope.names.all fun y=>y.2 != .free||xs.names.lookup y.1==some .cell||xs.names.lookup y.1==some .free) && N.length==k+cap.length &&
 (List.range cap.length).all fun j=>match cap[j]?,N[k+j]? with
  |some i,some y=>XN[i]? ==some y && scope.names.lookup y==some .free
  |_,_=>false
theorem oH {XN:List Str} {xs:Scope} {N:List Str} {k:Nat} {cap:List Nat} (hN:X.N=XN) (hs:X.env.scope=xs) (h:tU XN xs scope N k cap=true):gM X scope N k cap:=by
 subst hN hs;unfold tU at h;simp only[cj,bg,or_eq_true,bne_iff_ne,ne_eq,beq_iff_eq]at h;obtain⟨⟨⟨⟨⟨h1,h2⟩,h3⟩,h4⟩,h5⟩,h6⟩:=h;refine⟨h1,fun y hy e=>(h2 y hy).resolve_left (fun z=>z e),h3,fun y hy e=>?_,h5,fun j i e=>?_⟩
 .rcases h4 y hy with(z|z)|z
  .exact absurd e z
  .exact .inl z
  .exact .inr z
 .have hj:j<cap.length:=(af.mp e).1;have q:=h6 j (mem_range.mpr hj);rw[e]at q;cases r:N[k+j]? with
  |none=>rw[r]at q;cases q
  |some y=>
   rw[r]at q;simp only[cj,beq_iff_eq]at q;exact⟨y,rfl,q.1,q.2⟩
section
variable {X:Cx} {elt tg iter:Expr} {ifs:List Expr} {scope:Scope} {pos:Pos} {wi:TI} {g:TG} {tt:TT} {te:TE} {N:List Str} {k:Nat} {cap:List Nat} {XN:List Str} {xs:Scope}
theorem rL (N:List Str) (k:Nat) (cap:List Nat) (XN:List Str) (xs:Scope) (hc:X.calm=true) (hN:X.N=XN) (hx:X.env.scope=xs) (hi:PI X tg iter wi) (chk:tU XN xs scope N k cap=true)
  (hg:∀c,PG (bJ X scope N c) tg g) (ht:∀c,YT (bJ X scope N c) ifs tt) (he:∀c,PE (bJ X scope N c) elt te)
  (hs:∀x,foldedSetIterable iter X.env x=pure x:=by intro _;rfl):PE X (.ListComp elt [⟨tg,iter,ifs,0⟩] scope pos) (A9 wi k cap g tt te):=XR hc (oH hN hx chk) hi hg ht he hs
end
structure Def (K:Frag) (mg:Str->Option Value) (x:Str) (st:Stmt) (ps:List Str) (f:Addr) (fd:FuncData):Prop where
 F:Fun K x x st f fd
 m:mg x=some (.ref f)
 b:Binds K fd ps []
section
variable {X:Cx} {x:Str} {st:Stmt} {ps:List Str} {f:Addr} {fd:FuncData} {j k:Nat} {sp:Sp} {e:Expr} {es:List Expr} {t:TA} {p pos:Pos}
theorem af7 (D:Def X.K X.mg x st ps f fd) (G:t7 X.prog X.w X.K X.mg X.base UT j f fd ps sp) (hr:dW k X.A) (hjk:j<=k) (hg:Gl X x) (ha:PA X (e::es) t) (hdb:(x==("__debug__":Str))=false:=by decide)
  (he:starEach (e::es) X.env=(false,eval e X.env)::starEach es X.env:=by rfl) (hpl:(backTo pos (starEach es X.env)).any (·.1)=false:=by rfl):
  PE X (.Call (.Name x p) (e::es) [] pos) (BY sp [] E0 t):=WG G (hr.mono hjk) hg D.m D.F.kp D.b .nil agD ha hdb he hpl
end
theorem Vals.get':∀{xs:List V} {us:List Value} {i:Nat} {u:Value},Vals xs us->us[i]? =some u->∃x,xs[i]? =some x/\RelV x u
 |_,_,_,_,.nil,h=>by simp at h
 |_,_,0,_,.cons r _,h=>by simp at h;subst h;exact⟨_,rfl,r⟩
 |_,_,i+1,_,.cons _ t,h=>Vals.get' (i:=i) t (by simpa using h)
theorem AG:bootBuiltins "isinstance"=some (.builtin "isinstance"):=by decide+kernel
theorem jU:bootBuiltins "len"=some (.builtin "len"):=by decide+kernel
theorem sF:bootBuiltins "min"=some (.builtin "min"):=by decide+kernel
theorem gJ:bootBuiltins "sorted"=some (.builtin "sorted"):=by decide+kernel
theorem UC:bootBuiltins "int"=some (.type "int"):=by decide+kernel
theorem SW:bootBuiltins "str"=some (.type "str"):=by decide+kernel
theorem DO:bootBuiltins "list"=some (.type "list"):=by decide+kernel
theorem dM:bootBuiltins "tuple"=some (.type "tuple"):=by decide+kernel
theorem K4:bootBuiltins "dict"=some (.type "dict"):=by decide+kernel
theorem DG:bootBuiltins "enumerate"=some (.type "enumerate"):=by decide+kernel
theorem adF:bootBuiltins "zip"=some (.type "zip"):=by decide+kernel
theorem aT.upd {l:Addr} {o:HO} (h:H l=none):aT H (upd H l o):=fun b u e=>by rw[aX (bX e h)];exact e
theorem szt {n:Nat} (h:n<16777216):n<sizeLine:=by rw[PySem.sizeLine_eq];exact h
theorem VU (z:Str):z.cps.toList.length=z.length:=by simp[Str.length]
theorem QF {z:Str} {d:Int} (h0:0<=d) (h:d<(z.length:Int)):∃c,c∈z.cps.toList/\rK z.cps.toList d=some c:=by
 obtain⟨j,rfl⟩:∃j:Nat,d=(j:Int):=⟨d.toNat,by omega⟩;have hj:j<z.cps.toList.length:=by have e:=VU z;omega
 exact⟨z.cps.toList[j],getElem_mem hj,iP (by simp[hj])⟩
theorem XT {α:Type} {xs:List α} {d:Int} (h0:0<=d) (h:d<(xs.length:Int)):∃c,c∈xs/\rK xs d=some c:=by
 obtain⟨j,rfl⟩:∃j:Nat,d=(j:Int):=⟨d.toNat,by omega⟩;have hj:j<xs.length:=by omega
 exact⟨xs[j],getElem_mem hj,iP (by simp[hj])⟩
def E6 (K:Frag):Sp:=fun vs H Q _=>∃(a:Addr) (ns:List Int),vs=[.ref a]/\gE K H a (ns.map V.int)/\ns.length<=63/\∀H',Q (.bl true) H'
end L2
namespace PySem
open Sem (wp)
open AutoSeq1 (wpAny_loadPart')
variable {it l:Addr} {i:Nat} {Q:Value->Shared->Prop}
section
variable {prog:Program} {w:World} {A:Around} {E:Value->Shared->Prop} {s:Shared}
theorem nC {t:Addr} {items} {x:Value} (hit:s.heap.IsTupleIter it t i)
  (ht:s.heap.IsTuple t items) (hx:items[i]? =some x)
  (hQ:∀h',h'.IsTupleIter it t (i+1)->Heap.SameBut it s.heap h'->Q x {s with heap:=h'}):
  wpAny (model prog w) A (Builtin.SmallTypes.nextOf (.ref it)) Q E s:=by
 obtain⟨o,ho,hc,hd⟩:=id hit;obtain⟨ol,hol,_,nl,hdl⟩:=ht;unfold Builtin.SmallTypes.nextOf;refine ae (jj (name:=Str.ofString "__next__") hit.typeIs jw
  (gv jw hit.typeIs F.entry_tuple_iterator_next ?_ (F.args_tuple_iterator_next_1 _)))
 show wpAny _ _ (field (.ref it) 0>>=_) _ _ s;refine ae (jd ho hd (x:=.ref t) rfl ?_);show wpAny _ _ (if(Value.ref t==Value.none)=true then _ else _) _ _ s;rw[ai (show¬((Value.ref t==Value.none)=true)from ax)];show wpAny _ _ (field (.ref it) 1>>=_) _ _ s;refine ae (jd ho hd (x:=.int i 0) rfl ?_);show wpAny _ _ (seqItems? (.ref t)>>=_) _ _ s;refine ae (gn hol hdl ?_);simp only[toNat_natCast,hx];refine ae (wpAny_setField ho hd (by simp) (au ⟨x,rfl,au (hQ _ ?_ (Heap.SameBut.update ..))⟩));exact⟨_,ko _ ho (Obj.isFreed_of_fields (Obj.data_mapFields hd _)),(Obj.cls_mapFields ..).trans hc,by
  rw[Obj.data_mapFields hd];simp[rawInt]⟩
theorem o8 {items} (hh:A.handled=none)
  (hit:s.heap.IsTupleIter it l i) (hl:s.heap.IsTuple l items) (hx:items[i]? =none)
  (hE:∀h' e,Heap.ExtBut it s.heap h'->(∃o,h'.get? e=some o/\o.cls= .type "StopIteration")->E (.ref e) {s with heap:=h'}):
  wpAny (model prog w) A (Builtin.SmallTypes.nextOf (.ref it)) Q E s:=by
 obtain⟨o,ho,hc,hd⟩:=id hit;obtain⟨ol,hol,_,nl,hdl⟩:=hl;unfold Builtin.SmallTypes.nextOf;refine ae (jj (name:=Str.ofString "__next__") hit.typeIs jw
  (gv jw hit.typeIs F.entry_tuple_iterator_next ?_ (F.args_tuple_iterator_next_1 _)))
 show wpAny _ _ (field (.ref it) 0>>=_) _ _ s;refine ae (jd ho hd (x:=.ref l) rfl ?_);show wpAny _ _ (if(Value.ref l==Value.none)=true then _ else _) _ _ s;rw[ai (show¬((Value.ref l==Value.none)=true)from ax)];show wpAny _ _ (field (.ref it) 1>>=_) _ _ s;refine ae (jd ho hd (x:=.int i 0) rfl ?_);show wpAny _ _ (seqItems? (.ref l)>>=_) _ _ s;refine ae (gn hol hdl ?_);simp only[toNat_natCast,hx];refine ae (wpAny_rule (ae (wpAny_setField ho hd (by simp) ?_)));show wpAny _ _ (newExc (.type "StopIteration") []>>=_) _ _ _;refine ae ?_;simp only[newExc,newTuple];refine ae (dk ?_ (by size_fits));refine ae (m:=firstArgMember _ _) (wpAny_of_eq (a:=Value.none) (by first|rfl|(simp only[firstArgMember];rfl)) ?_);refine dk ?_ (by size_fits);simp only[raiseNew];refine ae (wpAny_handled ?_)
 first|rw[show A.in1.handled=none from hh]|rw[hh]
 refine ae (au (wpAny_throw ?_));exact hE _ _ (((Heap.SameBut.update ..).extBut.push _).push _) ⟨_,bz _ rfl,rfl⟩
end
theorem mH {prog:Program} {w:World} {A:Around} (hh:A.handled=none) (it l:Addr) (hne:l≠it) (items:Array Value):
  Draws prog w A it [it,l] items.size (fun i v=>items[i]? =some v) (fun i h=>h.IsTupleIter it l i/\h.IsTuple l items)where
 live:=fun _ _ st=>let⟨o,ho,_⟩:=st.1;⟨o,ho⟩
 frame:=fun _ _ _ st hk=>⟨st.1.at fun o e=>hk it (by simp) o e,let⟨o,e,r⟩:=st.2;⟨o,hk l (by simp) o e,r⟩⟩
 item:=fun i s Q E hi st hQ=>by
  refine nC st.1 st.2 (x:=items[i]) (by simp[hi]) fun h' hit' hs'=>?_
  exact hQ _ h' s.toks (by simp[hi]) ⟨hit',st.2.extBut hs'.extBut hne⟩ hs'
 done:=fun s Q E st hE=>o8 hh st.1 st.2 (by simp) hE
theorem kD (l:Addr) (items:Array Value) (n:Nat) (aZ:Option Addr) (sl:Array (Option Value)):
  Meets (Builtin.«enumerate.__new__» ⟨[.type "enumerate",.ref l],[]⟩) (fun _ R s=>s.heap.get? l=some {cls:=.type "tuple",dict:=aZ,data:=.seq items n,slots:=sl}/\
   R (.ok (.ret (.ref (s.heap.push {cls:=.type "tuple_iterator",data:=.fields #[.ref l,.int 0 0]}).objs.size)))
    {s with heap:=(s.heap.push {cls:=.type "tuple_iterator",data:=.fields #[.ref l,.int 0 0]}).push {cls:=.type "enumerate",data:=.fields #[.none,.bool false,.ref s.heap.objs.size,rawInt 0,.none,.none]}}):=
 .of_wp fun prog w A R s h=>by
  obtain⟨hp,g,d,tk,os⟩:=s;obtain⟨hl,h⟩:=h
  have hsub:=sub_enumerate;have hL:Heap.IsTuple (Shared.heap ⟨hp,g,d,tk,os⟩) l items:=⟨_,hl,rfl,n,rfl⟩
  wp_walk using wpAny_loadPart' hl
  refine wpAny_stack_any fun st=>au ?_
  split
  .rename_i c _ _ _ _ _;cases(c==Value.type "enumerate")
   .wp_walk using wpAny_loadPart' hl,jq hL
    exact⟨_,rfl,h⟩
   .wp_walk using wpAny_loadPart' hl,jq hL
    exact⟨_,rfl,h⟩
  .wp_walk using wpAny_loadPart' hl,jq hL
   exact⟨_,rfl,h⟩
section
variable {prog:Program} {w:World} {A:Around} {E:Value->Shared->Prop} {s:Shared}
theorem kE {items:Array Value} (hL:s.heap.IsTuple l items)
  (h:∀h',IsEnum h' (s.heap.objs.size+1) s.heap.objs.size 0 .none->h'.IsTupleIter s.heap.objs.size l 0->h'.objs.size=s.heap.objs.size+2->
   (∀b o,s.heap.get? b=some o->h'.get? b=some o)->Q (.ref (s.heap.objs.size+1)) {s with heap:=h'}):
  wpAny (model prog w) A (call (.type "enumerate") [.ref l]) Q E s:=by
 obtain⟨⟨c,aZ,dt,sl⟩,hl,hc,n,hd⟩:=hL;replace hc:c= .type "tuple":=hc;replace hd:dt= .seq items n:=hd;subst hc hd;refine callType_new F.called_enumerate (by decide) (F.typeCall_enumerate_1 _) (F.newCall_enumerate_1 _) (fun obj=>F.args_object_init_2 obj _) F.entry_enumerate_new
  (kD l items n aZ sl) ⟨hl,?_⟩
 have hz:(s.heap.push {cls:=.type "tuple_iterator",data:=.fields #[.ref l,.int 0 0]}).objs.size=s.heap.objs.size+1:=ig ..;show _/\_;rw[hz];have he:IsEnum ((s.heap.push {cls:=.type "tuple_iterator",data:=.fields #[.ref l,.int 0 0]}).push
   {cls:=.type "enumerate",data:=.fields #[.none,.bool false,.ref s.heap.objs.size,rawInt 0,.none,.none]}) (s.heap.objs.size+1) s.heap.objs.size 0 .none:=by
  have:=bz (s.heap.push {cls:=.type "tuple_iterator",data:=.fields #[.ref l,.int 0 0]})
   (o:={cls:=.type "enumerate",data:=.fields #[.none,.bool false,.ref s.heap.objs.size,rawInt 0,.none,.none]}) rfl
  rw[hz]at this;exact this
 refine⟨⟨_,he,rfl⟩,h _ he ⟨_,ah _ (bz _ rfl),rfl,rfl⟩ (by rw[ig,hz]) fun b o x=>ah _ (ah _ x)⟩
end
end PySem
namespace L2
open PySem PySem.Spec PyProof.Rows
variable {X:Cx} {h':Heap} {H:Hp} {zq:List (Addr×Obj)} {fp:List Addr} {es:List Expr} {t':Nat} {pos:Pos} {K:Frag} {s:Shared} {σ:St}
theorem Inv.CH (I:Inv X zq σ H s) (k:∀b o,b∉fp->s.heap.get? b=some o->h'.get? b=some o) (hf:∀b∈fp,tS X zq H b):
  Inv X zq σ H {s with heap:=h',toks:=t'}:=by
 have nit:∀b u,H b=some u->b∉fp:=fun b u e z=>by rw[(hf b z).1]at e;cases e
 refine I.step (g':=s.gens) (d':=s.drawn) (ch:=fp) (fun b hb=>?_) (fun b o _ _ hc e _=>k b o hc e) (fun b o _ _ hc e _=>⟨o.slots,k b o hc e⟩) (fun _ _ _ _ n=>n)
  (fun b o hc e=>⟨o,k b o hc e⟩) (fun _ _ e=>e) (fun _ _ _ e=>e) (fun b ps e=>⟨#[],by rw[e];simp⟩) (fun m hm=>?_) (fun b u e=>?_) I.bare
 .obtain⟨_,f1,_,f3,f4,f5⟩:=hf b hb;exact⟨f3,f1,f4,f5⟩
 .obtain⟨o,es,ep,ho,r⟩:=hm;exact⟨o,es,ep,k _ o (fun z=>(hf _ z).2.1 rfl) ho,r⟩
 .refine(I.bR b u e).aK (fun c v hc q=>k c v ?_ q) (fun _ q=>q) fun _ _ q=>q
  rcases hc with z|z
  .rw[z];exact nit b u e
  .exact nit c _ z
theorem Inv.un2 {xs:List V} (I:Inv X zq σ H s) (k:∀b o,b∉fp->s.heap.get? b=some o->h'.get? b=some o) (hf:∀b∈fp,tS X zq H b)
  (hfr:H s.heap.objs.size=none) (hno:s.heap.objs.size∉fp) (new:dQ X.prog X.w (upd H s.heap.objs.size (.tup xs)) h' s.heap.objs.size (.tup xs)) (ht:∀b∈fp,∀o,s.heap.get? b=some o->∃o',h'.get? b=some o'):
  Inv X zq σ (upd H s.heap.objs.size (.tup xs)) {s with heap:=h',toks:=t'}:=by
 have nit:∀b u,H b=some u->b∉fp:=fun b u e z=>by rw[(hf b z).1]at e;cases e
 have nT:∀b o,s.heap.get? b=some o->b≠s.heap.objs.size:=fun b o e=>cn (cm e)
 refine I.step (g':=s.gens) (d':=s.drawn) (ch:=fp) (fun b hb=>?_) (fun b o _ _ hc e _=>k b o hc e) (fun b o _ _ hc e _=>⟨o.slots,k b o hc e⟩) (fun b o _ e n=>by rw[aX (nT b o e)];exact n)
  (fun b o hc e=>⟨o,k b o hc e⟩) (fun b ys e=>by rw[aX (bX e hfr)];exact e) (fun b o u e=>by rw[aX (bX e hfr)];exact e) (fun b ps e=>⟨#[],by rw[aX (bX e hfr),e];simp⟩) (fun m hm=>?_) (fun b u e=>?_) I.bare
 .obtain⟨_,f1,_,f3,f4,f5⟩:=hf b hb;exact⟨f3,f1,f4,f5⟩
 .obtain⟨o,es,ep,ho,r⟩:=hm;exact⟨o,es,ep,k _ o (fun z=>(hf _ z).2.1 rfl) ho,r⟩
 .by_cases hb:b=s.heap.objs.size
  .subst hb;rw[aU]at e;cases e;exact new
  .rw[aX hb]at e;refine(I.bR b u e).aK (fun c v hc q=>k c v ?_ q) (fun c q=>by rw[aX (bX q hfr)];exact q) fun c ys q=>by rw[aX (bX q hfr)];exact q
   rcases hc with z|z
   .rw[z];exact nit b u e
   .exact nit c _ z
noncomputable def Ite (K:Frag) (a:Addr):It:=
 ⟨fun i H=>∃xs x,rB K H a xs/\xs[i]? =some x,fun i H v H'=>∃t,H t=none/\v= .ref t/\∀xs,rB K H a xs->∃x,xs[i]? =some x/\H'=upd H t (.tup [.int i,x]),fun i H=>∃xs,rB K H a xs/\xs.length=i⟩
theorem KQ {P:Program} {w:World} {elts:List Expr} {x1} (a it e:Addr) (hei:e≠it):Turn P w K (.Tuple elts x1 pos) (Ite K a) [e,it] e (fun i h=>(∃old,IsEnum h e it i old)/\h.IsTupleIter it a i)where
 mem:=by simp
 obj:=fun i h st b hb=>by
  obtain⟨⟨old,he⟩,o,ho,c,d⟩:=st;rcases bw.mp hb with z|z
  .subst z;exact⟨_,he,fun v z=>by cases z⟩
  .have z:b=it:=by simpa using z
   subst z;exact⟨o,ho,fun v z=>by rw[d]at z;cases z⟩
 keep:=fun i h h' st k=>⟨let⟨old,he⟩:=st.1;⟨old,k e (by simp) _ he⟩,st.2.at fun o q=>k it (by simp) o q⟩
 item:=by
  intro X hP hw hK hc i zq s σ H E I hf st hg;subst hP hw hK;obtain⟨xs,x,hq,hx⟩:=hg;obtain⟨its,rv,p,hz⟩:=I.tuple hq;obtain⟨u,hu,ru⟩:=rv.get hx;obtain⟨⟨old,he⟩,ht⟩:=st;have hne:a≠it:=fun z=>by
   obtain⟨o,ho,c,_⟩:=ht;obtain⟨o',ho',c',_⟩:=p;subst z;rw[ho]at ho';cases ho'
   rw[c]at c';exact absurd (Value.type.inj c') (by decide)
  have hae:a≠e:=fun z=>by
   obtain⟨o',ho',c',_⟩:=p;subst z;rw[he]at ho';cases ho'
   exact absurd (Value.type.inj c') (by decide)
  have hlt:i<its.toArray.size:=by have:=(af.mp hu).1;simpa using this
  refine wpAny_pyNext_enum_itemD (mH (A:=X.A.in1) (by exact I.ok.hd hc) it a hne its.toArray) he ⟨ht,p⟩ hlt hei (by simp[hei,Ne.symm hae]) fun v h' tk hPv ho' st' htup hsz hk=>?_
  have ev:v=u:=by
   have h1:its[i]? =some v:=by simpa using hPv
   rw[hu]at h1;exact(Option.some.inj h1).symm
  subst ev;refine⟨_,rfl,wpAny_letOwnedTupleGo_enum (s:={s with heap:=h',toks:=tk+1}) ho' fun h2 he2 sb=>?_⟩;have hTe:s.heap.objs.size≠e:=fun z=>by
   have:=cm he;rw[<-z]at this;exact jm _ this
  have hTi:s.heap.objs.size≠it:=fun z=>by
   obtain⟨o,ho,_⟩:=ht;have:=cm ho;rw[<-z]at this;exact jm _ this
  have hk2:∀b o,b∉[e,it]->s.heap.get? b=some o->h2.get? b=some o:=fun b o hb q=>
   sb.extBut b o (fun z=>hb (by simp[z])) (hk b o (fun z=>hb (by simp[z])) (fun z=>hb (by simp[z])) q)
  have I1:Inv X zq σ H {s with heap:=h2,toks:=tk+1}:=I.CH hk2 hf;have hfr:H s.heap.objs.size=none:=I.bR.fresh (bc _);have htup2:h2.get? s.heap.objs.size=some {cls:=.type "tuple",data:=.seq #[.int i tk,v]}:=sb.extBut _ _ hTe htup;have I2:Inv X zq σ (upd H s.heap.objs.size (.tup [.int i,x])) {s with heap:=h2,toks:=tk+1}:=by
   refine I.un2 hk2 hf hfr (by simp[hTe,hTi]) ⟨by show 2<=sizeLine;decide,[.int i tk,v],.cons ⟨_,rfl⟩ (.cons ru .nil),r6.of htup2⟩ (fun b hb o q=>?_);rcases bw.mp hb with r|r
   .subst r;exact⟨_,he2⟩
   .have r:b=it:=by simpa using r
    subst r;obtain⟨o',ho',_⟩:=st'.1.extBut sb.extBut (Ne.symm hei);exact⟨o',ho'⟩
  refine⟨.ref s.heap.objs.size,_,I2,rfl,⟨s.heap.objs.size,hfr,rfl,fun ys hy=>⟨x,by rw[I.BN hy hq];exact hx,rfl⟩⟩,⟨⟨_,he2⟩,st'.1.extBut sb.extBut (Ne.symm hei)⟩,fun b hb=>?_⟩;have hbT:b≠s.heap.objs.size:=fun z=>by
   rcases bw.mp hb with r|r
   .exact hTe (z▸r)
   .have r:b=it:=by simpa using r
    exact hTi (z▸r)
  rw[aX hbT];exact(hf b hb).1
 done:=by
  intro X hP hw hK hc i zq s σ H E I hf st hg;subst hP hw hK;obtain⟨xs,hq,hx⟩:=hg;obtain⟨its,rv,p,hz⟩:=I.tuple hq;obtain⟨⟨old,he⟩,ht⟩:=st;have hl:=rv.length;have hne:a≠it:=fun z=>by
   obtain⟨o,ho,c,_⟩:=ht;obtain⟨o',ho',c',_⟩:=p;subst z;rw[ho]at ho';cases ho'
   rw[c]at c';exact absurd (Value.type.inj c') (by decide)
  have ei:(i:Nat)=its.toArray.size:=by simp;omega
  subst ei;obtain⟨f0,f1,f2,f3,f4,f5⟩:=hf it (by simp);exact wpAny_pyNext_enum_endD (mH (A:=X.A.in1) (by exact I.ok.hd hc) it a hne its.toArray) he ⟨ht,p⟩ fun h' eb=>⟨rfl,I.turned (t':=s.toks) (fun b o hb e=>eb b o hb e) f0 f1 f3 f4 f5⟩
 self:=fun _ _ _ _ _ st h=>let⟨_,he⟩:=st.1;wpAny_pyIter_enum he h
section
variable {X:Cx} {k:Nat}
theorem ixL (K:Frag) (h:X.K=K:=by rfl):JM X (aaL K):=h▸VL
theorem ixT (K:Frag) (h:X.K=K:=by rfl):JM X (adL K):=h▸abP
theorem slL (K:Frag) (h:X.K=K:=by rfl):N2 X (aaM K):=h▸VO
def SH (K:Frag):List V->Hp->VK->Prop:=fun xs H Q=>∃p ys,xs=[.ref p]/\(gE K H p ys\/ rB K H p ys)/\∀l,H l=none->Q (.ref l) (upd H l (.lst ys))
theorem afM (K:Frag) (h:X.K=K:=by rfl):cK X (.type "list") (SH K):=h▸EL
theorem afS (K:Frag) (h:X.K=K:=by rfl):MtR X "str.join" (rJoin K):=h▸VX
theorem fF (K:Frag) {j:Nat} {t:K3} {n:Nat} (hc:X.calm=true) (h:PGs X es t) (hK:X.K=K:=by rfl)
  (hn:(assignEach es X.env).length=n:=by rfl) (hst:(assignEach es X.env).findIdx? (·.1)=none:=by rfl):PG X (.Tuple es j pos) (XU K n t):=hK▸Z1 hc h hn hst
theorem gO (K:Frag) {o e:Expr} {to:TE} {t:TA} {name:Str} {apos cpos:Pos} {T id:String} {r:V->List V->Hp->VK->Prop} (pa:PlainAttrs T) (slot:Slot T name id) (hty:typeOf (.builtin id)=pure (.type "method_descriptor")) (hm:MtR X id r) (ho:PE X o to) (ha:PA X (e::es) t) (hK:X.K=K:=by rfl)
  (hbase:attributeBase o name X.env (eval o X.env)=eval o X.env:=by rfl)
  (hfew:((backTo cpos (starEach (e::es) X.env)).all (fun x=>!x.1) && (backToKw cpos (keywordEach [] X.env)).all (fun x=>x.1.isSome)
   && decide ((e::es).length+([]:List Keyword).length+(if([]:List Keyword).isEmpty then 0 else 1)<30))=true:=by rfl)
  (hline:(apos.endLine==cpos.line)=true:=by rfl) (hs:starEach (e::es) X.env=(false,eval e X.env)::starEach es X.env:=by rfl) (hplain:(backTo cpos (starEach es X.env)).any (·.1)=false:=by rfl):
  PE X (.Call (.Attribute o name apos) (e::es) [] cpos) (tBM K T r to t):=hK▸aeY pa slot hty hm ho ha hbase hfew hline hs hplain
end
inductive Kd where
 |bG|bl|int|str|lst|tup|aZ
 deriving DecidableEq
noncomputable def Kd.nm:Kd->String
 | .bG=>"NoneType"| .bl=>"bool"| .int=>"int"| .str=>"str"| .lst=>"list"| .tup=>"tuple"| .aZ=>"dict"
theorem abU (k:Kd):kitOne K (.type k.nm) (.type "str")=some (decide (k= .str)):=by cases k<;>kernel_rfl
theorem abK (k:Kd):kitOne K (.type k.nm) (.type "tuple")=some (decide (k= .tup)):=by cases k<;>kernel_rfl
theorem ab2 (k:Kd):kitOne K (.type k.nm) (.type "int")=some (decide (k= .int)||decide (k= .bl)):=by cases k<;>kernel_rfl
theorem XB (k:Kd):kitOne K (.type k.nm) (.type "bool")=some (decide (k= .bl)):=by cases k<;>kernel_rfl
end L2
namespace HT
open PySem PySem.Spec PyProof.Rows
variable {t:Addr} {Q:Value->Shared->Prop}
section
variable {prog:Program} {w:World} {A:Around} {E:Value->Shared->Prop} {s:Shared}
theorem uJ {sl:Addr} {items:Array Value} {vl vu:Value} {lo hi:Option Int} (ht:IsTup s.heap t items) (hs:s.heap.IsSliceOf sl vl vu .none) (pl:IsPart vl lo) (pu:IsPart vu hi)
  (hw:e9 items.size 0 lo=0/\e9 items.size items.size hi=items.size) (h:Q (.ref t) s):wpAny (model prog w) A (getItem (.ref t) (.ref sl)) Q E s:=by
 obtain⟨os,hos,hcs,hds⟩:=id hs;have hTs:s.TypeIs (.ref sl) "slice":=⟨os,hos,hcs⟩;unfold getItem
 try with_reducible refine gd ?_
 first|refine ae (au ?_)|skip
 refine ae (wpAny_sequenceKey ht.typeIs (by decide) ?_);refine ae (jj (name:=Str.ofString "__getitem__") ht.typeIs jb
  (gv jb ht.typeIs entry_tuple_getitem ?_ (args_tuple_getitem _ _)))
 show wpAny _ _ (Builtin.Tuple.tupleItemsOf (.ref t)>>=_) _ _ s;refine ae (tupleItemsOf_ ht ?_);refine ae (wpAny_typeOf hTs ?_);rw[ao (by decide)];refine ae (mK hs pl pu ?_);have hyes:(((e9 items.size 0 lo:Nat):Int)==0 && (1:Int)==1 && (e9 items.size items.size hi - e9 items.size 0 lo)==items.size)=true:=by
  rw[hw.1,hw.2];simp
 show wpAny _ _ (if(((e9 items.size 0 lo:Nat):Int)==0 && (1:Int)==1 && (e9 items.size items.size hi - e9 items.size 0 lo)==items.size)=true then _ else _) _ _ s;rw[ao hyes];refine ae (ae (wpAny_typeOf ht.typeIs (au ?_)));rw[ao (by decide)];refine ae (wpAny_rule ?_)
 first
  |exact au ⟨_,rfl,au h⟩
  |exact ae (au ⟨_,rfl,au h⟩)
theorem VW {b:Addr} {vs ws:List Value} (ht:IsTup s.heap t vs.toArray) (hb:IsTup s.heap b ws.toArray)
  (h0:vs=[]->Q (.ref b) s) (h1:ws=[]->Q (.ref t) s) (h2:vs≠[]->ws≠[]->Q (.ref s.heap.objs.size) {s with heap:=s.heap.push {cls:=.type "tuple",data:=.seq (vs++ws).toArray}})
  (hsz:vs.length+ws.length<=sizeLine):wpAny (model prog w) A (binaryOp .Add (.ref t) (.ref b)) Q E s:=by
 by_cases hv:vs=[]
 .obtain⟨⟨cls,dd,data,sl⟩,ho,hc,n,hd⟩:=id ht;obtain⟨⟨cls2,dd2,data2,sl2⟩,ho2,hc2,n2,hd2⟩:=id hb;simp only at hc hd hc2 hd2;subst hc hd hc2 hd2;exact concat_meets ⟨_,ho,rfl⟩ ⟨_,ho2,rfl⟩ noFill_tuple_add seq_tuple_add slot_tuple_add entry_tuple_add (args_tuple_add_2 _ _)
   (tuple_addW0 t b vs.toArray ws.toArray n n2 dd dd2 sl sl2 (by simp[hv])) ⟨ho,ho2,h0 hv⟩
 .exact VQ ht hb hv h1 (h2 hv) hsz
end
end HT
namespace L2
open PySem PySem.Spec PyProof.Rows
variable {a b l:Addr} {p:Array Nat} {R:Array Nat->Prop} {r r' r'':Bool} {X:Cx} {h':Heap} {H H':Hp} {A:KeyOrd} {zq:List (Addr×Obj)} {xs:List (List Key×Addr×Value)} {kvs:List (List Key×V)} {vs:List Value} {ep i j k m n x:Nat} {ans:Nat->Nat->Bool} {pos py spos:Pos} {P:Program} {s:Shared} {σ:St} {y:Str} {α β:Type} {u:Value} {Q:Value->Shared->Prop} {w:World}
section
variable {X:Cx}
def YV (i j:Int):Prop:=0<j/\j<2^200
theorem zJ:kA X (binaryOp .FloorDiv) (rI YV fun i j=>.int (i / j)):=opI fun i j _ _ _ _ _ hc q=>by
 have h1:(0:Int)<j:=hc.1;have h2:j<2^200:=hc.2;refine floordiv_int (by omega) (by rw[Int.fdiv_eq_ediv_of_nonneg i (by omega)];exact q) (.inl (PyProof.noPylong_of_log2 ?_));have h3:j.natAbs<2^200:=by omega
 have h4:j.natAbs.log2<200:=(Nat.log2_lt (by omega)).mpr h3;omega
end
section
variable {κ:Type} [DecidableEq κ]
noncomputable def eW (kvs:List (κ×V)) (k:κ):Option V:=(kvs.find? fun kv=>decide (kv.1=k)).map (·.2)
noncomputable def putK (kvs:List (κ×V)) (k:κ) (v:V):List (κ×V):=
 if(kvs.any fun kv=>decide (kv.1=k))=true then kvs.map (fun kv=>if kv.1=k then(kv.1,v)else kv)else kvs++[(k,v)]
theorem z8 {p:κ×V} {r:List (κ×V)} {k:κ} (e:p.1=k):eW (p::r) k=some p.2:=by simp[eW,find?_cons,e]
theorem yO {p:κ×V} {r:List (κ×V)} {k:κ} (e:¬p.1=k):eW (p::r) k=eW r k:=by simp[eW,find?_cons,e]
theorem FJ (k:κ):∀kvs:List (κ×V),(kvs.any fun kv=>decide (kv.1=k))=(eW kvs k).isSome
 |[]=>rfl
 |p::r=>by
  rw[any_cons]
  by_cases e:p.1=k
  .simp only[z8 e,decide_eq_true e,Bool.true_or,Option.isSome_some]
  .rw[yO e,decide_eq_false e,Bool.false_or];exact FJ k r
theorem kF (kvs:List (κ×V)) (k:κ) (v:V):(putK kvs k v).length<=kvs.length+1:=by
 unfold putK;split
 .rw[ag];omega
 .rw[br,length_cons,length_nil];omega
theorem w6.mM {o:Option V} {u:Option Value} (r:w6 o u):o.isSome=u.isSome:=by
 cases o with
 |none=>cases u with
  |none=>rfl
  |some _=>exact(show False from r).elim
 |some _=>cases u with
  |none=>exact(show False from r).elim
  |some _=>rfl
theorem w6.getD {o:Option V} {u:Option Value} {d:V} {d':Value} (r:w6 o u) (rd:RelV d d'):RelV (o.getD d) (u.getD d'):=by
 cases o with
 |none=>cases u with
  |none=>exact rd
  |some _=>exact(show False from r).elim
 |some _=>cases u with
  |none=>exact(show False from r).elim
  |some _=>exact r
theorem KV.val {kvs:List (κ×V)} {vs:List (κ×Value)} (r:KV kvs vs) (k:κ):w6 (eW kvs k) (valueAt vs k):=by
 unfold KV at r
 induction r with
 |nil=>exact True.intro
 | @cons p q ps qs h t ih=>
  obtain⟨h1,h2⟩:=h
  by_cases e:p.1=k
  .have e':q.1=k:=h1.symm.trans e;have b:valueAt (q::qs) k=some q.2:=by simp[valueAt,find?_cons,e']
   rw[z8 e,b];exact h2
  .have e':¬q.1=k:=fun z=>e (h1.trans z)
   have b:valueAt (q::qs) k=valueAt qs k:=by simp[valueAt,find?_cons,e']
   rw[yO e,b];exact ih
theorem KV.any {kvs:List (κ×V)} {vs:List (κ×Value)} (r:KV kvs vs) (k:κ):(kvs.any fun kv=>decide (kv.1=k))=vs.any fun kv=>decide (kv.1=k):=by
 unfold KV at r
 induction r with
 |nil=>rfl
 |cons h t ih=>rw[any_cons,any_cons,ih,h.1]
theorem KV.IZ {kvs:List (κ×V)} {vs:List (κ×Value)} (r:KV kvs vs) (k:κ) {y:V} (ry:RelV y u):
  KV (kvs.map fun kv=>if kv.1=k then(kv.1,y)else kv) (vs.map fun kv=>if kv.1=k then(kv.1,u)else kv):=by
 unfold KV at r⊢
 induction r with
 |nil=>exact .nil
 | @cons p q ps qs h t ih=>
  rw[map_cons,map_cons];refine .cons ?_ ih;obtain⟨h1,h2⟩:=h
  by_cases e:p.1=k
  .rw[ao e,ao (h1.symm.trans e)];exact⟨h1,ry⟩
  .rw[ai e,ai (fun z=>e (h1.trans z))];exact⟨h1,h2⟩
theorem KV.put {kvs:List (κ×V)} {vs:List (κ×Value)} (r:KV kvs vs) (k:κ) {y:V} (ry:RelV y u):KV (putK kvs k y) (stored vs k u):=by
 unfold putK stored;rw[r.any k]
 by_cases e:(vs.any fun kv=>decide (kv.1=k))=true
 .rw[ao e,ao e];exact r.IZ k ry
 .rw[ai e,ai e];exact Paired.snoc r ⟨rfl,ry⟩
theorem KV.keys {kvs:List (κ×V)} {vs:List (κ×Value)} (r:KV kvs vs):kvs.map (·.1)=vs.map (·.1):=by
 unfold KV at r
 induction r with
 |nil=>rfl
 |cons h t ih=>rw[map_cons,map_cons,ih,h.1]
theorem KV.length {kvs:List (κ×V)} {vs:List (κ×Value)} (r:KV kvs vs):kvs.length=vs.length:=Paired.length r
end
theorem rD {k:Key} {u:Value} (r:RelV (kV k) u):(bP P w).is k u=true:=by
 cases k with
 |inl i=>obtain⟨t,e⟩:=(show∃t,u=Value.int i t from r);subst e;exact FP P w i t
 |inr x=>obtain⟨t,e⟩:=(show∃t,u=Value.str x t from r);subst e;exact GH P w x t
theorem A7:∀{ks:List Key} {us:List Value},Vals (ks.map kV) us->ItemsAre (bP P w) ks us
 |[],_,r=>by rw[map_nil]at r;cases r;exact .nil
 |k::ks,_,r=>by
  rw[map_cons]at r;cases r with
  |cons h t=>exact .cons (rD h) (A7 t)
abbrev KT (H:Hp):List (List Key×V)->List (List Key×Addr×Value)->Prop:=Paired fun p q=>p.1=q.1/\H q.2.1=some (.tup (p.1.map kV))/\RelV p.2 q.2.2
theorem KT.val (r:KT H kvs xs) (k:List Key):w6 (eW kvs k) ((atKey xs k).map (·.2)):=by
 induction r with
 |nil=>exact True.intro
 | @cons p q ps qs h t ih=>
  obtain⟨h1,_,h2⟩:=h
  by_cases e:p.1=k
  .have e':q.1=k:=h1.symm.trans e;have b:atKey (q::qs) k=some q.2:=by simp[atKey,find?_cons,e']
   rw[z8 e,b];exact h2
  .have e':¬q.1=k:=fun z=>e (h1.trans z)
   have b:atKey (q::qs) k=atKey qs k:=by simp[atKey,find?_cons,e']
   rw[yO e,b];exact ih
theorem KT.IZ (r:KT H kvs xs) (k:List Key) {y:V} (ry:RelV y u):
  KT H (kvs.map fun kv=>if kv.1=k then(kv.1,y)else kv) (xs.map (putAt k u)):=by
 induction r with
 |nil=>exact .nil
 | @cons p q ps qs h t ih=>
  rw[map_cons,map_cons];refine .cons ?_ ih;obtain⟨h1,h2,h3⟩:=h;unfold putAt
  by_cases e:p.1=k
  .rw[ao e,ao (h1.symm.trans e)];exact⟨h1,h2,ry⟩
  .rw[ai e,ai (fun z=>e (h1.trans z))];exact⟨h1,h2,h3⟩
theorem KT.put (r:KT H kvs xs) (k:List Key) {y:V} (hb:H b=some (.tup (k.map kV))) (ry:RelV y u):
  KT H (putK kvs k y) (storedH xs k b u):=by
 have e:(kvs.any fun kv=>decide (kv.1=k))=(atKey xs k).isSome:=by
  rw[FJ,(r.val k).mM,isSome_map]
 unfold putK storedH;rw[e]
 by_cases q:(atKey xs k).isSome=true
 .rw[ao q,ao q];exact r.IZ k ry
 .rw[ai q,ai q];exact Paired.snoc r ⟨rfl,hb,ry⟩
theorem KT.keeps (r:KT H kvs xs) (ht:∀b ys,H b=some (.tup ys)->H' b=some (.tup ys)):KT H' kvs xs:=
 Paired.ZV r fun _ _ z=>⟨z.1,ht _ _ z.2.1,z.2.2⟩
def CB (H:Hp) (a:Addr) (kvs:List (Key×V)):Prop:=∃ep,Rd H a (.dK kvs ep)
def y7 (H:Hp) (a:Addr) (kvs:List (Key×V)):Prop:=∃ep,H a=some (.dK kvs ep)
theorem y7.rd {kvs:List (Key×V)} (h:y7 H a kvs):CB H a kvs:=let⟨ep,e⟩:=h;⟨ep,.inl e⟩
theorem y7.mut {kvs:List (Key×V)} (h:y7 H a kvs):Mut (H a):=by obtain⟨_,e⟩:=h;rw[e];exact True.intro
section
variable {P:Program} {w:World} {H:Hp} {h:Heap} {a:Addr}
theorem YZ {u:HO} (ok:qW P w H h) (e:Rd H a u):dQ P w H h a u:=e.ok ok
theorem yG {kvs:List (Key×V)} (ok:qW P w H h) (e:Rd H a (.dK kvs ep)):kvs.length<=sizeLine/\(a==sysModules)=false/\∃vs,KV kvs vs/\h.DictAt (bP P w) a vs ep:=
 show dQ P w H h a (.dK kvs ep)from YZ ok e
theorem hJ {kvs:List (Key×V)} (ok:qW P w H h) (e:CB H a kvs):kvs.length<=sizeLine/\(a==sysModules)=false/\∃vs,KV kvs vs/\h.DictOf (bP P w) a vs:=
 let⟨_,e⟩:=e;let⟨z,y,vs,r,d⟩:=yG ok e;⟨z,y,vs,r,d.dictOf⟩
theorem Q7 {kvs:List (Key×V)} (ok:qW P w H h) (e:y7 H a kvs):kvs.length<=sizeLine/\(a==sysModules)=false/\∃vs,KV kvs vs/\h.DictOf (bP P w) a vs:=hJ ok e.rd
theorem sE {ks:List Key} (ok:qW P w H h) (e:H a=some (.tup (ks.map kV))):(tupleKind (bP P w)).is h ks a:=by
 obtain⟨_,its,r,⟨o,h1,h2,n,h3⟩,_⟩:=(show dQ P w H h a (.tup (ks.map kV))from ok a _ e);exact⟨o,its.toArray,n,h1,h2,h3,by simpa using A7 r⟩
theorem wH {kvs:List (List Key×V)} (ok:qW P w H h) (e:Rd H a (.dT kvs)):kvs.length<=sizeLine/\(a==sysModules)=false/\
  ∃xs,KT H kvs xs/\h.DictOfH (tupleKind (bP P w)) a xs:=by
 obtain⟨z,y,xs,r,o,es,ep,h1,h2,h3,h4,h5⟩:=(show dQ P w H h a (.dT kvs)from YZ ok e);refine⟨z,y,xs,r,o,es,ep,h1,h2,h3,h4,fun x hx=>?_,h5⟩;have all:∀{l:List (List Key×V)} {m:List (List Key×Addr×Value)},KT H l m->∀x∈m,(tupleKind (bP P w)).is h x.1 x.2.1:=by
  intro l m q
  induction q with
  |nil=>intro x hx;exact nomatch hx
  | @cons p q ps qs hq t ih=>
   intro x hx;rcases bw.mp hx with e|hx
   .subst e;exact sE ok (by rw[<-hq.1];exact hq.2.1)
   .exact ih x hx
 exact all r x hx
theorem aeO (ok:qW P w H h) (e:H a=some (.dT kvs)):kvs.length<=sizeLine/\(a==sysModules)=false/\
  ∃xs,KT H kvs xs/\h.DictOfH (tupleKind (bP P w)) a xs:=wH ok (.inl e)
end
def C2 (H:Hp) (a:Addr) (y:V) (r:Option V):Prop:=
 (∃kvs k,CB H a kvs/\y=kV k/\r=eW kvs k)\/ ∃kvs k b,Rd H a (.dT kvs)/\y= .ref b/\H b=some (.tup (k.map kV))/\r=eW kvs k
def aeI (H:Hp) (a:Addr) (y v:V) (Q:Hp->Prop):Prop:=
 (∃kvs k,y7 H a kvs/\y=kV k/\kvs.length<sizeLine/\∀ep,Q (upd H a (.dK (putK kvs k v) ep)))\/
 ∃kvs k b,H a=some (.dT kvs)/\y= .ref b/\H b=some (.tup (k.map kV))/\kvs.length<sizeLine/\Q (upd H a (.dT (putK kvs k v)))
section
variable {X:Cx} {zq:List (Addr×Obj)} {σ:St} {H:Hp} {s:Shared} {a:Addr} {y v:V} {u r:Value} {o:Option V} {A:Around} {E:Value->Shared->Prop}
theorem Inv.big (I:Inv X zq σ H s):sysModules<s.heap.objs.size:=by
 have h:mainGlobals<s.heap.objs.size:=(I.mod.glob.keeps I.bk).lt;exact lt_trans (by decide) h
theorem N3 (hu:A.units+1<cLine) (I:Inv X zq σ H s) (g:C2 H a y (some v)) (ry:RelV y u) (h:∀w' s',Inv X zq σ H s'->RelV v w'->Q w' s'):
  wpAny (model X.prog X.w) A (getItem (.ref a) u) Q E s:=by
 rcases g with⟨kvs,k,e,ey,l⟩|⟨kvs,k,b,e,ey,eb,l⟩
 .subst ey;obtain⟨z,hd,vs,rel,dd⟩:=hJ I.bR e;obtain⟨w',hw,rw'⟩:=w6.some_of (v:=v) (o:=valueAt vs k) (by rw[l];exact rel.val k);exact wpAny_getItem_of (rD ry) dd.mapOf hw (h w' _ (I.tok _) rw')
 .subst ey;cases(show u=Value.ref b from ry);obtain⟨z,hd,xs,rel,dd⟩:=wH I.bR e;obtain⟨w',hw,rw'⟩:=w6.some_of (v:=v) (o:=(atKey xs k).map (·.2)) (by rw[l];exact rel.val k);obtain⟨p,hp,hp2⟩:=bf.mp hw;refine wpAny_getItem_heap (jr hu) (sE I.bR eb) dd hp ?_;rw[hp2];exact h w' _ (I.tok _) rw'
theorem ah0 (hu:A.units+1<cLine) (I:Inv X zq σ H s) (g:C2 H a y o) (ry:RelV y u) (h:∀s',Inv X zq σ H s'->Q (.bool o.isSome) s'):
  wpAny (model X.prog X.w) A (compareOp .In u (.ref a)) Q E s:=by
 rcases g with⟨kvs,k,e,ey,l⟩|⟨kvs,k,b,e,ey,eb,l⟩
 .subst ey;obtain⟨z,hd,vs,rel,dd⟩:=hJ I.bR e;refine wpAny_in_of (rD ry) hd dd.mapOf ?_;rw[<-(rel.val k).mM,<-l];exact h _ (I.tok _)
 .subst ey;cases(show u=Value.ref b from ry);obtain⟨z,hd,xs,rel,dd⟩:=wH I.bR e;refine wpAny_in_heap (jr hu) (sE I.bR eb) hd dd ?_;have q:=(rel.val k).mM;rw[isSome_map]at q;rw[<-q,<-l];exact h _ (I.tok _)
theorem UW (hu:A.units+1<cLine) (I:Inv X zq σ H s) (g:C2 H a y o) (ry:RelV y u) (h:∀s',Inv X zq σ H s'->Q (.bool (!o.isSome)) s'):
  wpAny (model X.prog X.w) A (compareOp .NotIn u (.ref a)) Q E s:=by
 rcases g with⟨kvs,k,e,ey,l⟩|⟨kvs,k,b,e,ey,eb,l⟩
 .subst ey;obtain⟨z,hd,vs,rel,dd⟩:=hJ I.bR e;refine wpAny_notIn_of (rD ry) hd dd.mapOf ?_;rw[<-(rel.val k).mM,<-l];exact h _ (I.tok _)
 .subst ey;cases(show u=Value.ref b from ry);obtain⟨z,hd,xs,rel,dd⟩:=wH I.bR e;refine wpAny_notIn_heap (jr hu) (sE I.bR eb) hd dd ?_;have q:=(rel.val k).mM;rw[isSome_map]at q;rw[<-q,<-l];exact h _ (I.tok _)
theorem xF {t':Nat} {ob:HO} (I:Inv X zq σ H s) (mu:Mut (H a)) (hs:Heap.SameBut a s.heap h') (he:∃q,h'.get? a=some q) (new:dQ X.prog X.w (upd H a ob) h' a ob):
  Inv X zq σ (upd H a ob) {s with heap:=h',toks:=t'}:=
 I.write (x:=a) (e:=a) mu (.inl rfl) (fun b q hb z=>(hs.2 b hb).trans z) he new
theorem IV {kvs:List (Key×V)} {vs:List (Key×Value)} (z:kvs.length<=sizeLine) (hd:(a==sysModules)=false) (rel:KV kvs vs) (dd:h'.DictAt (bP P w) a vs ep):
  dQ P w H' h' a (.dK kvs ep):=⟨z,hd,vs,rel,dd⟩
theorem OQ {Z:Hp->Prop} {Q:Unit->Shared->Prop} (hu:A.units+1<cLine) (I:Inv X zq σ H s) (g:aeI H a y v Z) (ry:RelV y u) (rv:RelV v r) (h:∀H' s',Inv X zq σ H' s'->Z H'->Q () s'):
  wpAny (model X.prog X.w) A (setItem (.ref a) u r) Q E s:=by
 rcases g with⟨kvs,k,e,ey,l,eH⟩|⟨kvs,k,b,e,ey,eb,l,eH⟩
 .subst ey;obtain⟨z,hd,vs,rel,dd⟩:=Q7 I.bR e;have hz:vs.length<=sizeLine:=by rw[<-rel.length];exact z
  have hl:(putK kvs k v).length<=sizeLine:=by have:=kF kvs k v;omega
  refine wpAny_setItem_pairs (hsz:=hz) (rD ry) dd fun h' dd' hs=>?_
  obtain⟨ep,da⟩:=dd'.dictAt;refine h _ _ ?_ (eH ep);have he:∃q,h'.get? a=some q:=let⟨q,_,_,hq,_⟩:=dd';⟨q,hq⟩
  exact xF I e.mut hs he (IV hl hd (rel.put k rv) da)
 .subst ey;cases(show u=Value.ref b from ry);obtain⟨z,hd,xs,rel,dd⟩:=aeO I.bR e;have hz:xs.length<=sizeLine:=by rw[<-Paired.length rel];exact z
  have hl:(putK kvs k v).length<=sizeLine:=by have:=kF kvs k v;omega
  refine wpAny_setItem_heap (hsz:=hz) (jr hu) (sE I.bR eb) dd fun h' dd' hs=>h _ _ ?_ eH
  obtain⟨q,es,ep,hq,h2,h3,h4,_,h5⟩:=dd';refine xF I (by rw[e];exact True.intro) hs ⟨q,hq⟩ ⟨hl,hd,_,(rel.put k eb rv).keeps fun c ys ec=>?_,q,es,ep,hq,h2,h3,h4,h5⟩;rw[aX (UM ec e (fun z=>nomatch z))];exact ec
end
theorem E4 {y:V} {o:Option V} (I:Inv X zq σ H s) (g:C2 H a y o):s.TypeIs (.ref a) "dict":=by
 rcases g with⟨kvs,k,e,_,_⟩|⟨kvs,k,b,e,_,_,_⟩
 .obtain⟨_,_,vs,_,dd⟩:=hJ I.bR e;exact dd.typeIs
 .obtain⟨_,_,xs,_,dd⟩:=wH I.bR e;exact dd.typeIs
def dN (td ty tv:TE):TS:=fun D σ H=>tv σ H fun v H1=>td σ H1 fun x H2=>ty σ H2 fun y H3=>∃a,x= .ref a/\aeI H3 a y v (D.nx σ)
section
variable {X:Cx} {o i e value:Expr} {pos pos' tpos:Pos} {td ty tv:TE}
theorem cO (hu:X.A.units+1<cLine) (ho:PE X o td) (hi:PE X i ty) (hv:PE X value tv) (hs:swapsWith value (some (.Subscript o i pos')) pos.line X.env=pure false):
  PS X (.Assign [.Subscript o i pos'] value pos) (dN td ty tv):=by
 intro zq s σ H D I h;refine wpAny_Assign_Subscript (cS (hv zq s σ H _ I h) fun r s1 ⟨v,H1,I1,rv,q1⟩=>cS (ho zq s1 σ H1 _ I1 q1) fun u s2 ⟨x,H2,I2,rx,q2⟩=>cS (hi zq s2 σ H2 _ I2 q2) fun iv s3 ⟨y,H3,I3,ry,a,ex,g⟩=>?_) hs;subst ex;obtain rfl:u=Value.ref a:=rx;exact OQ hu I3 g ry rv fun H4 s4 I4 q3=>⟨σ,H4,I4,q3⟩
end
theorem QP (h:Heap) (hb:sysModules<h.objs.size):dQ P w H (h.push {cls:=.type "dict",data:=.dict #[]}) h.objs.size (.dK [] 0):=
 ⟨ic _,kz.mpr (Ne.symm (cn hb)),[],.nil,_, #[],bz _ rfl,⟨rfl,rfl,rfl⟩,rfl,(fun _ he=>by simp at he),PySem.Pairs.nil,jh⟩
def DU:TE:=fun _ H Q=>∀p,H p=none->Q (.ref p) (upd H p (.dK [] 0))
section
variable {X:Cx} {pos:Pos}
theorem eN:PE X (.Dict [] [] pos) DU:=fun zq s σ H Q I h=>
 wpAny_Dict_empty ⟨.ref s.heap.objs.size,_,I.laid (a:=s.heap.objs.size) (o:=.dK [] 0) (t':=s.toks) (fun _ _ q=>ah _ q) (bc _) (QP s.heap I.big),rfl,h _ (I.bR.fresh (bc _))⟩
end
structure M1 (X:Cx) (o:Expr) (m:Str) (apos:Pos) (e:Expr) (cpos:Pos):Prop where
 base:attributeBase o m X.env (eval o X.env)=eval o X.env
 few:((backTo cpos (starEach [e] X.env)).all (fun x=>!x.1) && (backToKw cpos (keywordEach [] X.env)).all (fun x=>x.1.isSome)
  && decide (([e]:List Expr).length+([]:List Keyword).length+(if([]:List Keyword).isEmpty then 0 else 1)<30))=true
 line:(apos.endLine==cpos.line)=true
 trees:backTo cpos (starEach [e] X.env)=[(false,eval e X.env)]
structure M2 (X:Cx) (o:Expr) (m:Str) (apos:Pos) (e f:Expr) (cpos:Pos):Prop where
 base:attributeBase o m X.env (eval o X.env)=eval o X.env
 few:((backTo cpos (starEach [e,f] X.env)).all (fun x=>!x.1) && (backToKw cpos (keywordEach [] X.env)).all (fun x=>x.1.isSome)
  && decide (([e,f]:List Expr).length+([]:List Keyword).length+(if([]:List Keyword).isEmpty then 0 else 1)<30))=true
 line:(apos.endLine==cpos.line)=true
 trees:backTo cpos (starEach [e,f] X.env)=[(false,eval e X.env),(false,eval f X.env)]
def IsD (H:Hp) (a:Addr):Prop:=(∃kvs,CB H a kvs)\/ ∃kvs,Rd H a (.dT kvs)
theorem JI (I:Inv X zq σ H s) (d:IsD H a):
  s.TypeIs (.ref a) "dict"/\(∀b,Value.ref a= .ref b->∃ob,s.heap.get? b=some ob/\ob.dict=none)/\(a==sysModules)=false:=by
 rcases d with⟨kvs,e⟩|⟨kvs,e⟩
 .obtain⟨_,hd,vs,_,dd⟩:=hJ I.bR e;refine⟨dd.typeIs,fun b q=>?_,hd⟩;cases q;obtain⟨ob,_,_,h1,h2,_⟩:=dd;exact⟨ob,h1,h2.2.1⟩
 .obtain⟨_,hd,xs,_,dd⟩:=wH I.bR e;refine⟨dd.typeIs,fun b q=>?_,hd⟩;cases q;obtain⟨ob,_,_,h1,h2,_⟩:=dd;exact⟨ob,h1,h2.2.1⟩
section
variable {X:Cx} {zq:List (Addr×Obj)} {σ:St} {H:Hp} {s:Shared} {a:Addr} {y d:V} {u r:Value} {o:Option V} {A:Around} {E:Value->Shared->Prop}
theorem abN (hu:A.units+1<cLine) (I:Inv X zq σ H s) (g:C2 H a y o) (ry:RelV y u) (h:∀w' s',Inv X zq σ H s'->RelV (o.getD .bG) w'->Q w' s'):
  wpAny (model X.prog X.w) A (call (.builtin "dict.get") [.ref a,u]) Q E s:=by
 rcases g with⟨kvs,k,e,ey,l⟩|⟨kvs,k,b,e,ey,eb,l⟩
 .subst ey;obtain⟨z,hd,vs,rel,dd⟩:=hJ I.bR e;refine call_meetsIn slot_dict_get dd.typeIs entry_dict_get (PySem.F.args_dict_get_2 _ _) (meets_dict_get (bP X.prog X.w) a (rD ry) hd) ⟨_,dd.mapOf,h _ _ (I.tok _) ?_⟩;rw[l];exact(rel.val k).getD rfl
 .subst ey;cases(show u=Value.ref b from ry);obtain⟨z,hd,xs,rel,dd⟩:=wH I.bR e;refine call_meetsIn slot_dict_get dd.typeIs entry_dict_get (PySem.F.args_dict_get_2 _ _) (meetsH_dict_get (tupleKind (bP X.prog X.w)) a b hd) ⟨jr hu,k,xs,sE I.bR eb,dd,h _ _ (I.tok _) ?_⟩;rw[l];exact(rel.val k).getD rfl
theorem ab7 (hu:A.units+1<cLine) (I:Inv X zq σ H s) (g:C2 H a y o) (ry:RelV y u) (rd:RelV d r) (h:∀w' s',Inv X zq σ H s'->RelV (o.getD d) w'->Q w' s'):
  wpAny (model X.prog X.w) A (call (.builtin "dict.get") [.ref a,u,r]) Q E s:=by
 rcases g with⟨kvs,k,e,ey,l⟩|⟨kvs,k,b,e,ey,eb,l⟩
 .subst ey;obtain⟨z,hd,vs,rel,dd⟩:=hJ I.bR e;refine call_meetsIn slot_dict_get dd.typeIs entry_dict_get (PySem.F.args_dict_get_3 _ _ _) (meets_dict_get_default (bP X.prog X.w) a (rD ry) hd r) ⟨_,dd.mapOf,h _ _ (I.tok _) ?_⟩;rw[l];exact(rel.val k).getD rd
 .subst ey;cases(show u=Value.ref b from ry);obtain⟨z,hd,xs,rel,dd⟩:=wH I.bR e;refine call_meetsIn slot_dict_get dd.typeIs entry_dict_get (PySem.F.args_dict_get_3 _ _ _) (meetsH_dict_get_default (tupleKind (bP X.prog X.w)) a b hd r) ⟨jr hu,k,xs,sE I.bR eb,dd,h _ _ (I.tok _) ?_⟩;rw[l];exact(rel.val k).getD rd
end
def O7 (td ty:TE):TE:=fun σ H Q=>td σ H fun x H1=>∃a,x= .ref a/\IsD H1 a/\ty σ H1 fun y H2=>∃o,C2 H2 a y o/\Q (o.getD .bG) H2
def SF (td ty tx:TE):TE:=fun σ H Q=>td σ H fun x H1=>∃a,x= .ref a/\IsD H1 a/\ty σ H1 fun y H2=>tx σ H2 fun z H3=>∃o,C2 H3 a y o/\Q (o.getD z) H3
section
variable {X:Cx} {o e f:Expr} {apos cpos:Pos} {td ty tx:TE}
theorem yD (hu:X.A.units+1<cLine) (ho:PE X o td) (he:PE X e ty) (m:M1 X o "get" apos e cpos):PE X (.Call (.Attribute o "get" apos) [e] [] cpos) (O7 td ty):=by
 intro zq s σ H Q I h;refine wpAny_Call_method m.base m.few m.line plainAttrs_dict slot_dict_get type_dict_get (cS (ho zq s σ H _ I h) fun u s1 ⟨x,H1,I1,rx,a,ex,d,q1⟩=>?_);subst ex;obtain rfl:u=Value.ref a:=rx;obtain⟨t1,t2,_⟩:=JI I1 d;refine⟨t1,t2,?_⟩;rw[m.trees];refine ip rfl (Calls.evalArgs_plain (jn (cS (he zq s1 σ H1 _ I1 q1) fun iv s2 ⟨y,H2,I2,ry,ov,g,q2⟩=>Calls.spliced_nil ?_)));exact abN hu I2 g ry fun w' s3 I3 rw'=>⟨_,H2,I3,rw',q2⟩
theorem UH (hu:X.A.units+1<cLine) (ho:PE X o td) (he:PE X e ty) (hf:PE X f tx) (m:M2 X o "get" apos e f cpos):PE X (.Call (.Attribute o "get" apos) [e,f] [] cpos) (SF td ty tx):=by
 intro zq s σ H Q I h;refine wpAny_Call_method m.base m.few m.line plainAttrs_dict slot_dict_get type_dict_get (cS (ho zq s σ H _ I h) fun u s1 ⟨x,H1,I1,rx,a,ex,d,q1⟩=>?_);subst ex;obtain rfl:u=Value.ref a:=rx;obtain⟨t1,t2,_⟩:=JI I1 d;refine⟨t1,t2,?_⟩;rw[m.trees];refine ip rfl (Calls.evalArgs_plain (jn (cS (he zq s1 σ H1 _ I1 q1) fun iv s2 ⟨y,H2,I2,ry,q2⟩=>
  jn (cS (hf zq s2 σ H2 _ I2 q2) fun fv s3 ⟨z,H3,I3,rz,ov,g,q3⟩=>Calls.spliced_nil ?_))))
 exact ab7 hu I3 g ry rz fun w' s4 I4 rw'=>⟨_,H3,I4,rw',q3⟩
end
section
variable {X:Cx} {es:List Expr} {te:TE} {t:TA}
theorem ag1 {a b c} (ha:PE X (.Constant a b c) te) (hr:PA X es t):PA X (.Constant a b c::es) (eI te t):=aA ha hr rfl
theorem ah8 {a b} (ha:PE X (.Name a b) te) (hr:PA X es t):PA X (.Name a b::es) (eI te t):=aA ha hr rfl
theorem ahM {a b c d} (ha:PE X (.BinOp a b c d) te) (hr:PA X es t):PA X (.BinOp a b c d::es) (eI te t):=aA ha hr rfl
theorem ahQ {a b c} (ha:PE X (.Subscript a b c) te) (hr:PA X es t):PA X (.Subscript a b c::es) (eI te t):=aA ha hr rfl
end
section
variable {X:Cx} {elt tg iter:Expr} {ifs:List Expr} {scope:Scope} {pos:Pos} {wi:TI} {g:TG} {tt:TT} {te:TE} {N:List Str} {k:Nat} {cap:List Nat}
theorem YM {iy:Nat} (hc:X.calm=true) (hNd:X.N.Nodup) (hiy:X.N[iy]? =some y) (hy:X.env.scope.names.lookup y=some .local)
  (S:gM X scope N k cap) (hi:PI X tg iter wi) (hg:∀c,PG (bJ X scope N c) tg g) (ht:∀c,YT (bJ X scope N c) ifs tt) (he:∀c,PE (bJ X scope N c) elt te)
  (hsw:swapsWith (.ListComp elt [⟨tg,iter,ifs,0⟩] scope pos) (some (.Name y py)) spos.line X.env=pure true)
  (hs:∀x,foldedSetIterable iter X.env x=pure x:=by intro _;rfl):PS X (.Assign [.Name y py] (.ListComp elt [⟨tg,iter,ifs,0⟩] scope pos) spos) (t9 (A9 wi k cap g tt te) (jY iy)):=by
 intro zq s σ H D I h;rw[exec_Assign_Name_used _ _ _ _ hsw];refine ae (wpAny_standAt (ae ?_));obtain⟨cl,hclos,hcl1,hcl2⟩:=k8 (scope:=scope) (env:=X.env) (fun p hp hf=>I.ok.has p.1 (S.free p hp hf));show wpAny _ X.A (do let _<-comprehension (.ListComp elt [⟨tg,iter,ifs,0⟩] scope pos) scope X.env _ (newList []) false (eval iter X.env) (some (assign (.Name y py) X.env))) _ _ s;refine ae (dy (wpAny_comprehension_free (use:=some (assign (.Name y py) X.env)) (Q:=fun _ s'=>SP X zq D .next s') rfl hs hclos S.kind S.names (cS (hi zq s σ H _ I h) fun v s1 h1=>cS h1 fun itv s2 h2=>?_)) (fun _ s' hq=>au (au hq)) fun _ _ e=>e);obtain⟨it,fp,tn,J,H2,e,I2,T,st2,f2,q2⟩:=h2;subst e;obtain⟨W,⟨m0,w0⟩,turn⟩:=q2 s2.heap.objs.size (I2.bR.fresh (bc _));have hob:∀b∈fp,b<s2.heap.objs.size:=fun b hb=>let⟨o,e,_⟩:=T.obj _ _ st2 b hb;cm e
 refine dk (wpAny_newFunctionEnv S.cell (by intro y hy;simp at hy) (fun h₁ hns₁ hsb₁=>?_) S.kind);dsimp only at hns₁ hsb₁⊢
 generalize hHH:s2.heap.push {cls:=.type "list",dict:=none,data:=.seq ([]:List Value).toArray}=HH at hns₁ hsb₁⊢
 have hCC:HH.objs.size=s2.heap.objs.size+1:=by rw[<-hHH,ig]
 have old:∀b o,s2.heap.get? b=some o->h₁.get? b=some o:=fun b o e=>hsb₁.extBut b o (cn (hCC▸dw (cm e))) (ah _ (hHH▸ah _ e))
 have hD:h₁.get? s2.heap.objs.size=some {cls:=.type "list",data:=.seq #[] 0}:=hsb₁.extBut _ _ (cn (hCC▸jo _)) (ah _ (hHH▸bz _ rfl));have I4:=fun tk=>MD (tk:=tk) S I2 hcl1 hcl2 hCC f2 hob old hD hns₁
 have X':=bJ X scope N ⟨cl,HH.objs.size,s2,H2,fp⟩;have stat:∀{H':Hp},(∀b∈fp,H' b=none)->∀b∈fp,tS (bJ X scope N ⟨cl,HH.objs.size,s2,H2,fp⟩) [] H' b:=fun hn b hb=>
  ⟨hn b hb,cn (hCC▸dw (hob b hb)),(yE S I2 hcl1 hcl2 (hCC▸jg _) f2 hob).FC b hb,.inl hb,fun x c e=>(f2 b hb).2.2.2.2.1 x c (hcl1 x c e),fun p hp=>absurd (show p∈([]:List (Addr×Obj))from hp) (by simp)⟩
 have loop:∀s₃:Shared,s₃={s2 with heap:=h₁,toks:=s2.toks+([]:List (Str×Value)).length}->
   codeAny (model X.prog X.w) X.A (.compLoop (.ListComp elt [⟨tg,iter,ifs,0⟩] scope pos) 0 (.ref it) (.ref s2.heap.objs.size) (compEnvC scope cl HH.objs.size X.env))
    (compPost (model X.prog X.w) X.A X.xe (some (assign (.Name y py) X.env)) (fun _ s'=>SP X zq D .next s') (.ref s2.heap.objs.size) HH.objs.size) s₃:=by
  rintro s₃ rfl;refine BL (fun n s'=>∃i σ' H',Inv (bJ X scope N ⟨cl,HH.objs.size,s2,H2,fp⟩) [] σ' H' s'/\tn i s'.heap/\(∀b∈fp,H' b=none)/\W i n σ' H') ?_ m0
   ⟨0,gG k cap σ,_,I4 _,T.keep _ _ _ st2 fun b _ o e=>old b o e,fun b hb=>by rw[aX (cn (hob b hb))];exact(f2 b hb).1,w0⟩
  rintro n s3 ⟨i,σ3,H3,I3,st3,fr3,w3⟩;rcases turn i n σ3 H3 w3 with⟨stop,qn⟩|⟨go,NN,hN,step⟩
  .refine cS (T.done (bJ X scope N ⟨cl,HH.objs.size,s2,H2,fp⟩) rfl rfl rfl hc i [] s3 σ3 H3 _ I3 (stat fr3) st3 stop) fun r s4 ⟨hr,J4⟩=>?_
   subst hr;obtain⟨m,hn,_⟩:=J4.loc;obtain⟨oC,es,ep,hoC,hdC,rC⟩:=hn;have gZ:∀b o,s2.heap.get? b=some o->b≠HH.objs.size:=fun b o e=>cn (hCC▸dw (cm e))
   have szC:s2.heap.objs.size<=HH.objs.size:=hCC▸jg _;have u:=J4.base;have I4x:Inv X zq σ H3 s4:=I2.R3 (ch:=fp) J4.os u J4.bR J4.bare fun b hb=>by
    obtain⟨_,f1,_,f3,f4,f5⟩:=f2 b hb;exact⟨f3,f1,f4,f5⟩
   have lC:HH.objs.size≠X.env.locals:=iw (du I2.lt szC);have I4p:Inv X ((HH.objs.size,oC)::zq) σ H3 s4:=I4x.xW fun p hp=>by
    rcases bw.mp hp with r|r
    .rw[r];exact⟨hoC,J4.free,lC,I2.afV szC,fun v z=>by rw[hdC]at z;cases z⟩
    .exact I4x.pin p (bq _ r)
   show wpAny _ X.A (assign (.Name y py) X.env (.ref s2.heap.objs.size)) _ _ _;refine wpAny_assign_Name (pI I4p hNd hiy (.inl hy) (v:=.ref s2.heap.objs.size) rfl (fun s5 I5=>?_) (.inr hy));have hC5:=I5.pin (HH.objs.size,oC) (bq _ bh);refine⟨m,⟨oC,es,ep,hC5.1,hdC,rC⟩,fun h' hs'=>⟨_,H3,?_,qn⟩⟩;have I6:Inv X zq (σ.set iy (some (.ref s2.heap.objs.size))) H3 s5:=I5.xW fun p hp=>I5.pin p (bq _ (ba _ hp))
   refine I6.turned (it:=HH.objs.size) (t':=s5.toks) (fun b o hb e=>hs'.extBut b o hb e) J4.free lC (.inr (gf I2.sz szC)) (fun x c e=>?_) (fun p hp=>?_)
   .obtain⟨v,q⟩:=I2.cell x c e;exact cn (du q.lt szC)
   .exact gZ p.1 p.2 (I2.pin p hp).1
  .refine cS (T.item (bJ X scope N ⟨cl,HH.objs.size,s2,H2,fp⟩) rfl rfl rfl hc i [] s3 σ3 H3 _ I3 (stat fr3) st3 go) fun r s4 ⟨u,hr,h4⟩=>?_
   subst hr;refine cS h4 fun _ s5 ⟨x,H5,I5,r5,y5,st5,fr5⟩=>?_
   have I5':=I5.pinned (stat fr5) (T.obj _ _ st5);have again:∀{s7:Shared} {σ7:St} {H7:Hp},Inv (bJ X scope N ⟨cl,HH.objs.size,s2,H2,fp⟩) ([]++sQ fp s5.heap) σ7 H7 s7->NN σ7 H7->
     ∃m,m<n/\∃i σ' H',Inv (bJ X scope N ⟨cl,HH.objs.size,s2,H2,fp⟩) [] σ' H' s7/\tn i s7.heap/\(∀b∈fp,H' b=none)/\W i m σ' H':=fun{s7 σ7 H7} I7 n7=>by
    obtain⟨m',hm,w7⟩:=hN σ7 H7 n7;refine⟨m',hm,i+1,σ7,H7,I7.mB,T.keep _ _ _ st5 fun b hb o e=>(I7.pin (b,o) (bq _ (bq _ (eJ hb e)))).1,fun b hb=>?_,w7⟩;obtain⟨o,e,d⟩:=T.obj _ _ st5 b hb;exact(I7.pin (b,o) (bq _ (bq _ (eJ hb e)))).2.1
   refine cS (hg _ _ s5 σ3 H5 x u _ I5' r5 (step x H5 y5)) fun _ s6 ⟨σ6,H6,I6,q6⟩=>?_
   refine cS (ht _ _ s6 σ6 H6 _ I6 q6) fun b s7 ⟨H7,I7,q7⟩=>?_
   cases b with
   |false=>exact again I7 q7
   |true=>
    refine cS (he _ _ s7 σ6 H7 _ I7 q7) fun y s8 ⟨yv,H8,I8,r8,xs,hl,hz,n8⟩=>?_
    refine cS (dB _ s8 σ6 H8 (.ref s2.heap.objs.size) [yv] (.ref s2.heap.objs.size) [y] (fun _ H9=>NN σ6 H9) I8 rfl (.cons r8 .nil) ⟨_,xs,yv,rfl,rfl,hl,hz,n8⟩) fun _ s9 ⟨_,H9,I9,_,q9⟩=>?_
    exact again I9 q9
 exact codeAny_compStart_list (loop _ rfl) (T.self X.A 0 _ _ _ (T.keep _ _ _ st2 fun b _ o e=>old b o e) (loop _ rfl))
theorem fX (N:List Str) (k:Nat) (cap:List Nat) (XN:List Str) (xs:Scope) (hc:X.calm=true) (hN:X.N=XN) (hx:X.env.scope=xs) (hNd:X.N.Nodup) (hiy:X.N[i]? =some y) (hy:X.env.scope.names.lookup y=some .local)
  (hi:PI X tg iter wi) (chk:tU XN xs scope N k cap=true) (hg:∀c,PG (bJ X scope N c) tg g) (ht:∀c,YT (bJ X scope N c) ifs tt) (he:∀c,PE (bJ X scope N c) elt te)
  (hsw:swapsWith (.ListComp elt [⟨tg,iter,ifs,0⟩] scope pos) (some (.Name y py)) spos.line X.env=pure true:=by rfl)
  (hs:∀x,foldedSetIterable iter X.env x=pure x:=by intro _;rfl):PS X (.Assign [.Name y py] (.ListComp elt [⟨tg,iter,ifs,0⟩] scope pos) spos) (t9 (A9 wi k cap g tt te) (jY i)):=
 YM hc hNd hiy hy (oH hN hx chk) hi hg ht he hsw hs
end
section
variable {X:Cx} {es:List Expr} {e:Expr} {te tk tv:TE} {t:TA}
structure UY (X:Cx) (e:Expr) (t:TE):Prop where
 h:PE X e t
structure PD (X:Cx) (es:List Expr) (t:TA):Prop where
 h:PA X es t
theorem ew (h:PE X e te):UY X e te:=⟨h⟩
theorem UE:PD X [] tN:=⟨aD⟩
theorem abJ {a b} (ha:UY X (.Name a b) te) (hr:PD X es t):PD X (.Name a b::es) (eI te t):=⟨ah8 ha.h hr.h⟩
theorem ahG {a b c} (ha:UY X (.Constant a b c) te) (hr:PD X es t):PD X (.Constant a b c::es) (eI te t):=⟨ag1 ha.h hr.h⟩
theorem ahP {a b c d} (ha:UY X (.BinOp a b c d) te) (hr:PD X es t):PD X (.BinOp a b c d::es) (eI te t):=⟨ahM ha.h hr.h⟩
theorem af6 {a b c} (ha:UY X (.Subscript a b c) te) (hr:PD X es t):PD X (.Subscript a b c::es) (eI te t):=⟨ahQ ha.h hr.h⟩
theorem ahH {k} (h:PD X es t):UY X (.Tuple es k pos) (aaN t):=⟨bT h.h⟩
theorem agZ (h:PD X es t):UY X (.List es pos) (R7 t):=⟨dG h.h⟩
end
def OG (A:Around) (s:Shared) (x y:Value) (c:Bool):Prop:=
 ∀(prog:Program) (w:World) (E:Value->Shared->Prop) (Q:Value->Shared->Prop),Q (.bool c) s->wpAny (model prog w) A (richCompare .Lt x y) Q E s
inductive EX (A:Around) (s:Shared) (fin:Bool):List (Value×Value)->Bool->Prop
 |done:EX A s fin [] fin
 |same {p q:Value} {r:List (Value×Value)} {c:Bool}:SeqAt.EqAt A s p q true->EX A s fin r c->EX A s fin ((p,q)::r) c
 |less {p q:Value} {r:List (Value×Value)} {c:Bool}:SeqAt.EqAt A s p q false->OG A s p q c->EX A s fin ((p,q)::r) c
section
open PySem.SeqAt
open PySem.AutoSeq1 (wpAny_loadPart')
open PySem.MeetsSeq PySem.MeetsSeq2 PySem.MeetsSeq3
theorem ZX (l b:Addr) (us vs:Array Value) (n m:Nat) (d1 d2:Option Addr) (k1 k2:Array (Option Value)) (c:Bool):
  Meets (Builtin.«tuple.__lt__» ⟨[.ref l,.ref b],[]⟩) (fun A R s=>s.heap.get? l=some ⟨.type "tuple",d1,.seq us n,k1⟩/\s.heap.get? b=some ⟨.type "tuple",d2,.seq vs m,k2⟩/\
   EX A.in1 s (decide (us.size<vs.size)) (us.toList.zip vs.toList) c/\R (.ok (.ret (.bool c))) s):=
 .of_wp fun prog w A R s h=>by
  obtain⟨hp,gg,dd,tk,os⟩:=s;obtain⟨hl,hb,hx,hr⟩:=h;have f2:=AutoSeq1.sub_tuple_tuple
  wp_walk using wpAny_loadPart' hl,wpAny_loadPart' hb,wpAny_forIn_list _ (fun rest acc s'=>acc.1=none/\s'=⟨hp,gg,dd,tk,os⟩/\EX A.in1 ⟨hp,gg,dd,tk,os⟩ (decide (us.size<vs.size)) rest c) _
  case turn=>
   rintro⟨y,x⟩ rest acc s' ⟨ha,rfl,hx'⟩;cases hx' with
   |same he hrest=>
    refine ae (he prog w _ _ ?_)
    wp_walk
    exact⟨rfl,rfl,hrest⟩
   |less he hlt=>
    refine ae (he prog w _ _ ?_);have hq:=hlt prog w
    wp_walk using hq
    exact⟨_,rfl,by simpa using hr⟩
  case fin=>
   rintro⟨b1,b2⟩ s' ⟨ha,rfl,hx'⟩;simp only at ha;subst ha;cases hx'
   wp_walk
   exact⟨_,rfl,by simpa [Builtin.Tuple.tupleCompareSizes]using hr⟩
  case h=>exact⟨rfl,rfl,hx⟩
end
theorem abE {A:Around} {us vs:Array Value} {c:Bool} (hl:IsTup s.heap l us) (hb:IsTup s.heap b vs) (hu:A.units<cLine) (hx:EX A.in1 s (decide (us.size<vs.size)) (us.toList.zip vs.toList) c):
  OG A s (.ref l) (.ref b) c:=by
 intro prog w E Q q;obtain⟨⟨c1,d1,t1,k1⟩,g1,e1,n,r1⟩:=id hl;obtain⟨⟨c2,d2,t2,k2⟩,g2,e2,m,r2⟩:=id hb;simp only at e1 r1 e2 r2;subst e1 r1 e2 r2;exact richCompare_meets_room (op:=.Lt) ⟨_,g1,rfl⟩ ⟨_,g2,rfl⟩ PySem.F.slot_tuple_lt PySem.F.entry_tuple_lt (PySem.F.args_tuple_lt_2 _ _) (ZX l b us vs n m d1 d2 k1 k2 c) ⟨g1,g2,hx,(fun x=>nomatch x),q⟩ hu
section
open PySem.W
def Al (n:Nat) (P:α->Prop):KasT α->Prop
 | .ret a=>P a
 | .ask i j k=>i<n/\j<n/\∀b,Al n P (k b)
theorem Al.bind {P:α->Prop} {R:β->Prop} {f:α->KasT β}:∀{t:KasT α},Al n P t->(∀a,P a->Al n R (f a))->Al n R (t.bind f)
 | .ret a,h,hf=>hf a h
 | .ask _ _ _,h,hf=>⟨h.1,h.2.1,fun b=>Al.bind (h.2.2 b) hf⟩
def sP (n:Nat) (p:Array Nat):Prop:=p.Perm (List.toArray (List.range n))
theorem sP.lt (h0:0<n) (h:sP n p) (i:Nat):p.getD i 0<n:=by
 by_cases hi:i<p.size
 .have e:p.getD i 0=p[i]:=by simp[Array.getD,hi]
  rw[e];have hm:p[i]∈p:=Array.getElem_mem hi;have:=(h.mem_iff).mp hm;simpa using this
 .have e:p.getD i 0=0:=by simp[Array.getD,hi]
  omega
theorem sP.rev (h:sP n p) (i j:Nat):sP n (kas_rev p i j):=(mirror_perm p i j ((j - i) / 2)).trans h
theorem sP.bub (h:sP n p) (i j:Nat):sP n (bubble p i j):=(bubble_perm p i j).trans h
theorem HX (h0:0<n) (h:sP n p):∀f m,Al n (fun _=>True) (kas_asc p f m)
 |0,m=>trivial
 |f+1,m=>⟨h.lt h0 _,h.lt h0 _,fun b=>by
  cases b with
  |true=>exact trivial
  |false=>exact HX h0 h f (m+1)⟩
theorem xK (h0:0<n):∀f (p:Array Nat) m q,sP n p->Al n (fun r:Array Nat×Nat×Nat=>sP n r.1) (kas_desc f p m q)
 |0,p,m,q,h=>h
 | f+1,p,m,q,h=>⟨h.lt h0 _,h.lt h0 _,fun b=>by
  cases b with
  |true=>
   show Al n _ (if q>0 then _ else _);split
   .exact xK h0 f _ _ _ (h.rev _ _)
   .exact xK h0 f _ _ _ h
  |false=>
   refine⟨h.lt h0 _,h.lt h0 _,fun d=>?_⟩;cases d with
   |true=>exact h
   |false=>exact xK h0 f _ _ _ h⟩
theorem G2 (h0:0<n) (h:sP n p) (m k:Nat):Al n (fun r:Nat×Array Nat=>sP n r.2) (kas_tail3 m k p):=
 (HX h0 (h.rev 0 m) _ _).bind fun _ _=>h.rev 0 m
theorem vV (h0:0<n) (h:sP n p) (m k:Nat):Al n (fun r:Nat×Array Nat=>sP n r.2) (kas_descPart m k p):=by
 refine(xK h0 _ _ _ _ h).bind fun r hr=>?_
 split
 .exact G2 h0 (hr.rev _ _) _ _
 .exact G2 h0 hr _ _
theorem SG (h0:0<n) (h:sP n p) (k:Nat):Al n (fun r:Nat×Array Nat=>sP n r.2) (kas_count k p):=by
 refine(HX h0 h _ _).bind fun m _=>?_
 split
 .exact h
 .split
  .refine⟨h.lt h0 _,h.lt h0 _,fun b=>?_⟩;cases b with
   |true=>exact h
   |false=>exact vV h0 (h.rev _ _) _ _
  .exact vV h0 h _ _
theorem zQ (h0:0<n) (h:sP n p) (k:Nat):∀f l r,Al n (fun _=>True) (kas_place p k f l r)
 |0,_,_=>trivial
 | f+1,l,r=>by
  unfold kas_place;split
  .exact trivial
  .refine⟨h.lt h0 _,h.lt h0 _,fun b=>?_⟩;cases b with
   |true=>exact zQ h0 h k f _ _
   |false=>exact zQ h0 h k f _ _
theorem TY (h0:0<n):∀f (p:Array Nat) k,sP n p->Al n (sP n) (kas_bin f p k)
 |0,_,_,h=>h
 |f+1,p,k,h=>(zQ h0 h k _ _ _).bind fun l _=>TY h0 f _ _ (h.bub _ _)
theorem VN (h0:0<n):Al n (sP n) (kas_sort n):=by
 refine(SG h0 (show sP n _ from Array.Perm.refl _) n).bind fun r hr=>?_
 split
 .exact TY h0 _ _ _ hr
 .exact hr
theorem sP.perm (h:sP vs.length p):(p.toList.map fun i=>vs.getD i Value.none).Perm vs:=by
 have h1:p.toList.Perm (List.range vs.length):=by simpa using Array.perm_iff_toList_perm.mp h
 have h2:=h1.map fun i=>vs.getD i Value.none
 have e:(List.range vs.length).map (fun i=>vs.getD i Value.none)=vs:=by
  apply ext_getElem
  .simp
  .intro i a1 a2;simp[aj a2]
 rw[e]at h2;exact h2
end
section
variable {X:Cx}
theorem iZ:∀{us:List Value} {ss:List Str},StrsAre us ss->Vals (ss.map V.str) us
 |[],_,.nil=>.nil
 |_::_,_,.cons x t r=>.cons ⟨t,rfl⟩ (iZ r)
def JG (K:Frag):List V->Hp->VK->Prop:=fun xs H Q=>∃p ss,xs=[.ref p]/\gE K H p (ss.map V.str)/\ss.length<64/\∀l out,out.Perm ss->sortedS out=true->H l=none->Q (.ref l) (upd H l (.lst (out.map V.str)))
theorem N4 (K:Frag) (hK:X.K=K:=by rfl):cK X (.builtin "sorted") (JG K):=by
 subst hK;intro zq s σ H xs us Q I r ⟨p,ss,e,hq,h64,q⟩;subst e;obtain⟨u,rfl,rx⟩:=vals1 r;cases rx;obtain⟨vs,rv,pl,hz⟩:=I.list hq;have hlen:=rv.length;rw[ag]at hlen hz;refine sorted_strs pl.isList (xS rv) (by omega) fun out ss' h1 h2 h3=>?_
 obtain⟨c,hat⟩:=sortedAll_at s.heap vs out;exact⟨.ref (s.heap.objs.size+1),_,I.laid (t':=s.toks) (o:=.lst (ss'.map V.str)) (fun b o e=>sortedAll_old e) (jg _) ⟨by rw[ag,h2.length_eq];exact hz,out.toList,c,iZ h1,hat⟩,rfl,q _ ss' h2 h3 (I.bR.fresh (jg _))⟩
end
section
open PySem.W
def vL (ans:Nat->Nat->Bool) (P:α->Prop):KasT α->Prop
 | .ret a=>P a
 | .ask i j k=>vL ans P (k (ans i j))
theorem vL.bind {P:α->Prop} {R:β->Prop} {f:α->KasT β}:∀{t:KasT α},vL ans P t->(∀a,P a->vL ans R (f a))->vL ans R (t.bind f)
 | .ret a,h,hf=>hf a h
 | .ask i j k,h,hf=>vL.bind (t:=k (ans i j)) h hf
theorem vL.mono {P R:α->Prop} (hf:∀a,P a->R a):∀{t:KasT α},vL ans P t->vL ans R t
 | .ret a,h=>hf a h
 | .ask i j k,h=>vL.mono hf (t:=k (ans i j)) h
theorem vL.run {P R:α->Prop} {cmp:Nat->Nat->(Bool->Shared->Prop)->Shared->Prop} {G:α->Shared->Prop}
  (hc:∀i j (C:Bool->Shared->Prop),i<n->j<n->C (ans i j) s->cmp i j C s) (hg:∀a,P a->R a->G a s):∀{t:KasT α},Al n P t->vL ans R t->t.kasWp cmp G s
 | .ret a,h,h'=>hg a h h'
 | .ask i j _,h,h'=>hc i j _ h.1 h.2.1 (vL.run hc hg (h.2.2 _) h')
variable (O:KeyOrd) (key:Nat->O.α)
noncomputable def Ky (p:Array Nat) (i:Nat):O.α:=key (p.getD i 0)
def oM (p:Array Nat) (k:Nat):Prop:=∀i j,i<=j->j<k->O.kle (Ky O key p i) (Ky O key p j)
def kZ (p:Array Nat) (k:Nat):Prop:=∀i j,i<=j->j<k->O.kle (Ky O key p j) (Ky O key p i)
noncomputable abbrev LH (i j:Nat):Bool:=O.blt (key i) (key j)
variable {O} {key}
theorem FW {q:Array Nat} (h:p[i]? =q[j]?):Ky O key p i=Ky O key q j:=by
 unfold Ky;rw[Array.getD_eq_getD_getElem?,Array.getD_eq_getD_getElem?,h]
theorem J8 (hj:j<=p.size) (k:Nat):Ky O key (kas_rev p i j) k=if i<=k/\k<j then Ky O key p (i+j - 1 - k)else Ky O key p k:=by
 have e:=getElem?_mirror_all (xs:=p) (i:=i) hj k;split
 .rename_i h;rw[ao h]at e;exact FW e
 .rename_i h;rw[ai h]at e;exact FW e
theorem jR (p:Array Nat) (i j:Nat):(kas_rev p i j).size=p.size:=mirror_size ..
theorem EI (hj:j<=p.size) (he:∀k,i<=k->k<j->Ky O key p k=Ky O key p (j - 1)) (k:Nat):Ky O key (kas_rev p i j) k=Ky O key p k:=by
 rw[J8 hj];split
 .rename_i h;rw[he _ (by omega) (by omega),he k h.1 h.2]
 .rfl
theorem oM.more (h:oM O key p x) (hx:1<=x) (hl:O.kle (Ky O key p (x - 1)) (Ky O key p x)):oM O key p (x+1):=by
 intro i j hij hj
 by_cases h1:j<x
 .exact h i j hij h1
 .have e:j=x:=by omega
  subst e
  by_cases h2:i=j
  .subst h2;exact ij _
  .exact KeyOrd.kle_trans (h i (j - 1) (by omega) (by omega)) hl
theorem kZ.more (h:kZ O key p x) (hx:1<=x) (hl:O.kle (Ky O key p x) (Ky O key p (x - 1))):kZ O key p (x+1):=by
 intro i j hij hj
 by_cases h1:j<x
 .exact h i j hij h1
 .have e:j=x:=by omega
  subst e
  by_cases h2:i=j
  .subst h2;exact ij _
  .exact KeyOrd.kle_trans hl (h i (j - 1) (by omega) (by omega))
theorem QM {p:Array Nat}:∀(f m:Nat),1<=m->oM O key p m->vL (LH O key) (fun r=>m<=r/\r<=m+f/\oM O key p r/\(r=m+f\/ O.klt (Ky O key p r) (Ky O key p (r - 1)))) (kas_asc p f m)
 |0,m,_,h=>⟨bc _,bc _,h,.inl rfl⟩
 | f+1,m,h1,h=>by
  show vL (LH O key) _ (if O.blt (Ky O key p m) (Ky O key p (m - 1))=true then _ else _);cases e:O.blt (Ky O key p m) (Ky O key p (m - 1))with
  |true=>
   rw[ao rfl];exact⟨bc _,by omega,h,.inr e⟩
  |false=>
   rw[ai ax];refine(QM f (m+1) (by omega) (h.more h1 e)).mono fun r ⟨a,b,c,d⟩=>⟨by omega,by omega,c,?_⟩
   rcases d with d|d
   .exact .inl (by omega)
   .exact .inr d
def Eqs (O:KeyOrd) (key:Nat->O.α) (p:Array Nat) (m q:Nat):Prop:=q+1<=m/\∀i,m - (q+1)<=i->i<m->Ky O key p i=Ky O key p (m - 1)
theorem Eqs.none (h:1<=m):Eqs O key p m 0:=⟨by omega,fun i h1 h2=>by rw[show i=m - 1 by omega]⟩
theorem ER:∀(f:Nat) (p:Array Nat) (m q:Nat),1<=m->m+f<=p.size->kZ O key p m->Eqs O key p m q->vL (LH O key) (fun r:Array Nat×Nat×Nat=>r.1.size=p.size/\m<=r.2.1/\r.2.1<=m+f/\kZ O key r.1 r.2.1/\Eqs O key r.1 r.2.1 r.2.2) (kas_desc f p m q)
 |0,p,m,q,_,_,h,he=>⟨rfl,bc _,bc _,h,he⟩
 | f+1,p,m,q,h1,hz,h,he=>by
  show vL (LH O key) _ (if O.blt (Ky O key p m) (Ky O key p (m - 1))=true then(if q>0 then kas_desc f (kas_rev p (m - (q+1)) m) (m+1) 0 else kas_desc f p (m+1) 0)else _);cases e:O.blt (Ky O key p m) (Ky O key p (m - 1))with
  | true=>
   rw[ao rfl];have hd:=h.more h1 (KeyOrd.kle_of_klt e);split
   .have ev:∀k,Ky O key (kas_rev p (m - (q+1)) m) k=Ky O key p k:=EI (by omega) he.2;have hd':kZ O key (kas_rev p (m - (q+1)) m) (m+1):=fun i j a b=>by rw[ev,ev];exact hd i j a b
    refine(ER f _ (m+1) 0 (by omega) (by rw[jR];omega) hd' (Eqs.none (by omega))).mono fun r ⟨a,b,c,d,z⟩=>⟨by rw[a,jR],by omega,by omega,d,z⟩
   .exact(ER f p (m+1) 0 (by omega) (by omega) hd (Eqs.none (by omega))).mono fun r ⟨a,b,c,d,z⟩=>⟨a,by omega,by omega,d,z⟩
  | false=>
   rw[ai ax];show vL (LH O key) _ (if O.blt (Ky O key p (m - 1)) (Ky O key p m)=true then _ else _);cases e2:O.blt (Ky O key p (m - 1)) (Ky O key p m)with
   |true=>
    rw[ao rfl];exact⟨rfl,bc _,Nat.le_add_right m (f+1),h,he⟩
   |false=>
    rw[ai ax];have eq:Ky O key p m=Ky O key p (m - 1):=KeyOrd.kle_antisymm e2 e;refine(ER f p (m+1) (q+1) (by omega) (by omega) (h.more h1 (by rw[eq];exact ij _)) ⟨by have:=he.1;omega,fun i a b=>?_⟩).mono fun r ⟨a,b,c,d,z⟩=>⟨a,by omega,by omega,d,z⟩
    rw[show m+1 - 1=m by omega]
    by_cases hi:i=m
    .rw[hi]
    .rw[eq];exact he.2 i (by omega) (by omega)
theorem LC (h1:1<=m) (hk:m<=k) (hz:k<=p.size) (h:kZ O key p m):vL (LH O key) (fun r:Nat×Array Nat=>1<=r.1/\r.1<=k/\r.2.size=p.size/\oM O key r.2 r.1) (kas_tail3 m k p):=by
 have hu:oM O key (kas_rev p 0 m) m:=fun i j a b=>by
  rw[J8 (by omega),J8 (by omega),ao (by omega),ao (by omega)];exact h _ _ (by omega) (by omega)
 exact(QM (k - m) m h1 hu).bind fun r ⟨a,b,c,_⟩=>⟨by omega,by omega,jR ..,c⟩
theorem yL (hk:m+1<=k) (hz:k<=p.size) (h:kZ O key p (m+1)):vL (LH O key) (fun r:Nat×Array Nat=>1<=r.1/\r.1<=k/\r.2.size=p.size/\oM O key r.2 r.1) (kas_descPart m k p):=by
 refine(ER (k - (m+1)) p (m+1) 0 (by omega) (by omega) h (Eqs.none (by omega))).bind fun r ⟨a,b,c,d,z⟩=>?_
 split
 .have ev:∀i,Ky O key (kas_rev r.1 (r.2.1 - (r.2.2+1)) r.2.1) i=Ky O key r.1 i:=EI (by omega) z.2;refine(LC (p:=kas_rev r.1 (r.2.1 - (r.2.2+1)) r.2.1) (by omega) (by omega) (by rw[jR];omega) fun i j x y=>?_).mono fun r' ⟨x,y,w,v⟩=>⟨x,y,by rw[w,jR,a],v⟩
  rw[ev,ev];exact d i j x y
 .exact(LC (by omega) (by omega) (by omega) d).mono fun r' ⟨x,y,w,v⟩=>⟨x,y,by rw[w,a],v⟩
theorem X1 {p:Array Nat} (h1:1<=k) (hz:k<=p.size):vL (LH O key) (fun r:Nat×Array Nat=>1<=r.1/\r.1<=k/\r.2.size=p.size/\oM O key r.2 r.1) (kas_count k p):=by
 have u1:oM O key p 1:=fun i j a b=>by rw[show i=j by omega];exact ij _
 refine(QM (k - 1) 1 (bc _) u1).bind fun m ⟨a,b,c,d⟩=>?_
 by_cases hm:m=k
 .rw[ao (by simpa using hm)];exact⟨a,by omega,rfl,c⟩
 .rw[ai (by simpa using hm)];have lt:O.klt (Ky O key p m) (Ky O key p (m - 1)):=d.resolve_left (by omega)
  by_cases h2:m>1
  .rw[ao h2];show vL (LH O key) _ (if O.blt (Ky O key p 0) (Ky O key p (m - 1))=true then _ else _);cases e:O.blt (Ky O key p 0) (Ky O key p (m - 1))with
   |true=>
    rw[ao rfl];exact⟨a,by omega,rfl,c⟩
   | false=>
    rw[ai ax];have al:∀i,0<=i->i<m->Ky O key p i=Ky O key p (m - 1):=fun i _ hi=>
     KeyOrd.kle_antisymm (c i (m - 1) (by omega) (by omega)) (KeyOrd.kle_trans e (c 0 i (by omega) hi))
    have ev:∀i,Ky O key (kas_rev p 0 m) i=Ky O key p i:=EI (by omega) al;have dm:kZ O key p m:=fun i j x y=>by rw[al i (by omega) (by omega),al j (by omega) y];exact ij _
    have dn:=dm.more a (KeyOrd.kle_of_klt lt);refine(yL (p:=kas_rev p 0 m) (by omega) (by rw[jR];omega) fun i j x y=>?_).mono fun r' ⟨x,y,w,v⟩=>⟨x,y,by rw[w,jR],v⟩
    rw[ev,ev];exact dn i j x y
  .rw[ai h2];have e1:m=1:=by omega
   subst e1;have d1:kZ O key p 1:=fun i j x y=>by rw[show i=j by omega];exact ij _
   exact yL (by omega) hz (d1.more (bc _) (KeyOrd.kle_of_klt lt))
theorem CQ {p:Array Nat} {k:Nat} (h:oM O key p k):∀(f l r:Nat),l<=r->r<=k->r - l<=f->(∀i,i<l->O.kle (Ky O key p i) (Ky O key p k))->(∀i,r<=i->i<k->O.klt (Ky O key p k) (Ky O key p i))->
  vL (LH O key) (fun l=>l<=k/\(∀i,i<l->O.kle (Ky O key p i) (Ky O key p k))/\∀i,l<=i->i<k->O.klt (Ky O key p k) (Ky O key p i)) (kas_place p k f l r)
 |0,l,r,h1,h2,h3,ha,hb=>by
  have e:l=r:=by omega
  subst e;exact⟨h2,ha,hb⟩
 | f+1,l,r,h1,h2,h3,ha,hb=>by
  unfold kas_place;split
  .have e:l=r:=by omega
   subst e;exact⟨h2,ha,hb⟩
  .show vL (LH O key) _ (if O.blt (Ky O key p k) (Ky O key p ((l+r) / 2))=true then _ else _);cases e:O.blt (Ky O key p k) (Ky O key p ((l+r) / 2))with
   |true=>
    rw[ao rfl];exact CQ h f l ((l+r) / 2) (by omega) (by omega) (by omega) ha fun i a b=>KeyOrd.klt_of_klt_of_kle e (h _ _ a b)
   |false=>
    rw[ai ax];exact CQ h f ((l+r) / 2+1) r (by omega) h2 (by omega) (fun i a=>KeyOrd.kle_trans (h i ((l+r) / 2) (by omega) (by omega)) e) hb
theorem RR {d:Nat} (hk:k<p.size) (hd:d<=k) (i:Nat):Ky O key (bubble p k d) i=if i=k - d then Ky O key p k else if k - d<i/\i<=k then Ky O key p (i - 1)else Ky O key p i:=by
 have e:=getElem?_bubble hk d hd i
 by_cases h1:i=k - d
 .rw[ao h1]at e⊢;exact FW e
 .rw[ai h1]at e⊢
  by_cases h2:k - d<i/\i<=k
  .rw[ao h2]at e⊢;exact FW e
  .rw[ai h2]at e⊢;exact FW e
theorem ZE:∀(f:Nat) (p:Array Nat) (k:Nat),k+f<=p.size->oM O key p k->vL (LH O key) (fun q=>oM O key q (k+f)) (kas_bin f p k)
 |0,p,k,_,h=>h
 | f+1,p,k,hz,h=>by
  refine(CQ h k 0 k (by omega) (bc _) (by omega) (fun i hi=>by omega) (fun i a b=>by omega)).bind fun l ⟨hl,ha,hb⟩=>?_
  have hu:oM O key (bubble p k (k - l)) (k+1):=fun i j x y=>by
   rw[RR (by omega) (by omega),RR (by omega) (by omega),show k - (k - l)=l by omega]
   by_cases j1:j=l
   .rw[ao j1]
    by_cases i1:i=l
    .rw[ao i1];exact ij _
    .rw[ai i1,ai (show¬(l<i/\i<=k) by omega)];exact ha i (by omega)
   .rw[ai j1]
    by_cases j2:l<j
    .rw[ao (show l<j/\j<=k from⟨j2,by omega⟩)]
     by_cases i1:i=l
     .rw[ao i1];exact KeyOrd.kle_of_klt (hb (j - 1) (by omega) (by omega))
     .rw[ai i1]
      by_cases i2:l<i
      .rw[ao (show l<i/\i<=k from⟨i2,by omega⟩)];exact h _ _ (by omega) (by omega)
      .rw[ai (show¬(l<i/\i<=k) by omega)];exact h _ _ (by omega) (by omega)
    .rw[ai (show¬(l<j/\j<=k) by omega),ai (show¬i=l by omega),ai (show¬(l<i/\i<=k) by omega)];exact h _ _ x (by omega)
  have:=ZE f (bubble p k (k - l)) (k+1) (by rw[bubble_size];omega) hu;rw[show k+1+f=k+(f+1) by omega]at this;exact this
theorem acF (h1:1<=n):vL (LH O key) (fun q=>oM O key q n) (kas_sort n):=by
 have hs:(List.toArray (List.range n)).size=n:=by simp
 refine(X1 h1 (p:=List.toArray (List.range n)) (by rw[hs];exact bc _)).bind fun r ⟨a,b,c,d⟩=>?_
 rw[hs]at c;split
 .have:=ZE (n - max r.1 1) r.2 (max r.1 1) (by omega) (by rw[show max r.1 1=r.1 by omega];exact d);rw[show max r.1 1+(n - max r.1 1)=n by omega]at this;exact this
 .have e:r.1=n:=by omega
  rw[e]at d;exact d
end
section
open PySem.W
variable {prog:Program} {w:World} {A:Around} {E:Value->Shared->Prop} {s:Shared}
theorem NC (vs:List Value):(List.range vs.length).map (fun i=>vs.getD i Value.none)=vs:=by
 apply ext_getElem
 .simp
 .intro i a1 a2;simp[aj a2]
def DV (prog:Program) (w:World) (A:Around) (vs:List Value) (R:Array Nat->Prop) (s:Shared):Prop:=
 ∃κ:SortKind,(∀(Q:SortKind->Shared->Prop) (E:Value->Shared->Prop),Q κ s->wpAny (model prog w) A (keyKind' vs.toArray) Q E s)/\
  ∀G:Array Nat->Shared->Prop,(∀p,sP vs.length p->R p->G p s)->(kas_sort vs.length).kasWp (kas_ask prog w A κ vs) G s
theorem B0 {a:Addr} {P:PySem.Fin->Shared->Prop} (ho:s.heap.get? a=some (seqObj "list" vs.toArray n)) (h64:vs.length<64)
  (hk:2<=vs.length->∀h':Heap,(∀b o,b≠a->s.heap.get? b=some o->h'.get? b=some o)->DV prog w A vs R {s with heap:=h'}) (hR:vs.length<2->R (List.range vs.length).toArray)
  (h:∀(out:Array Value) (p:Array Nat),sP vs.length p->R p->out.toList=p.toList.map (fun i=>vs.getD i Value.none)->P (.done (.ret .none)) {s with heap:=sortedHeap s.heap a vs out}):wpAny (model prog w) A (Builtin.«list.sort» ⟨[.ref a],[]⟩) P E s:=by
 have la:a<s.heap.objs.size:=cm ho;have small:vs.length<=sizeLine:=by rw[jc];omega
 obtain⟨e1,k1⟩:∃e1,(s.heap.update a (Obj.mapSeq fun _=>(#[]:Array Value))).get? a=some (seqObj "list" #[] e1):=⟨_,get?_update_seq ho fun _=> #[]⟩;generalize hU:s.heap.update a (Obj.mapSeq fun _=>(#[]:Array Value))=U at k1;have zU:U.objs.size=s.heap.objs.size:=by rw[<-hU];exact Heap.size_update ..
 have kp:∀b o,b≠a->s.heap.get? b=some o->((U.push (seqObj "tuple" vs.toArray 0)).push (seqObj "list" #[] 0)).get? b=some o:=fun b o nb gb=>by
  refine ah _ (ah _ ?_);rw[<-hU,Heap.get?_update_ne _ _ _ _ nb];exact gb
 have k2:((U.push (seqObj "tuple" vs.toArray 0)).push (seqObj "list" #[] 0)).get? a=some (seqObj "list" #[] e1):=ah _ (ah _ k1);rw[list_sort_plain];refine ae (listItems_at ho rfl (ae (listUpdate_at ho rfl ?_ (by simpa using small) (ic _))));have k1':=k1;rw[<-hU]at k1';refine ae (seqEpoch_at k1' rfl (ae (wpAny_newTuple (ae (wpAny_newList (gd ?_) (ic _))) (by simpa using small))));rw[hU];show wpAny (model prog w) A _ P E {s with heap:=(U.push (seqObj "tuple" vs.toArray 0)).push (seqObj "list" #[] 0)};have fin:∀(out:Array Value) (p:Array Nat),sP vs.length p->R p->out.toList=p.toList.map (fun i=>vs.getD i Value.none)->P (.done (.ret .none)) {s with heap:=((U.push (seqObj "tuple" vs.toArray 0)).push (seqObj "list" #[] 0)).update a (Obj.mapSeq fun _=>out)}:=fun out p h1 h2 h3=>by
  have:=h out p h1 h2 h3;unfold sortedHeap at this;rw[hU]at this;exact this
 dsimp only
 by_cases h2:vs.toArray.size<2
 .rw[ao h2,ao h2];refine ae (au ?_);rw[StateT.run_pure];refine ae (au ?_);dsimp only;have ev:((vs.toArray.zip vs.toArray).map fun x=>x.2).toList=vs:=by simp[List.map_snd_zip]
  refine ae (seqEpoch_at k2 rfl (ae (listUpdate_at k2 rfl ?_ (ic _) ?_)))
  .simp only[bne_self_eq_false,false_eq_true,if_false];exact au (fin _ (List.range vs.length).toArray (Array.Perm.refl _) (hR (by rw[cp]at h2;exact h2)) (by rw[show(arrOf (SortSt.mk' general' (vs.toArray.zip vs.toArray) #[] 7 none))=vs.toArray.zip vs.toArray from rfl,ev,toList_toArray,NC]))
  .rw[<-length_toList,show(arrOf (SortSt.mk' general' (vs.toArray.zip vs.toArray) #[] 7 none))=vs.toArray.zip vs.toArray from rfl,ev];exact le_succ_of_le small
 .rw[ai h2,ai h2];have l2:2<=vs.length:=by rw[cp]at h2;omega
  obtain⟨κ,kd,ak⟩:=hk l2 _ kp;refine ae (kd _ _ ?_);refine ae (dy (kat_run (ks:=vs) (vs:=vs) (Q:=fun st' s'=>s'={s with heap:=(U.push (seqObj "tuple" vs.toArray 0)).push (seqObj "list" #[] 0)}/\∃p:Array Nat,(sP vs.length p/\R p)/\arrOf st'=p.map (kas_item (vs.toArray.zip vs.toArray))/\failedOf st'=none)
   (G:=fun p s'=>s'={s with heap:=(U.push (seqObj "tuple" vs.toArray 0)).push (seqObj "list" #[] 0)}/\sP vs.length p/\R p) rfl l2 h64 (fun p st' s' _ ar fl g=>⟨g.1,p,g.2,ar,fl⟩) (ak _ fun p h1 h2=>⟨rfl,h1,h2⟩)) ?_ fun _ _ e=>e)
  rintro⟨⟨⟩,st'⟩ s' ⟨rfl,p,⟨hp,hr⟩,ar,fl⟩;dsimp only;have out:=kat_snds rfl ar;have pm:=hp.perm;rw[out];refine ae (seqEpoch_at k2 rfl (ae (listUpdate_at k2 rfl ?_ (ic _) ?_)))
  .rw[fl];simp only[bne_self_eq_false,false_eq_true,if_false];exact au (fin _ p hp hr (by simp))
  .rw[cp,pm.length_eq];exact le_succ_of_le small
theorem GU (hl:s.heap.IsList l vs.toArray) (h64:vs.length<64)
  (hk:2<=vs.length->∀h':Heap,(∀b o,s.heap.get? b=some o->h'.get? b=some o)->DV prog w A.in1.in1 vs R {s with heap:=h'}) (hR:vs.length<2->R (List.range vs.length).toArray)
  (h:∀(out:Array Value) (p:Array Nat),sP vs.length p->R p->out.toList=p.toList.map (fun i=>vs.getD i Value.none)->Q (.ref (s.heap.objs.size+1)) {s with heap:=sortedAll s.heap vs out}):wpAny (model prog w) A (call (.builtin "sorted") [.ref l]) Q E s:=by
 have small:vs.length<=sizeLine:=by rw[jc];omega
 refine Calls.call_function_entry kind_sorted plain_sorted entry_sorted (args_sorted1 _) ?_;unfold Builtin.«sorted»;refine ae (m:=checkCount "sorted" 1 1 _) (au (ae (collect_list hl (ae (wpAny_newList ?_ (by simpa using small))) (by simpa using small))));generalize hU:(s.heap.push (seqObj "list" #[] 0)).update s.heap.objs.size (Obj.mapSeq (·++vs.toArray))=U;have zU:U.objs.size=s.heap.objs.size+1:=by rw[<-hU,Heap.size_update];exact size_push' ..
 have kU:∀b o,s.heap.get? b=some o->U.get? b=some o:=fun b o gb=>by
  rw[<-hU,Heap.get?_update_ne _ _ _ _ (cn (cm gb))];exact ah _ gb
 have at':(U.push (seqObj "list" vs.toArray 0)).get? (s.heap.objs.size+1)=some (seqObj "list" vs.toArray 0):=by rw[<-zU];exact bz _ rfl
 show wpAny _ _ _ _ _ {s with heap:=U.push (seqObj "list" vs.toArray 0)};rw[zU];refine ae (gd (gv slot_list_sort ⟨_,at',rfl⟩ entry_list_sort ?bd (args_list_sort _)))
 case bd=>
  refine B0 at' h64 (fun l2 h' kp=>hk l2 h' fun b o gb=>kp b o (cn (dw (cm gb))) (ah _ (kU b o gb))) hR fun out p p1 p2 p3=>⟨_,rfl,au ⟨_,rfl,?_⟩⟩
  have:=h out p p1 p2 p3;unfold sortedAll at this;rw[hU]at this;exact this
end
section
open PySem.W
variable {X:Cx} {zq:List (Addr×Obj)} {σ:St} {H:Hp} {s:Shared} {k:Nat}
theorem yF {ys:List V} {vs:List Value} (r:Vals ys vs):∀ps:List Nat,(∀i∈ps,i<vs.length)->Vals (ps.map fun i=>ys.getD i .bG) (ps.map fun i=>vs.getD i Value.none)
 |[],_=>.nil
 |i::ps,h=>by
  have hlen:=r.length;have hi:=h i bh;obtain⟨x,hx,rx⟩:=r.get' (show vs[i]? =some vs[i] by simp);refine .cons ?_ (yF r ps fun j hj=>h j (ba _ hj));dsimp only;rw[cc,hx,cc,aj hi];exact rx
end
noncomputable def JK:KeyOrd where
 α:=Int
 blt a b:=decide (a<b)
 irrefl a:=decide_eq_false (by omega)
 trans a b c h1 h2:=decide_eq_true (by have:=av h1;have:=av h2;omega)
 negTrans a b c h:=by
  have h:=av h
  by_cases g:a<b
  .exact .inl (decide_eq_true g)
  .exact .inr (decide_eq_true (by omega))
 total a b h1 h2:=by have:=fz h1;have:=fz h2;omega
theorem C6 {a b:A.α} (h:A.blt a b=true):A.blt b a=false:=KeyOrd.klt_asymm (O:=A) h
theorem fW {A:KeyOrd} (a b:A.α):(A.blt a b=true/\A.blt b a=false)\/ (A.blt b a=true/\A.blt a b=false)\/ (a=b):=by
 cases h1:A.blt a b with
 |true=>exact .inl ⟨rfl,C6 h1⟩
 |false=>
  cases h2:A.blt b a with
  |true=>exact .inr (.inl ⟨rfl,rfl⟩)
  |false=>exact .inr (.inr (A.total a b h1 h2))
noncomputable def g8 (A:KeyOrd) (a b:A.α) (r:Bool):Bool:=A.blt a b||(!A.blt b a && r)
theorem fB {a b:A.α} (h:A.blt a b=true):g8 A a b r=true:=by unfold g8;rw[h];rfl
theorem mG {a b:A.α} (h:A.blt b a=true):g8 A a b r=false:=by unfold g8;rw[h,C6 h];rfl
theorem iC {a:A.α}:g8 A a a r=r:=by unfold g8;rw[A.irrefl];rfl
theorem HF {A:KeyOrd} {a b c:A.α} (hr:r=true->r'=true->r''=true) (h1:g8 A a b r=true) (h2:g8 A b c r'=true):g8 A a c r''=true:=by
 rcases fW (A:=A) a b with⟨x,_⟩|⟨x,_⟩|x
 .rcases fW (A:=A) b c with⟨y,_⟩|⟨y,_⟩|y
  .exact fB (A.trans _ _ _ x y)
  .rw[mG y]at h2;cases h2
  .rw[<-y];exact fB x
 .rw[mG x]at h1;cases h1
 .subst x;rw[iC]at h1;rcases fW (A:=A) a c with⟨y,_⟩|⟨y,_⟩|y
  .exact fB y
  .rw[mG y]at h2;cases h2
  .subst y;rw[iC]at h2⊢
   exact hr h1 h2
theorem NP {A:KeyOrd} {a b c:A.α} (hr:r''=true->r=true\/ r'=true) (h:g8 A a c r''=true):g8 A a b r=true\/ g8 A b c r'=true:=by
 rcases fW (A:=A) a b with⟨x,_⟩|⟨x,_⟩|x
 .exact .inl (fB x)
 .right;rcases fW (A:=A) a c with⟨y,_⟩|⟨y,_⟩|y
  .exact fB (A.trans _ _ _ x y)
  .rw[mG y]at h;cases h
  .rw[<-y];exact fB x
 .subst x;rcases fW (A:=A) a c with⟨y,_⟩|⟨y,_⟩|y
  .exact .inr (fB y)
  .rw[mG y]at h;cases h
  .subst y;rw[iC]at h⊢
   rw[iC];exact hr h
theorem GW {A:KeyOrd} {a b:A.α} (h1:g8 A a b r=false) (h2:g8 A b a r'=false):a=b/\r=false/\r'=false:=by
 rcases fW (A:=A) a b with⟨x,_⟩|⟨x,_⟩|x
 .rw[fB x]at h1;cases h1
 .rw[fB x]at h2;cases h2
 .subst x;rw[iC]at h1 h2;exact⟨rfl,h1,h2⟩
noncomputable def mL (A:KeyOrd):List A.α->List A.α->Bool
 |[],[]=>false
 |[],_::_=>true
 |_::_,[]=>false
 |x::xs,y::ys=>g8 A x y (mL A xs ys)
theorem BR:∀xs:List A.α,mL A xs xs=false
 |[]=>rfl
 |x::xs=>by unfold mL;rw[iC];exact BR xs
theorem wL:∀xs ys zs:List A.α,mL A xs ys=true->mL A ys zs=true->mL A xs zs=true
 |[],[],_,h,_=>by cases h
 |[],_::_,[],_,h=>by cases h
 |[],_::_,_::_,_,_=>rfl
 |_::_,[],_,h,_=>by cases h
 |_::_,_::_,[],_,h=>by cases h
 |x::xs,y::ys,z::zs,h1,h2=>HF (wL xs ys zs) h1 h2
theorem BF:∀xs ys zs:List A.α,mL A xs zs=true->mL A xs ys=true\/ mL A ys zs=true
 |[],[],zs,h=>.inr h
 |[],_::_,_,_=>.inl rfl
 |_::_,_,[],h=>by cases h
 |_::_,[],_::_,_=>.inr rfl
 |x::xs,y::ys,z::zs,h=>NP (BF xs ys zs) h
theorem v9:∀xs ys:List A.α,mL A xs ys=false->mL A ys xs=false->xs=ys
 |[],[],_,_=>rfl
 |[],_::_,h,_=>by cases h
 |_::_,[],_,h=>by cases h
 |x::xs,y::ys,h1,h2=>by
  obtain⟨a,b,c⟩:=GW h1 h2;rw[a,v9 xs ys b c]
noncomputable def af1 (A:KeyOrd):KeyOrd:=⟨List A.α,mL A,BR,wL,BF,v9⟩
theorem LY {a b:Str} (h:a.cps.toList=b.cps.toList):a=b:=by
 cases a with
 |mk x=>
  cases b with
  |mk y=>congr 1;exact Array.toList_inj.mp h
end L2
namespace Mr
open PySem L2
variable {a l:Addr} {e ei:En} {f fa fb fv:FE} {fg:FG} {fi:FI} {fc:FT} {o ob:HO} {H H' H1 H2:Hp} {k:Key} {kvs:List (Key×PV)} {ys:List (Key×V)} {ms:List (Nat×Nat)} {ks:List Kd} {cap:List Nat} {ps:List PV} {xs:List V} {i n:Nat} {p:PV} {s:Sl} {σ:St} {t ta tb tv:TE} {g:TG} {wi:TI} {c u:TT} {α β:Type} {v:V} {W:WS} {E:XK} {L L1 M O Z Z':aJ}
inductive PV where
 |bG|bl (b:Bool)|int (i:Int)|str (x:Str)|ty (n:String)
 |tup (xs:List PV)|lst (xs:List PV)|aZ (kvs:List (Key×PV))
abbrev aJ:=Addr->Prop
def aW (A B:aJ):aJ:=fun a=>A a\/ B a
def one (l:Addr):aJ:=fun a=>a=l
def cY:aJ:=fun _=>False
structure WS where
 w:Nat->aJ
 old:aJ
instance:CoeFun WS (fun _=>Nat->aJ):=⟨WS.w⟩
def aw (W:WS):aJ:=fun a=>∃i,W i a
def TupAt (K:Frag) (H:Hp) (a:Addr) (xs:List V):Prop:=H a=some (.tup xs)\/
  ∃(o:Obj) (its:Array Value) (n:Nat),K.lookup a=some o/\o.cls= .type "tuple"/\o.dict=none/\o.data= .seq its n/\its.size<=sizeLine/\Vals xs its.toList
def abM (K:Frag) (a:Addr) (xs:List V):Prop:=
  ∃(o:Obj) (its:Array Value) (n:Nat),K.lookup a=some o/\o.cls= .type "list"/\o.dict=none/\o.data= .seq its n/\its.size<=sizeLine/\Vals xs its.toList
theorem TupAt.sq {K:Frag} (h:TupAt K H a xs):rB K H a xs:=h.elim rB.of fun⟨o,its,n,a,b,_,c⟩=>.inr ⟨o,its,n,a,b,c⟩
mutual
inductive Rep (K:Frag) (Z:aJ) (H:Hp):PV->V->Prop
 |bG:Rep K Z H .bG .bG
 |bl (b:Bool):Rep K Z H (.bl b) (.bl b)
 |int (i:Int):Rep K Z H (.int i) (.int i)
 |str (x:Str):Rep K Z H (.str x) (.str x)
 |ty (n:String):Rep K Z H (.ty n) (.ty n)
 |tup {a:Addr} {xs:List V} {ps:List PV}:TupAt K H a xs->bI K Z H ps xs->Rep K Z H (.tup ps) (.ref a)
 |lst {a:Addr} {xs:List V} {ps:List PV}:Rd H a (.lst xs)->¬Z a->bI K Z H ps xs->Rep K Z H (.lst ps) (.ref a)
 |aZ {a:Addr} {ep:Nat} {ys:List (Key×V)} {kvs:List (Key×PV)}:Rd H a (.dK ys ep)->¬Z a->ys.map (·.1)=kvs.map (·.1)->bI K Z H (kvs.map (·.2)) (ys.map (·.2))->Rep K Z H (.aZ kvs) (.ref a)
inductive bI (K:Frag) (Z:aJ) (H:Hp):List PV->List V->Prop
 |nil:bI K Z H [] []
 |cons {p:PV} {v:V} {ps:List PV} {vs:List V}:Rep K Z H p v->bI K Z H ps vs->bI K Z H (p::ps) (v::vs)
end
structure cZ (Z Z':aJ) (H H':Hp):Prop where
 tup:∀a xs,H a=some (.tup xs)->H' a=some (.tup xs)
 obj:∀a o,H a=some o->¬Z a->H' a=some o/\¬Z' a
theorem cZ.rd (k:cZ Z Z' H H') (h:Rd H a o) (n:¬Z a):Rd H' a o/\¬Z' a:=by
 rcases h with h|⟨u,h⟩
 .exact⟨.inl (k.obj _ _ h n).1,(k.obj _ _ h n).2⟩
 .exact⟨.inr ⟨u,(k.obj _ _ h n).1⟩,(k.obj _ _ h n).2⟩
mutual
theorem Rep.aK {K:Frag} {Z Z':aJ} {H H':Hp} (k:cZ Z Z' H H'):∀{p:PV} {v:V},Rep K Z H p v->Rep K Z' H' p v
 |_,_,.bG=>.bG
 |_,_,.bl b=>.bl b
 |_,_,.int b=>.int b
 |_,_,.str b=>.str b
 |_,_,.ty b=>.ty b
 |_,_,.tup h r=>.tup (h.elim (fun h=>.inl (k.tup _ _ h)) .inr) (bI.aK k r)
 |_,_,.lst h n r=>.lst (k.rd h n).1 (k.rd h n).2 (bI.aK k r)
 |_,_,.aZ h n e r=>.aZ (k.rd h n).1 (k.rd h n).2 e (bI.aK k r)
theorem bI.aK {K:Frag} {Z Z':aJ} {H H':Hp} (k:cZ Z Z' H H'):∀{p:List PV} {v:List V},bI K Z H p v->bI K Z' H' p v
 |_,_,.nil=>.nil
 |_,_,.cons h r=>.cons (Rep.aK k h) (bI.aK k r)
end
theorem cZ.same (s:aT H H'):cZ Z Z H H':=⟨fun _ _ h=>s _ _ h,fun _ _ h n=>⟨s _ _ h,n⟩⟩
theorem cZ.less (h:∀a,Z' a->Z a):cZ Z Z' H H:=⟨fun _ _ h=>h,fun _ _ e n=>⟨e,fun z=>n (h _ z)⟩⟩
theorem cZ.new (s:aT H H') (hl:H l=none):cZ Z (aW Z (one l)) H H':=
 ⟨fun _ _ h=>s _ _ h,fun a o h n=>⟨s _ _ h,fun z=>z.elim n fun e=>by rw[show a=l from e,hl]at h;cases h⟩⟩
theorem bI.length {K:Frag}:∀{ps:List PV} {vs:List V},bI K Z H ps vs->ps.length=vs.length
 |_,_,.nil=>rfl
 |_,_,.cons _ r=>by rw[length_cons,length_cons,bI.length r]
theorem bI.get {K:Frag}:∀{ps:List PV} {vs:List V} {i:Nat} {p:PV},bI K Z H ps vs->ps[i]? =some p->∃v,vs[i]? =some v/\Rep K Z H p v
 |_,_,_,_,.nil,h=>by simp at h
 |_,_,0,_,.cons h _,e=>by simp at e;subst e;exact⟨_,rfl,h⟩
 |_,_,i+1,_,.cons _ r,e=>by
  obtain⟨v,h1,h2⟩:=bI.get (i:=i) r (by simpa using e);exact⟨v,by simpa using h1,h2⟩
theorem bI.app {K:Frag}:∀{ps qs:List PV} {vs ws:List V},bI K Z H ps vs->bI K Z H qs ws->bI K Z H (ps++qs) (vs++ws)
 |_,_,_,_,.nil,s=>s
 |_,_,_,_,.cons h r,s=>.cons h (bI.app r s)
theorem bI.drop {K:Frag}:∀{ps:List PV} {vs:List V} (n:Nat),bI K Z H ps vs->bI K Z H (ps.drop n) (vs.drop n)
 |_,_,0,h=>h
 |_,_,_+1,.nil=>.nil
 |_,_,n+1,.cons _ r=>bI.drop n r
theorem bI.take {K:Frag}:∀{ps:List PV} {vs:List V} (n:Nat),bI K Z H ps vs->bI K Z H (ps.take n) (vs.take n)
 |_,_,0,_=>.nil
 |_,_,_+1,.nil=>.nil
 |_,_,n+1,.cons h r=>.cons h (bI.take n r)
theorem bI.set {K:Frag} (h:Rep K Z H p v):∀{ps:List PV} {vs:List V} (n:Nat),bI K Z H ps vs->bI K Z H (ps.set n p) (vs.set n v)
 |_,_,_,.nil=>.nil
 |_,_,0,.cons _ r=>.cons h r
 |_,_,n+1,.cons q r=>.cons q (bI.set h n r)
def LstAt (K:Frag) (H:Hp) (a:Addr) (xs:List V):Prop:=Rd H a (.lst xs)\/ abM K a xs
theorem LstAt.sq {K:Frag} (h:LstAt K H a xs):gE K H a xs:=h
inductive Red (K:Frag) (Z:aJ) (H:Hp):PV->V->Prop
 |rep {p:PV} {v:V}:Rep K Z H p v->Red K Z H p v
 |lst {a:Addr} {xs:List V} {ps:List PV}:LstAt K H a xs->bI K Z H ps xs->Red K Z H (.lst ps) (.ref a)
 |aZ {a:Addr} {ep:Nat} {ys:List (Key×V)} {kvs:List (Key×PV)}:Rd H a (.dK ys ep)->ys.map (·.1)=kvs.map (·.1)->bI K Z H (kvs.map (·.2)) (ys.map (·.2))->Red K Z H (.aZ kvs) (.ref a)
section
variable {K:Frag} {Z:aJ} {H:Hp} {v:V}
theorem Red.int {i:Int} (h:Red K Z H (.int i) v):v= .int i:=by cases h with|rep h=>cases h;rfl
theorem Red.str {i:Str} (h:Red K Z H (.str i) v):v= .str i:=by cases h with|rep h=>cases h;rfl
theorem Red.bl {i:Bool} (h:Red K Z H (.bl i) v):v= .bl i:=by cases h with|rep h=>cases h;rfl
theorem Red.bG (h:Red K Z H .bG v):v= .bG:=by cases h with|rep h=>cases h;rfl
theorem Red.ty {n:String} (h:Red K Z H (.ty n) v):v= .ty n:=by cases h with|rep h=>cases h;rfl
theorem Red.tup (h:Red K Z H (.tup ps) v):∃a xs,v= .ref a/\TupAt K H a xs/\bI K Z H ps xs:=by
 cases h with|rep h=>cases h with|tup h r=>exact⟨_,_,rfl,h,r⟩
theorem Red.rA (h:Red K Z H (.lst ps) v):∃a xs,v= .ref a/\LstAt K H a xs/\bI K Z H ps xs:=by
 cases h with
 |rep h=>cases h with|lst h _ r=>exact⟨_,_,rfl,.inl h,r⟩
 |lst h r=>exact⟨_,_,rfl,h,r⟩
theorem Red.vJ (h:Red K Z H (.aZ kvs) v):∃a ys,v= .ref a/\CB H a ys/\ys.map (·.1)=kvs.map (·.1)/\bI K Z H (kvs.map (·.2)) (ys.map (·.2)):=by
 cases h with
 |rep h=>cases h with|aZ h _ e r=>exact⟨_,_,rfl,⟨_,h⟩,e,r⟩
 |aZ h e r=>exact⟨_,_,rfl,⟨_,h⟩,e,r⟩
end
inductive Sl where
 |val (p:PV)|own (p:PV)|loc (p:PV)|bor (p:PV)
noncomputable def Sl.pv:Sl->PV
 | .val p=>p| .own p=>p| .loc p=>p| .bor p=>p
noncomputable def Sl.eC:Sl->Bool
 | .own _=>true| .loc _=>true|_=>false
abbrev En:=List (Option Sl)
inductive jA (K:Frag) (Z:aJ) (H:Hp) (a:Addr):PV->Prop
 |lst {xs:List V} {ps:List PV}:H a=some (.lst xs)->bI K Z H ps xs->jA K Z H a (.lst ps)
 |aZ {ep:Nat} {ys:List (Key×V)} {kvs:List (Key×PV)}:H a=some (.dK ys ep)->ys.map (·.1)=kvs.map (·.1)->bI K Z H (kvs.map (·.2)) (ys.map (·.2))->jA K Z H a (.aZ kvs)
theorem jA.red {K:Frag} (h:jA K Z H a p):Red K Z H p (.ref a):=by
 cases h with
 |lst e r=>exact .lst (.inl (.inl e)) r
 |aZ e k r=>exact .aZ (.inl e) k r
theorem jA.rep {K:Frag} (h:jA K Z H a p) (n:¬Z a):Rep K Z H p (.ref a):=by
 cases h with
 |lst e r=>exact .lst (.inl e) n r
 |aZ e k r=>exact .aZ (.inl e) n k r
theorem jA.there {K:Frag} (h:jA K Z H a p):∃o,H a=some o/\∀xs,o≠ .tup xs:=by
 cases h with
 |lst e r=>exact⟨_,e,fun _ z=>nomatch z⟩
 |aZ e k r=>exact⟨_,e,fun _ z=>nomatch z⟩
theorem jA.aK {K:Frag} (k:cZ Z Z' H H') (e:∀o,H a=some o->H' a=some o) (h:jA K Z H a p):jA K Z' H' a p:=by
 cases h with
 |lst h r=>exact .lst (e _ h) (r.aK k)
 |aZ h q r=>exact .aZ (e _ h) q (r.aK k)
inductive CN (K:Frag) (Z:aJ) (W:WS) (L:aJ) (H:Hp) (a:Addr):PV->Prop
 |lst {xs:List V} {ps:List PV}:Rd H a (.lst xs)->W.old a->¬aw W a->¬L a->bI K Z H ps xs->CN K Z W L H a (.lst ps)
 |fL {xs:List V} {ps:List PV}:abM K a xs->bI K Z H ps xs->CN K Z W L H a (.lst ps)
 |aZ {ep:Nat} {ys:List (Key×V)} {kvs:List (Key×PV)}:Rd H a (.dK ys ep)->W.old a->¬aw W a->¬L a->ys.map (·.1)=kvs.map (·.1)->bI K Z H (kvs.map (·.2)) (ys.map (·.2))->CN K Z W L H a (.aZ kvs)
theorem CN.red {K:Frag} (h:CN K Z W L H a p):Red K Z H p (.ref a):=by
 cases h with
 |lst e _ _ _ r=>exact .lst (.inl e) r
 |fL e r=>exact .lst (.inr e) r
 |aZ e _ _ _ k r=>exact .aZ e k r
def mJ (K:Frag) (Z:aJ) (W:WS) (L:aJ) (H:Hp) (i:Nat) (v:V):Sl->Prop
 | .val p=>Rep K Z H p v
 | .own p=>∃a,v= .ref a/\W i a/\jA K Z H a p
 | .loc p=>∃a,v= .ref a/\L a/\jA K Z H a p
 | .bor p=>∃a,v= .ref a/\CN K Z W L H a p
theorem mJ.red {K:Frag} {s:Sl} (h:mJ K Z W L H i v s):Red K Z H s.pv v:=by
 cases s with
 |val p=>exact .rep h
 |own p=>obtain⟨a,rfl,_,c⟩:=h;exact c.red
 |loc p=>obtain⟨a,rfl,_,c⟩:=h;exact c.red
 |bor p=>obtain⟨a,rfl,c⟩:=h;exact c.red
structure aQ (K:Frag) (Z:aJ) (W:WS) (L:aJ) (H:Hp) (σ:St) (e:En):Prop where
 len:e.length=σ.length
 at':∀(i:Nat) s,e[i]? =some (some s)->∃v,σ[i]? =some (some v)/\mJ K Z W L H i v s
 uU:∀(i j:Nat) s t,i≠j->e[i]? =some (some s)->e[j]? =some (some t)->s.eC=true->t.eC=true->σ[i]?≠σ[j]?
structure lQ (O M:aJ) (W:WS) (L:aJ) (H:Hp):Prop where
 old:∀a,O a->H a≠none
 mo:∀a,M a->O a
 wm:∀i a,W i a->M a
 loc:∀a,L a->H a≠none/\¬O a
structure cA (W:WS) (L:aJ) (H H':Hp):Prop where
 obj:∀a o,H a=some o->¬aw W a->¬L a->H' a=some o
 tup:∀a xs,H a=some (.tup xs)->H' a=some (.tup xs)
 cD:∀a,H a≠none->H' a≠none
theorem cA.refl:cA W L H H:=⟨fun _ _ h _ _=>h,fun _ _ h=>h,fun _ h=>h⟩
theorem cA.trans (a:cA W L H H1) (b:cA W L H1 H2):cA W L H H2:=⟨fun c o h n m=>b.obj c o (a.obj c o h n m) n m,fun c o h=>b.tup c o (a.tup c o h),fun c h=>b.cD c (a.cD c h)⟩
theorem cA.same {H:Hp} (s:aT H H'):cA W L H H':=⟨fun _ _ h _ _=>s _ _ h,fun _ _ h=>s _ _ h,fun a h=>by
 cases e:H a with
 |none=>exact absurd e h
 |some o=>rw[s _ _ e];exact fun z=>nomatch z⟩
theorem lQ.keep (o:lQ O M W L H) (d:∀a,H a≠none->H' a≠none):lQ O M W L H':=⟨fun a h=>d a (o.old a h),o.mo,o.wm,fun a h=>⟨d a (o.loc a h).1,(o.loc a h).2⟩⟩
theorem cA.aK (o:lQ O M W L H) (k:cA W L H H'):cZ (aW M L) (aW M L) H H':=
 ⟨k.tup,fun a u h n=>⟨k.obj a u h (fun⟨i,z⟩=>n (.inl (o.wm i a z))) fun z=>n (.inr z),n⟩⟩
theorem aQ.aK {K:Frag} {e:En} (h:aQ K Z W L H σ e) (k:cZ Z Z' H H') (ow:∀a o,aw W a\/ L a->H a=some o->H' a=some o) (bo:∀a o,H a=some o->¬aw W a->¬L a->H' a=some o):aQ K Z' W L H' σ e:=
 ⟨h.len,fun i s q=>by
  obtain⟨v,h1,h2⟩:=h.at' i s q;refine⟨v,h1,?_⟩;cases s with
  |val p=>exact Rep.aK k h2
  |own p=>obtain⟨a,e,w,c⟩:=h2;exact⟨a,e,w,c.aK k fun o q=>ow a o (.inl ⟨_,w⟩) q⟩
  |loc p=>obtain⟨a,e,w,c⟩:=h2;exact⟨a,e,w,c.aK k fun o q=>ow a o (.inr w) q⟩
  |bor p=>
   obtain⟨a,e,c⟩:=h2;refine⟨a,e,?_⟩;cases c with
   |lst e od n m r=>exact .lst (e.elim (fun e=>.inl (bo _ _ e n m)) fun⟨u,e⟩=>.inr ⟨u,bo _ _ e n m⟩) od n m (r.aK k)
   |fL e r=>exact .fL e (r.aK k)
   |aZ e od n m kk r=>exact .aZ (e.elim (fun e=>.inl (bo _ _ e n m)) fun⟨u,e⟩=>.inr ⟨u,bo _ _ e n m⟩) od n m kk (r.aK k),h.uU⟩
theorem aQ.same {K:Frag} (h:aQ K Z W L H σ e) (s:aT H H'):aQ K Z W L H' σ e:=h.aK (.same s) (fun a o _ q=>s a o q) fun a o q _ _=>s a o q
def SR (σ:St) (e:En) (a:Addr):Prop:=∀(i:Nat) s,e[i]? =some (some s)->s.eC=true->σ[i]?≠some (some (.ref a))
theorem Rd.ne (h:Rd H a o) (hl:H l=none):a≠l:=by
 rintro rfl;rcases h with h|⟨_,h⟩<;>(rw[hl]at h;cases h)
theorem aQ.new {K:Frag} {e:En} (h:aQ K (aW M L) W L H σ e) (s:aT H H') (hl:H l=none):aQ K (aW M (aW L (one l))) W (aW L (one l)) H' σ e/\SR σ e l:=by
 have k:cZ (aW M L) (aW M (aW L (one l))) H H':=⟨fun _ _ h=>s _ _ h,fun a o h n=>⟨s _ _ h,fun z=>by
  rcases z with z|z|z
  .exact n (.inl z)
  .exact n (.inr z)
  .rw[show a=l from z,hl]at h;cases h⟩⟩
 refine⟨⟨h.len,fun i sl q=>?_,h.uU⟩,fun i sl q hm e=>?_⟩
 .obtain⟨v,h1,h2⟩:=h.at' i sl q;refine⟨v,h1,?_⟩;cases sl with
  |val p=>exact Rep.aK k h2
  |own p=>obtain⟨a,e,w,c⟩:=h2;exact⟨a,e,w,c.aK k fun o q=>s _ _ q⟩
  |loc p=>obtain⟨a,e,w,c⟩:=h2;exact⟨a,e,.inl w,c.aK k fun o q=>s _ _ q⟩
  |bor p=>
   obtain⟨a,e,c⟩:=h2;refine⟨a,e,?_⟩;cases c with
   |lst e od n m r=>exact .lst (e.elim (fun e=>.inl (s _ _ e)) fun⟨u,e⟩=>.inr ⟨u,s _ _ e⟩) od n (fun z=>z.elim m (Rd.ne e hl)) (r.aK k)
   |fL e r=>exact .fL e (r.aK k)
   |aZ e od n m kk r=>exact .aZ (e.elim (fun e=>.inl (s _ _ e)) fun⟨u,e⟩=>.inr ⟨u,s _ _ e⟩) od n (fun z=>z.elim m (Rd.ne e hl)) kk (r.aK k)
 .obtain⟨v,h1,h2⟩:=h.at' i sl q;rw[h1]at e;cases e;cases sl with
  |val p=>cases hm
  |bor p=>cases hm
  |own p=>obtain⟨a,e,w,c⟩:=h2;cases e;obtain⟨o,e,_⟩:=c.there;rw[hl]at e;cases e
  |loc p=>obtain⟨a,e,w,c⟩:=h2;cases e;obtain⟨o,e,_⟩:=c.there;rw[hl]at e;cases e
theorem aQ.ZA {K:Frag} {e:En} (h:aQ K (aW M (aW L (one l))) W (aW L (one l)) H σ e) (f:SR σ e l):aQ K (aW M L) W L H σ e:=by
 have k:cZ (aW M (aW L (one l))) (aW M L) H H:=.less fun a z=>z.elim .inl fun z=>.inr (.inl z)
 refine⟨h.len,fun i sl q=>?_,h.uU⟩;obtain⟨v,h1,h2⟩:=h.at' i sl q;refine⟨v,h1,?_⟩;cases sl with
 |val p=>exact Rep.aK k h2
 |own p=>obtain⟨a,e,w,c⟩:=h2;exact⟨a,e,w,c.aK k fun o q=>q⟩
 |loc p=>
  obtain⟨a,e,w,c⟩:=h2;refine⟨a,e,w.elim id fun z=>?_,c.aK k fun o q=>q⟩;exfalso;have z:a=l:=z;subst z e;exact f i _ q rfl h1
 |bor p=>
  obtain⟨a,e,c⟩:=h2;refine⟨a,e,?_⟩;cases c with
  |lst e od n m r=>exact .lst e od n (fun z=>m (.inl z)) (r.aK k)
  |fL e r=>exact .fL e (r.aK k)
  |aZ e od n m kk r=>exact .aZ e od n (fun z=>m (.inl z)) kk (r.aK k)
inductive Bv where
 |val (p:PV)|slot (i:Nat)|new (p:PV)
noncomputable def rd (e:En) (i:Nat):Option PV:=match e[i]? with
 |some (some s)=>some s.pv
 |_=>none
noncomputable def Bv.get (e:En):Bv->Option PV
 | .val p=>some p
 | .new p=>some p
 | .slot i=>rd e i
noncomputable def Bv.weak:Bv->Bv
 | .new p=>.val p
 |b=>b
noncomputable def Bv.put:Bv->Option PV
 | .val p=>some p
 | .new p=>some p
 | .slot _=>none
def RB (K:Frag) (O M:aJ) (W:WS) (L:aJ) (H:Hp) (σ:St) (e:En) (v:V):Bv->Prop
 | .val p=>aQ K (aW M L) W L H σ e/\Rep K (aW M L) H p v
 | .slot i=>aQ K (aW M L) W L H σ e/\σ[i]? =some (some v)
 | .new p=>∃a,v= .ref a/\¬O a/\¬L a/\aQ K (aW M (aW L (one a))) W (aW L (one a)) H σ e/\SR σ e a/\jA K (aW M (aW L (one a))) H a p
theorem RB.weak {K:Frag} {b:Bv} (o:lQ O M W L H) (h:RB K O M W L H σ e v b):RB K O M W L H σ e v b.weak:=by
 cases b with
 |val p=>exact h
 |slot i=>exact h
 |new p=>
  obtain⟨a,rfl,n1,n2,h1,hf,h2⟩:=h;exact⟨h1.ZA hf,(h2.aK (.less fun _ z=>z.elim .inl fun z=>.inr (.inl z)) fun _ q=>q).rep fun z=>z.elim (fun z=>n1 (o.mo _ z)) n2⟩
theorem RB.en {K:Frag} {b:Bv} (o:lQ O M W L H) (h:RB K O M W L H σ e v b):aQ K (aW M L) W L H σ e:=by
 cases b with
 |val p=>exact h.1
 |slot i=>exact h.1
 |new p=>exact(RB.weak (b:=.new p) o h).1
def RV (K:Frag) (Z:aJ) (H:Hp) (σ:St) (v:V):Bv->Prop
 | .val p=>Rep K Z H p v
 | .slot i=>σ[i]? =some (some v)
 | .new _=>False
theorem RB.rv {K:Frag} {b:Bv} (o:lQ O M W L H) (h:RB K O M W L H σ e v b):RV K (aW M L) H σ v b.weak:=by
 have h:=h.weak o;cases b with
 |val p=>exact h.2
 |slot i=>exact h.2
 |new p=>exact h.2
theorem RV.keep {K:Frag} {b:Bv} (o:lQ O M W L H) (k:cA W L H H') (h:RV K (aW M L) H σ v b):RV K (aW M L) H' σ v b:=by
 cases b with
 |val p=>exact Rep.aK (k.aK o) h
 |slot i=>exact h
 |new p=>exact h
theorem aQ.rd {K:Frag} {e:En} {i:Nat} (h:aQ K Z W L H σ e) (g:rd e i=some p) (hv:σ[i]? =some (some v)):Red K Z H p v:=by
 unfold Mr.rd at g;cases q:e[i]? with
 |none=>rw[q]at g;cases g
 | some s=>
  cases s with
  |none=>rw[q]at g;cases g
  |some s=>
   rw[q]at g;cases g;obtain⟨w,h1,h2⟩:=h.at' i s q;rw[hv]at h1;cases h1;exact h2.red
theorem RV.red {K:Frag} {b:Bv} (h:RV K Z H σ v b) (he:aQ K Z W L H σ e) (g:b.get e=some p):Red K Z H p v:=by
 cases b with
 |val q=>cases g;exact .rep h
 |slot i=>exact he.rd g h
 |new q=>exact h.elim
abbrev FE:=En->Option (Bv×En)
abbrev FT:=En->Option (Bool×En)
abbrev FA:=En->Option (List Bv×En)
def Fr (H:Hp) (v:V):Bv->Prop
 | .new _=>∀a,v= .ref a->H a=none
 |_=>True
theorem Fr.back {H:Hp} {b:Bv} (d:∀a,H a≠none->H1 a≠none) (h:Fr H1 v b):Fr H v b:=by
 cases b with
 |val p=>trivial
 |slot i=>trivial
 |new p=>
  intro a e;cases z:H a with
  |none=>rfl
  |some o=>exact absurd (h a e) (d a (by rw[z];exact fun z=>nomatch z))
def Ref (K:Frag) (t:TE) (f:FE):Prop:=∀(O M:aJ) (W:WS) (L:aJ) (σ:St) (H:Hp) (e e':En) (b:Bv) (Q:VK),lQ O M W L H->aQ K (aW M L) W L H σ e->f e=some (b,e')->
 (∀v H',cA W L H H'->RB K O M W L H' σ e' v b->Fr H v b->Q v H')->t σ H Q
def mS (K:Frag) (t:TT) (f:FT):Prop:=∀(O M:aJ) (W:WS) (L:aJ) (σ:St) (H:Hp) (e e':En) (b:Bool) (Q:Bool->Hp->Prop),lQ O M W L H->aQ K (aW M L) W L H σ e->f e=some (b,e')->
 (∀H',cA W L H H'->aQ K (aW M L) W L H' σ e'->Q b H')->t σ H Q
inductive HE (K:Frag) (Z:aJ) (H:Hp) (σ:St):List Bv->List V->Prop
 |nil:HE K Z H σ [] []
 |cons {b:Bv} {v:V} {bs:List Bv} {vs:List V}:RV K Z H σ v b->HE K Z H σ bs vs->HE K Z H σ (b::bs) (v::vs)
def vS (K:Frag) (t:TA) (f:FA):Prop:=∀(O M:aJ) (W:WS) (L:aJ) (σ:St) (H:Hp) (e e':En) (bs:List Bv) (Q:List V->Hp->Prop),lQ O M W L H->aQ K (aW M L) W L H σ e->f e=some (bs,e')->
 (∀vs H',cA W L H H'->aQ K (aW M L) W L H' σ e'->HE K (aW M L) H' σ bs vs->Q vs H')->t σ H Q
noncomputable def bE (r:Option (α×En)) (k:α->En->Option β):Option β:=match r with
 |some (a,e)=>k a e
 |none=>none
noncomputable def bO (r:Option α) (k:α->Option β):Option β:=match r with
 |some a=>k a
 |none=>none
theorem aM {r:Option (α×En)} {k:α->En->Option β} {b:β} (h:bE r k=some b):∃a e,r=some (a,e)/\k a e=some b:=by
 cases r with
 |none=>cases h
 |some x=>exact⟨x.1,x.2,rfl,h⟩
theorem aF {r:Option α} {k:α->Option β} {b:β} (h:bO r k=some b):∃a,r=some a/\k a=some b:=by
 cases r with
 |none=>cases h
 |some x=>exact⟨x,rfl,h⟩
theorem G1 {a:α} {k:α->En->Option β}:bE (some (a,e)) k=k a e:=rfl
theorem qZ {a:α} {k:α->Option β}:bO (some a) k=k a:=rfl
noncomputable def bB (c:Bool) (x y:β):β:=match c with|true=>x|false=>y
noncomputable def bD (c:Bool) (k:Option β):Option β:=match c with|true=>k|false=>none
theorem aL {c:Bool} {k:Option β} {b:β} (h:bD c k=some b):c=true/\k=some b:=by
 cases c with
 |false=>cases h
 |true=>exact⟨rfl,h⟩
def RN (K:Frag) (Z:aJ) (H H':Hp) (v:V):Bv->Prop
 | .val p=>Rep K Z H' p v
 | .new p=>∃a,v= .ref a/\H a=none/\jA K (aW Z (one a)) H' a p
 | .slot _=>False
theorem RN.rb {K:Frag} {b:Bv} (o:lQ O M W L H) (he:aQ K (aW M L) W L H σ e) (s:aT H H') (h:RN K (aW M L) H H' v b):RB K O M W L H' σ e v b:=by
 cases b with
 |val p=>exact⟨he.same s,h⟩
 |slot i=>exact h.elim
 |new p=>
  obtain⟨a,rfl,n,c⟩:=h;have w:=he.new s n;exact⟨a,rfl,fun z=>o.old a z n,fun z=>(o.loc a z).1 n,w.1,w.2,c.aK (.less fun _ z=>by rcases z with z|z|z;exact .inl (.inl z);exact .inl (.inr z);exact .inr z) fun _ q=>q⟩
theorem RN.fr {K:Frag} {H0:Hp} {b:Bv} (d:∀a,H0 a≠none->H a≠none) (h:RN K Z H H' v b):Fr H0 v b:=by
 refine Fr.back d ?_;cases b with
 |val p=>trivial
 |slot i=>trivial
 |new p=>
  obtain⟨a,rfl,n,c⟩:=h;intro a' e;cases e;exact n
def eF (K:Frag) (r:R2) (g:PV->PV->Option Bv):Prop:=∀(Z:aJ) (H:Hp) (x y:V) (p q:PV) (b:Bv) (Q:VK),Red K Z H p x->Red K Z H q y->g p q=some b->(∀v H',aT H H'->RN K Z H H' v b->Q v H')->r x y H Q
def ae3 (K:Frag) (r:V->Hp->VK->Prop) (g:PV->Option Bv):Prop:=∀(Z:aJ) (H:Hp) (x:V) (p:PV) (b:Bv) (Q:VK),Red K Z H p x->g p=some b->(∀v H',aT H H'->RN K Z H H' v b->Q v H')->r x H Q
inductive AL (K:Frag) (Z:aJ) (H:Hp):List PV->List V->Prop
 |nil:AL K Z H [] []
 |cons {p:PV} {v:V} {ps:List PV} {vs:List V}:Red K Z H p v->AL K Z H ps vs->AL K Z H (p::ps) (v::vs)
def iA (K:Frag) (r:List V->Hp->VK->Prop) (g:List PV->Option Bv):Prop:=∀(Z:aJ) (H:Hp) (vs:List V) (ps:List PV) (b:Bv) (Q:VK),AL K Z H ps vs->g ps=some b->(∀v H',aT H H'->RN K Z H H' v b->Q v H')->r vs H Q
def adR (K:Frag) (r:V->List V->Hp->VK->Prop) (g:PV->List PV->Option Bv):Prop:=∀(Z:aJ) (H:Hp) (x:V) (vs:List V) (p:PV) (ps:List PV) (b:Bv) (Q:VK),Red K Z H p x->AL K Z H ps vs->g p ps=some b->(∀v H',aT H H'->RN K Z H H' v b->Q v H')->r x vs H Q
noncomputable def getL (e:En):List Bv->Option (List PV)
 |[]=>some []
 |b::bs=>bO (b.get e) fun p=>bO (getL e bs) fun ps=>some (p::ps)
theorem HE.red {K:Frag} (he:aQ K Z W L H σ e):∀{bs:List Bv} {vs:List V} {ps:List PV},HE K Z H σ bs vs->getL e bs=some ps->AL K Z H ps vs
 |_,_,_,.nil,g=>by cases g;exact .nil
 |_,_,_,.cons h r,g=>by
  obtain⟨p,g1,g⟩:=aF g;obtain⟨ps,g2,g⟩:=aF g;cases g;exact .cons (h.red he g1) (HE.red he r g2)
section
variable {K:Frag}
noncomputable def aC (i:Nat):FE:=fun e=>match e[i]? with
 |some (some (.val p))=>some (.val p,e)
 |some (some _)=>some (.slot i,e)
 |_=>none
theorem WQ (i:Nat):Ref K (yX i) (aC i):=by
 intro O M W L σ H e e' b Q o he hf q;unfold aC at hf;cases g:e[i]? with
 |none=>rw[g]at hf;cases hf
 | some s=>
  cases s with
  |none=>rw[g]at hf;cases hf
  |some s=>
   rw[g]at hf;obtain⟨v,h1,h2⟩:=he.at' i s g;cases s with
   |val p=>cases hf;exact⟨v,h1,q v H .refl ⟨he,h2⟩ trivial⟩
   |own p=>cases hf;exact⟨v,h1,q v H .refl ⟨he,h1⟩ trivial⟩
   |loc p=>cases hf;exact⟨v,h1,q v H .refl ⟨he,h1⟩ trivial⟩
   |bor p=>cases hf;exact⟨v,h1,q v H .refl ⟨he,h1⟩ trivial⟩
noncomputable def fC (p:PV):FE:=fun e=>some (.val p,e)
theorem GC (h:∀Z H,Rep K Z H p v):Ref K (tC v) (fC p):=by
 intro O M W L σ H e e' b Q o he hf q;cases hf;exact q v H .refl ⟨he,h _ _⟩ trivial
theorem VF (i:Int):Ref K (tC (.int i)) (fC (.int i)):=GC fun _ _=>.int i
theorem V3 (i:Str):Ref K (tC (.str i)) (fC (.str i)):=GC fun _ _=>.str i
theorem ac4 (i:Bool):Ref K (tC (.bl i)) (fC (.bl i)):=GC fun _ _=>.bl i
theorem V9:Ref K (tC .bG) (fC .bG):=GC fun _ _=>.bG
theorem abB (n:String):Ref K (tC (.ty n)) (fC (.ty n)):=GC fun _ _=>.ty n
noncomputable def bC (g:PV->PV->Option Bv) (fa fb:FE):FE:=fun e=>bE (fa e) fun x e1=>bE (fb e1) fun y e2=>bO (x.weak.get e2) fun p=>bO (y.weak.get e2) fun q=>bO (g p q) fun b=>some (b,e2)
theorem aaW {r:R2} {g:PV->PV->Option Bv} (hg:eF K r g) (ha:Ref K ta fa) (hb:Ref K tb fb):Ref K (tOp r ta tb) (bC g fa fb):=by
 intro O M W L σ H e e' b Q o he hf q;obtain⟨x,e1,f1,hf⟩:=aM hf;obtain⟨y,e2,f2,hf⟩:=aM hf;obtain⟨p,g1,hf⟩:=aF hf;obtain⟨p',g2,hf⟩:=aF hf;obtain⟨c,g3,hf⟩:=aF hf;cases hf;refine ha O M W L σ H e e1 x _ o he f1 fun v1 H1 k1 r1 fr=>?_
 have o1:=o.keep k1.cD;refine hb O M W L σ H1 e1 _ y _ o1 (r1.en o1) f2 fun v2 H2 k2 r2 fr=>?_
 have o2:=o1.keep k2.cD;have en:=r2.en o2;refine hg _ H2 v1 v2 p p' _ Q (((r1.rv o1).keep o1 k2).red en g1) ((r2.rv o2).red en g2) g3 fun v H' s rn=>?_
 exact q v H' ((k1.trans k2).trans (.same s)) (rn.rb o2 en s) (rn.fr (k1.trans k2).cD)
noncomputable def fUn (g:PV->Option Bv) (fa:FE):FE:=fun e=>bE (fa e) fun x e1=>bO (x.weak.get e1) fun p=>bO (g p) fun b=>some (b,e1)
theorem acS {r:V->Hp->VK->Prop} {g:PV->Option Bv} (hg:ae3 K r g) (ha:Ref K ta fa):Ref K (tUn r ta) (fUn g fa):=by
 intro O M W L σ H e e' b Q o he hf q;obtain⟨x,e1,f1,hf⟩:=aM hf;obtain⟨p,g1,hf⟩:=aF hf;obtain⟨c,g3,hf⟩:=aF hf;cases hf;refine ha O M W L σ H e _ x _ o he f1 fun v1 H1 k1 r1 fr=>?_
 have o1:=o.keep k1.cD;have en:=r1.en o1;refine hg _ H1 v1 p _ Q ((r1.rv o1).red en g1) g3 fun v H' s rn=>?_
 exact q v H' (k1.trans (.same s)) (rn.rb o1 en s) (rn.fr k1.cD)
noncomputable def aI:FA:=fun e=>some ([],e)
noncomputable def aB (fa:FE) (fr:FA):FA:=fun e=>bE (fa e) fun x e1=>bE (fr e1) fun xs e2=>some (x.weak::xs,e2)
theorem VC:vS K tN aI:=by
 intro O M W L σ H e e' b Q o he hf q;cases hf;exact q [] H .refl he .nil
theorem RZ {tr:TA} {fr:FA} (ha:Ref K ta fa) (hr:vS K tr fr):vS K (eI ta tr) (aB fa fr):=by
 intro O M W L σ H e e' b Q o he hf q;obtain⟨x,e1,f1,hf⟩:=aM hf;obtain⟨xs,e2,f2,hf⟩:=aM hf;cases hf;refine ha O M W L σ H e e1 x _ o he f1 fun v1 H1 k1 r1 fr=>?_
 have o1:=o.keep k1.cD;refine hr O M W L σ H1 e1 _ xs _ o1 (r1.en o1) f2 fun vs H2 k2 en2 r2=>?_
 exact q (v1::vs) H2 (k1.trans k2) en2 (.cons ((r1.rv o1).keep o1 k2) r2)
noncomputable def jE (g:List PV->Option Bv) (fa:FA):FE:=fun e=>bE (fa e) fun xs e1=>bO (getL e1 xs) fun ps=>bO (g ps) fun b=>some (b,e1)
theorem acN {r:List V->Hp->VK->Prop} {g:List PV->Option Bv} {ta:TA} {fa:FA} (hg:iA K r g) (ha:vS K ta fa):Ref K (tCB r ta) (jE g fa):=by
 intro O M W L σ H e e' b Q o he hf q;obtain⟨x,e1,f1,hf⟩:=aM hf;obtain⟨p,g1,hf⟩:=aF hf;obtain⟨c,g3,hf⟩:=aF hf;cases hf;refine ha O M W L σ H e _ x _ o he f1 fun v1 H1 k1 en r1=>?_
 have o1:=o.keep k1.cD;refine hg _ H1 v1 p _ Q (r1.red en g1) g3 fun v H' s rn=>?_
 exact q v H' (k1.trans (.same s)) (rn.rb o1 en s) (rn.fr k1.cD)
noncomputable def fBM (g:PV->List PV->Option Bv) (fo:FE) (fa:FA):FE:=fun e=>bE (fo e) fun x e0=>match x with
 | .val (.str z)=>bE (fa e0) fun xs e1=>bO (getL e1 xs) fun ps=>bO (g (.str z) ps) fun b=>some (b,e1)
 |_=>none
theorem Z2 {r:V->List V->Hp->VK->Prop} {g:PV->List PV->Option Bv} {to:TE} {ta:TA} {fo:FE} {fa:FA} (hg:adR K r g) (ho:Ref K to fo) (ha:vS K ta fa):Ref K (tBM K "str" r to ta) (fBM g fo fa):=by
 intro O M W L σ H e e' b Q o he hf q;obtain⟨x,e0,f0,hf⟩:=aM hf;cases x with
 |slot i=>cases hf
 |new p=>cases hf
 | val p=>
  cases p with
  |str z=>
   obtain⟨xs,e1,f1,hf⟩:=aM hf;obtain⟨p,g1,hf⟩:=aF hf;obtain⟨c,g3,hf⟩:=aF hf;cases hf;refine ho O M W L σ H e e0 _ _ o he f0 fun v0 H0 k0 r0 fr=>?_
   have o0:=o.keep k0.cD;obtain⟨en0,r0⟩:=r0;cases r0;refine⟨rfl,ha O M W L σ H0 e0 _ xs _ o0 en0 f1 fun v1 H1 k1 en r1=>?_⟩;have o1:=o0.keep k1.cD;refine hg _ H1 (.str z) v1 (.str z) p _ Q (.rep (.str z)) (r1.red en g1) g3 fun v H' s rn=>?_
   exact q v H' ((k0.trans k1).trans (.same s)) (rn.rb o1 en s) (rn.fr (k0.trans k1).cD)
  |_=>cases hf
noncomputable def putL:List Bv->Option (List PV)
 |[]=>some []
 |b::bs=>bO b.put fun p=>bO (putL bs) fun ps=>some (p::ps)
theorem HE.put:∀{bs:List Bv} {vs:List V} {ps:List PV},HE K Z H σ bs vs->putL bs=some ps->bI K Z H ps vs
 |_,_,_,.nil,g=>by cases g;exact .nil
 |b::_,_,_,.cons h r,g=>by
  obtain⟨p,g1,g⟩:=aF g;obtain⟨ps,g2,g⟩:=aF g;cases g;cases b with
  |val p=>cases g1;exact .cons h (HE.put r g2)
  |slot i=>cases g1
  |new p=>exact h.elim
theorem gP (h:decide (n<1000000)=true):n<sizeLine:=szt (by have:=av h;omega)
noncomputable def dD (fa:FA):FE:=fun e=>bE (fa e) fun xs e1=>bO (putL xs) fun ps=>bD (decide (ps.length<1000000)) (some (.val (.tup ps),e1))
theorem YK {ta:TA} {fa:FA} (ha:vS K ta fa):Ref K (aaN ta) (dD fa):=by
 intro O M W L σ H e e' b Q o he hf q;obtain⟨x,e1,f1,hf⟩:=aM hf;obtain⟨ps,g1,hf⟩:=aF hf;obtain⟨g2,hf⟩:=aL hf;cases hf;refine ha O M W L σ H e _ x _ o he f1 fun vs H1 k1 en r1=>?_
 have rl:=r1.put g1;refine⟨by rw[<-rl.length];exact gx (gP g2),fun p hp=>?_⟩;have s:aT H1 (upd H1 p (.tup vs)):=aT.upd hp;exact q _ _ (k1.trans (.same s)) ⟨en.same s,.tup (.inl aU) (rl.aK (.same s))⟩ trivial
noncomputable def gF (fa:FA):FE:=fun e=>bE (fa e) fun xs e1=>bO (putL xs) fun ps=>bD (decide (ps.length<1000000)) (some (.new (.lst ps),e1))
theorem U2 {ta:TA} {fa:FA} (ha:vS K ta fa):Ref K (R7 ta) (gF fa):=by
 intro O M W L σ H e e' b Q o he hf q;obtain⟨x,e1,f1,hf⟩:=aM hf;obtain⟨ps,g1,hf⟩:=aF hf;obtain⟨g2,hf⟩:=aL hf;cases hf;refine ha O M W L σ H e _ x _ o he f1 fun vs H1 k1 en r1=>?_
 have o1:=o.keep k1.cD;have rl:=r1.put g1;refine⟨by rw[<-rl.length];exact gx (gP g2),fun p hp=>?_⟩;have s:aT H1 (upd H1 p (.lst vs)):=aT.upd hp;exact q _ _ (k1.trans (.same s)) ⟨p,rfl,fun z=>o1.old p z hp,fun z=>(o1.loc p z).1 hp,(en.new s hp).1,(en.new s hp).2,.lst aU (rl.aK ⟨fun _ _ h=>s _ _ h,fun a o h n=>⟨s _ _ h,fun z=>by
  rcases z with z|z|z
  .exact n (.inl z)
  .exact n (.inr z)
  .rw[show a=p from z,hp]at h;cases h⟩⟩)⟩ (Fr.back (b:=.new (.lst ps)) k1.cD fun a e=>by cases e;exact hp)
noncomputable def l7:FE:=fun e=>some (.new (.aZ []),e)
theorem O4:Ref K DU l7:=by
 intro O M W L σ H e e' b Q o he hf q;cases hf;intro p hp;have s:aT H (upd H p (.dK [] 0)):=aT.upd hp;exact q _ _ (.same s) ⟨p,rfl,fun z=>o.old p z hp,fun z=>(o.loc p z).1 hp,(he.new s hp).1,(he.new s hp).2,.aZ aU rfl .nil⟩ fun a e=>by cases e;exact hp
noncomputable def bH (f:FE):FT:=fun e=>bE (f e) fun b e1=>match b with
 | .val (.bl c)=>some (c,e1)
 |_=>none
theorem G0 (h:Ref K t f):mS K (ZK t) (bH f):=by
 intro O M W L σ H e e' b Q o he hf q;obtain⟨x,e1,f1,hf⟩:=aM hf;cases x with
 |slot i=>cases hf
 |new p=>cases hf
 | val p=>
  cases p with
  |bl c=>
   cases hf;refine h O M W L σ H e _ _ _ o he f1 fun v1 H1 k1 r1 fr=>?_
   obtain⟨en,r⟩:=r1;cases r;exact⟨b,rfl,q H1 k1 en⟩
  |_=>cases hf
theorem ab1 (h:Ref K t f):mS K (tB t) (bH f):=G0 h
noncomputable section
def tH (f g:FT):FT:=fun e=>bE (f e) fun b e1=>bB b (g e1) (some (false,e1))
def fOr (f g:FT):FT:=fun e=>bE (f e) fun b e1=>bB b (some (true,e1)) (g e1)
def XG (f:FT):FT:=fun e=>bE (f e) fun b e1=>some (!b,e1)
end
theorem W5 {t:TT} {f g:FT} (h:mS K t f) (h2:mS K u g):mS K (afT t u) (tH f g):=by
 intro O M W L σ H e e' b Q o he hf q;obtain⟨x,e1,f1,hf⟩:=aM hf;refine h O M W L σ H e _ _ _ o he f1 fun H1 k1 en=>?_
 cases x with
 |true=>rw[ao rfl];exact h2 O M W L σ H1 e1 _ _ _ (o.keep k1.cD) en hf fun H2 k2 en2=>q H2 (k1.trans k2) en2
 |false=>cases hf;rw[ai ax];exact q H1 k1 en
theorem acM {t:TT} {f g:FT} (h:mS K t f) (h2:mS K u g):mS K (tOr t u) (fOr f g):=by
 intro O M W L σ H e e' b Q o he hf q;obtain⟨x,e1,f1,hf⟩:=aM hf;refine h O M W L σ H e _ _ _ o he f1 fun H1 k1 en=>?_
 cases x with
 |true=>cases hf;rw[ao rfl];exact q H1 k1 en
 |false=>rw[ai ax];exact h2 O M W L σ H1 e1 _ _ _ (o.keep k1.cD) en hf fun H2 k2 en2=>q H2 (k1.trans k2) en2
theorem WD {t:TT} {f:FT} (h:mS K t f):mS K (afY t) (XG f):=by
 intro O M W L σ H e e' b Q o he hf q;obtain⟨x,e1,f1,hf⟩:=aM hf;cases hf;exact h O M W L σ H e _ _ _ o he f1 fun H1 k1 en=>q H1 k1 en
noncomputable def dC:FT:=fun e=>some (true,e)
theorem T2:mS K ZQ dC:=by
 intro O M W L σ H e e' b Q o he hf q;cases hf;exact q H .refl he
noncomputable def T1:Bv->Option Bool
 | .val (.bl c)=>some c
 |_=>none
theorem MY {x:Bv} {c:Bool} (h:T1 x=some c):x= .val (.bl c):=by
 unfold T1 at h;split at h
 .cases h;rfl
 .cases h
noncomputable def QD (fa fb:FE):FE:=fun e=>bE (fa e) fun b e1=>bO (T1 b) fun c=>bB c (fb e1) (some (.val (.bl false),e1))
theorem Q5 (ha:Ref K ta fa) (hb:Ref K tb fb):Ref K (ZG ta tb) (QD fa fb):=by
 intro O M W L σ H e e' b Q o he hf q;obtain⟨x,e1,f1,hf⟩:=aM hf;obtain⟨c,gc,hf⟩:=aF hf;have ec:=MY gc;subst ec;refine ha O M W L σ H e _ _ _ o he f1 fun v1 H1 k1 r1 fr=>?_
 obtain⟨en,r⟩:=r1;cases r;refine⟨c,rfl,?_⟩;cases c with
 |true=>rw[ao rfl];exact hb O M W L σ H1 e1 _ _ _ (o.keep k1.cD) en hf fun v2 H2 k2 r2 fr=>q v2 H2 (k1.trans k2) r2 (fr.back k1.cD)
 |false=>cases hf;rw[ai ax];exact q _ H1 k1 ⟨en,.bl _⟩ trivial
noncomputable def VS (fc:FT) (fa fb:FE):FE:=fun e=>bE (fc e) fun b e1=>bB b (fa e1) (fb e1)
theorem ZU {tc:TT} (hc:mS K tc fc) (ha:Ref K ta fa) (hb:Ref K tb fb):Ref K (tIf tc ta tb) (VS fc fa fb):=by
 intro O M W L σ H e e' b Q o he hf q;obtain⟨x,e1,f1,hf⟩:=aM hf;refine hc O M W L σ H e _ _ _ o he f1 fun H1 k1 en=>?_
 cases x with
 |true=>rw[ao rfl];exact ha O M W L σ H1 e1 _ _ _ (o.keep k1.cD) en hf fun v2 H2 k2 r2 fr=>q v2 H2 (k1.trans k2) r2 (fr.back k1.cD)
 |false=>rw[ai ax];exact hb O M W L σ H1 e1 _ _ _ (o.keep k1.cD) en hf fun v2 H2 k2 r2 fr=>q v2 H2 (k1.trans k2) r2 (fr.back k1.cD)
abbrev FO:=En->Option (Option Int×En)
def U1 (K:Frag) (t:TO) (f:FO):Prop:=∀(O M:aJ) (W:WS) (L:aJ) (σ:St) (H:Hp) (e e':En) (b:Option Int) (Q:Option Int->Hp->Prop),lQ O M W L H->aQ K (aW M L) W L H σ e->f e=some (b,e')->
 (∀H',cA W L H H'->aQ K (aW M L) W L H' σ e'->Q b H')->t σ H Q
noncomputable def eY:FO:=fun e=>some (none,e)
noncomputable def mQ (f:FE):FO:=fun e=>bE (f e) fun b e1=>match b with
 | .val (.int i)=>some (some i,e1)
 |_=>none
theorem KU:U1 K L3 eY:=by
 intro O M W L σ H e e' b Q o he hf q;cases hf;exact q H .refl he
theorem QK (h:Ref K t f):U1 K (ZC t) (mQ f):=by
 intro O M W L σ H e e' b Q o he hf q;obtain⟨x,e1,f1,hf⟩:=aM hf;cases x with
 |slot i=>cases hf
 |new p=>cases hf
 | val p=>
  cases p with
  |int c=>
   cases hf;refine h O M W L σ H e _ _ _ o he f1 fun v1 H1 k1 r1 fr=>?_
   obtain⟨en,r⟩:=r1;cases r;exact⟨c,rfl,q H1 k1 en⟩
  |_=>cases hf
def af9 (K:Frag) (r:V->Option Int->Option Int->Hp->VK->Prop) (g:PV->Option Int->Option Int->Option Bv):Prop:=∀(Z:aJ) (H:Hp) (x:V) (p:PV) (lo hi:Option Int) (b:Bv) (Q:VK),Red K Z H p x->g p lo hi=some b->(∀v H',aT H H'->RN K Z H H' v b->Q v H')->r x lo hi H Q
noncomputable def NS (g:PV->Option Int->Option Int->Option Bv) (fa:FE) (fl fh:FO):FE:=fun e=>bE (fa e) fun x e1=>bE (fl e1) fun lo e2=>bE (fh e2) fun hi e3=>bO (x.weak.get e3) fun p=>bO (g p lo hi) fun b=>some (b,e3)
theorem abS {r:V->Option Int->Option Int->Hp->VK->Prop} {g:PV->Option Int->Option Int->Option Bv} {tl th:TO} {fl fh:FO} (hg:af9 K r g) (ha:Ref K ta fa) (hl:U1 K tl fl) (hh:U1 K th fh):Ref K (tSl r ta tl th) (NS g fa fl fh):=by
 intro O M W L σ H e e' b Q o he hf q;obtain⟨x,e1,f1,hf⟩:=aM hf;obtain⟨lo,e2,f2,hf⟩:=aM hf;obtain⟨hi,e3,f3,hf⟩:=aM hf;obtain⟨p,g1,hf⟩:=aF hf;obtain⟨c,g3,hf⟩:=aF hf;cases hf;refine ha O M W L σ H e e1 x _ o he f1 fun v1 H1 k1 r1 fr=>?_
 have o1:=o.keep k1.cD;refine hl O M W L σ H1 e1 e2 lo _ o1 (r1.en o1) f2 fun H2 k2 en2=>?_
 have o2:=o1.keep k2.cD;refine hh O M W L σ H2 e2 _ hi _ o2 en2 f3 fun H3 k3 en3=>?_
 have o3:=o2.keep k3.cD;refine hg _ H3 v1 p lo hi _ Q ((((r1.rv o1).keep o1 k2).keep o2 k3).red en3 g1) g3 fun v H' s rn=>?_
 exact q v H' (((k1.trans k2).trans k3).trans (.same s)) (rn.rb o3 en3 s) (rn.fr ((k1.trans k2).trans k3).cD)
end
inductive Out where
 |nx (e:En)|rt (b:Bv) (e:En)|bk (e:En)|ct (e:En)
abbrev FS:=En->Option Out
structure o9 (W:WS) (L L':aJ) (H H':Hp):Prop where
 obj:∀a o,H a=some o->¬aw W a->¬L a->H' a=some o
 tup:∀a xs,H a=some (.tup xs)->H' a=some (.tup xs)
 cD:∀a,H a≠none->H' a≠none
 new:∀a,L' a->L a\/ H a=none
theorem o9.refl:o9 W L L H H:=⟨fun _ _ h _ _=>h,fun _ _ h=>h,fun _ h=>h,fun _ h=>.inl h⟩
theorem o9.keep (k:cA W L H H'):o9 W L L H H':=⟨k.obj,k.tup,k.cD,fun _ h=>.inl h⟩
theorem o9.trans {L2:aJ} {H:Hp} (a:o9 W L L1 H H1) (b:o9 W L1 L2 H1 H2):o9 W L L2 H H2:=
 ⟨fun c o h n m=>b.obj c o (a.obj c o h n m) n fun z=>(a.new c z).elim m fun z=>(by rw[h]at z;cases z),fun c xs h=>b.tup c xs (a.tup c xs h),fun c h=>b.cD c (a.cD c h),fun c h=>by
  rcases b.new c h with z|z
  .exact a.new c z
  .refine .inr ?_;cases e:H c with
   |none=>rfl
   |some o=>exact absurd z (a.cD c (by rw[e];exact fun z=>nomatch z))⟩
def V6 (K:Frag) (O M:aJ) (W:WS) (L:aJ) (H:Hp) (D:Ends):Out->Prop
 | .nx e'=>∀L' σ' H',o9 W L L' H H'->lQ O M W L' H'->aQ K (aW M L') W L' H' σ' e'->D.nx σ' H'
 | .bk e'=>∀L' σ' H',o9 W L L' H H'->lQ O M W L' H'->aQ K (aW M L') W L' H' σ' e'->D.bk σ' H'
 | .ct e'=>∀L' σ' H',o9 W L L' H H'->lQ O M W L' H'->aQ K (aW M L') W L' H' σ' e'->D.ct σ' H'
 | .rt b e'=>∀L' σ' H' v,o9 W L L' H H'->lQ O M W L' H'->RB K O M W L' H' σ' e' v b->D.rt v H'
theorem V6.later {K:Frag} {D:Ends} {r:Out} (g:o9 W L L1 H H1) (h:V6 K O M W L H D r):V6 K O M W L1 H1 D r:=by
 cases r with
 |nx e=>exact fun L' σ' H' g'=>h L' σ' H' (g.trans g')
 |bk e=>exact fun L' σ' H' g'=>h L' σ' H' (g.trans g')
 |ct e=>exact fun L' σ' H' g'=>h L' σ' H' (g.trans g')
 |rt b e=>exact fun L' σ' H' v g'=>h L' σ' H' v (g.trans g')
def gA (K:Frag) (t:TS) (f:FS):Prop:=∀(O M:aJ) (W:WS) (L:aJ) (σ:St) (H:Hp) (e:En) (r:Out) (D:Ends),lQ O M W L H->aQ K (aW M L) W L H σ e->f e=some r->V6 K O M W L H D r->t D σ H
section
variable {K:Frag}
noncomputable def dF:FS:=fun e=>some (.nx e)
theorem QQ:gA K PZ dF:=by
 intro O M W L σ H e r D o he hf q;cases hf;exact q L σ H .refl o he
noncomputable def aR (f g:FS):FS:=fun e=>match f e with
 |some (.nx e1)=>g e1
 |r=>r
theorem C5 {t u:TS} {f g:FS} (h1:gA K t f) (h2:gA K u g):gA K (VV t u) (aR f g):=by
 intro O M W L σ H e r D o he hf q;unfold aR at hf;cases c:f e with
 |none=>rw[c]at hf;cases hf
 |some r1=>
  rw[c]at hf;cases r1 with
  |nx e1=>exact h1 O M W L σ H e _ _ o he c fun L' σ' H' g' o' he'=>h2 O M W L' σ' H' e1 r D o' he' hf (q.later g')
  |rt b e1=>cases hf;exact h1 O M W L σ H e _ _ o he c q
  |bk e1=>cases hf;exact h1 O M W L σ H e _ _ o he c q
  |ct e1=>cases hf;exact h1 O M W L σ H e _ _ o he c q
noncomputable def cV (f:FE):FS:=fun e=>bE (f e) fun b e1=>some (.rt b e1)
theorem XM (h:Ref K t f):gA K (aaE t) (cV f):=by
 intro O M W L σ H e r D o he hf q;obtain⟨x,e1,f1,hf⟩:=aM hf;cases hf;exact h O M W L σ H e _ _ _ o he f1 fun v H' k rb fr=>q L σ H' v (.keep k) (o.keep k.cD) rb
noncomputable def wD (fc:FT) (f g:FS):FS:=fun e=>bE (fc e) fun b e1=>bB b (f e1) (g e1)
theorem VZ {t u:TS} {f g:FS} (hc:mS K c fc) (h1:gA K t f) (h2:gA K u g):gA K (abL c t u) (wD fc f g):=by
 intro O M W L σ H e r D o he hf q;obtain⟨x,e1,f1,hf⟩:=aM hf;refine hc O M W L σ H e _ _ _ o he f1 fun H1 k1 en=>?_
 cases x with
 |true=>rw[ao rfl];exact h1 O M W L σ H1 e1 r D (o.keep k1.cD) en hf (q.later (.keep k1))
 |false=>rw[ai ax];exact h2 O M W L σ H1 e1 r D (o.keep k1.cD) en hf (q.later (.keep k1))
theorem eT {l:List α} {j:Nat} {x y:α} (h:(l.set i x)[j]? =some y):(i=j/\i<l.length/\x=y)\/ (i≠j/\l[j]? =some y):=by
 by_cases e:i=j
 .subst e;have hl:i<l.length:=by
   have:=(af.mp h).1;simpa using this
  rw[fx hl]at h;exact .inl ⟨rfl,hl,Option.some.inj h⟩
 .rw[dh e]at h;exact .inr ⟨e,h⟩
theorem aQ.put {e:En} (h:aQ K Z W L H σ e) (hm:s.eC=false) (hs:mJ K Z W L H i v s):aQ K Z W L H (σ.set i (some v)) (e.set i (some s)):=by
 refine⟨by rw[kg,kg];exact h.len,fun j t q=>?_,fun j k s1 s2 hjk q1 q2 m1 m2=>?_⟩
 .rcases eT q with⟨rfl,hl,e⟩|⟨hn,q⟩
  .cases e;exact⟨v,by rw[fx (by rw[<-h.len];exact hl)],hs⟩
  .rw[dh hn];exact h.at' j t q
 .rcases eT q1 with⟨rfl,hl,e⟩|⟨hn1,q1⟩
  .cases e;rw[hm]at m1;cases m1
  .rcases eT q2 with⟨rfl,hl,e⟩|⟨hn2,q2⟩
   .cases e;rw[hm]at m2;cases m2
   .rw[dh hn1,dh hn2];exact h.uU j k s1 s2 hjk q1 q2 m1 m2
theorem aQ.putL {e:En} (h:aQ K (aW M (aW L (one a))) W (aW L (one a)) H σ e) (hf:SR σ e a) (hc:jA K (aW M (aW L (one a))) H a p):
  aQ K (aW M (aW L (one a))) W (aW L (one a)) H (σ.set i (some (.ref a))) (e.set i (some (.loc p))):=by
 refine⟨by rw[kg,kg];exact h.len,fun j t q=>?_,fun j k s1 s2 hjk q1 q2 m1 m2=>?_⟩
 .rcases eT q with⟨rfl,hl,e⟩|⟨hn,q⟩
  .cases e;exact⟨_,by rw[fx (by rw[<-h.len];exact hl)],a,rfl,.inr rfl,hc⟩
  .rw[dh hn];exact h.at' j t q
 .rcases eT q1 with⟨rfl,hl,e⟩|⟨hn1,q1⟩
  .rcases eT q2 with⟨rfl,hl,e⟩|⟨hn2,q2⟩
   .exact absurd rfl hjk
   .rw[dh hn2,fx (by rw[<-h.len];exact hl)];exact fun z=>hf k s2 q2 m2 z.symm
  .rcases eT q2 with⟨rfl,hl,e⟩|⟨hn2,q2⟩
   .rw[dh hn1,fx (by rw[<-h.len];exact hl)];exact fun z=>hf j s1 q1 m1 z
   .rw[dh hn1,dh hn2];exact h.uU j k s1 s2 hjk q1 q2 m1 m2
noncomputable def bW (i:Nat) (f:FE):FS:=fun e=>bE (f e) fun b e1=>match b with
 | .val p=>some (.nx (e1.set i (some (.val p))))
 | .new p=>some (.nx (e1.set i (some (.val p))))
 | .slot j=>match e1[j]? with
  |some (some (.bor p))=>some (.nx (e1.set i (some (.bor p))))
  |_=>none
theorem WV (h:Ref K t f):gA K (t9 t (jY i)) (bW i f):=by
 intro O M W L σ H e r D o he hf q;obtain⟨x,e1,f1,hf⟩:=aM hf;refine h O M W L σ H e _ _ _ o he f1 fun v H' k rb fr=>?_
 have o1:=o.keep k.cD;cases x with
 |val p=>cases hf;exact q L _ H' (.keep k) o1 (aQ.put rb.1 rfl rb.2)
 |new p=>cases hf;have rb:=rb.weak o1;exact q L _ H' (.keep k) o1 (aQ.put (s:=.val p) rb.1 rfl rb.2)
 | slot j=>
  dsimp only at hf;cases c:e1[j]? with
  |none=>rw[c]at hf;cases hf
  | some s=>
   cases s with
   |none=>rw[c]at hf;cases hf
   | some s=>
    rw[c]at hf;cases s with
    |bor p=>
     cases hf;obtain⟨u,h1,h2⟩:=rb.1.at' j _ c;rw[rb.2]at h1;cases h1;exact q L _ H' (.keep k) o1 (aQ.put (s:=.bor p) rb.1 rfl h2)
    |_=>cases hf
noncomputable def dP (i:Nat) (f:FE):FS:=fun e=>bE (f e) fun b e1=>match b with
 | .new p=>some (.nx (e1.set i (some (.loc p))))
 |_=>none
theorem R9 (h:Ref K t f):gA K (t9 t (jY i)) (dP i f):=by
 intro O M W L σ H e r D o he hf q;obtain⟨x,e1,f1,hf⟩:=aM hf;cases x with
 |val p=>cases hf
 |slot j=>cases hf
 |new p=>
  cases hf;refine h O M W L σ H e _ _ _ o he f1 fun v H' k rb fr=>?_
  obtain⟨a,rfl,nO,nL,en,fe,c⟩:=rb;obtain⟨ob,hob,_⟩:=c.there;have o1:=o.keep k.cD;have new:H a=none:=fr a rfl;exact q (aW L (one a)) _ H' ⟨k.obj,k.tup,k.cD,fun b z=>z.elim .inl fun z=>.inr (by rw[show b=a from z];exact new)⟩ ⟨o1.old,o1.mo,o1.wm,fun b z=>z.elim (o1.loc b) fun z=>(by rw[show b=a from z];exact⟨(by rw[hob];exact fun z=>nomatch z),nO⟩)⟩ (aQ.putL en fe c)
noncomputable def rel (i:Nat) (e:En):Option En:=match e[i]? with
 |some (some (.loc p))=>some (e.set i (some (.val p)))
 |some (some (.val p))=>some e
 |_=>none
theorem aQ.rel {e:En} {i:Nat} (o:lQ O M W L H) (h:aQ K (aW M L) W L H σ e) (hi:e[i]? =some (some (.loc p))):∃L',(∀a,L' a->L a)/\aQ K (aW M L') W L' H σ (e.set i (some (.val p))):=by
 obtain⟨v,h1,a,rfl,la,c⟩:=h.at' i _ hi;refine⟨fun b=>L b/\b≠a,fun b z=>z.1,by rw[kg];exact h.len,fun j t q=>?_,fun j k s1 s2 hjk q1 q2 m1 m2=>?_⟩
 .have k:cZ (aW M L) (aW M fun b=>L b/\b≠a) H H:=.less fun b z=>z.elim .inl fun z=>.inr z.1
  rcases eT q with⟨rfl,hl,e⟩|⟨hn,q⟩
  .cases e;refine⟨_,h1,(c.aK k fun _ q=>q).rep fun z=>?_⟩;rcases z with z|z
   .exact(o.loc a la).2 (o.mo a z)
   .exact z.2 rfl
  .obtain⟨v,g1,g2⟩:=h.at' j t q;refine⟨v,g1,?_⟩;cases t with
   |val p=>exact Rep.aK k g2
   |own p=>obtain⟨b,e,w,c⟩:=g2;exact⟨b,e,w,c.aK k fun o q=>q⟩
   |loc p=>
    obtain⟨b,e,w,c⟩:=g2;refine⟨b,e,⟨w,fun z=>?_⟩,c.aK k fun o q=>q⟩;subst z;subst e;exact h.uU i j _ _ hn hi q rfl rfl (h1.trans g1.symm)
   |bor p=>
    obtain⟨b,e,c⟩:=g2;refine⟨b,e,?_⟩;cases c with
    |lst e od n m r=>exact .lst e od n (fun z=>m z.1) (r.aK k)
    |fL e r=>exact .fL e (r.aK k)
    |aZ e od n m kk r=>exact .aZ e od n (fun z=>m z.1) kk (r.aK k)
 .rcases eT q1 with⟨rfl,hl,e⟩|⟨hn1,q1⟩
  .cases e;cases m1
  .rcases eT q2 with⟨rfl,hl,e⟩|⟨hn2,q2⟩
   .cases e;cases m2
   .exact h.uU j k s1 s2 hjk q1 q2 m1 m2
noncomputable def aaS (i:Nat) (f:FS):FS:=fun e=>bO (rel i e) f
theorem XW {t:TS} {f:FS} (i:Nat) (h:gA K t f):gA K t (aaS i f):=by
 intro O M W L σ H e r D o he hf q;obtain⟨e1,f1,hf⟩:=aF hf;unfold Mr.rel at f1;cases c:e[i]? with
 |none=>rw[c]at f1;cases f1
 | some s=>
  cases s with
  |none=>rw[c]at f1;cases f1
  | some s=>
   rw[c]at f1;cases s with
   |loc p=>
    cases f1;obtain⟨L',hL,en⟩:=he.rel o c;refine h O M W L' σ H _ r D ⟨o.old,o.mo,o.wm,fun a z=>o.loc a (hL a z)⟩ en hf (q.later ⟨fun _ _ h _ _=>h,fun _ _ h=>h,fun _ h=>h,fun a z=>.inl (hL a z)⟩)
   |val p=>cases f1;exact h O M W L σ H _ r D o he hf q
   |_=>cases f1
noncomputable def cL (e:En) (i:Nat) (p:PV):En:=match e[i]? with
 |some (some (.own _))=>e.set i (some (.own p))
 |_=>e.set i (some (.loc p))
noncomputable def ownAt (e:En) (i:Nat):Option PV:=match e[i]? with
 |some (some (.own p))=>some p
 |some (some (.loc p))=>some p
 |_=>none
theorem bY (h:ownAt e i=some p):(e[i]? =some (some (.own p))\/ e[i]? =some (some (.loc p))):=by
 unfold ownAt at h;split at h
 .cases h;exact .inl (by assumption)
 .cases h;exact .inr (by assumption)
 .cases h
theorem aQ.own {i:Nat} (h:aQ K Z W L H σ e) (g:ownAt e i=some p):∃a,σ[i]? =some (some (.ref a))/\(aw W a\/ L a)/\jA K Z H a p:=by
 rcases bY g with g|g
 .obtain⟨v,h1,a,rfl,w,c⟩:=h.at' i _ g;exact⟨a,h1,.inl ⟨i,w⟩,c⟩
 .obtain⟨v,h1,a,rfl,w,c⟩:=h.at' i _ g;exact⟨a,h1,.inr w,c⟩
theorem cZ.write (z:Z a) (h:H a=some ob) (nt:∀xs,ob≠ .tup xs):cZ Z Z H (upd H a o):=
 ⟨fun b xs e=>by rw[aX (UM e h fun z=>nt _ z.symm)];exact e,fun b u e n=>⟨by rw[aX (fun q:b=a=>n (by rw[q];exact z))];exact e,n⟩⟩
theorem aQ.write {i:Nat} {q:PV} (wm:∀i a,W i a->M a) (h:aQ K (aW M L) W L H σ e) (g:ownAt e i=some p) (ha:σ[i]? =some (some (.ref a))) (c:jA K (aW M L) (upd H a ob) a q):
  aQ K (aW M L) W L (upd H a ob) σ (cL e i q):=by
 obtain⟨a',h1,hz,c0⟩:=h.own g;rw[ha]at h1;cases h1;have za:aW M L a:=hz.elim (fun⟨i,w⟩=>.inl (wm i a w)) .inr;obtain⟨o0,e0,nt⟩:=c0.there;have k:cZ (aW M L) (aW M L) H (upd H a ob):=.write za e0 nt;have hl:i<e.length:=by
  rcases bY g with g|g<;>exact(af.mp g).1
 have hm:∃s,e[i]? =some (some s)/\s.eC=true:=by
  rcases bY g with g|g<;>exact⟨_,g,rfl⟩
 obtain⟨s0,hs0,hm0⟩:=hm;have key:∀s',(cL e i q)[i]? =some (some s')->∃v,σ[i]? =some (some v)/\mJ K (aW M L) W L (upd H a ob) i v s':=fun s' z=>by
  unfold cL at z;rcases bY g with g|g
  .rw[g]at z;rw[fx hl]at z;cases z;obtain⟨v,h1,a',rfl,w,_⟩:=h.at' i _ g;rw[ha]at h1;cases h1
   exact⟨_,ha,a,rfl,w,c⟩
  .rw[g]at z;rw[fx hl]at z;cases z;obtain⟨v,h1,a',rfl,w,_⟩:=h.at' i _ g;rw[ha]at h1;cases h1
   exact⟨_,ha,a,rfl,w,c⟩
 have oth:∀j,i≠j->(cL e i q)[j]? =e[j]?:=fun j hj=>by
  unfold cL;rcases bY g with g|g<;>(rw[g];exact dh hj)
 refine⟨?_,fun j t z=>?_,fun j l s1 s2 hjk q1 q2 m1 m2=>?_⟩
 .rw[<-h.len];unfold cL;rcases bY g with g|g<;>(rw[g];exact kg)
 .by_cases hj:i=j
  .subst hj;exact key t z
  .rw[oth j hj]at z;obtain⟨v,g1,g2⟩:=h.at' j t z;refine⟨v,g1,?_⟩;cases t with
   |val p=>exact Rep.aK k g2
   |own p=>
    obtain⟨b,e',w,c⟩:=g2;subst e';have hb:b≠a:=fun z'=>h.uU i j s0 _ hj hs0 z hm0 rfl (by rw[ha,g1,z'])
    exact⟨b,rfl,w,c.aK k fun o q=>by rw[aX hb];exact q⟩
   |loc p=>
    obtain⟨b,e',w,c⟩:=g2;subst e';have hb:b≠a:=fun z'=>h.uU i j s0 _ hj hs0 z hm0 rfl (by rw[ha,g1,z'])
    exact⟨b,rfl,w,c.aK k fun o q=>by rw[aX hb];exact q⟩
   | bor p=>
    obtain⟨b,e',c⟩:=g2;refine⟨b,e',?_⟩;cases c with
    |lst e od n m r=>
     have hb:b≠a:=fun z'=>hz.elim (fun w=>n (z'▸w)) fun w=>m (z'▸w)
     exact .lst (e.elim (fun e=>.inl (by rw[aX hb];exact e)) fun⟨u,e⟩=>.inr ⟨u,by rw[aX hb];exact e⟩) od n m (r.aK k)
    |fL e r=>exact .fL e (r.aK k)
    |aZ e od n m kk r=>
     have hb:b≠a:=fun z'=>hz.elim (fun w=>n (z'▸w)) fun w=>m (z'▸w)
     exact .aZ (e.elim (fun e=>.inl (by rw[aX hb];exact e)) fun⟨u,e⟩=>.inr ⟨u,by rw[aX hb];exact e⟩) od n m kk (r.aK k)
 .have eC:∀(j:Nat) (s:Sl),(cL e i q)[j]? =some (some s)->s.eC=true->∃s':Sl,e[j]? =some (some s')/\s'.eC=true:=fun j s z m=>by
   by_cases hj:i=j
   .subst hj;exact⟨s0,hs0,hm0⟩
   .rw[oth j hj]at z;exact⟨s,z,m⟩
  obtain⟨t1,w1,n1⟩:=eC j s1 q1 m1;obtain⟨t2,w2,n2⟩:=eC l s2 q2 m2;exact h.uU j l t1 t2 hjk w1 w2 n1 n2
theorem cA.write (hz:aw W a\/ L a) (h:H a=some ob) (nt:∀xs,ob≠ .tup xs):cA W L H (upd H a o):=
 ⟨fun b u e n m=>by rw[aX (fun q:b=a=>hz.elim (fun z=>n (by rw[q];exact z)) fun z=>m (by rw[q];exact z))];exact e,fun b xs e=>by rw[aX (UM e h fun z=>nt _ z.symm)];exact e,fun b e=>by
  by_cases hb:b=a
  .subst hb;rw[aU];exact fun z=>nomatch z
  .rw[aX hb];exact e⟩
noncomputable def wV (i:Nat) (f:FE):FS:=fun e=>bO (ownAt e i) fun p0=>match p0 with
 | .lst _=>bE (f e) fun b e1=>bO b.put fun p=>match ownAt e1 i with
  |some (.lst ps)=>bD (decide (ps.length<1000000)) (some (.nx (cL e1 i (.lst (ps++[p])))))
  |_=>none
 |_=>none
theorem RB.put {b:Bv} (o:lQ O M W L H) (h:RB K O M W L H σ e v b) (g:b.put=some p):aQ K (aW M L) W L H σ e/\Rep K (aW M L) H p v:=by
 have h:=h.weak o;cases b with
 |val q=>cases g;exact h
 |new q=>cases g;exact h
 |slot i=>cases g
theorem XJ {i:Nat} (h:Ref K t f):gA K (QO (tBM K "list" xR (yX i) (eI t tN))) (wV i f):=by
 intro O M W L σ H e r D o he hf q;obtain⟨p0,g0,hf⟩:=aF hf;cases p0 with
 | lst ps0=>
  obtain⟨x,e1,f1,hf⟩:=aM hf;obtain⟨p,g1,hf⟩:=aF hf;cases c:ownAt e1 i with
  |none=>rw[c]at hf;cases hf
  | some q1=>
   rw[c]at hf;cases q1 with
   | lst ps=>
    obtain⟨g2,hf⟩:=aL hf;cases hf;obtain⟨a,ha,hz,ct⟩:=he.own g0;refine⟨_,ha,.inl ⟨rfl,?_⟩,?_⟩
    .cases ct with|lst e r=>exact⟨_,gE.of e⟩
    refine h O M W L σ H e _ _ _ o he f1 fun v H' k rb fr=>?_
    have o1:=o.keep k.cD;obtain⟨en,rp⟩:=rb.put o1 g1;obtain⟨a',ha',hz',ct'⟩:=en.own c;rw[ha]at ha';cases ha';cases ct' with
    |lst e2 r2=>
     rename_i xs;refine⟨a,xs,v,rfl,rfl,e2,by rw[<-r2.length];exact gP g2,?_⟩;have kw:cA W L H' (upd H' a (.lst (xs++[v]))):=.write hz e2 fun _ z=>nomatch z
     have st:cZ (aW M L) (aW M L) H' (upd H' a (.lst (xs++[v]))):=.write (hz.elim (fun⟨i,w⟩=>.inl (o.wm i a w)) .inr) e2 fun _ z=>nomatch z
     exact q L σ _ (.keep (k.trans kw)) (o1.keep kw.cD) (aQ.write o.wm en c ha (.lst aU ((r2.aK st).app (.cons (rp.aK st) .nil))))
   |_=>cases hf
 |_=>cases hf
noncomputable def D4 (i:Nat) (fi fv:FE):FS:=fun e=>bE (fv e) fun b e1=>bO b.put fun p=>bO (ownAt e1 i) fun _=>bE (fi e1) fun k e2=>match k with
 | .val (.int k)=>match ownAt e2 i with
  |some (.lst ps)=>bO (AD ps.length k) fun j=>some (.nx (cL e2 i (.lst (ps.set j p))))
  |_=>none
 |_=>none
theorem NG {i:Nat} {ti:TE} {fi:FE} (hv:Ref K tv fv) (hi:Ref K ti fi):gA K (t9 tv (AO (yX i) ti YR)) (D4 i fi fv):=by
 intro O M W L σ H e r D o he hf q;obtain⟨x,e1,f1,hf⟩:=aM hf;obtain⟨p,g1,hf⟩:=aF hf;obtain⟨p0,g0,hf⟩:=aF hf;obtain⟨y,e2,f2,hf⟩:=aM hf;cases y with
 |slot i=>cases hf
 |new p=>cases hf
 | val y=>
  cases y with
  | int k=>
   dsimp only at hf;cases c:ownAt e2 i with
   |none=>rw[c]at hf;cases hf
   | some q1=>
    rw[c]at hf;cases q1 with
    | lst ps=>
     obtain⟨j,g2,hf⟩:=aF hf;cases hf;refine hv O M W L σ H e _ _ _ o he f1 fun v H1 k1 rb fr=>?_
     have o1:=o.keep k1.cD;obtain⟨en,rp⟩:=rb.put o1 g1;obtain⟨a,ha,_,_⟩:=en.own g0;refine⟨_,ha,hi O M W L σ H1 e1 _ _ _ o1 en f2 fun v2 H2 k2 rb2 fr2=>?_⟩;obtain⟨en2,r2⟩:=rb2;cases r2;have o2:=o1.keep k2.cD;obtain⟨a',ha',hz,ct⟩:=en2.own c;rw[ha]at ha';cases ha';cases ct with
     |lst e3 r3=>
      rename_i xs;refine⟨a,xs,k,j,rfl,rfl,e3,by rw[<-r3.length];exact g2,?_⟩;have kw:cA W L H2 (upd H2 a (.lst (xs.set j v))):=.write hz e3 fun _ z=>nomatch z
      have st:cZ (aW M L) (aW M L) H2 (upd H2 a (.lst (xs.set j v))):=.write (hz.elim (fun⟨i,w⟩=>.inl (o.wm i a w)) .inr) e3 fun _ z=>nomatch z
      exact q L σ _ (.keep ((k1.trans k2).trans kw)) (o2.keep kw.cD) (aQ.write o.wm en2 c ha (.lst aU ((r3.aK st).set ((rp.aK (k2.aK o1)).aK st) j)))
    |_=>cases hf
  |_=>cases hf
end
noncomputable def cG (kvs:List (Key×PV)) (k:Key):Option PV:=(kvs.find? fun kv=>decide (kv.1=k)).map (·.2)
noncomputable def eG (kvs:List (Key×PV)) (k:Key) (v:PV):List (Key×PV):=
 if(kvs.any fun kv=>decide (kv.1=k))=true then kvs.map (fun kv=>if kv.1=k then(kv.1,v)else kv)else kvs++[(k,v)]
section
variable {K:Frag} {Z:aJ} {H:Hp}
def dE (K:Frag) (Z:aJ) (H:Hp) (kvs:List (Key×PV)) (ys:List (Key×V)):Prop:=ys.map (·.1)=kvs.map (·.1)/\bI K Z H (kvs.map (·.2)) (ys.map (·.2))
theorem dE.cases {kvs:List (Key×PV)} {ys:List (Key×V)} (h:dE K Z H kvs ys):(kvs=[]/\ys=[])\/ ∃k p v r s,kvs=(k,p)::r/\ys=(k,v)::s/\Rep K Z H p v/\dE K Z H r s:=by
 obtain⟨h1,h2⟩:=h;cases kvs with
 |nil=>
  cases ys with
  |nil=>exact .inl ⟨rfl,rfl⟩
  |cons y ys=>cases h1
 | cons x kvs=>
  cases ys with
  |nil=>cases h1
  |cons y ys=>
   obtain⟨a,p⟩:=x;obtain⟨b,v⟩:=y;rw[map_cons,map_cons]at h1;have h1':=List.cons.inj h1;have e:b=a:=h1'.1;subst e;cases h2 with
   |cons h2 r2=>exact .inr ⟨b,p,v,kvs,ys,rfl,rfl,h2,h1'.2,r2⟩
theorem dE.cons {r:List (Key×PV)} {s:List (Key×V)} (h:Rep K Z H p v) (hr:dE K Z H r s):dE K Z H ((k,p)::r) ((k,v)::s):=
 ⟨by rw[map_cons,map_cons,hr.1],.cons h hr.2⟩
theorem dE.val:∀{kvs:List (Key×PV)} {ys:List (Key×V)} (k:Key),dE K Z H kvs ys->(cG kvs k=none/\eW ys k=none)\/ ∃p v,cG kvs k=some p/\eW ys k=some v/\Rep K Z H p v
 |[],ys,k,h=>by
  rcases h.cases with⟨_,rfl⟩|⟨_,_,_,_,_,e,_⟩
  .exact .inl ⟨rfl,rfl⟩
  .cases e
 | x::kvs,ys,k,h=>by
  rcases h.cases with⟨e,_⟩|⟨j,p,v,r,s,e,e',hp,hr⟩
  .cases e
  .cases e;subst e'
   by_cases hj:j=k
   .exact .inr ⟨p,v,by simp[cG,find?_cons,hj],by simp[eW,find?_cons,hj],hp⟩
   .have a:cG ((j,p)::kvs) k=cG kvs k:=by simp[cG,find?_cons,hj]
    have b:eW ((j,v)::s) k=eW s k:=by simp[eW,find?_cons,hj]
    rw[a,b];exact dE.val k hr
theorem dE.any (k:Key) (h:dE K Z H kvs ys):(kvs.any fun kv=>decide (kv.1=k))=ys.any fun kv=>decide (kv.1=k):=by
 have e1:(kvs.any fun kv=>decide (kv.1=k))=(kvs.map (·.1)).any fun j=>decide (j=k):=by rw[any_map];rfl
 have e2:(ys.any fun kv=>decide (kv.1=k))=(ys.map (·.1)).any fun j=>decide (j=k):=by rw[any_map];rfl
 rw[e1,e2,h.1]
theorem dE.IZ (hp:Rep K Z H p v) (k:Key):∀{kvs:List (Key×PV)} {ys:List (Key×V)},dE K Z H kvs ys->dE K Z H (kvs.map fun kv=>if kv.1=k then(kv.1,p)else kv) (ys.map fun kv=>if kv.1=k then(kv.1,v)else kv)
 |[],ys,h=>by
  rcases h.cases with⟨_,rfl⟩|⟨_,_,_,_,_,e,_⟩
  .exact h
  .cases e
 | x::kvs,ys,h=>by
  rcases h.cases with⟨e,_⟩|⟨j,q,u,r,s,e,e',hq,hr⟩
  .cases e
  .cases e;subst e';rw[map_cons,map_cons]
   by_cases hj:j=k
   .rw[ao hj,ao hj];exact .cons hp (dE.IZ hp k hr)
   .rw[ai hj,ai hj];exact .cons hq (dE.IZ hp k hr)
theorem dE.put (k:Key) (h:dE K Z H kvs ys) (hp:Rep K Z H p v):dE K Z H (eG kvs k p) (putK ys k v):=by
 unfold eG putK;rw[h.any k];split
 .exact h.IZ hp k
 .exact⟨by rw[cf,cf,h.1];rfl,by rw[cf,cf];exact h.2.app (.cons hp .nil)⟩
end
noncomputable def keyOf:PV->Option Key
 | .int i=>some (.inl i)
 | .str x=>some (.inr x)
 |_=>none
section
variable {K:Frag}
theorem Red.key {p:PV} (h:Red K Z H p v) (g:keyOf p=some k):v=kV k:=by
 cases p with
 |int i=>cases g;exact h.int
 |str i=>cases g;exact h.str
 |_=>cases g
noncomputable def dN (i:Nat) (fk fv:FE):FS:=fun e=>bE (fv e) fun b e1=>bO b.put fun p=>bO (ownAt e1 i) fun _=>bE (fk e1) fun k e2=>bO (k.weak.get e2) fun kp=>bO (keyOf kp) fun key=>match ownAt e2 i with
  |some (.aZ kvs)=>bD (decide (kvs.length<1000000)) (some (.nx (cL e2 i (.aZ (eG kvs key p)))))
  |_=>none
theorem QT {i:Nat} {tk:TE} {fk:FE} (hv:Ref K tv fv) (hk:Ref K tk fk):gA K (L2.dN (yX i) tk tv) (dN i fk fv):=by
 intro O M W L σ H e r D o he hf q;obtain⟨x,e1,f1,hf⟩:=aM hf;obtain⟨p,g1,hf⟩:=aF hf;obtain⟨p0,g0,hf⟩:=aF hf;obtain⟨y,e2,f2,hf⟩:=aM hf;obtain⟨kp,g3,hf⟩:=aF hf;obtain⟨key,g4,hf⟩:=aF hf;cases c:ownAt e2 i with
 |none=>rw[c]at hf;cases hf
 | some q1=>
  rw[c]at hf;cases q1 with
  | aZ kvs=>
   obtain⟨g2,hf⟩:=aL hf;cases hf;refine hv O M W L σ H e _ _ _ o he f1 fun v H1 k1 rb fr=>?_
   have o1:=o.keep k1.cD;obtain⟨en,rp⟩:=rb.put o1 g1;obtain⟨a,ha,_,_⟩:=en.own g0;refine⟨_,ha,hk O M W L σ H1 e1 _ _ _ o1 en f2 fun v2 H2 k2 rb2 fr2=>?_⟩;have o2:=o1.keep k2.cD;have en2:=rb2.en o2;have ek:=((rb2.rv o2).red en2 g3).key g4;subst ek;obtain⟨a',ha',hz,ct⟩:=en2.own c;rw[ha]at ha';cases ha';cases ct with
   |aZ e3 kk r3=>
    rename_i ys;have hl:ys.length=kvs.length:=by have:=dq List.length kk;simpa using this
    refine⟨a,rfl,.inl ⟨_,_,⟨_,e3⟩,rfl,by rw[hl];exact gP g2,fun ep=>?_⟩⟩;have kw:cA W L H2 (upd H2 a (.dK (putK ys key v) ep)):=.write hz e3 fun _ z=>nomatch z
    have st:cZ (aW M L) (aW M L) H2 (upd H2 a (.dK (putK ys key v) ep)):=.write (hz.elim (fun⟨i,w⟩=>.inl (o.wm i a w)) .inr) e3 fun _ z=>nomatch z
    have rd:dE K (aW M L) (upd H2 a (.dK (putK ys key v) ep)) (eG kvs key p) (putK ys key v):=dE.put key ⟨kk,r3.aK st⟩ ((rp.aK (k2.aK o1)).aK st);exact q L σ _ (.keep ((k1.trans k2).trans kw)) (o2.keep kw.cD) (aQ.write o.wm en2 c ha (.aZ aU rd.1 rd.2))
  |_=>cases hf
abbrev FG:=PV->En->Option En
abbrev O1:=List PV->En->Option En
def DC (K:Frag) (g:TG) (f:FG):Prop:=∀(O M:aJ) (W:WS) (L:aJ) (σ:St) (H:Hp) (e e':En) (p:PV) (v:V) (Q:St->Hp->Prop),lQ O M W L H->aQ K (aW M L) W L H σ e->Rep K (aW M L) H p v->f p e=some e'->(∀σ',aQ K (aW M L) W L H σ' e'->Q σ' H)->g v σ H Q
def K6 (K:Frag) (g:K3) (f:O1):Prop:=∀(O M:aJ) (W:WS) (L:aJ) (σ:St) (H:Hp) (e e':En) (p:List PV) (v:List V) (Q:St->Hp->Prop),lQ O M W L H->aQ K (aW M L) W L H σ e->bI K (aW M L) H p v->f p e=some e'->(∀σ',aQ K (aW M L) W L H σ' e'->Q σ' H)->g v σ H Q
noncomputable def aP (i:Nat):FG:=fun p e=>some (e.set i (some (.val p)))
theorem OB (i:Nat):DC K (jY i) (aP i):=by
 intro O M W L σ H e e' p v Q o he hp hf q;cases hf;exact q _ (aQ.put he rfl hp)
noncomputable def j7:O1:=fun ps e=>match ps with|[]=>some e|_=>none
noncomputable def b8 (f:FG) (g:O1):O1:=fun ps e=>match ps with|p::ps=>bO (f p e) (g ps)|[]=>none
theorem TZ:K6 K acK j7:=by
 intro O M W L σ H e e' p v Q o he hp hf q;cases p with
 |nil=>cases hf;cases hp;exact⟨rfl,q σ he⟩
 |cons p ps=>cases hf
theorem OC {gs:K3} {f:FG} {fs:O1} (h1:DC K g f) (h2:K6 K gs fs):K6 K (S7 g gs) (b8 f fs):=by
 intro O M W L σ H e e' p v Q o he hp hf q;cases p with
 |nil=>cases hf
 |cons p ps=>
  obtain⟨e1,f1,hf⟩:=aF hf;cases hp with
  |cons hp hr=>exact⟨_,_,rfl,h1 O M W L σ H e e1 p _ _ o he hp f1 fun σ' he'=>h2 O M W L σ' H e1 e' ps _ _ o he' hr hf q⟩
noncomputable def j4 (n:Nat) (f:O1):FG:=fun p e=>match p with
 | .tup ps=>bD (decide (ps.length=n)) (f ps e)
 |_=>none
theorem P2 {g:K3} {f:O1} (h:K6 K g f):DC K (XU K n g) (j4 n f):=by
 intro O M W L σ H e e' p v Q o he hp hf q;cases p with
 |tup ps=>
  obtain⟨g1,hf⟩:=aL hf;cases hp with
  |tup ha hr=>exact⟨_,_,rfl,ha.sq,by rw[<-hr.length];exact av g1,h O M W L σ H e e' ps _ Q o he hr hf q⟩
 |_=>cases hf
noncomputable def aa6 (f:FE) (fg:FG):FS:=fun e=>bE (f e) fun b e1=>bO b.put fun p=>bO (fg p e1) fun e2=>some (.nx e2)
theorem XD (h:Ref K t f) (hg:DC K g fg):gA K (t9 t g) (aa6 f fg):=by
 intro O M W L σ H e r D o he hf q;obtain⟨x,e1,f1,hf⟩:=aM hf;obtain⟨p,g1,hf⟩:=aF hf;obtain⟨e2,f2,hf⟩:=aF hf;cases hf;refine h O M W L σ H e _ _ _ o he f1 fun v H1 k1 rb fr=>?_
 have o1:=o.keep k1.cD;obtain⟨en,rp⟩:=rb.put o1 g1;exact hg O M W L σ H1 e1 e2 p v _ o1 en rp f2 fun σ' he'=>q L σ' H1 (.keep k1) o1 he'
def TL (K:Frag) (M L Wr:aJ) (H:Hp) (J:It) (items:List PV):Prop:=∀L' H',(∀a o,H a=some o->¬Wr a->H' a=some o)->(∀a xs,H a=some (.tup xs)->H' a=some (.tup xs))->(∀a,L' a->L a\/ H a=none)->
 (∀k p,items[k]? =some p->J.go k H'/\∀x H3,J.yld k H' x H3->aT H' H3/\Rep K (aW M L') H3 p x)/\J.stop items.length H'
abbrev FI:=(Nat->Bool)->En->Option (List PV×En)
def w9 (K:Frag) (wi:TI) (f:FI):Prop:=∀(st:Nat->Bool) (O M:aJ) (W:WS) (L:aJ) (σ:St) (H:Hp) (e e':En) (ps:List PV) (R:It->Hp->Prop),lQ O M W L H->aQ K (aW M L) W L H σ e->f st e=some (ps,e')->
 (∀J H',cA W L H H'->aQ K (aW M L) W L H' σ e'->
  (∀Wr:aJ,(∀a,Wr a->aw W a\/ L a)->(∀(i:Nat) a s,st i=true->e'[i]? =some (some s)->s.eC=true->σ[i]? =some (some (.ref a))->¬Wr a)->TL K M L Wr H' J ps)->R J H')->wi σ H R
noncomputable def rE (body:PV->En->Option Out):List PV->En->Option Out
 |[],e=>some (.nx e)
 |x::xs,e=>match body x e with
  |some (.nx e1)=>rE body xs e1
  |some (.ct e1)=>rE body xs e1
  |some (.bk e1)=>some (.nx e1)
  |some (.rt b e1)=>some (.rt b e1)
  |none=>none
noncomputable def iG (fi:FI) (fg:FG) (fb:FS):FS:=fun e=>bE (fi (fun _=>false) e) fun ps e1=>rE (fun x e=>bO (fg x e) fb) ps e1
theorem YA {tb:TS} {fg:FG} {fb:FS} (hi:w9 K wi fi) (hg:DC K g fg) (hb:gA K tb fb):gA K (aaO wi g tb) (iG fi fg fb):=by
 intro O M W L σ H e r D o he hf q;obtain⟨ps,e1,f1,hf⟩:=aM hf;refine hi (fun _=>false) O M W L σ H e e1 ps _ o he f1 fun J H1 k1 en it=>?_
 have it:=it (aW (aw W) L) (fun a z=>z) fun i a s z=>nomatch z
 have o1:=o.keep k1.cD;have q1:=q.later (.keep k1)
 let N:Nat->St->Hp->Prop:=fun i σ' H'=>∃L' e',o9 W L L' H1 H'/\lQ O M W L' H'/\aQ K (aW M L') W L' H' σ' e'/\rE (fun x e=>bO (fg x e) fb) (ps.drop i) e'=some r
 refine⟨fun i m σ' H'=>m=ps.length - i/\i<=ps.length/\N i σ' H',⟨ps.length,by simp,ic _,L,e1,.refl,o1,en,by rw[drop_zero];exact hf⟩,?_⟩;rintro i m σ2 H2 ⟨rfl,hil,L2,e2,g2,o2,en2,f2⟩;obtain⟨itm,its⟩:=it L2 H2 (fun a ob h n=>g2.obj a ob h (fun z=>n (.inl z)) fun z=>n (.inr z)) g2.tup g2.new
 by_cases hlt:i<ps.length
 .refine .inr ?_;obtain⟨go,yl⟩:=itm i ps[i] (by simp[hlt]);refine⟨go,N (i+1),fun σ' H' n=>⟨ps.length - (i+1),by omega,rfl,hlt,n⟩,fun x H3 y=>?_⟩;obtain⟨s3,rp⟩:=yl x H3 y;rw[eh hlt]at f2;unfold rE at f2;have k3:cA W L2 H2 H3:=.same s3;have o3:=o2.keep k3.cD;have g3:o9 W L L2 H1 H3:=g2.trans (.keep k3);cases c1:fg ps[i] e2 with
  |none=>rw[c1]at f2;cases f2
  | some e3=>
   rw[c1]at f2;refine hg O M W L2 σ2 H3 e2 e3 _ x _ o3 (en2.same s3) rp c1 fun σ3 en3=>?_
   cases c2:fb e3 with
   |none=>rw[qZ,c2]at f2;cases f2
   |some r1=>
    rw[qZ,c2]at f2;refine hb O M W L2 σ3 H3 e3 r1 _ o3 en3 c2 ?_;cases r1 with
    |nx e4=>exact fun L' σ' H' g' o' en'=>⟨L',e4,g3.trans g',o',en',f2⟩
    |ct e4=>exact fun L' σ' H' g' o' en'=>⟨L',e4,g3.trans g',o',en',f2⟩
    |bk e4=>cases f2;exact fun L' σ' H' g' o' en'=>q1 L' σ' H' (g3.trans g') o' en'
    |rt b e4=>cases f2;exact fun L' σ' H' v g' o' en'=>q1 L' σ' H' v (g3.trans g') o' en'
 .have e:i=ps.length:=by omega
  subst e;rw[drop_length]at f2;cases f2;exact .inl ⟨its,q1 L2 σ2 H2 g2 o2 en2⟩
noncomputable def gK (fc:FT) (fb:FS):Nat->En->Option Out
 |0,_=>none
 | n+1,e=>bE (fc e) fun b e1=>match b with
  |false=>some (.nx e1)
  |true=>match fb e1 with
   |some (.nx e2)=>gK fc fb n e2
   |some (.ct e2)=>gK fc fb n e2
   |some (.bk e2)=>some (.nx e2)
   |some (.rt b e2)=>some (.rt b e2)
   |none=>none
theorem MW {tb:TS} {fb:FS} (n:Nat) (hc:mS K c fc) (hb:gA K tb fb):gA K (UJ c tb) (gK fc fb n):=by
 intro O M W L σ H e r D o he hf q
 let N:Nat->St->Hp->Prop:=fun m σ' H'=>∃L' e',o9 W L L' H H'/\lQ O M W L' H'/\aQ K (aW M L') W L' H' σ' e'/\gK fc fb m e'=some r
 refine⟨N,⟨n,L,e,.refl,o,he,hf⟩,?_⟩;rintro m σ2 H2 ⟨L2,e2,g2,o2,en2,f2⟩;cases m with
 |zero=>cases f2
 | succ m=>
  obtain⟨b,e3,c1,f2⟩:=aM f2;refine hc O M W L2 σ2 H2 e2 e3 b _ o2 en2 c1 fun H3 k3 en3=>?_
  have o3:=o2.keep k3.cD;have g3:o9 W L L2 H H3:=g2.trans (.keep k3);cases b with
  |false=>cases f2;rw[ai ax];exact q L2 σ2 H3 g3 o3 en3
  | true=>
   rw[ao rfl];refine⟨N m,fun σ' H' z=>⟨m,jo m,z⟩,?_⟩;dsimp only at f2;cases c2:fb e3 with
   |none=>rw[c2]at f2;cases f2
   |some r1=>
    rw[c2]at f2;refine hb O M W L2 σ2 H3 e3 r1 _ o3 en3 c2 ?_;cases r1 with
    |nx e4=>exact fun L' σ' H' g' o' en'=>⟨L',e4,g3.trans g',o',en',f2⟩
    |ct e4=>exact fun L' σ' H' g' o' en'=>⟨L',e4,g3.trans g',o',en',f2⟩
    |bk e4=>cases f2;exact fun L' σ' H' g' o' en'=>q L' σ' H' (g3.trans g') o' en'
    |rt b e4=>cases f2;exact fun L' σ' H' v g' o' en'=>q L' σ' H' v (g3.trans g') o' en'
end
noncomputable def KZ (e:En) (ms:List (Nat×Nat)) (i j:Nat):Option Sl:=match e[i]? with
 |some (some (.val p))=>some (.val p)
 |some (some (.bor p))=>some (.bor p)
 |some (some (.own p))=>if ms.contains (i,j)then some (.own p)else if ms.any (fun z=>z.1==i)then none else some (.bor p)
 |some (some (.loc p))=>if ms.contains (i,j)then some (.own p)else if ms.any (fun z=>z.1==i)then none else some (.bor p)
 |_=>none
noncomputable def CI (e:En) (ms:List (Nat×Nat)):Nat->List Nat->En
 |_,[]=>[]
 |j,i::r=>KZ e ms i j::CI e ms (j+1) r
noncomputable def wX (k:Nat) (cap:List Nat) (ms:List (Nat×Nat)) (e:En):En:=List.replicate k none++CI e ms k cap
theorem GX:∀{cap:List Nat} {j q:Nat},(CI e ms j cap)[q]? =(cap[q]?).map fun i=>KZ e ms i (j+q)
 |[],j,q=>by simp[CI]
 |i::r,j,0=>by simp[CI]
 |i::r,j,q+1=>by
  rw[CI,List.getElem?_cons_succ,GX,List.getElem?_cons_succ];congr 1;funext i;rw[show j+1+q=j+(q+1) by omega]
theorem FZ:∀{cap:List Nat} {j:Nat},(CI e ms j cap).length=cap.length
 |[],j=>rfl
 |i::r,j=>by rw[CI,length_cons,length_cons,FZ]
theorem yI {k:Nat} {cap:List Nat} {j:Nat} (h:(wX k cap ms e)[j]? =some (some s)):∃q i,j=k+q/\cap[q]? =some i/\KZ e ms i j=some s:=by
 unfold wX at h
 by_cases hj:j<k
 .rw[ke (by simpa using hj),lb]at h;split at h<;>cases h
 .rw[jv (by simpa using hj),gu,GX]at h;cases q:cap[j - k]? with
  |none=>rw[q]at h;cases h
  |some i=>
   rw[q]at h;have h':KZ e ms i (k+(j - k))=some s:=Option.some.inj h;rw[show k+(j - k)=j by omega]at h';exact⟨j - k,i,by omega,q,h'⟩
theorem yU {k:Nat} {q:Nat} (h:cap[q]? =some i) (hv:σ[i]? =some (some v)):(gG k cap σ)[k+q]? =some (some v):=by
 unfold gG;rw[jv (by simp),gu,aq,show k+q - k=q by omega,h];show some ((σ[i]?).getD none)=_;rw[hv];rfl
noncomputable def kR (fg:FG) (ft:FT) (fe:FE):List PV->En->Option (List PV×En)
 |[],e=>some ([],e)
 |x::xs,e=>bO (fg x e) fun e1=>bE (ft e1) fun b e2=>match b with
  |false=>kR fg ft fe xs e2
  |true=>bE (fe e2) fun r e3=>bO r.put fun p=>bE (kR fg ft fe xs e3) fun ys e4=>some (p::ys,e4)
noncomputable def pO (ei:En):List (Nat×Nat)->En->Option En
 |[],e=>some e
 |(i,j)::r,e=>bO (ownAt ei j) fun p=>bO (ownAt e i) fun _=>pO ei r (cL e i p)
noncomputable def dZ (fi:FI) (k:Nat) (cap:List Nat) (ms:List (Nat×Nat)) (fg:FG) (ft:FT) (fe:FE):FE:=fun e=>
 bE (fi (fun i=>!(ms.any fun z=>z.1==i)) e) fun items e1=>bD (decide (items.length<1000000)) (bE (kR fg ft fe items (wX k cap ms e1)) fun ys ei=>bO (pO ei ms e1) fun e2=>some (.new (.lst ys),e2))
structure JF (K:Frag) (Z:aJ) (W:WS) (L:aJ) (H:Hp) (σ:St) (T:Nat->Prop) (e:En):Prop where
 len:e.length=σ.length
 at':∀(i:Nat) s,e[i]? =some (some s)->∃v,σ[i]? =some (some v)/\((¬T i\/ s.eC=false)->mJ K Z W L H i v s)/\(s.eC=true->∃a,v= .ref a/\((∃p,s= .own p/\W i a)\/ ∃p,s= .loc p/\L a))
 uU:∀(i j:Nat) s t,i≠j->e[i]? =some (some s)->e[j]? =some (some t)->s.eC=true->t.eC=true->σ[i]?≠σ[j]?
theorem uG {K:Frag}:∀{ms:List (Nat×Nat)} {e e':En},JF K Z W L H σ (fun i=>∃j,(i,j)∈ms) e->(∀i j p a,(i,j)∈ms->ownAt ei j=some p->σ[i]? =some (some (.ref a))->jA K Z H a p)->pO ei ms e=some e'->aQ K Z W L H σ e'
 |[],e,e',h,hc,g=>by
  cases g;exact⟨h.len,fun i s q=>let⟨v,h1,h2,_⟩:=h.at' i s q;⟨v,h1,h2 (.inl fun⟨j,z⟩=>nomatch z)⟩,h.uU⟩
 | (i,j)::r,e,e',h,hc,g=>by
  obtain⟨p,g1,g⟩:=aF g;obtain⟨p0,g2,g⟩:=aF g;refine uG (e:=cL e i p) ?_ (fun i' j' p' a' hm=>hc i' j' p' a' (ba _ hm)) g;have hl:i<e.length:=by
   rcases bY g2 with g|g<;>exact(af.mp g).1
  have oth:∀l,i≠l->(cL e i p)[l]? =e[l]?:=fun l hj=>by
   unfold cL;rcases bY g2 with g|g<;>(rw[g];exact dh hj)
  have own:∃s0 s1 a,e[i]? =some (some s0)/\s0.eC=true/\(cL e i p)[i]? =some (some s1)/\σ[i]? =some (some (.ref a))/\mJ K Z W L H i (.ref a) s1/\((∃p,s1= .own p/\W i a)\/ ∃p,s1= .loc p/\L a):=by
   rcases bY g2 with g|g
   .obtain⟨v,h1,_,h3⟩:=h.at' i _ g;obtain⟨a,rfl,h4⟩:=h3 rfl;have c:=hc i j p a bh g1 h1;rcases h4 with⟨q,e1,w⟩|⟨q,e1,w⟩
    .exact⟨_,.own p,a,g,rfl,by unfold cL;rw[g];exact fx hl,h1,⟨a,rfl,w,c⟩,.inl ⟨p,rfl,w⟩⟩
    .cases e1
   .obtain⟨v,h1,_,h3⟩:=h.at' i _ g;obtain⟨a,rfl,h4⟩:=h3 rfl;have c:=hc i j p a bh g1 h1;rcases h4 with⟨q,e1,w⟩|⟨q,e1,w⟩
    .cases e1
    .exact⟨_,.loc p,a,g,rfl,by unfold cL;rw[g];exact fx hl,h1,⟨a,rfl,w,c⟩,.inr ⟨p,rfl,w⟩⟩
  obtain⟨s0,s1,a,hs0,hm0,hs1,ha,hrep,hwl⟩:=own;refine⟨?_,fun l s q=>?_,fun l1 l2 t1 t2 hn q1 q2 m1 m2=>?_⟩
  .rw[<-h.len];unfold cL;rcases bY g2 with g|g<;>(rw[g];exact kg)
  .by_cases hil:i=l
   .subst hil;rw[hs1]at q;cases q;exact⟨_,ha,fun _=>hrep,fun _=>⟨a,rfl,hwl⟩⟩
   .rw[oth l hil]at q;obtain⟨v,h1,h2,h3⟩:=h.at' l s q;refine⟨v,h1,fun z=>h2 (z.elim (fun z=>.inl fun⟨j',hm⟩=>?_) .inr),h3⟩;rcases bw.mp hm with hm|hm
    .cases hm;exact hil rfl
    .exact z ⟨j',hm⟩
  .have eC:∀(l:Nat) (s:Sl),(cL e i p)[l]? =some (some s)->s.eC=true->∃s':Sl,e[l]? =some (some s')/\s'.eC=true:=fun l s z m=>by
    by_cases hj:i=l
    .subst hj;exact⟨s0,hs0,hm0⟩
    .rw[oth l hj]at z;exact⟨s,z,m⟩
   obtain⟨u1,w1,n1⟩:=eC l1 t1 q1 m1;obtain⟨u2,w2,n2⟩:=eC l2 t2 q2 m2;exact h.uU l1 l2 u1 u2 hn w1 w2 n1 n2
theorem nJ:∀{ms:List (Nat×Nat)} {e e':En},pO ei ms e=some e'->∀(i:Nat) (s:Sl),e'[i]? =some (some s)->s.eC=true->∃s':Sl,e[i]? =some (some s')/\s'.eC=true
 |[],e,e',g=>by cases g;exact fun i s h m=>⟨s,h,m⟩
 | (i,j)::r,e,e',g=>by
  obtain⟨p,g1,g⟩:=aF g;obtain⟨p0,g2,g⟩:=aF g;intro l s h m;obtain⟨s',h',m'⟩:=nJ g l s h m
  by_cases hj:i=l
  .subst hj;rcases bY g2 with g|g<;>exact⟨_,g,rfl⟩
  .have oth:(cL e i p)[l]? =e[l]?:=by
    unfold cL;rcases bY g2 with g|g<;>(rw[g];exact dh hj)
   rw[oth]at h';exact⟨s',h',m'⟩
section
variable {K:Frag}
noncomputable def O0 (ms:List (Nat×Nat)) (e1:En) (σ:St) (H1:Hp):WS:=⟨fun j a=>∃i s,(i,j)∈ms/\e1[i]? =some (some s)/\s.eC=true/\σ[i]? =some (some (.ref a)),fun a=>H1 a≠none⟩
section
variable {O M L:aJ} {W:WS} {σ:St} {H1:Hp} {e1:En} {l:Addr} {ms:List (Nat×Nat)} {k:Nat} {cap:List Nat} {ob0:HO}
theorem JN (en:aQ K (aW M L) W L H1 σ e1):∀(i:Nat) s a,e1[i]? =some (some s)->s.eC=true->σ[i]? =some (some (.ref a))->(aw W a\/ L a)/\∃ob,H1 a=some ob/\∀xs,ob≠ .tup xs:=fun i s a hs hm ha=>by
 obtain⟨v,h1,h2⟩:=en.at' i s hs;rw[ha]at h1;cases h1;cases s with
 |val p=>cases hm
 |bor p=>cases hm
 |own p=>obtain⟨b,e,w,c⟩:=h2;cases e;exact⟨.inl ⟨i,w⟩,c.there⟩
 |loc p=>obtain⟨b,e,w,c⟩:=h2;cases e;exact⟨.inr w,c.there⟩
theorem BG (en:aQ K (aW M L) W L H1 σ e1):∀a,aw (O0 ms e1 σ H1) a->(aw W a\/ L a)/\∃ob,H1 a=some ob/\∀xs,ob≠ .tup xs:=fun a ⟨j,i,s,hm,hs,hmine,ha⟩=>JN en i s a hs hmine ha
theorem ad3 (hl:H1 l=none):cZ (aW M L) (aW (aW M (aW L (one l))) cY) H1 (upd H1 l ob0):=⟨fun a xs h=>aT.upd hl _ _ h,fun a ob h n=>⟨aT.upd hl _ _ h,fun z=>by
 rcases z with(z|z|z)|z
 .exact n (.inl z)
 .exact n (.inr z)
 .exact bX h hl z
 .exact z⟩⟩
theorem aeL (o1:lQ O M W L H1) (en:aQ K (aW M L) W L H1 σ e1):∀H2,(∀a,H1 a≠none\/ a=l->H2 a≠none)->lQ (fun a=>H1 a≠none\/ a=l) (aW M (aW L (one l))) (O0 ms e1 σ H1) cY H2:=fun H2 d=>⟨d,fun a z=>by
  rcases z with z|z|z
  .exact .inl (o1.old a (o1.mo a z))
  .exact .inl (o1.loc a z).1
  .exact .inr z,fun j a z=>by
  rcases(BG en a ⟨j,z⟩).1 with⟨i,w⟩|z
  .exact .inl (o1.wm i a w)
  .exact .inr (.inl z),fun a z=>z.elim⟩
theorem enI (hms:∀i j1 j2,(i,j1)∈ms->(i,j2)∈ms->j1=j2) (en:aQ K (aW M L) W L H1 σ e1) (hl:H1 l=none):aQ K (aW (aW M (aW L (one l))) cY) (O0 ms e1 σ H1) cY (upd H1 l ob0) (gG k cap σ) (wX k cap ms e1):=by
 have s0:aT H1 (upd H1 l ob0):=aT.upd hl;have k0:=ad3 (M:=M) (L:=L) (ob0:=ob0) hl;have wsub:=BG (ms:=ms) en;have lenS:(wX k cap ms e1).length=(gG k cap σ).length:=by
  unfold wX gG;rw[br,br,FZ,ag,gu,gu]
 have lend:∀(i:Nat) s p a,e1[i]? =some (some s)->(s= .own p\/ s= .loc p)->σ[i]? =some (some (.ref a))->jA K (aW M L) H1 a p->¬(∃j,(i,j)∈ms)->CN K (aW (aW M (aW L (one l))) cY) (O0 ms e1 σ H1) cY (upd H1 l ob0) a p:=fun i s p a hs hp ha c nm=>by
  have hm:s.eC=true:=by rcases hp with rfl|rfl<;>rfl
  have nw:¬aw (O0 ms e1 σ H1) a:=fun⟨j,i',s',hm',hs',hmine',ha'⟩=>by
   have ne:i'≠i:=fun z=>nm ⟨j,z▸hm'⟩
   exact en.uU i' i s' s ne hs' hs hmine' hm (by rw[ha',ha])
  have c':=c.aK k0 fun ob h=>s0 _ _ h
  cases c' with
  |lst h r=>exact .lst (.inl h) (by obtain⟨ob,h1,_⟩:=c.there;show H1 a≠none;rw[h1];exact fun z=>nomatch z) nw (fun z=>z) r
  |aZ h kk r=>exact .aZ (.inl h) (by obtain⟨ob,h1,_⟩:=c.there;show H1 a≠none;rw[h1];exact fun z=>nomatch z) nw (fun z=>z) kk r
 have bors:∀p a,CN K (aW M L) W L H1 a p->CN K (aW (aW M (aW L (one l))) cY) (O0 ms e1 σ H1) cY (upd H1 l ob0) a p:=fun p a c=>by
  cases c with
  |lst h od n m r=>exact .lst (h.elim (fun h=>.inl (s0 _ _ h)) fun⟨u,h⟩=>.inr ⟨u,s0 _ _ h⟩) (fun z=>Rd.ne h z rfl) (fun z=>(wsub a z).1.elim n m) (fun z=>z) (r.aK k0)
  |fL h r=>exact .fL h (r.aK k0)
  |aZ h od n m kk r=>exact .aZ (h.elim (fun h=>.inl (s0 _ _ h)) fun⟨u,h⟩=>.inr ⟨u,s0 _ _ h⟩) (fun z=>Rd.ne h z rfl) (fun z=>(wsub a z).1.elim n m) (fun z=>z) kk (r.aK k0)
 have row:∀(i j:Nat) s,KZ e1 ms i j=some s->∃v,σ[i]? =some (some v)/\mJ K (aW (aW M (aW L (one l))) cY) (O0 ms e1 σ H1) cY (upd H1 l ob0) j v s/\(s.eC=true->(i,j)∈ms/\∃s',e1[i]? =some (some s')/\s'.eC=true):=fun i j s h=>by
  unfold KZ at h;have nc:∀{p:PV},ms.contains (i,j)=true->(i,j)∈ms:=fun z=>contains_iff_mem.mp z
  cases c:e1[i]? with
  |none=>rw[c]at h;cases h
  | some s'=>
   cases s' with
   |none=>rw[c]at h;cases h
   | some s'=>
    rw[c]at h;obtain⟨v,h1,h2⟩:=en.at' i s' c;refine⟨v,h1,?_⟩;cases s' with
    |val p=>cases h;exact⟨Rep.aK k0 h2,fun z=>nomatch z⟩
    |bor p=>cases h;obtain⟨a,e,c⟩:=h2;exact⟨⟨a,e,bors p a c⟩,fun z=>nomatch z⟩
    | own p=>
     obtain⟨a,e,w,ct⟩:=h2;subst e;dsimp only at h;cases d:ms.contains (i,j)with
     |true=>
      rw[d,ao rfl]at h;cases h;have hm:=contains_iff_mem.mp d;exact⟨⟨a,rfl,⟨i,_,hm,c,rfl,h1⟩,ct.aK k0 fun ob h=>s0 _ _ h⟩,fun _=>⟨hm,_,rfl,rfl⟩⟩
     | false=>
      rw[d,ai ax]at h;cases d2:ms.any (fun z=>z.1==i)with
      |true=>rw[d2,ao rfl]at h;cases h
      |false=>
       rw[d2,ai ax]at h;cases h;refine⟨⟨a,rfl,lend i _ p a c (.inl rfl) h1 ct fun⟨j',hm'⟩=>?_⟩,fun z=>nomatch z⟩;have:(ms.any fun z=>z.1==i)=true:=iq.mpr ⟨(i,j'),hm',by simp⟩;rw[d2]at this;cases this
    | loc p=>
     obtain⟨a,e,w,ct⟩:=h2;subst e;dsimp only at h;cases d:ms.contains (i,j)with
     |true=>
      rw[d,ao rfl]at h;cases h;have hm:=contains_iff_mem.mp d;exact⟨⟨a,rfl,⟨i,_,hm,c,rfl,h1⟩,ct.aK k0 fun ob h=>s0 _ _ h⟩,fun _=>⟨hm,_,rfl,rfl⟩⟩
     | false=>
      rw[d,ai ax]at h;cases d2:ms.any (fun z=>z.1==i)with
      |true=>rw[d2,ao rfl]at h;cases h
      |false=>
       rw[d2,ai ax]at h;cases h;refine⟨⟨a,rfl,lend i _ p a c (.inr rfl) h1 ct fun⟨j',hm'⟩=>?_⟩,fun z=>nomatch z⟩;have:(ms.any fun z=>z.1==i)=true:=iq.mpr ⟨(i,j'),hm',by simp⟩;rw[d2]at this;cases this
 refine⟨lenS,fun j s hj=>?_,fun j1 j2 s t hn h1 h2 m1 m2=>?_⟩
 .obtain⟨q,i,rfl,hc,hs⟩:=yI hj;obtain⟨v,h1,h2,_⟩:=row i _ s hs;exact⟨v,yU hc h1,h2⟩
 .obtain⟨q1,i1,rfl,c1,hs1⟩:=yI h1;obtain⟨q2,i2,rfl,c2,hs2⟩:=yI h2;obtain⟨v1,a1,_,b1⟩:=row i1 _ s hs1;obtain⟨v2,a2,_,b2⟩:=row i2 _ t hs2;obtain⟨w1,s1,d1,n1⟩:=b1 m1;obtain⟨w2,s2,d2,n2⟩:=b2 m2;rw[yU c1 a1,yU c2 a2];have ne:i1≠i2:=fun z=>by subst z;exact hn (hms _ _ _ w1 w2)
  have:=en.uU i1 i2 s1 s2 ne d1 d2 n1 n2;rw[a1,a2]at this;exact this
theorem enW {M':aJ} {W':WS} {H5:Hp} {σ:St} {e:En} (en5:aQ K (aW M' cY) W' cY H5 σ e) (nlw:¬aw W' l) (old:W'.old l->False) (stw:cZ (aW M' cY) (aW M' cY) H5 (upd H5 l o)):aQ K (aW M' cY) W' cY (upd H5 l o) σ e:=by
 refine⟨en5.len,fun j s hj=>?_,en5.uU⟩;obtain⟨u,g1,g2⟩:=en5.at' j s hj;refine⟨u,g1,?_⟩;cases s with
 |val p=>exact Rep.aK stw g2
 |own p=>
  obtain⟨a,e,w,c⟩:=g2;exact⟨a,e,w,c.aK stw fun ob h=>by rw[aX (fun z:a=l=>nlw (by rw[<-z];exact⟨j,w⟩))];exact h⟩
 |loc p=>obtain⟨a,e,w,c⟩:=g2;exact w.elim
 |bor p=>
  obtain⟨a,e,c⟩:=g2;refine⟨a,e,?_⟩;have ne:W'.old a->a≠l:=fun od z=>old (z▸od)
  cases c with
  |lst h od n m r=>exact .lst (h.elim (fun h=>.inl (by rw[aX (ne od)];exact h)) fun⟨u,h⟩=>.inr ⟨u,by rw[aX (ne od)];exact h⟩) od n m (r.aK stw)
  |fL h r=>exact .fL h (r.aK stw)
  |aZ h od n m kk r=>exact .aZ (h.elim (fun h=>.inl (by rw[aX (ne od)];exact h)) fun⟨u,h⟩=>.inr ⟨u,by rw[aX (ne od)];exact h⟩) od n m kk (r.aK stw)
theorem PC (en:aQ K (aW M L) W L H1 σ e1) (hl:H1 l=none) (kk:cA (O0 ms e1 σ H1) (one l) (upd H1 l ob0) H2):cA W L H1 H2:=⟨fun a ob h n m=>kk.obj a ob (aT.upd hl _ _ h) (fun z=>(BG en a z).1.elim n m) (bX h hl),fun a xs h=>kk.tup a xs (aT.upd hl _ _ h),fun a h=>kk.cD a (by
 cases e:H1 a with
 |none=>exact absurd e h
 |some u=>rw[aT.upd hl _ _ e];exact fun z=>nomatch z)⟩
theorem enO {e' ei:En} {σ2:St} (hms2:∀i1 i2 j,(i1,j)∈ms->(i2,j)∈ms->i1=i2) (o1:lQ O M W L H1) (en:aQ K (aW M L) W L H1 σ e1) (hl:H1 l=none) (kk:cA (O0 ms e1 σ H1) (one l) (upd H1 l ob0) H2)
  (en2:aQ K (aW (aW M (aW L (one l))) cY) (O0 ms e1 σ H1) cY H2 σ2 ei) (f3:pO ei ms e1=some e'):aQ K (aW M (aW L (one l))) W (aW L (one l)) H2 σ e':=by
 have s0:aT H1 (upd H1 l ob0):=aT.upd hl;have zl:∀a ob,H1 a=some ob->a≠l:=fun a ob h=>bX h hl
 have wsub:=BG (ms:=ms) en;have ML:∀a,(aw W a\/ L a)->aW M L a:=fun a z=>z.elim (fun⟨i,w⟩=>.inl (o1.wm i a w)) .inr
 have kout:=PC en hl kk;have kf:cZ (aW M L) (aW M (aW L (one l))) H1 H2:=⟨kout.tup,fun a ob h n=>⟨kk.obj a ob (s0 _ _ h) (fun z=>n (ML a (wsub a z).1)) (zl a ob h),fun z=>by
  rcases z with z|z|z
  .exact n (.inl z)
  .exact n (.inr z)
  .exact zl a ob h z⟩⟩
 have pend:JF K (aW M (aW L (one l))) W (aW L (one l)) H2 σ (fun i=>∃j,(i,j)∈ms) e1:=by
  refine⟨en.len,fun i s hs=>?_,en.uU⟩;obtain⟨v,h1,h2⟩:=en.at' i s hs;have keepM:∀a,s.eC=true->¬(∃j,(i,j)∈ms)->v= .ref a->∀ob,H1 a=some ob->H2 a=some ob:=fun a hm nt ev ob h=>by
   subst ev;refine kk.obj a ob (s0 _ _ h) (fun⟨j,i',s',hm',hs',hmine',ha'⟩=>?_) (zl a ob h);have ne:i'≠i:=fun z=>nt ⟨j,z▸hm'⟩
   exact en.uU i' i s' s ne hs' hs hmine' hm (by rw[ha',h1])
  refine⟨v,h1,fun z=>?_,fun hm=>?_⟩
  .cases s with
   |val p=>exact Rep.aK kf h2
   |own p=>
    obtain⟨a,e,w,c⟩:=h2;exact⟨a,e,w,c.aK kf fun ob h=>keepM a rfl (z.elim id fun z=>nomatch z) e ob h⟩
   |loc p=>
    obtain⟨a,e,w,c⟩:=h2;exact⟨a,e,.inl w,c.aK kf fun ob h=>keepM a rfl (z.elim id fun z=>nomatch z) e ob h⟩
   |bor p=>
    obtain⟨a,e,c⟩:=h2;refine⟨a,e,?_⟩;cases c with
    |lst h od n m r=>exact .lst (h.elim (fun h=>.inl (kout.obj _ _ h n m)) fun⟨u,h⟩=>.inr ⟨u,kout.obj _ _ h n m⟩) od n (fun z=>z.elim m (Rd.ne h hl)) (r.aK kf)
    |fL h r=>exact .fL h (r.aK kf)
    |aZ h od n m kk r=>exact .aZ (h.elim (fun h=>.inl (kout.obj _ _ h n m)) fun⟨u,h⟩=>.inr ⟨u,kout.obj _ _ h n m⟩) od n (fun z=>z.elim m (Rd.ne h hl)) kk (r.aK kf)
  .cases s with
   |val p=>cases hm
   |bor p=>cases hm
   |own p=>obtain⟨a,e,w,c⟩:=h2;exact⟨a,e,.inl ⟨p,rfl,w⟩⟩
   |loc p=>obtain⟨a,e,w,c⟩:=h2;exact⟨a,e,.inr ⟨p,rfl,.inl w⟩⟩
 exact uG pend (fun i j p a hm hp ha=>by
  rcases bY hp with g|g
  .obtain⟨v,h1,a',rfl,⟨i',s',hm',_,_,ha'⟩,c⟩:=en2.at' j _ g;have ei:=hms2 i i' j hm hm';subst ei;rw[ha]at ha';cases ha';exact c.aK (.less fun a z=>.inl z) fun _ h=>h
  .obtain⟨v,h1,a',rfl,w,c⟩:=en2.at' j _ g;exact w.elim) f3
end
theorem RE {tt:TT} {te:TE} {k:Nat} (ms:List (Nat×Nat)) {ft:FT} {fe:FE} (hms:∀i j1 j2,(i,j1)∈ms->(i,j2)∈ms->j1=j2) (hms2:∀i1 i2 j,(i1,j)∈ms->(i2,j)∈ms->i1=i2) (hi:w9 K wi fi) (hg:DC K g fg) (ht:mS K tt ft) (he:Ref K te fe):Ref K (A9 wi k cap g tt te) (dZ fi k cap ms fg ft fe):=by
 intro O M W L σ H e e' b Q o hen hf q;obtain⟨items,e1,f1,hf⟩:=aM hf;obtain⟨hsz,hf⟩:=aL hf;obtain⟨ys,ei,f2,hf⟩:=aM hf;obtain⟨e2,f3,hf⟩:=aF hf;cases hf;have hsz:=av hsz;refine hi (fun i=>!(ms.any fun z=>z.1==i)) O M W L σ H e e1 items _ o hen f1 fun J H1 k1 en it=>?_
 have o1:=o.keep k1.cD
 let W':WS:=O0 ms e1 σ H1
 have wsub:=BG (ms:=ms) en;have it:=it (aw W') (fun a z=>(wsub a z).1) fun i a s hst hs hm ha ⟨j,i',s',hm',hs',hmine',ha'⟩=>by
  have ne:i'≠i:=fun z=>by
   subst z;have:(ms.any fun z=>z.1==i')=true:=iq.mpr ⟨(i',j),hm',by simp⟩;rw[this]at hst;cases hst
  exact en.uU i' i s' s ne hs' hs hmine' hm (by rw[ha',ha])
 intro l hl;have zl:∀a ob,H1 a=some ob->a≠l:=fun a ob h=>bX h hl
 let M':aJ:=aW M (aW L (one l))
 let O':aJ:=fun a=>H1 a≠none\/ a=l
 have s0:aT H1 (upd H1 l (.lst [])):=aT.upd hl;have okc0:=aeL (l:=l) (ms:=ms) o1 en;have en0:=enI (k:=k) (cap:=cap) (ob0:=.lst []) hms en hl;have dl:∀a xs,H1 a=some (.tup xs)->a≠l:=fun a xs h=>zl a _ h
 let N:Nat->St->Hp->Prop:=fun i σ' H'=>∃ei' acc rest vs,cA W' (one l) (upd H1 l (.lst [])) H'/\H' l=some (.lst vs)/\bI K (aW M' cY) H' acc vs/\aQ K (aW M' cY) W' cY H' σ' ei'/\acc.length<=i/\
  kR fg ft fe (items.drop i) ei'=some (rest,ei)/\ys=acc++rest
 have k0':∀H',cA W' (one l) (upd H1 l (.lst [])) H'->∀a,H1 a≠none\/ a=l->H' a≠none:=fun H' kk a z=>kk.cD a (by
  rcases z with z|z
  .cases e:H1 a with
   |none=>exact absurd e z
   |some u=>rw[s0 _ _ e];exact fun z=>nomatch z
  .rw[z,aU];exact fun z=>nomatch z)
 refine⟨fun i m σ' H'=>m=items.length - i/\i<=items.length/\N i σ' H',⟨items.length,by simp,ic _,wX k cap ms e1,[],ys,[],.refl,aU,.nil,en0,bc _,by rw[drop_zero];exact f2,rfl⟩,?_⟩;rintro i m σ2 H2 ⟨rfl,hil,ei2,acc,rest,vs,kk,hl2,ra,en2,hacc,f4,hys⟩;have oki:=okc0 H2 (k0' H2 kk);obtain⟨itm,its⟩:=it (aW L (one l)) H2 (fun a ob h n=>kk.obj a ob (s0 _ _ h) n (zl a ob h)) (fun a xs h=>kk.tup a xs (s0 _ _ h)) (fun a z=>z.elim .inl fun z=>.inr (by rw[show a=l from z];exact hl))
 by_cases hlt:i<items.length
 .refine .inr ?_;obtain⟨go,yl⟩:=itm i items[i] (by simp[hlt]);refine⟨go,N (i+1),fun σ' H' n=>⟨items.length - (i+1),by omega,rfl,hlt,n⟩,fun x H3 y=>?_⟩;obtain⟨s3,rp⟩:=yl x H3 y;rw[eh hlt]at f4;obtain⟨e4,c1,f4⟩:=aF f4;have oki3:=oki.keep (H':=H3) (cA.same (W:=W') (L:=cY) s3).cD;have rp':Rep K (aW M' cY) H3 items[i] x:=rp.aK (.less fun a z=>z.elim id fun z=>z.elim);refine hg O' M' W' cY σ2 H3 ei2 e4 _ x _ oki3 (en2.same s3) rp' c1 fun σ3 en3=>?_
  obtain⟨b,e5,c2,f4⟩:=aM f4;refine ht O' M' W' cY σ3 H3 e4 e5 b _ oki3 en3 c2 fun H4 k4 en4=>?_
  have oki4:=oki3.keep k4.cD;have nlw:¬aw W' l:=fun z=>by obtain⟨_,ob,h,_⟩:=wsub l z;rw[hl]at h;cases h
  have kL:∀{A B:Hp},cA W' cY A B->cA W' (one l) A B:=fun k=>⟨fun a ob h n m=>k.obj a ob h n fun z=>z,k.tup,k.cD⟩
  have st:∀{A B:Hp},cA W' cY A B->lQ O' M' W' cY A->cZ (aW M' cY) (aW M' cY) A B:=fun k ok=>k.aK ok
  have k34:cA W' cY H2 H4:=(cA.same s3).trans k4;cases b with
  |false=>
   rw[ai ax];exact⟨e5,acc,rest,vs,kk.trans (kL k34),k34.obj l _ hl2 nlw (fun z=>z),ra.aK (st k34 oki),en4,le_succ_of_le hacc,f4,hys⟩
  |true=>
   rw[ao rfl];obtain⟨rv,e6,c3,f4⟩:=aM f4;obtain⟨p,c4,f4⟩:=aF f4;obtain⟨rest',e7,c5,f4⟩:=aM f4;cases f4;refine he O' M' W' cY σ3 H4 e5 e6 rv _ oki4 en4 c3 fun v H5 k5 rb fr=>?_
   have oki5:=oki4.keep k5.cD;obtain⟨en5,rp5⟩:=rb.put oki5 c4;have k35:cA W' cY H2 H5:=k34.trans k5;have hl5:=k35.obj l _ hl2 nlw (fun z=>z);have ra5:=ra.aK (st k35 oki);refine⟨vs,hl5,szt (by have:=ra.length;omega),?_⟩;have stw:cZ (aW M' cY) (aW M' cY) H5 (upd H5 l (.lst (vs++[v]))):=.write (.inl (.inr (.inr rfl))) hl5 fun _ z=>nomatch z
   have kw:cA W' (one l) H5 (upd H5 l (.lst (vs++[v]))):=.write (.inr rfl) hl5 fun _ z=>nomatch z
   refine⟨e6,acc++[p],rest',vs++[v],(kk.trans (kL k35)).trans kw,aU,(ra5.aK stw).app (.cons (rp5.aK stw) .nil),?_,by rw[br];exact Nat.succ_le_succ hacc,c5,by rw[hys,gp];rfl⟩;exact enW en5 nlw (fun od=>od hl) stw
 .have e:i=items.length:=by omega
  subst e;rw[drop_length]at f4;cases f4;rw[df]at hys;subst hys;have kout:=PC en hl kk;have enf:=enO hms2 o1 en hl kk en2 f3;refine .inl ⟨its,q _ _ (k1.trans kout) ⟨l,rfl,fun z=>o1.old l z hl,fun z=>(o1.loc l z).1 hl,enf,fun i s hs hm e=>?_,.lst hl2 (ra.aK (.less fun a z=>.inl z))⟩ (Fr.back (b:=.new (.lst _)) k1.cD fun a e=>by cases e;exact hl)⟩;obtain⟨s',hs',hm'⟩:=nJ f3 i s hs hm;obtain⟨_,ob,h,_⟩:=JN en i s' l hs' hm' e;rw[hl]at h;cases h
end
inductive Kd where
 |v|b|m
 deriving DecidableEq
noncomputable def J6:Kd->PV->Sl
 | .v,p=>.val p
 | .m,p=>.own p
 | .b,.lst ps=>.bor (.lst ps)
 | .b,.aZ ps=>.bor (.aZ ps)
 | .b,p=>.val p
noncomputable def qX:List Kd->List PV->En
 |k::ks,p::ps=>some (J6 k p)::qX ks ps
 |_,_=>[]
noncomputable def rV (ks:List Kd) (vs:List V) (H:Hp):WS:=⟨fun i a=>ks[i]? =some .m/\vs[i]? =some (.ref a),fun a=>H a≠none⟩
noncomputable def UR:List Kd->List V->List V
 | .m::ks,v::vs=>v::UR ks vs
 |_::ks,_::vs=>UR ks vs
 |_,_=>[]
def GZ (K:Frag) (Z:aJ) (H:Hp) (ks:List Kd) (vs:List V) (qs:List PV):Prop:=∀(n:Nat) v q,(UR ks vs)[n]? =some v->qs[n]? =some q->∃a,v= .ref a/\jA K Z H a q
def afW (K:Frag) (M:aJ) (H H':Hp) (ks:List Kd) (vs:List V) (r:PV) (qs:List PV) (v:V):Bool->Prop
 |false=>Rep K M H' r v/\GZ K M H' ks vs qs
 |true=>∃a,v= .ref a/\H a=none/\jA K (aW M (one a)) H' a r/\GZ K (aW M (one a)) H' ks vs qs
abbrev FN:=List PV->Option (PV×List PV)
def WR (K:Frag) (ks:List Kd) (fr:Bool) (f:FN):Sp:=fun vs H Q _=>∃(M:aJ) (ps:List PV) (r:PV) (qs:List PV),(∀a,M a->H a≠none)/\vs.length=ks.length/\ps.length=ks.length/\
 (∀(i:Nat) k p v,ks[i]? =some k->ps[i]? =some p->vs[i]? =some v->mJ K M (rV ks vs H) cY H i v (J6 k p))/\
 (∀(i j:Nat),i≠j->ks[i]? =some .m->ks[j]? =some .m->vs[i]?≠vs[j]?)/\(∀i a,rV ks vs H i a->M a)/\
 f ps=some (r,qs)/\∀v H',cA (rV ks vs H) cY H H'->afW K M H H' ks vs r qs v fr->Q v H'
noncomputable def ad6 (e:En):Bool->Bv->Option PV
 |false,.val p=>some p
 |_,.new p=>some p
 |_,.slot i=>match e[i]? with
  |some (some (.loc p))=>some p
  |_=>none
 |true,.val _=>none
noncomputable def vY (e:En):Nat->List Kd->Option (List PV)
 |_,[]=>some []
 |j,.m::ks=>match e[j]? with
  |some (some (.own q))=>bO (vY e (j+1) ks) fun qs=>some (q::qs)
  |_=>none
 |j,_::ks=>vY e (j+1) ks
noncomputable def aaR (ks:List Kd) (fr:Bool):Out->Option (PV×List PV)
 | .rt b e=>bO (ad6 e fr b) fun r=>bO (vY e 0 ks) fun qs=>some (r,qs)
 | .nx e=>match fr with
  |false=>bO (vY e 0 ks) fun qs=>some (.bG,qs)
  |true=>none
 |_=>none
noncomputable def pA (ks:List Kd) (nl:Nat) (fr:Bool) (g:FS):FN:=fun ps=>bO (g (qX ks ps++List.replicate nl none)) (aaR ks fr)
theorem E8:∀{ks:List Kd} {ps:List PV} {i:Nat} {s:Sl},(qX ks ps)[i]? =some (some s)->∃k p,ks[i]? =some k/\ps[i]? =some p/\s=J6 k p
 |[],ps,i,s,h=>by simp[qX]at h
 |k::ks,[],i,s,h=>by simp[qX]at h
 |k::ks,p::ps,0,s,h=>by simp[qX]at h;exact⟨k,p,rfl,rfl,h.symm⟩
 |k::ks,p::ps,i+1,s,h=>by
  rw[qX,List.getElem?_cons_succ]at h;obtain⟨k',p',h1,h2,h3⟩:=E8 h;exact⟨k',p',by simpa using h1,by simpa using h2,h3⟩
theorem F6:∀{ks:List Kd} {ps:List PV},ps.length=ks.length->(qX ks ps).length=ks.length
 |[],ps,h=>rfl
 |k::ks,[],h=>by simp at h
 |k::ks,p::ps,h=>by rw[qX,length_cons,length_cons,F6 (by simpa using h)]
theorem qP:∀{ks:List Kd} {vs:List V} {j:Nat} {qs:List PV} {n:Nat} {v:V} {q:PV},vY e j ks=some qs->(UR ks vs)[n]? =some v->qs[n]? =some q->∃i,ks[i]? =some .m/\vs[i]? =some v/\e[j+i]? =some (some (.own q))
 |[],vs,j,qs,n,v,q,h,h1,h2=>by cases h;simp at h2
 | .m::ks,[],j,qs,n,v,q,h,h1,h2=>by simp[UR]at h1
 | .v::ks,[],j,qs,n,v,q,h,h1,h2=>by simp[UR]at h1
 | .b::ks,[],j,qs,n,v,q,h,h1,h2=>by simp[UR]at h1
 | .v::ks,x::vs,j,qs,n,v,q,h,h1,h2=>by
  obtain⟨i,a,b,c⟩:=qP (ks:=ks) (vs:=vs) (j:=j+1) h h1 h2;exact⟨i+1,by simpa using a,by simpa using b,by rw[show j+(i+1)=j+1+i by omega];exact c⟩
 | .b::ks,x::vs,j,qs,n,v,q,h,h1,h2=>by
  obtain⟨i,a,b,c⟩:=qP (ks:=ks) (vs:=vs) (j:=j+1) h h1 h2;exact⟨i+1,by simpa using a,by simpa using b,by rw[show j+(i+1)=j+1+i by omega];exact c⟩
 | .m::ks,x::vs,j,qs,n,v,q,h,h1,h2=>by
  unfold vY at h;split at h
  .rename_i q0 he;obtain⟨qs',g,h⟩:=aF h;cases h;cases n with
   |zero=>
    simp[UR]at h1 h2;subst h1 h2;exact⟨0,rfl,rfl,he⟩
   |succ n=>
    obtain⟨i,a,b,c⟩:=qP (ks:=ks) (vs:=vs) (j:=j+1) g (by simpa [UR]using h1) (by simpa using h2);exact⟨i+1,by simpa using a,by simpa using b,by rw[show j+(i+1)=j+1+i by omega];exact c⟩
  .cases h
section
variable {K:Frag}
theorem mJ.cY {s:Sl} (h:mJ K M W L H i v s):mJ K (aW M cY) W L H i v s:=by
 have k:cZ M (aW M Mr.cY) H H:=.less fun a z=>z.elim id fun z=>z.elim
 cases s with
 |val p=>exact Rep.aK k h
 |own p=>obtain⟨a,e,w,c⟩:=h;exact⟨a,e,w,c.aK k fun _ h=>h⟩
 |loc p=>obtain⟨a,e,w,c⟩:=h;exact⟨a,e,w,c.aK k fun _ h=>h⟩
 |bor p=>
  obtain⟨a,e,c⟩:=h;refine⟨a,e,?_⟩;cases c with
  |lst e od n m r=>exact .lst e od n m (r.aK k)
  |fL e r=>exact .fL e (r.aK k)
  |aZ e od n m kk r=>exact .aZ e od n m kk (r.aK k)
theorem aa8 {nl:Nat} {fr:Bool} {t:TS} {g:FS} {N:List Str} (h:gA K t g) (hN:N.length=ks.length+nl) {vs:List V} {Q:VK} (hs:WR K ks fr (pA ks nl fr g) vs H Q E):t {nx:=fun _ H'=>Q .bG H',rt:=Q} (L2.start N vs) H:=by
 obtain⟨M,ps,r,qs,hM,hvl,hpl,har,hdis,hwm,hf,q⟩:=hs;obtain⟨out,g1,hf⟩:=aF hf
 let O:aJ:=fun a=>H a≠none
 have o:lQ O M (rV ks vs H) cY H:=⟨fun a h=>h,hM,hwm,fun a z=>z.elim⟩;have hvN:N.length - vs.length=nl:=by omega
 have st:∀(i:Nat) v,vs[i]? =some v->(L2.start N vs)[i]? =some (some v):=fun i v hv=>by
  unfold L2.start;have hi:=(af.mp hv).1;rw[ke (by simpa using hi),aq,hv];rfl
 have sl:∀(i:Nat) s,(qX ks ps++List.replicate nl none)[i]? =some (some s)->∃k p v,ks[i]? =some k/\ps[i]? =some p/\vs[i]? =some v/\s=J6 k p:=fun i s hi=>by
  by_cases hl:i<(qX ks ps).length
  .rw[ke hl]at hi;obtain⟨k,p,h1,h2,h3⟩:=E8 hi;have:i<vs.length:=by have:=(af.mp h1).1;omega
   exact⟨k,p,vs[i],h1,h2,by simp,h3⟩
  .rw[jv (by omega),lb]at hi;split at hi<;>cases hi
 have mk:∀k p,(J6 k p).eC=true->k= .m:=fun k p hm=>by
  cases k with
  |v=>cases hm
  |m=>rfl
  |b=>cases p<;>cases hm
 have en:aQ K (aW M cY) (rV ks vs H) cY H (L2.start N vs) (qX ks ps++List.replicate nl none):=by
  refine⟨?_,fun i s hi=>?_,fun i j s s' hij h1 h2 m1 m2=>?_⟩
  .unfold L2.start;rw[br,br,gu,gu,F6 hpl,ag,hvN,hvl]
  .obtain⟨k,p,v,h1,h2,h3,rfl⟩:=sl i s hi;exact⟨v,st i v h3,(har i k p v h1 h2 h3).cY⟩
  .obtain⟨k,p,v,a1,a2,a3,rfl⟩:=sl i s h1;obtain⟨k',p',v',b1,b2,b3,rfl⟩:=sl j s' h2;rw[st i v a3,st j v' b3];have e1:=mk _ _ m1;have e2:=mk _ _ m2;subst e1 e2;have:=hdis i j hij a1 b1;rw[a3,b3]at this;exact fun z=>this (by cases z;rfl)
 have gk:∀{L':aJ} {H':Hp},o9 (rV ks vs H) cY L' H H'->cA (rV ks vs H) cY H H':=fun gr=>⟨gr.obj,gr.tup,gr.cD⟩
 have mu:∀{Z Zf:aJ} {L':aJ} {H':Hp} {σ':St} {e':En} {qs:List PV},aQ K Z (rV ks vs H) L' H' σ' e'->(∀a,Zf a->Z a)->vY e' 0 ks=some qs->GZ K Zf H' ks vs qs:=fun en' hz hm n v q' h1 h2=>by
  obtain⟨i,a1,a2,a3⟩:=qP hm h1 h2;rw[zero_add]at a3;obtain⟨u,h3,a,rfl,⟨_,w⟩,c⟩:=en'.at' i _ a3;rw[a2]at w;cases w;exact⟨a,rfl,c.aK (.less hz) fun _ h=>h⟩
 refine h O M (rV ks vs H) cY (L2.start N vs) H _ out _ o en g1 ?_;cases out with
 |bk e'=>cases hf
 |ct e'=>cases hf
 | nx e'=>
  cases fr with
  |true=>cases hf
  |false=>
   obtain⟨qs',g2,hf⟩:=aF hf;cases hf;exact fun L' σ' H' gr o' en'=>q .bG H' (gk gr) ⟨.bG,mu en' (fun a z=>.inl z) g2⟩
 | rt b e'=>
  obtain⟨r',g2,hf⟩:=aF hf;obtain⟨qs',g3,hf⟩:=aF hf;cases hf;intro L' σ' H' v gr o' rb;refine q v H' (gk gr) ?_;cases b with
  | val p=>
   cases fr with
   |true=>cases g2
   |false=>
    cases g2;exact⟨rb.2.aK (.less fun a z=>.inl z),mu rb.1 (fun a z=>.inl z) g3⟩
  | new p=>
   cases fr with
   |false=>
    cases g2;have rb:=rb.weak o';exact⟨Rep.aK (.less fun a z=>.inl z) rb.2,mu rb.1 (fun a z=>.inl z) g3⟩
   |true=>
    cases g2;obtain⟨a,rfl,n1,n2,en',fe,c⟩:=rb;exact⟨a,rfl,cv n1,c.aK (.less fun a z=>z.elim .inl fun z=>.inr (.inr z)) fun _ h=>h,mu en' (fun a z=>z.elim .inl fun z=>.inr (.inr z)) g3⟩
  | slot i=>
   have g2':(match e'[i]? with|some (some (.loc p))=>some p|_=>none)=some r:=by
    cases fr<;>exact g2
   cases c:e'[i]? with
   |none=>rw[c]at g2';cases g2'
   | some s=>
    cases s with
    |none=>rw[c]at g2';cases g2'
    | some s=>
     rw[c]at g2';cases s with
     |loc p=>
      cases g2';obtain⟨u,h1,a,rfl,la,ct⟩:=rb.1.at' i _ c;have:=rb.2;rw[h1]at this;cases this;have nO:H a=none:=cv (o'.loc a la).2;cases fr with
      |false=>exact⟨(ct.aK (.less fun a z=>.inl z) fun _ h=>h).rep fun z=>absurd nO (hM a z),mu rb.1 (fun a z=>.inl z) g3⟩
      |true=>exact⟨a,rfl,nO,ct.aK (.less fun b z=>z.elim .inl fun z=>.inr (by rw[show b=a from z];exact la)) fun _ h=>h,mu rb.1 (fun b z=>z.elim .inl fun z=>.inr (by rw[show b=a from z];exact la)) g3⟩
     |_=>cases g2'
noncomputable def JR (e:En):Kd->Bv->Option PV
 | .v,b=>b.put
 | .b,b=>b.get e
 | .m,.slot i=>ownAt e i
 | .m,_=>none
noncomputable def OU (e:En):List Kd->List Bv->Option (List PV)
 |[],[]=>some []
 |k::ks,b::bs=>bO (JR e k b) fun p=>bO (OU e ks bs) fun ps=>some (p::ps)
 |_,_=>none
noncomputable def cC:List Kd->List Bv->List Nat
 | .m::ks,.slot i::bs=>i::cC ks bs
 |_::ks,_::bs=>cC ks bs
 |_,_=>[]
noncomputable def rX:List Kd->List Bv->List Nat
 | .b::ks,.slot i::bs=>i::rX ks bs
 |_::ks,_::bs=>rX ks bs
 |_,_=>[]
noncomputable def resB (r:PV):Bool->Bv
 |true=>.new r
 |false=>.val r
noncomputable def bA (ks:List Kd) (fr:Bool) (f:FN) (fa:FA):FE:=fun e=>bE (fa e) fun bs e1=>bO (OU e1 ks bs) fun ps=>
 bD (decide ((cC ks bs).Nodup) && (rX ks bs).all fun i=>!(cC ks bs).contains i) (bO (f ps) fun rq=>bO (pO (rq.2.map fun q=>some (.own q)) (cC ks bs).zipIdx e1) fun e2=>some (resB rq.1 fr,e2))
theorem GN:∀{ks:List Kd} {bs:List Bv} {ps:List PV},OU e ks bs=some ps->ps.length=ks.length/\bs.length=ks.length/\∀(i:Nat) k b p,ks[i]? =some k->bs[i]? =some b->ps[i]? =some p->JR e k b=some p
 |[],[],ps,h=>by cases h;exact⟨rfl,rfl,fun i k b p h=>by simp at h⟩
 |[],_::_,ps,h=>by cases h
 |_::_,[],ps,h=>by cases h
 |k::ks,b::bs,ps,h=>by
  obtain⟨p,g1,h⟩:=aF h;obtain⟨ps',g2,h⟩:=aF h;cases h;obtain⟨a1,a2,a3⟩:=GN g2;refine⟨by rw[length_cons,length_cons,a1],by rw[length_cons,length_cons,a2],fun i k' b' p' h1 h2 h3=>?_⟩;cases i with
  |zero=>simp at h1 h2 h3;subst h1 h2 h3;exact g1
  |succ i=>exact a3 i k' b' p' (by simpa using h1) (by simpa using h2) (by simpa using h3)
theorem HE.get:∀{bs:List Bv} {vs:List V} {i:Nat} {v:V},HE K Z H σ bs vs->vs[i]? =some v->∃b,bs[i]? =some b/\RV K Z H σ v b
 |_,_,_,_,.nil,h=>by simp at h
 |_,_,0,_,.cons h _,e=>by simp at e;subst e;exact⟨_,rfl,h⟩
 |_,_,i+1,_,.cons _ r,e=>by
  obtain⟨b,h1,h2⟩:=HE.get (i:=i) r (by simpa using e);exact⟨b,by simpa using h1,h2⟩
theorem HE.length:∀{bs:List Bv} {vs:List V},HE K Z H σ bs vs->bs.length=vs.length
 |_,_,.nil=>rfl
 |_,_,.cons _ r=>by rw[length_cons,length_cons,HE.length r]
theorem qT:∀{ks:List Kd} {bs:List Bv} {i j:Nat},ks[i]? =some .m->bs[i]? =some (.slot j)->∃n:Nat,(cC ks bs)[n]? =some j
 |[],bs,i,j,h,_=>by simp at h
 |k::ks,[],i,j,_,h=>by simp at h
 |k::ks,b::bs,0,j,h1,h2=>by simp at h1 h2;subst h1 h2;exact⟨0,rfl⟩
 | k::ks,b::bs,i+1,j,h1,h2=>by
  obtain⟨n,h⟩:=qT (ks:=ks) (bs:=bs) (i:=i) (by simpa using h1) (by simpa using h2);cases k with
  |v=>exact⟨n,h⟩
  |b=>exact⟨n,h⟩
  |m=>
   cases b with
   |val p=>exact⟨n,h⟩
   |new p=>exact⟨n,h⟩
   |slot l=>exact⟨n+1,by simpa [cC]using h⟩
theorem BM:∀{ks:List Kd} {bs:List Bv} {i j:Nat},ks[i]? =some .b->bs[i]? =some (.slot j)->j∈rX ks bs
 |[],bs,i,j,h,_=>by simp at h
 |k::ks,[],i,j,_,h=>by simp at h
 |k::ks,b::bs,0,j,h1,h2=>by simp at h1 h2;subst h1 h2;exact bh
 | k::ks,b::bs,i+1,j,h1,h2=>by
  have h:=BM (ks:=ks) (bs:=bs) (i:=i) (j:=j) (by simpa using h1) (by simpa using h2);cases k with
  |v=>exact h
  |m=>exact h
  |b=>
   cases b with
   |val p=>exact h
   |new p=>exact h
   |slot l=>exact ba _ h
theorem x4:∀{ks:List Kd} {bs:List Bv} {i1 i2 j:Nat},(cC ks bs).Nodup->i1≠i2->ks[i1]? =some .m->ks[i2]? =some .m->bs[i1]? =some (.slot j)->bs[i2]? =some (.slot j)->False
 |[],bs,i1,i2,j,_,_,h,_,_,_=>by simp at h
 |k::ks,[],i1,i2,j,_,_,_,_,h,_=>by simp at h
 |k::ks,b::bs,0,0,j,_,n,_,_,_,_=>n rfl
 |k::ks,b::bs,0,i2+1,j,nd,n,h1,h2,h3,h4=>by
  simp at h1 h3;subst h1 h3;obtain⟨q,h⟩:=qT (ks:=ks) (bs:=bs) (i:=i2) (j:=j) (by simpa using h2) (by simpa using h4);rw[cC,fq]at nd;exact nd.1 (ay h)
 |k::ks,b::bs,i1+1,0,j,nd,n,h1,h2,h3,h4=>by
  simp at h2 h4;subst h2 h4;obtain⟨q,h⟩:=qT (ks:=ks) (bs:=bs) (i:=i1) (j:=j) (by simpa using h1) (by simpa using h3);rw[cC,fq]at nd;exact nd.1 (ay h)
 | k::ks,b::bs,i1+1,i2+1,j,nd,n,h1,h2,h3,h4=>by
  refine x4 (ks:=ks) (bs:=bs) (i1:=i1) (i2:=i2) (j:=j) ?_ (fun z=>n (by rw[z])) (by simpa using h1) (by simpa using h2) (by simpa using h3) (by simpa using h4);cases k with
  |v=>exact nd
  |b=>exact nd
  |m=>
   cases b with
   |val p=>exact nd
   |new p=>exact nd
   |slot l=>rw[cC,fq]at nd;exact nd.2
theorem t8:∀{ks:List Kd} {bs:List Bv} {vs:List V} {ps:List PV} {n j:Nat},HE K Z H σ bs vs->OU e ks bs=some ps->(cC ks bs)[n]? =some j->∃v,(UR ks vs)[n]? =some v/\σ[j]? =some (some v)
 |[],bs,vs,ps,n,j,r,g,h=>by cases bs<;>simp[cC]at h
 |k::ks,[],vs,ps,n,j,r,g,h=>by simp[cC]at h
 | k::ks,b::bs,vs,ps,n,j,r,g,h=>by
  obtain⟨p,g1,g⟩:=aF g;obtain⟨ps',g2,g⟩:=aF g;cases r with
  | cons h0 r=>
   cases k with
   |v=>exact t8 (ks:=ks) r g2 (by simpa [cC]using h)
   |b=>exact t8 (ks:=ks) r g2 (by simpa [cC]using h)
   | m=>
    cases b with
    |val p=>cases g1
    |new p=>cases g1
    | slot l=>
     cases n with
     |zero=>simp[cC]at h;subst h;exact⟨_,rfl,h0⟩
     |succ n=>
      obtain⟨v,a,b⟩:=t8 (n:=n) r g2 (by simpa [cC]using h);exact⟨v,by simpa [UR]using a,b⟩
theorem P6 {fr:Bool} {f:FN} {ta:TA} {fa:FA} (ha:vS K ta fa):Ref K (BY (WR K ks fr f) [] E ta) (bA ks fr f fa):=by
 intro O M W L σ H e e' b Q o he hf q;obtain⟨bs,e1,f1,hf⟩:=aM hf;obtain⟨ps,g1,hf⟩:=aF hf;obtain⟨g2,hf⟩:=aL hf;obtain⟨⟨r,qs⟩,g3,hf⟩:=aF hf;obtain⟨e2,g4,hf⟩:=aF hf;cases hf;rw[cj]at g2;have nd:=av g2.1;have nb:∀i∈rX ks bs,i∉cC ks bs:=fun i hi hm=>by
  have:=bg.mp g2.2 i hi;rw[contains_iff_mem.mpr hm]at this;cases this
 refine ha O M W L σ H e e1 bs _ o he f1 fun vs H1 k1 en rv=>?_
 have o1:=o.keep k1.cD;obtain⟨pl,bl,ap⟩:=GN g1;have vl:=rv.length;show WR K ks fr f (vs++[]) H1 Q E;rw[df];have wr:∀i a,rV ks vs H1 i a->∃j,bs[i]? =some (.slot j)/\σ[j]? =some (some (.ref a))/\j∈cC ks bs/\∃p,ownAt e1 j=some p:=fun i a ⟨h1,h2⟩=>by
  obtain⟨b,hb,rb⟩:=rv.get h2;have hi:i<ks.length:=(af.mp h1).1;have hp:ps[i]? =some (ps[i]'(by omega)):=aj (by omega);have:=ap i _ b _ h1 hb hp;cases b with
  |val p=>cases this
  |new p=>cases this
  |slot j=>
   obtain⟨n,hn⟩:=qT h1 hb;exact⟨j,hb,rb,ay hn,_,this⟩
 have wml:∀i a,rV ks vs H1 i a->(aw W a\/ L a)/\∃j s,e1[j]? =some (some s)/\s.eC=true/\σ[j]? =some (some (.ref a))/\j∈cC ks bs:=fun i a h=>by
  obtain⟨j,_,hs,hm,p,hp⟩:=wr i a h;obtain⟨a',ha',hz,_⟩:=en.own hp;rw[hs]at ha';cases ha';refine⟨hz,j,?_⟩;rcases bY hp with g|g
  .exact⟨_,g,rfl,hs,hm⟩
  .exact⟨_,g,rfl,hs,hm⟩
 have ML:∀a,(aw W a\/ L a)->aW M L a:=fun a z=>z.elim (fun⟨i,w⟩=>.inl (o.wm i a w)) .inr
 have nn:∀{a:Addr} {o:HO},Rd H1 a o->H1 a≠none:=fun h=>h.elim (fun h=>by rw[h];exact fun z=>nomatch z) fun⟨u,h⟩=>by rw[h];exact fun z=>nomatch z
 refine⟨aW M L,ps,r,qs,fun a z=>z.elim (fun z=>o1.old a (o1.mo a z)) fun z=>(o1.loc a z).1,by omega,by omega,fun i k p v h1 h2 h3=>?_,fun i j hij h1 h2 z=>?_,fun i a z=>ML a (wml i a z).1,g3,fun v H' kc res=>?_⟩
 .obtain⟨b,hb,rb⟩:=rv.get h3;have hone:=ap i k b p h1 hb h2;cases k with
  |v=>
   cases b with
   |val p'=>cases hone;exact rb
   |new p'=>exact rb.elim
   |slot j=>cases hone
  | m=>
   cases b with
   |val p'=>cases hone
   |new p'=>cases hone
   |slot j=>
    obtain⟨a,hs,hz,c⟩:=en.own hone;have rb':σ[j]? =some (some v):=rb;rw[hs]at rb';cases rb';exact⟨a,rfl,⟨h1,h3⟩,c⟩
  | b=>
   have lendR:∀p,Rep K (aW M L) H1 p v->mJ K (aW M L) (rV ks vs H1) cY H1 i v (J6 .b p):=fun p hr=>by
    cases hr with
    |lst h n r=>exact⟨_,rfl,.lst h (nn h) (fun⟨i',w⟩=>n (ML _ (wml i' _ w).1)) (fun z=>z) r⟩
    |aZ h n kk r=>exact⟨_,rfl,.aZ h (nn h) (fun⟨i',w⟩=>n (ML _ (wml i' _ w).1)) (fun z=>z) kk r⟩
    |bG=>exact Rep.bG
    |bl b=>exact Rep.bl b
    |int b=>exact Rep.int b
    |str b=>exact Rep.str b
    |ty b=>exact Rep.ty b
    |tup h r=>exact Rep.tup h r
   cases b with
   |val p'=>cases hone;exact lendR _ rb
   |new p'=>exact rb.elim
   | slot j=>
    have hone:rd e1 j=some p:=hone;unfold Mr.rd at hone;cases c:e1[j]? with
    |none=>rw[c]at hone;cases hone
    | some s=>
     cases s with
     |none=>rw[c]at hone;cases hone
     | some s=>
      rw[c]at hone;cases hone;obtain⟨u,hs,sr⟩:=en.at' j s c;have rb':σ[j]? =some (some v):=rb;rw[hs]at rb';cases rb';have nm:j∉cC ks bs:=nb j (BM h1 hb);have nw:∀a,s.eC=true->σ[j]? =some (some (.ref a))->¬aw (rV ks vs H1) a:=fun a hm ha ⟨i',w⟩=>by
       obtain⟨_,j',s',hs',hm',ha',hj'⟩:=wml i' a w;have ne:j≠j':=fun z=>nm (z▸hj')
       exact en.uU j j' s s' ne c hs' hm hm' (by rw[ha,ha'])
      cases s with
      |val p=>exact lendR p sr
      |own p=>
       obtain⟨a,e,w,ct⟩:=sr;subst e;cases ct with
       |lst h r=>exact⟨a,rfl,.lst (.inl h) (nn (.inl h)) (nw a rfl hs) (fun z=>z) r⟩
       |aZ h kk r=>exact⟨a,rfl,.aZ (.inl h) (nn (.inl h)) (nw a rfl hs) (fun z=>z) kk r⟩
      |loc p=>
       obtain⟨a,e,w,ct⟩:=sr;subst e;cases ct with
       |lst h r=>exact⟨a,rfl,.lst (.inl h) (nn (.inl h)) (nw a rfl hs) (fun z=>z) r⟩
       |aZ h kk r=>exact⟨a,rfl,.aZ (.inl h) (nn (.inl h)) (nw a rfl hs) (fun z=>z) kk r⟩
      |bor p=>
       obtain⟨a,e,ct⟩:=sr;subst e;cases ct with
       |lst h od n m r=>exact⟨a,rfl,.lst h (nn h) (fun⟨i',w⟩=>(wml i' a w).1.elim n m) (fun z=>z) r⟩
       |fL h r=>exact⟨a,rfl,.fL h r⟩
       |aZ h od n m kk r=>exact⟨a,rfl,.aZ h (nn h) (fun⟨i',w⟩=>(wml i' a w).1.elim n m) (fun z=>z) kk r⟩
 .
  have hi:i<ks.length:=(af.mp h1).1;have hj:j<ks.length:=(af.mp h2).1;have vi:vs[i]? =some (vs[i]'(by omega)):=aj (by omega);have vj:vs[j]? =some (vs[j]'(by omega)):=aj (by omega);have key:∀(i:Nat) (v:V),ks[i]? =some Kd.m->vs[i]? =some v->∃(j:Nat) (a:Addr),v= .ref a/\bs[i]? =some (Bv.slot j)/\σ[j]? =some (some v)/\∃p,ownAt e1 j=some p:=fun i v h1 h3=>by
   obtain⟨b,hb,rb⟩:=rv.get h3;have hi:i<ks.length:=(af.mp h1).1;have:=ap i _ b _ h1 hb (aj (show i<ps.length by omega));cases b with
   |val p=>cases this
   |new p=>cases this
   |slot l=>
    obtain⟨a,ha,_,_⟩:=en.own this;have rb':σ[l]? =some (some v):=rb;rw[ha]at rb';cases rb';exact⟨l,a,rfl,hb,ha,_,this⟩
  obtain⟨l1,a1,x1,y1,z1,p1,w1⟩:=key i _ h1 vi;obtain⟨l2,a2,x2,y2,z2,p2,w2⟩:=key j _ h2 vj
  by_cases hl:l1=l2
  .subst hl;exact x4 nd hij h1 h2 y1 y2
  .have m1:∃s,e1[l1]? =some (some s)/\s.eC=true:=by rcases bY w1 with g|g<;>exact⟨_,g,rfl⟩
   have m2:∃s,e1[l2]? =some (some s)/\s.eC=true:=by rcases bY w2 with g|g<;>exact⟨_,g,rfl⟩
   obtain⟨s1,b1,c1⟩:=m1;obtain⟨s2,b2,c2⟩:=m2;refine en.uU l1 l2 s1 s2 hl b1 b2 c1 c2 ?_;rw[z1,z2,<-Option.some.inj (vi.symm.trans (z.trans vj))]
 .
  have kout:cA W L H1 H':=⟨fun a ob h n m=>kc.obj a ob h (fun⟨i,w⟩=>(wml i a w).1.elim n m) (fun z=>z),kc.tup,kc.cD⟩;have pend:∀(Zf Lf:aJ),(∀a ob,H1 a=some ob->¬aW M L a->¬Zf a)->(∀a,L a->Lf a)->(∀a ob,H1 a=some ob->¬L a->¬Lf a)->JF K Zf W Lf H' σ (fun i=>∃j,(i,j)∈(cC ks bs).zipIdx) e1:=fun Zf Lf hz hL hL2=>by
   have kf:cZ (aW M L) Zf H1 H':=⟨kc.tup,fun a ob h n=>⟨kc.obj a ob h (fun⟨i,w⟩=>n (ML a (wml i a w).1)) (fun z=>z),hz a ob h n⟩⟩;refine⟨en.len,fun i s hs=>?_,en.uU⟩;obtain⟨u,h1,h2⟩:=en.at' i s hs;have keepM:∀a,s.eC=true->¬(∃j,(i,j)∈(cC ks bs).zipIdx)->u= .ref a->∀ob,H1 a=some ob->H' a=some ob:=fun a hm nt ev ob h=>by
    subst ev;refine kc.obj a ob h (fun⟨i',w⟩=>?_) (fun z=>z);obtain⟨_,j',s',hs',hm',ha',hj'⟩:=wml i' a w;obtain⟨n,hn⟩:=fu hj';have ne:j'≠i:=fun z=>nt ⟨n,by rw[<-z];exact List.mem_zipIdx_iff_getElem?.mpr hn⟩
    exact en.uU j' i s' s ne hs' hs hm' hm (by rw[ha',h1])
   have rk:∀{a:Addr} {o:HO},Rd H1 a o->¬L a->¬Lf a:=fun h n=>h.elim (fun h=>hL2 _ _ h n) fun⟨u,h⟩=>hL2 _ _ h n
   refine⟨u,h1,fun z=>?_,fun hm=>?_⟩
   .cases s with
    |val p=>exact Rep.aK kf h2
    |own p=>obtain⟨a,e,w,c⟩:=h2;exact⟨a,e,w,c.aK kf fun ob h=>keepM a rfl (z.elim id fun z=>nomatch z) e ob h⟩
    |loc p=>obtain⟨a,e,w,c⟩:=h2;exact⟨a,e,hL a w,c.aK kf fun ob h=>keepM a rfl (z.elim id fun z=>nomatch z) e ob h⟩
    |bor p=>
     obtain⟨a,e,c⟩:=h2;refine⟨a,e,?_⟩;cases c with
     |lst h od n m r=>exact .lst (h.elim (fun h=>.inl (kout.obj _ _ h n m)) fun⟨u,h⟩=>.inr ⟨u,kout.obj _ _ h n m⟩) od n (rk h m) (r.aK kf)
     |fL h r=>exact .fL h (r.aK kf)
     |aZ h od n m kk r=>exact .aZ (h.elim (fun h=>.inl (kout.obj _ _ h n m)) fun⟨u,h⟩=>.inr ⟨u,kout.obj _ _ h n m⟩) od n (rk h m) kk (r.aK kf)
   .cases s with
    |val p=>cases hm
    |bor p=>cases hm
    |own p=>obtain⟨a,e,w,c⟩:=h2;exact⟨a,e,.inl ⟨p,rfl,w⟩⟩
    |loc p=>obtain⟨a,e,w,c⟩:=h2;exact⟨a,e,.inr ⟨p,rfl,hL a w⟩⟩
  have back:∀(Zf:aJ),GZ K Zf H' ks vs qs->∀i j p a,(i,j)∈(cC ks bs).zipIdx->ownAt (qs.map fun q=>some (.own q)) j=some p->σ[i]? =some (some (.ref a))->jA K Zf H' a p:=fun Zf mu i j p a hm hp ha=>by
   have hm':=List.mem_zipIdx_iff_getElem?.mp hm;obtain⟨v',a1,a2⟩:=t8 rv g1 hm';dsimp only at a2;rw[ha]at a2;cases a2;have hq:qs[j]? =some p:=by
    rcases bY hp with g|g
    .rw[aq]at g;cases c:qs[j]? with
     |none=>rw[c]at g;cases g
     |some q'=>rw[c]at g;cases g;rfl
    .rw[aq]at g;cases c:qs[j]? with
     |none=>rw[c]at g;cases g
     |some q'=>rw[c]at g;cases g
   obtain⟨a',e,c⟩:=mu j _ p a1 hq;cases e;exact c
  cases fr with
  |false=>
   obtain⟨rr,mu⟩:=res;exact q v H' (k1.trans kout) ⟨uG (pend (aW M L) L (fun _ _ _ n=>n) (fun _ z=>z) fun _ _ _ n=>n) (back _ mu) g4,rr⟩ trivial
  | true=>
   obtain⟨a,rfl,na,c,mu⟩:=res;have sub:∀b,aW M (aW L (one a)) b->aW (aW M L) (one a) b:=fun b z=>by
    rcases z with z|z|z
    .exact .inl (.inl z)
    .exact .inl (.inr z)
    .exact .inr z
   have ne:∀b ob,H1 b=some ob->b≠a:=fun b ob h=>bX h na
   have mu':GZ K (aW M (aW L (one a))) H' ks vs qs:=fun n v q' h1 h2=>by
    obtain⟨a',e,c⟩:=mu n v q' h1 h2;exact⟨a',e,c.aK (.less sub) fun _ h=>h⟩
   refine q _ H' (k1.trans kout) ⟨a,rfl,fun z=>o1.old a z na,fun z=>(o1.loc a z).1 na,uG (pend (aW M (aW L (one a))) (aW L (one a)) (fun b ob h n z=>?_) (fun _ z=>.inl z) fun b ob h n z=>z.elim n (ne b ob h)) (back _ mu') g4,fun i s hs hm e=>?_,c.aK (.less sub) fun _ h=>h⟩ (Fr.back (b:=.new r) k1.cD fun b e=>by cases e;exact na)
   .rcases z with z|z|z
    .exact n (.inl z)
    .exact n (.inr z)
    .exact ne b ob h z
   .obtain⟨s',hs',hm'⟩:=nJ g4 i s hs hm;obtain⟨u,h1,h2⟩:=en.at' i s' hs';rw[e]at h1;cases h1;cases s' with
    |val p=>cases hm'
    |bor p=>cases hm'
    |own p=>obtain⟨b,e,w,c⟩:=h2;cases e;obtain⟨ob,h,_⟩:=c.there;rw[na]at h;cases h
    |loc p=>obtain⟨b,e,w,c⟩:=h2;cases e;obtain⟨ob,h,_⟩:=c.there;rw[na]at h;cases h
end
end Mr
namespace Mr
open PySem PySem.Spec L2 PyProof.Rows
variable {a:Addr} {ys:Array Value} {X:Cx} {f:FE} {h:Heap} {H:Hp} {g':Int->Int->PV} {g:Int->Int->V} {ps:List PV} {vs xs:List V} {k n:Nat} {p q:PV} {r r':R2} {t:TE} {u v:Value} {W:WS} {L M O Wr Z:aJ}
mutual
inductive Lies (h:Heap):PV->Value->Prop
 |bG:Lies h .bG .none
 |bl (b:Bool):Lies h (.bl b) (.bool b)
 |int (i:Int) (t:Tok):Lies h (.int i) (.int i t)
 |str (x:Str) (t:Tok):Lies h (.str x) (.str x t)
 |tup {a:Addr} {its:List Value} {ps:List PV}:IsTup h a its.toArray->bV h ps its->Lies h (.tup ps) (.ref a)
 |lst {a:Addr} {its:List Value} {ps:List PV}:h.IsList a its.toArray->bV h ps its->Lies h (.lst ps) (.ref a)
inductive bV (h:Heap):List PV->List Value->Prop
 |nil:bV h [] []
 |cons {p:PV} {v:Value} {ps:List PV} {vs:List Value}:Lies h p v->bV h ps vs->bV h (p::ps) (v::vs)
end
noncomputable def i4:Nat->PV->Bool
 |_,.bG=>true
 |_,.bl _=>true
 |_,.int _=>true
 |_,.str _=>true
 |n+1,.tup ps=>ps.all (i4 n)
 |n+1,.lst ps=>ps.all (i4 n)
 |_,_=>false
section
variable {X:Cx} {zq:List (Addr×Obj)} {σ:L2.St} {H:Hp} {s:Shared}
theorem Rep.lies (I:Inv X zq σ H s):∀{n:Nat} {p:PV} {x:V} {v:Value},i4 n p=true->Rep X.K Z H p x->RelV x v->Lies s.heap p v
 |n,.bG,x,v,ok,h,r=>by cases h;cases r;exact .bG
 |n,.bl b,x,v,ok,h,r=>by cases h;cases r;exact .bl b
 |n,.int b,x,v,ok,h,r=>by cases h;obtain⟨t,rfl⟩:=r;exact .int b t
 |n,.str b,x,v,ok,h,r=>by cases h;obtain⟨t,rfl⟩:=r;exact .str b t
 |n,.ty b,x,v,ok,h,r=>by cases n<;>cases ok
 |n,.aZ b,x,v,ok,h,r=>by cases n<;>cases ok
 |0,.tup ps,x,v,ok,h,r=>by cases ok
 |0,.lst ps,x,v,ok,h,r=>by cases ok
 | n+1,.tup ps,x,v,ok,h,r=>by
  cases h with
  | tup h rl=>
   cases r;obtain⟨its,rv,pl,_⟩:=I.tuple h.sq;have key:∀(ps:List PV) (xs:List V) (its:List Value),ps.all (i4 n)=true->bI X.K Z H ps xs->Vals xs its->bV s.heap ps its:=fun ps=>by
    induction ps with
    |nil=>intro xs its _ h1 h2;cases h1;cases h2;exact .nil
    | cons p ps ih=>
     intro xs its ha h1 h2;rw[all_cons,cj]at ha;cases h1 with
     |cons h1 r1=>
      cases h2 with
      |cons h2 r2=>exact .cons (Rep.lies I (n:=n) ha.1 h1 h2) (ih _ _ ha.2 r1 r2)
   exact .tup pl (key ps _ its ok rl rv)
 | n+1,.lst ps,x,v,ok,h,r=>by
  cases h with
  | lst h nz rl=>
   cases r;obtain⟨its,rv,pl,_⟩:=I.list (show gE X.K H _ _ from .inl h);have key:∀(ps:List PV) (xs:List V) (its:List Value),ps.all (i4 n)=true->bI X.K Z H ps xs->Vals xs its->bV s.heap ps its:=fun ps=>by
    induction ps with
    |nil=>intro xs its _ h1 h2;cases h1;cases h2;exact .nil
    | cons p ps ih=>
     intro xs its ha h1 h2;rw[all_cons,cj]at ha;cases h1 with
     |cons h1 r1=>
      cases h2 with
      |cons h2 r2=>exact .cons (Rep.lies I (n:=n) ha.1 h1 h2) (ih _ _ ha.2 r1 r2)
   exact .lst pl.isList (key ps _ its ok rl rv)
theorem bI.lies (I:Inv X zq σ H s):∀{ps:List PV} {xs:List V} {its:List Value},ps.all (i4 n)=true->bI X.K Z H ps xs->Vals xs its->bV s.heap ps its
 |[],_,_,_,h1,h2=>by cases h1;cases h2;exact .nil
 | p::ps,_,_,ha,h1,h2=>by
  rw[all_cons,cj]at ha;cases h1 with
  |cons h1 r1=>
   cases h2 with
   |cons h2 r2=>exact .cons (Rep.lies I (n:=n) ha.1 h1 h2) (bI.lies I ha.2 r1 r2)
theorem Red.lies (I:Inv X zq σ H s) {n:Nat} {x:V} (ok:i4 n p=true) (h:Red X.K Z H p x) (r:RelV x v):Lies s.heap p v:=by
 cases h with
 |rep h=>exact h.lies I ok r
 | lst h rl=>
  cases r;cases n with
  |zero=>cases ok
  |succ n=>
   obtain⟨its,rv,pl,_⟩:=I.list h.sq;exact .lst pl.isList (bI.lies I (n:=n) ok rl rv)
 |aZ h e r=>cases n<;>cases ok
end
mutual
noncomputable def cN:PV->PV->Bool
 | .bG,.bG=>true
 | .bl a,.bl b=>a==b
 | .bl a,.int b=>(if a then 1 else 0)==b
 | .int a,.bl b=>a==(if b then 1 else 0)
 | .int a,.int b=>a==b
 | .str a,.str b=>a==b
 | .tup xs,.tup ys=>dR xs ys
 | .lst xs,.lst ys=>dR xs ys
 |_,_=>false
noncomputable def dR:List PV->List PV->Bool
 |[],[]=>true
 |x::xs,y::ys=>cN x y && dR xs ys
 |_,_=>false
end
theorem qS {xs ys:List PV}:cN (.tup xs) (.tup ys)=dR xs ys:=by rw[cN]
theorem xV {xs ys:List PV}:cN (.lst xs) (.lst ys)=dR xs ys:=by rw[cN]
theorem bV.length:∀{ps:List PV} {vs:List Value},bV h ps vs->ps.length=vs.length
 |_,_,.nil=>rfl
 |_,_,.cons _ r=>by rw[length_cons,length_cons,bV.length r]
theorem bV.get:∀{ps:List PV} {vs:List Value} {i:Nat} {v:Value},bV h ps vs->vs[i]? =some v->∃p,ps[i]? =some p/\Lies h p v
 |_,_,_,_,.nil,e=>by simp at e
 |_,_,0,_,.cons q _,e=>by simp at e;subst e;exact⟨_,rfl,q⟩
 |_,_,i+1,_,.cons _ r,e=>by
  obtain⟨v,h1,h2⟩:=bV.get (i:=i) r (by simpa using e);exact⟨v,by simpa using h1,h2⟩
theorem MT {xs:Array Value} (h1:IsTup h a xs) (h2:IsTup h a ys):xs=ys:=by
 obtain⟨o,g,_,n,d⟩:=h1;obtain⟨o',g',_,n',d'⟩:=h2;rw[g]at g';cases g';rw[d]at d';injection d'
theorem MJ {xs:Array Value} (h1:h.IsList a xs) (h2:h.IsList a ys):xs=ys:=by
 obtain⟨o,g,_,n,d⟩:=h1;obtain⟨o',g',_,n',d'⟩:=h2;rw[g]at g';cases g';rw[d]at d';injection d'
theorem xM {xs:Array Value} (h1:IsTup h a xs) (h2:h.IsList a ys):False:=by
 obtain⟨o,g,c,n,d⟩:=h1;obtain⟨o',g',c',n',d'⟩:=h2;rw[g]at g';cases g';rw[c]at c';exact absurd c' (by decide)
mutual
theorem Lies.same {h:Heap}:∀{p:PV} {v:Value},Lies h p v->∀{q:PV},Lies h q v->cN p q=true
 |_,_,.bG,q,k=>by cases k;rfl
 |_,_,.bl b,q,k=>by cases k;exact gj b
 |_,_,.int i t,q,k=>by cases k;exact gj i
 |_,_,.str i t,q,k=>by cases k;exact gj i
 | _,_,.tup ht r,q,k=>by
  cases k with
  |tup ht' r'=>
   have e:_=_:=MT ht ht';have e:=dq Array.toList e;simp only[toList_toArray]at e;subst e;unfold cN;exact bV.same r r'
  |lst hl r'=>exact(xM ht hl).elim
 | _,_,.lst ht r,q,k=>by
  cases k with
  |tup ht' r'=>exact(xM ht' ht).elim
  |lst hl r'=>
   have e:=dq Array.toList (MJ ht hl);simp only[toList_toArray]at e;subst e;unfold cN;exact bV.same r r'
theorem bV.same {h:Heap}:∀{p:List PV} {v:List Value},bV h p v->∀{q:List PV},bV h q v->dR p q=true
 |_,_,.nil,q,k=>by cases k;rfl
 |_,_,.cons h1 r1,q,k=>by
  cases k with
  |cons h2 r2=>unfold dR;rw[Lies.same h1 h2,bV.same r1 r2];rfl
end
mutual
theorem Lies.fn {h:Heap}:∀{p:PV} {v:Value},Lies h p v->∀{q:PV},Lies h q v->p=q
 |_,_,.bG,q,k=>by cases k;rfl
 |_,_,.bl b,q,k=>by cases k;rfl
 |_,_,.int i t,q,k=>by cases k;rfl
 |_,_,.str i t,q,k=>by cases k;rfl
 | _,_,.tup ht r,q,k=>by
  cases k with
  |tup ht' r'=>
   have e:=dq Array.toList (MT ht ht');simp only[toList_toArray]at e;subst e;rw[bV.fn r r']
  |lst hl r'=>exact(xM ht hl).elim
 | _,_,.lst ht r,q,k=>by
  cases k with
  |tup ht' r'=>exact(xM ht' ht).elim
  |lst hl r'=>
   have e:=dq Array.toList (MJ ht hl);simp only[toList_toArray]at e;subst e;rw[bV.fn r r']
theorem bV.fn {h:Heap}:∀{p:List PV} {v:List Value},bV h p v->∀{q:List PV},bV h q v->p=q
 |_,_,.nil,q,k=>by cases k;rfl
 |_,_,.cons h1 r1,q,k=>by
  cases k with
  |cons h2 r2=>rw[Lies.fn h1 h2,bV.fn r1 r2]
end
theorem fN:∀{ps qs:List PV},((List.range (min ps.length qs.length)).all (fun j=>cN (ps.getD j .bG) (qs.getD j .bG)) && ps.length==qs.length)=dR ps qs
 |[],[]=>rfl
 |[],_::_=>by unfold dR;simp
 |_::_,[]=>by unfold dR;simp
 | p::ps,q::qs=>by
  have ih:=fN (ps:=ps) (qs:=qs);unfold dR;rw[<-ih];have e:min (p::ps).length (q::qs).length=min ps.length qs.length+1:=by simp only[length_cons];omega
  rw[e,List.range_succ_eq_map,all_cons,List.all_map];have e2:((p::ps).length==(q::qs).length)=(ps.length==qs.length):=by
   rw[Bool.eq_iff_iff];simp
  rw[e2,Bool.and_assoc];rfl
section
variable {A:Around} {s:Shared}
theorem toArr {vs:List Value} {j:Nat} (h:j<vs.toArray.size):vs[j]? =some (vs.toArray[j]):=by simp at h⊢
theorem EC:∀(n:Nat) (A:Around) {p q:PV} {v u:Value},A.units+n<cLine->i4 n p=true->i4 n q=true->Lies s.heap p v->Lies s.heap q u->SeqAt.EqAt A s v u (cN p q):=by
 intro n
 induction n with
 | zero=>
  intro A p q v u hu o1 o2 h1 h2;cases h1 with
  |tup _ _=>cases o1
  |lst _ _=>cases o1
  |bG=>
   cases h2 with
   |tup _ _=>cases o2
   |lst _ _=>cases o2
   |bG=>exact .same _
   |bl b=>exact .none_bool b
   |int b t=>exact .none_int b t
   |str b t=>exact .none_str b t
  |bl a=>
   cases h2 with
   |tup _ _=>cases o2
   |lst _ _=>cases o2
   |bG=>exact .bool_none a
   |bl b=>exact .bool_bool a b
   |int b t=>exact .bool_int a b t
   |str b t=>exact .bool_str a b t
  |int a t'=>
   cases h2 with
   |tup _ _=>cases o2
   |lst _ _=>cases o2
   |bG=>exact .int_none a t'
   |bl b=>exact .int_bool a t' b
   |int b t=>exact .int_int a t' b t
   |str b t=>exact .int_str a t' b t
  |str a t'=>
   cases h2 with
   |tup _ _=>cases o2
   |lst _ _=>cases o2
   |bG=>exact .str_none a t'
   |bl b=>exact .str_bool a t' b
   |int b t=>exact .str_int a t' b t
   |str b t=>exact .str_str a t' b t
 | succ n ih=>
  intro A p q v u hu o1 o2 h1 h2;have hu0:A.units<cLine:=by omega
  have hin:A.in1.units=A.units+1:=rfl;have els:∀{ps qs:List PV} {vs us:List Value},ps.all (i4 n)=true->qs.all (i4 n)=true->bV s.heap ps vs->bV s.heap qs us->∀(j:Nat) (g1:j<vs.toArray.size) (g2:j<us.toArray.size),SeqAt.EqAt A.in1 s vs.toArray[j] us.toArray[j] (cN (ps.getD j .bG) (qs.getD j .bG)):=fun{ps qs vs us} a1 a2 l1 l2 j g1 g2=>by
   obtain⟨x,ex,rx⟩:=l1.get (toArr g1);obtain⟨y,ey,ry⟩:=l2.get (toArr g2);rw[cc,cc,ex,ey];exact ih A.in1 (by omega) (bg.mp a1 _ (ay ex)) (bg.mp a2 _ (ay ey)) rx ry
  cases h1 with
  | tup ht r=>
   cases h2 with
   | tup ht' r'=>
    rename_i a its ps a' its' ps'
    by_cases hab:a=a'
    .subst hab;rw[Lies.same (.tup ht r) (.tup ht' r')];exact .same _
    .refine .of_refs hab ?_;have e:cN (.tup ps) (.tup ps')=((List.range (min its.toArray.size its'.toArray.size)).all (fun j=>cN (ps.getD j .bG) (ps'.getD j .bG)) && its.toArray.size==its'.toArray.size):=by
      rw[qS,<-fN,r.length,r'.length,cp,cp]
     rw[e];exact SeqAt.RcAt.tuples (e:=fun j=>cN (ps.getD j .bG) (ps'.getD j .bG)) ht ht' hu0 (els o1 o2 r r')
   |lst hl r'=>exact .tuple_list ht hl hu0
   |bG=>exact .tuple_none ht hu0
   |bl b=>exact .tuple_bool b ht hu0
   |int b t=>exact .tuple_int b t ht hu0
   |str b t=>exact .tuple_str b t ht hu0
  | lst ht r=>
   cases h2 with
   |tup ht' r'=>exact .list_tuple ht ht' hu0
   | lst ht' r'=>
    rename_i a its ps a' its' ps'
    by_cases hab:a=a'
    .subst hab;rw[Lies.same (.lst ht r) (.lst ht' r')];exact .same _
    .refine .of_refs hab ?_
     by_cases hsz:its.length=its'.length
     .have e:cN (.lst ps) (.lst ps')=(List.range its.toArray.size).all (fun j=>cN (ps.getD j .bG) (ps'.getD j .bG)):=by
       rw[xV,<-fN,r.length,r'.length,cp,<-hsz,Nat.min_self,gj,Bool.and_true]
      rw[e];exact SeqAt.RcAt.lists (e:=fun j=>cN (ps.getD j .bG) (ps'.getD j .bG)) ht ht' (by simp[hsz]) hu0 (els o1 o2 r r')
     .have e:cN (.lst ps) (.lst ps')=false:=by
       rw[xV,<-fN,r.length,r'.length,show(its.length==its'.length)=false by simp[hsz],Bool.and_false]
      rw[e];exact SeqAt.RcAt.lists_lengths ht ht' (by simp[hsz]) hu0
   |bG=>exact .list_none ht hu0
   |bl b=>exact .list_bool b ht hu0
   |int b t=>exact .list_int b t ht hu0
   |str b t=>exact .list_str b t ht hu0
  |bG=>
   cases h2 with
   |tup ht' r'=>exact .none_tuple ht' hu0
   |lst hl r'=>exact .none_list hl hu0
   |bG=>exact .same _
   |bl b=>exact .none_bool b
   |int b t=>exact .none_int b t
   |str b t=>exact .none_str b t
  |bl a=>
   cases h2 with
   |tup ht' r'=>exact .bool_tuple a ht' hu0
   |lst hl r'=>exact .bool_list a hl hu0
   |bG=>exact .bool_none a
   |bl b=>exact .bool_bool a b
   |int b t=>exact .bool_int a b t
   |str b t=>exact .bool_str a b t
  |int a t'=>
   cases h2 with
   |tup ht' r'=>exact .int_tuple a t' ht' hu0
   |lst hl r'=>exact .int_list a t' hl hu0
   |bG=>exact .int_none a t'
   |bl b=>exact .int_bool a t' b
   |int b t=>exact .int_int a t' b t
   |str b t=>exact .int_str a t' b t
  |str a t'=>
   cases h2 with
   |tup ht' r'=>exact .str_tuple a t' ht' hu0
   |lst hl r'=>exact .str_list a t' hl hu0
   |bG=>exact .str_none a t'
   |bl b=>exact .str_bool a t' b
   |int b t=>exact .str_int a t' b t
   |str b t=>exact .str_str a t' b t
theorem UB {A:Around} (hu:A.units+(n+1)<cLine) (o1:i4 (n+1) p=true) (o2:i4 (n+1) q=true) (h1:Lies s.heap p v) (h2:Lies s.heap q u):SeqAt.RcAt A s v u (cN p q)/\SeqAt.RcNeAt A s v u (!cN p q):=by
 have hu0:A.units<cLine:=by omega
 have hin:A.in1.units=A.units+1:=rfl;have els:∀{ps qs:List PV} {vs us:List Value},ps.all (i4 n)=true->qs.all (i4 n)=true->bV s.heap ps vs->bV s.heap qs us->∀(j:Nat) (g1:j<vs.toArray.size) (g2:j<us.toArray.size),SeqAt.EqAt A.in1 s vs.toArray[j] us.toArray[j] (cN (ps.getD j .bG) (qs.getD j .bG)):=fun{ps qs vs us} a1 a2 l1 l2 j g1 g2=>by
  obtain⟨x,ex,rx⟩:=l1.get (toArr g1);obtain⟨y,ey,ry⟩:=l2.get (toArr g2);rw[cc,cc,ex,ey];exact EC n A.in1 (by omega) (bg.mp a1 _ (ay ex)) (bg.mp a2 _ (ay ey)) rx ry
 cases h1 with
 | tup ht r=>
  cases h2 with
  | tup ht' r'=>
   rename_i a its ps a' its' ps';have e:cN (.tup ps) (.tup ps')=((List.range (min its.toArray.size its'.toArray.size)).all (fun j=>cN (ps.getD j .bG) (ps'.getD j .bG)) && its.toArray.size==its'.toArray.size):=by
    rw[qS,<-fN,r.length,r'.length,cp,cp]
   rw[e];exact⟨SeqAt.RcAt.tuples (e:=fun j=>cN (ps.getD j .bG) (ps'.getD j .bG)) ht ht' hu0 (els o1 o2 r r'),SeqAt.RcNeAt.tuples (e:=fun j=>cN (ps.getD j .bG) (ps'.getD j .bG)) ht ht' hu0 (els o1 o2 r r')⟩
  |lst hl r'=>exact⟨.tuple_list ht hl hu0,.tuple_list ht hl hu0⟩
  |bG=>exact⟨.tuple_none ht hu0,.tuple_none ht hu0⟩
  |bl b=>exact⟨.tuple_bool b ht hu0,.tuple_bool b ht hu0⟩
  |int b t=>exact⟨.tuple_int b t ht hu0,.tuple_int b t ht hu0⟩
  |str b t=>exact⟨.tuple_str b t ht hu0,.tuple_str b t ht hu0⟩
 | lst ht r=>
  cases h2 with
  |tup ht' r'=>exact⟨.list_tuple ht ht' hu0,.list_tuple ht ht' hu0⟩
  | lst ht' r'=>
   rename_i a its ps a' its' ps'
   by_cases hsz:its.length=its'.length
   .have e:cN (.lst ps) (.lst ps')=(List.range its.toArray.size).all (fun j=>cN (ps.getD j .bG) (ps'.getD j .bG)):=by
     rw[xV,<-fN,r.length,r'.length,cp,<-hsz,Nat.min_self,gj,Bool.and_true]
    rw[e];exact⟨SeqAt.RcAt.lists (e:=fun j=>cN (ps.getD j .bG) (ps'.getD j .bG)) ht ht' (by simp[hsz]) hu0 (els o1 o2 r r'),SeqAt.RcNeAt.lists (e:=fun j=>cN (ps.getD j .bG) (ps'.getD j .bG)) ht ht' (by simp[hsz]) hu0 (els o1 o2 r r')⟩
   .have e:cN (.lst ps) (.lst ps')=false:=by
     rw[xV,<-fN,r.length,r'.length,show(its.length==its'.length)=false by simp[hsz],Bool.and_false]
    rw[e];exact⟨SeqAt.RcAt.lists_lengths ht ht' (by simp[hsz]) hu0,SeqAt.RcNeAt.lists_lengths ht ht' (by simp[hsz]) hu0⟩
  |bG=>exact⟨.list_none ht hu0,.list_none ht hu0⟩
  |bl b=>exact⟨.list_bool b ht hu0,.list_bool b ht hu0⟩
  |int b t=>exact⟨.list_int b t ht hu0,.list_int b t ht hu0⟩
  |str b t=>exact⟨.list_str b t ht hu0,.list_str b t ht hu0⟩
 |bG=>
  cases h2 with
  |tup ht' r'=>exact⟨.none_tuple ht' hu0,.none_tuple ht' hu0⟩
  |lst hl r'=>exact⟨.none_list hl hu0,.none_list hl hu0⟩
  |bG=>exact⟨.none_none,.none_none⟩
  |bl b=>exact⟨.none_bool b,.none_bool b⟩
  |int b t=>exact⟨.none_int b t,.none_int b t⟩
  |str b t=>exact⟨.none_str b t,.none_str b t⟩
 |bl a=>
  cases h2 with
  |tup ht' r'=>exact⟨.bool_tuple a ht' hu0,.bool_tuple a ht' hu0⟩
  |lst hl r'=>exact⟨.bool_list a hl hu0,.bool_list a hl hu0⟩
  |bG=>exact⟨.bool_none a,.bool_none a⟩
  |bl b=>exact⟨.bool_bool a b,.bool_bool a b⟩
  |int b t=>exact⟨.bool_int a b t,.bool_int a b t⟩
  |str b t=>exact⟨.bool_str a b t,.bool_str a b t⟩
 |int a t'=>
  cases h2 with
  |tup ht' r'=>exact⟨.int_tuple a t' ht' hu0,.int_tuple a t' ht' hu0⟩
  |lst hl r'=>exact⟨.int_list a t' hl hu0,.int_list a t' hl hu0⟩
  |bG=>exact⟨.int_none a t',.int_none a t'⟩
  |bl b=>exact⟨.int_bool a t' b,.int_bool a t' b⟩
  |int b t=>exact⟨.int_int a t' b t,.int_int a t' b t⟩
  |str b t=>exact⟨.int_str a t' b t,.int_str a t' b t⟩
 |str a t'=>
  cases h2 with
  |tup ht' r'=>exact⟨.str_tuple a t' ht' hu0,.str_tuple a t' ht' hu0⟩
  |lst hl r'=>exact⟨.str_list a t' hl hu0,.str_list a t' hl hu0⟩
  |bG=>exact⟨.str_none a t',.str_none a t'⟩
  |bl b=>exact⟨.str_bool a t' b,.str_bool a t' b⟩
  |int b t=>exact⟨.str_int a t' b t,.str_int a t' b t⟩
  |str b t=>exact⟨.str_str a t' b t,.str_str a t' b t⟩
end
def V5 (K:Frag) (neg:Bool):R2:=fun x y H Q=>∃p q,Red K cY H p x/\Red K cY H q y/\i4 9 p=true/\i4 9 q=true/\Q (.bl (if neg then !cN p q else cN p q)) H
noncomputable def KR:PV->Option (List PV)
 | .lst ps=>some ps
 | .tup ps=>some ps
 |_=>none
def YC (K:Frag) (neg:Bool):R2:=fun x y H Q=>∃p q ps,Red K cY H p x/\Red K cY H q y/\KR q=some ps/\i4 8 p=true/\ps.all (i4 8)=true/\Q (.bl (if neg then !ps.any (fun z=>cN z p)else ps.any fun z=>cN z p)) H
section
variable {X:Cx} {k:Nat}
theorem DH (K:Frag) (hr:dW k X.A) (hK:X.K=K:=by rfl):kA X (compareOp .Eq) (V5 K false):=by
 subst hK;intro zq s σ H x y v u Q I rx ry h;obtain⟨p,q,h1,h2,o1,o2,hQ⟩:=h;exact(UB (n:=8) (by have:=hr.un;omega) o1 o2 (h1.lies I o1 rx) (h2.lies I o2 ry)).1 _ _ _ _ (j6 I hQ rfl)
theorem VB (K:Frag) (hr:dW k X.A) (hK:X.K=K:=by rfl):kA X (compareOp .NotEq) (V5 K true):=by
 subst hK;intro zq s σ H x y v u Q I rx ry h;obtain⟨p,q,h1,h2,o1,o2,hQ⟩:=h;exact(UB (n:=8) (by have:=hr.un;omega) o1 o2 (h1.lies I o1 rx) (h2.lies I o2 ry)).2 _ _ _ _ (j6 I hQ rfl)
theorem bV.any {e:Value->Bool} {f:PV->Bool} (he:∀{q:PV} {y:Value},Lies h q y->e y=f q):∀{ps:List PV} {its:List Value},bV h ps its->its.any e=ps.any f
 |_,_,.nil=>rfl
 |_,_,.cons h r=>by rw[any_cons,any_cons,he h,bV.any he r]
theorem C4 {s:Shared} {A:Around} (hu:A.units+8<cLine) (op:i4 8 p=true) (hp:Lies s.heap p u) {its:List Value} (ops:ps.all (i4 8)=true) (hl:bV s.heap ps its):
  ∃e:Value->Bool,(∀y,y∈its.toArray->SeqAt.EqAt A s y u (e y))/\its.toArray.any e=ps.any fun z=>cN z p:=by
 classical
 let e:Value->Bool:=fun y=>if c:∃q,Lies s.heap q y then cN c.choose p else false
 have he:∀{q:PV} {y:Value},Lies s.heap q y->e y=cN q p:=fun{q y} h=>by
  have c:∃q,Lies s.heap q y:=⟨q,h⟩;show(if c:∃q,Lies s.heap q y then cN c.choose p else false)=_;rw[dif_pos c,Lies.fn c.choose_spec h]
 refine⟨e,fun y hy=>?_,?_⟩
 .obtain⟨j,hj⟩:=fu (show y∈its by simpa using hy);obtain⟨q,h1,h2⟩:=hl.get hj;rw[he h2];exact EC 8 A hu (bg.mp ops _ (ay h1)) op h2 hp
 .rw[List.any_toArray];exact bV.any (fun h=>he h) hl
theorem ahF (K:Frag) (hr:dW k X.A) (hK:X.K=K:=by rfl):kA X (compareOp .In) (YC K false):=by
 subst hK;intro zq s σ H x y v u Q I rx ry h;obtain⟨p,q,ps,h1,h2,hi,o1,o2,hQ⟩:=h;have hu:X.A.in1.units+8<cLine:=by have:=hr.un;show X.A.units+1+8<_;omega
 have lp:=h1.lies I o1 rx;cases q with
 | lst qs=>
  cases hi;cases h2.lies I (n:=9) (p:=.lst _) o2 ry with
  |lst hl r=>
   obtain⟨e,e1,e2⟩:=C4 hu o1 lp o2 r;exact SeqAt.in_listAt e hl e1 (by rw[e2];exact j6 I hQ rfl)
 | tup qs=>
  cases hi;cases h2.lies I (n:=9) (p:=.tup _) o2 ry with
  |tup hl r=>
   obtain⟨e,e1,e2⟩:=C4 hu o1 lp o2 r;exact SeqAt.in_tupleAt e hl e1 (by rw[e2];exact j6 I hQ rfl)
 |_=>cases hi
theorem WH (K:Frag) (hr:dW k X.A) (hK:X.K=K:=by rfl):kA X (compareOp .NotIn) (YC K true):=by
 subst hK;intro zq s σ H x y v u Q I rx ry h;obtain⟨p,q,ps,h1,h2,hi,o1,o2,hQ⟩:=h;have hu:X.A.in1.units+8<cLine:=by have:=hr.un;show X.A.units+1+8<_;omega
 have lp:=h1.lies I o1 rx;cases q with
 | lst qs=>
  cases hi;cases h2.lies I (n:=9) (p:=.lst _) o2 ry with
  |lst hl r=>
   obtain⟨e,e1,e2⟩:=C4 hu o1 lp o2 r;exact SeqAt.notIn_listAt e hl e1 (by rw[e2];exact j6 I hQ rfl)
 | tup qs=>
  cases hi;cases h2.lies I (n:=9) (p:=.tup _) o2 ry with
  |tup hl r=>
   obtain⟨e,e1,e2⟩:=C4 hu o1 lp o2 r;exact SeqAt.notIn_tupleAt e hl e1 (by rw[e2];exact j6 I hQ rfl)
 |_=>cases hi
end
section
variable {K:Frag}
theorem eF.or {g g':PV->PV->Option Bv} (h:eF K r g) (h':eF K r' g'):eF K (fun x y H Q=>r x y H Q\/ r' x y H Q) (fun p q=>(g p q).or (g' p q)):=by
 intro Z H x y p q b Q hp hq hg k;have hg:(g p q).or (g' p q)=some b:=hg;cases c:g p q with
 |some b'=>rw[c]at hg;cases hg;exact .inl (h Z H x y p q _ Q hp hq c k)
 |none=>rw[c]at hg;exact .inr (h' Z H x y p q b Q hp hq hg k)
theorem iA.or {r r':List V->Hp->VK->Prop} {g g':List PV->Option Bv} (h:iA K r g) (h':iA K r' g'):iA K (fun x H Q=>r x H Q\/ r' x H Q) (fun p=>(g p).or (g' p)):=by
 intro Z H x p b Q hp hg k;have hg:(g p).or (g' p)=some b:=hg;cases c:g p with
 |some b'=>rw[c]at hg;cases hg;exact .inl (h Z H x p _ Q hp c k)
 |none=>rw[c]at hg;exact .inr (h' Z H x p b Q hp hg k)
noncomputable def gI (C:Int->Int->Bool) (g:Int->Int->PV):PV->PV->Option Bv
 | .int i,.int j=>bD (C i j) (some (.val (g i j)))
 |_,_=>none
theorem UA {C:Int->Int->Prop} {D:Int->Int->Bool} (hD:∀i j,D i j=true->C i j) (hg:∀i j Z H,Rep K Z H (g' i j) (g i j)):eF K (rI C g) (gI D g'):=by
 intro Z H x y p q b Q hp hq h k;cases p with
 | int i=>
  cases q with
  |int j=>
   obtain⟨c,h⟩:=aL h;cases h;exact⟨i,j,hp.int,hq.int,hD i j c,k _ H (aT.refl _) (hg i j Z H)⟩
  |_=>cases h
 |_=>cases h
noncomputable def gI0 (g:Int->Int->PV):PV->PV->Option Bv
 | .int i,.int j=>some (.val (g i j))
 |_,_=>none
theorem GQ (hg:∀i j Z H,Rep K Z H (g' i j) (g i j)):eF K (NY g) (gI0 g'):=by
 intro Z H x y p q b Q hp hq h k;cases p with
 |int i=>
  cases q with
  |int j=>cases h;exact⟨i,j,hp.int,hq.int,k _ H (aT.refl _) (hg i j Z H)⟩
  |_=>cases h
 |_=>cases h
noncomputable def AO:PV->PV->Option Bv:=gI0 fun i j=>.int (i - j)
theorem S2:eF K (NY fun i j=>.int (i - j)) AO:=GQ fun _ _ _ _=>.int _
noncomputable def BZ (i j:Int):Bool:=decide ((-18446744073709551616<i/\i<18446744073709551616)\/ (-18446744073709551616<j/\j<18446744073709551616))
noncomputable def uH:PV->PV->Option Bv:=gI BZ fun i j=>.int (i*j)
theorem SV:eF K (rI XH fun i j=>.int (i*j)) uH:=UA (fun i j h=>by have:=av h;show(-(2^64)<i/\i<2^64)\/ (-(2^64)<j/\j<2^64);omega) fun _ _ _ _=>.int _
noncomputable def SI:PV->PV->Option Bv:=gI (fun _ j=>decide (0<j/\j<1000000000000000000000000)) fun i j=>.int (i / j)
theorem QI:eF K (rI YV fun i j=>.int (i / j)) SI:=UA (fun i j h=>by have:=av h;show 0<j/\j<2^200;omega) fun _ _ _ _=>.int _
noncomputable def qK:PV->PV->Option Bv:=gI (fun _ j=>decide (0<j)) fun i j=>.int (i % j)
theorem RQ:eF K (rI (fun _ j=>0<j) fun i j=>.int (i % j)) qK:=UA (fun _ _ h=>av h) fun _ _ _ _=>.int _
noncomputable def w4:PV->PV->Option Bv:=gI (fun i j=>decide (0<=j/\(Builtin.Int.intBits i:Int)*j<=2^27)) fun i j=>.int (i^j.toNat)
theorem QH:eF K (rI (fun i j=>0<=j/\(Builtin.Int.intBits i:Int)*j<=2^27) fun i j=>.int (i^j.toNat)) w4:=UA (fun _ _ h=>av h) fun _ _ _ _=>.int _
noncomputable def OR:PV->Option Bv
 | .int i=>some (.val (.int (-i)))
 |_=>none
theorem PF:ae3 K (rU fun i=>.int (-i)) OR:=by
 intro Z H x p b Q hp h k;cases p with
 |int i=>cases h;exact⟨i,hp.int,k _ H (aT.refl _) (Rep.int (-i))⟩
 |_=>cases h
noncomputable def UQ:PV->PV->Option Bv
 | .str i,.str j=>bD (decide (i.length+j.length<1000000)) (some (.val (.str (i++j))))
 |_,_=>none
theorem YE:eF K (fun x y H Q=>∃i j,x= .str i/\y= .str j/\i.length+j.length<=sizeLine/\Q (.str (i++j)) H) UQ:=by
 intro Z H x y p q b Q hp hq h k;cases p with
 | str i=>
  cases q with
  |str j=>
   obtain⟨c,h⟩:=aL h;cases h;exact⟨i,j,hp.str,hq.str,gx (gP c),k _ H (aT.refl _) (Rep.str (i++j))⟩
  |_=>cases h
 |_=>cases h
def SU (K:Frag):R2:=fun x y H Q=>∃a b xs ys,x= .ref a/\y= .ref b/\gE K H a xs/\gE K H b ys/\xs.length+ys.length<=sizeLine/\∀p,H p=none->Q (.ref p) (upd H p (.lst (xs++ys)))
theorem ag3 (K:Frag) (hK:X.K=K:=by rfl):kA X (binaryOp .Add) (SU K):=by
 subst hK;intro zq s σ H x y v u Q I rx ry h;obtain⟨a,b,xs,ys,rfl,rfl,ha,hb,hz,q⟩:=h;cases rx;cases ry;obtain⟨its,r1,p1,_⟩:=I.list ha;obtain⟨its2,r2,p2,_⟩:=I.list hb;obtain⟨⟨cls,dd,data,sl⟩,ho,hc,n,hd⟩:=id p1.isList;obtain⟨⟨cls2,dd2,data2,sl2⟩,ho2,hc2,n2,hd2⟩:=id p2.isList;simp only at hc hd hc2 hd2;subst hc hd hc2 hd2;have l1:=r1.length;have l2:=r2.length;have e:its.toArray++its2.toArray=(its++its2).toArray:=by simp
 refine concat_meets ⟨_,ho,rfl⟩ ⟨_,ho2,rfl⟩ noFill_list_add seq_list_add PySem.F.slot_list_add PySem.F.entry_list_add (PySem.F.args_list_add_2 _ _) (list_addW a b its.toArray its2.toArray n n2 dd dd2 sl sl2 (by simp only[cp];omega)) ⟨ho,ho2,?_⟩;rw[e];exact⟨.ref s.heap.objs.size,_,I.laid (t':=s.toks) (o:=.lst (xs++ys)) (fun b ob q=>ah _ q) (bc _) ⟨by rw[br];exact hz,its++its2,0,r1.append r2,bz _ rfl⟩,rfl,q _ (I.bR.fresh (bc _))⟩
noncomputable def PL:PV->PV->Option Bv
 | .lst i,.lst j=>bD (decide (i.length+j.length<1000000)) (some (.new (.lst (i++j))))
 |_,_=>none
theorem DJ (hl:H a=none) (r:bI K Z H ps xs):RN K Z H (upd H a (.lst xs)) (.ref a) (.new (.lst ps)):=
 ⟨a,rfl,hl,.lst aU (r.aK (.new (aT.upd hl) hl))⟩
theorem WI:eF K (SU K) PL:=by
 intro Z H x y p q b Q hp hq h k;cases p with
 | lst i=>
  cases q with
  |lst j=>
   obtain⟨c,h⟩:=aL h;cases h;obtain⟨a,xs,rfl,ha,ra⟩:=hp.rA;obtain⟨a',ys,rfl,ha',ra'⟩:=hq.rA;exact⟨a,a',xs,ys,rfl,rfl,ha.sq,ha'.sq,by rw[<-ra.length,<-ra'.length];exact gx (gP c),fun l hl=>k _ _ (aT.upd hl) (DJ hl (ra.app ra'))⟩
  |_=>cases h
 |_=>cases h
def TM (K:Frag):R2:=fun x y H Q=>∃a b xs ys,x= .ref a/\y= .ref b/\TupAt K H a xs/\TupAt K H b ys/\xs.length+ys.length<=sizeLine/\∀p H',aT H H'->TupAt K H' p (xs++ys)->Q (.ref p) H'
theorem ag5 (K:Frag) (hK:X.K=K:=by rfl):kA X (binaryOp .Add) (TM K):=by
 subst hK;intro zq s σ H x y v u Q I rx ry h;obtain⟨a,b,xs,ys,rfl,rfl,ha,hb,hz,q⟩:=h;cases rx;cases ry;obtain⟨its,r1,p1,_⟩:=I.tuple ha.sq;obtain⟨its2,r2,p2,_⟩:=I.tuple hb.sq;refine HT.VW p1 p2 (fun z=>⟨.ref b,H,I,rfl,q b H (aT.refl _) (by rw[r1.LZ.mp z];exact hb)⟩) (fun z=>⟨.ref a,H,I,rfl,q a H (aT.refl _) (by rw[r2.LZ.mp z,df];exact ha)⟩) (fun _ _=>?_) (by rw[<-r1.length,<-r2.length];exact hz);refine⟨.ref s.heap.objs.size,_,I.laid (t':=s.toks) (o:=.tup (xs++ys)) (fun b ob q=>ah _ q) (bc _) ?_,rfl,q _ _ (aT.upd (I.bR.fresh (bc _))) (.inl aU)⟩;exact⟨by rw[br];exact hz,_,r1.append r2,r6.new _ _⟩
noncomputable def RJ:PV->PV->Option Bv
 | .tup i,.tup j=>bD (decide (i.length+j.length<1000000)) (some (.val (.tup (i++j))))
 |_,_=>none
theorem XC:eF K (TM K) RJ:=by
 intro Z H x y p q b Q hp hq h k;cases p with
 | tup i=>
  cases q with
  |tup j=>
   obtain⟨c,h⟩:=aL h;cases h;obtain⟨a,xs,rfl,ha,ra⟩:=hp.tup;obtain⟨a',ys,rfl,ha',ra'⟩:=hq.tup;exact⟨a,a',xs,ys,rfl,rfl,ha,ha',by rw[<-ra.length,<-ra'.length];exact gx (gP c),fun l H' s t=>k _ _ s (Rep.tup t ((ra.app ra').aK (.same s)))⟩
  |_=>cases h
 |_=>cases h
theorem kA.or {f:Value->Value->Sem Value} (h:kA X f r) (h':kA X f r'):kA X f (fun x y H Q=>r x y H Q\/ r' x y H Q):=by
 intro zq s σ H x y v u Q I rx ry q;rcases q with q|q
 .exact h zq s σ H x y v u Q I rx ry q
 .exact h' zq s σ H x y v u Q I rx ry q
def ZO (K:Frag):R2:=fun x y H Q=>NY (fun i j=>.int (i+j)) x y H Q\/ ((∃i j,x= .str i/\y= .str j/\i.length+j.length<=sizeLine/\Q (.str (i++j)) H)\/ (SU K x y H Q\/ TM K x y H Q))
theorem p8 (K:Frag) (hK:X.K=K:=by rfl):kA X (binaryOp .Add) (ZO K):=kA.or aaF (kA.or JV (kA.or (ag3 K hK) (ag5 K hK)))
noncomputable def j0:PV->PV->Option Bv:=fun p q=>(gI0 (fun i j=>.int (i+j)) p q).or ((UQ p q).or ((PL p q).or (RJ p q)))
theorem UI:eF K (ZO K) j0:=eF.or (GQ fun _ _ _ _=>.int _) (eF.or YE (eF.or WI XC))
noncomputable def MH:PV->PV->Option Bv:=fun p q=>bD (i4 9 p && i4 9 q) (some (.val (.bl (cN p q))))
theorem Red.any {v:V} (h:Red K Z H p v):Red K cY H p v:=by
 have k:cZ Z cY H H:=.less fun a z=>z.elim
 cases h with
 |rep h=>exact .rep (h.aK k)
 |lst h r=>exact .lst h (r.aK k)
 |aZ h e r=>exact .aZ h e (r.aK k)
theorem ZM:eF K (V5 K false) MH:=by
 intro Z H x y p q b Q hp hq h k;obtain⟨c,h⟩:=aL h;rw[cj]at c;cases h;exact⟨p,q,hp.any,hq.any,c.1,c.2,k _ H (aT.refl _) (Rep.bl _)⟩
noncomputable def gNe:PV->PV->Option Bv:=fun p q=>bD (i4 9 p && i4 9 q) (some (.val (.bl (!cN p q))))
theorem YQ:eF K (V5 K true) gNe:=by
 intro Z H x y p q b Q hp hq h k;obtain⟨c,h⟩:=aL h;rw[cj]at c;cases h;exact⟨p,q,hp.any,hq.any,c.1,c.2,k _ H (aT.refl _) (Rep.bl _)⟩
noncomputable def acW (neg:Bool):PV->PV->Option Bv:=fun p q=>bO (KR q) fun ps=>bD (i4 8 p && ps.all (i4 8)) (some (.val (.bl (if neg then !ps.any (fun z=>cN z p)else ps.any fun z=>cN z p))))
theorem aaC (neg:Bool):eF K (YC K neg) (acW neg):=by
 intro Z H x y p q b Q hp hq h k;obtain⟨ps,g,h⟩:=aF h;obtain⟨c,h⟩:=aL h;rw[cj]at c;cases h;exact⟨p,q,ps,hp.any,hq.any,g,c.1,c.2,k _ H (aT.refl _) (Rep.bl _)⟩
noncomputable def adD (neg:Bool):PV->PV->Option Bv
 | .str i,.str j=>some (.val (.bl (if neg then !(!(Builtin.Str.occurrences j i 0 j.length 1).isEmpty)else !(Builtin.Str.occurrences j i 0 j.length 1).isEmpty)))
 |_,_=>none
def aeE (neg:Bool):R2:=fun x y H Q=>∃i j,x= .str i/\y= .str j/\Q (.bl (if neg then !(!(Builtin.Str.occurrences j i 0 j.length 1).isEmpty)else !(Builtin.Str.occurrences j i 0 j.length 1).isEmpty)) H
theorem Z5 (neg:Bool):eF K (aeE neg) (adD neg):=by
 intro Z H x y p q b Q hp hq h k;cases p with
 |str i=>
  cases q with
  |str j=>cases h;exact⟨i,j,hp.str,hq.str,k _ H (aT.refl _) (Rep.bl _)⟩
  |_=>cases h
 |_=>cases h
noncomputable def adB (neg:Bool):PV->PV->Option Bv
 |p,.aZ kvs=>bO (keyOf p) fun k=>some (.val (.bl (if neg then !(cG kvs k).isSome else(cG kvs k).isSome)))
 |_,_=>none
def V8 (neg:Bool):R2:=fun x y H Q=>∃a kvs k,y= .ref a/\CB H a kvs/\x=kV k/\Q (.bl (if neg then !(eW kvs k).isSome else(eW kvs k).isSome)) H
theorem inD (hr:dW k X.A):kA X (compareOp .In) (V8 false):=by
 intro zq s σ H x y v u Q I rx ry h;obtain⟨a,kvs,key,rfl,ha,rfl,q⟩:=h;cases ry;exact ah0 (by have:=hr.un;omega) I (.inl ⟨kvs,key,ha,rfl,rfl⟩) rx fun s' I'=>⟨.bl _,H,I',rfl,q⟩
theorem aa2 (hr:dW k X.A):kA X (compareOp .NotIn) (V8 true):=by
 intro zq s σ H x y v u Q I rx ry h;obtain⟨a,kvs,key,rfl,ha,rfl,q⟩:=h;cases ry;exact UW (by have:=hr.un;omega) I (.inl ⟨kvs,key,ha,rfl,rfl⟩) rx fun s' I'=>⟨.bl _,H,I',rfl,q⟩
theorem aaV (neg:Bool):eF K (V8 neg) (adB neg):=by
 intro Z H x y p q b Q hp hq h k;cases q with
 | aZ kvs=>
  obtain⟨key,g,h⟩:=aF h;cases h;obtain⟨a,ys,rfl,ha,e,r⟩:=hq.vJ;refine⟨a,ys,key,rfl,ha,hp.key g,?_⟩;have es:(eW ys key).isSome=(cG kvs key).isSome:=by
   rcases dE.val key ⟨e,r⟩with⟨h1,h2⟩|⟨p',v',h1,h2,_⟩
   .rw[h1,h2];rfl
   .rw[h1,h2];rfl
  rw[es];exact k _ H (aT.refl _) (Rep.bl _)
 |_=>cases h
def Z4 (K:Frag) (neg:Bool):R2:=fun x y H Q=>aeE neg x y H Q\/ (YC K neg x y H Q\/ V8 neg x y H Q)
theorem inX (K:Frag) (hr:dW k X.A) (hK:X.K=K:=by rfl):kA X (compareOp .In) (Z4 K false):=kA.or OL (kA.or (ahF K hr hK) (inD hr))
theorem fJ (K:Frag) (hr:dW k X.A) (hK:X.K=K:=by rfl):kA X (compareOp .NotIn) (Z4 K true):=kA.or C3 (kA.or (WH K hr hK) (aa2 hr))
noncomputable def xB (neg:Bool):PV->PV->Option Bv:=fun p q=>(adD neg p q).or ((acW neg p q).or (adB neg p q))
theorem Y2 (neg:Bool):eF K (Z4 K neg) (xB neg):=eF.or (Z5 neg) (eF.or (aaC neg) (aaV neg))
noncomputable def RF (f:Str->Str->Bool):PV->PV->Option Bv
 | .str i,.str j=>some (.val (.bl (f i j)))
 |_,_=>none
theorem W9 {f:Str->Str->Bool}:eF K (fun x y H Q=>∃i j,x= .str i/\y= .str j/\Q (.bl (f i j)) H) (RF f):=by
 intro Z H x y p q b Q hp hq h k;cases p with
 |str i=>
  cases q with
  |str j=>cases h;exact⟨i,j,hp.str,hq.str,k _ H (aT.refl _) (Rep.bl _)⟩
  |_=>cases h
 |_=>cases h
def afE:R2:=fun x y H Q=>NY (fun i j=>.bl (decide (i<j))) x y H Q\/ ∃i j,x= .str i/\y= .str j/\Q (.bl (decide (i.cps.toList<j.cps.toList))) H
theorem ltX:kA X (compareOp .Lt) afE:=kA.or aeW OO
noncomputable def gLt:PV->PV->Option Bv:=fun p q=>(gI0 (fun i j=>.bl (decide (i<j))) p q).or (RF (fun i j=>decide (i.cps.toList<j.cps.toList)) p q)
theorem ZD:eF K afE gLt:=eF.or (GQ fun _ _ _ _=>.bl _) W9
noncomputable def gGt:PV->PV->Option Bv:=gI0 fun i j=>.bl (decide (j<i))
theorem ZJ:eF K (NY fun i j=>.bl (decide (j<i))) gGt:=GQ fun _ _ _ _=>.bl _
noncomputable def gGe:PV->PV->Option Bv:=gI0 fun i j=>.bl (decide (j<=i))
theorem YX:eF K (NY fun i j=>.bl (decide (j<=i))) gGe:=GQ fun _ _ _ _=>.bl _
noncomputable def isNone:PV->Bool
 | .bG=>true
 |_=>false
theorem Red.isNone {v:V} (h:Red K Z H p v):decide (v= .bG)=Mr.isNone p:=by
 cases h with
 |rep h=>cases h<;>rfl
 |lst h r=>rfl
 |aZ h e r=>rfl
noncomputable def FV (neg:Bool):PV->PV->Option Bv
 |p,.bG=>some (.val (.bl (if neg then !isNone p else isNone p)))
 |_,_=>none
theorem YY:eF K (fun x y H Q=>y= .bG/\Q (.bl (decide (x= .bG))) H) (FV false):=by
 intro Z H x y p q b Q hp hq h k;cases q with
 |bG=>cases h;exact⟨hq.bG,by rw[hp.isNone];exact k _ H (aT.refl _) (Rep.bl _)⟩
 |_=>cases h
theorem FK:eF K (fun x y H Q=>y= .bG/\Q (.bl (!decide (x= .bG))) H) (FV true):=by
 intro Z H x y p q b Q hp hq h k;cases q with
 |bG=>cases h;exact⟨hq.bG,by rw[hp.isNone];exact k _ H (aT.refl _) (Rep.bl _)⟩
 |_=>cases h
noncomputable def cX:PV->PV->Option Bv
 | .lst ps,.int i=>bO (rK ps i) fun p=>some (.val p)
 | .tup ps,.int i=>bO (rK ps i) fun p=>some (.val p)
 | .str z,.int i=>bD (decide (z.length<1000000)) (bO (rK z.cps.toList i) fun c=>some (.val (.str ⟨#[c]⟩)))
 | .aZ kvs,p=>bO (keyOf p) fun k=>bO (cG kvs k) fun q=>some (.val q)
 |_,_=>none
theorem bI.rK {ps:List PV} {i:Int} (r:bI K Z H ps xs) (h:L2.rK ps i=some p):∃v,L2.rK xs i=some v/\Rep K Z H p v:=by
 unfold L2.rK at h⊢
 rw[<-r.length];cases c:AD ps.length i with
 |none=>rw[c]at h;cases h
 |some j=>rw[c]at h;exact r.get h
def aeG:R2:=fun x y H Q=>∃a kvs k v,x= .ref a/\CB H a kvs/\y=kV k/\eW kvs k=some v/\Q v H
theorem ixD (hr:dW k X.A):JM X aeG:=by
 intro value slice zq s σ H x y v u Q I rx ry h hs;obtain⟨a,kvs,key,w,rfl,ha,rfl,hv,q⟩:=h;cases rx;have g:C2 H a (kV key) (some w):=.inl ⟨kvs,key,ha,rfl,hv.symm⟩;have hT:=E4 I g;unfold subscriptTail;refine ae ?_;rw[getitemInPython_of_ne hT.not_modules];refine ae (wpAny_specialOf hT PySem.F.slot_dict_getitem.lookup ?_);have fin:wpAny (model X.prog X.w) X.A (subscripted slice false (.ref a) u) (fun r s₃=>wpAny (model X.prog X.w) X.A (letTemporaryGo value (.ref a) r>>=fun _=>pure r) (EP X zq σ Q) X.xe s₃) X.xe s:=by
  rw[hs];exact wpAny_operating (dy (N3 (by have:=hr.un;omega) I g ry fun w' s3 I3 rw'=>(⟨w,H,I3,rw',q⟩:EP X zq σ Q w' s3)) (fun r s₃ h₃=>ae (wpAny_letTemporaryGo (au h₃))) fun _ _ x=>x)
 first
  |exact au (ae fin)
  |exact ae (au (ae fin))
  |exact ae fin
def aeK (K:Frag):R2:=fun x y H Q=>aaL K x y H Q\/ (adL K x y H Q\/ (ae1 x y H Q\/ aeG x y H Q))
theorem dU (K:Frag) (hr:dW k X.A) (hK:X.K=K:=by rfl):JM X (aeK K):=JM.or (ixL K hK) (JM.or (ixT K hK) (JM.or ac1 (ixD hr)))
theorem Y9:eF K (aeK K) cX:=by
 intro Z H x y p q b Q hp hq h k;cases p with
 | lst ps=>
  cases q with
  |int i=>
   obtain⟨p,g,h⟩:=aF h;cases h;obtain⟨a,xs,rfl,ha,ra⟩:=hp.rA;obtain⟨v,hv,rv⟩:=ra.rK g;exact .inl ⟨a,xs,i,v,rfl,hq.int,ha.sq,hv,k _ H (aT.refl _) rv⟩
  |_=>cases h
 | tup ps=>
  cases q with
  |int i=>
   obtain⟨p,g,h⟩:=aF h;cases h;obtain⟨a,xs,rfl,ha,ra⟩:=hp.tup;obtain⟨v,hv,rv⟩:=ra.rK g;exact .inr (.inl ⟨a,xs,i,v,rfl,hq.int,ha.sq,hv,k _ H (aT.refl _) rv⟩)
  |_=>cases h
 | str z=>
  cases q with
  |int i=>
   obtain⟨c,h⟩:=aL h;obtain⟨p,g,h⟩:=aF h;cases h;exact .inr (.inr (.inl ⟨z,i,p,hp.str,hq.int,gx (gP c),g,k _ H (aT.refl _) (Rep.str _)⟩))
  |_=>cases h
 | aZ kvs=>
  have h:(bO (keyOf q) fun k=>bO (cG kvs k) fun q=>some (Bv.val q))=some b:=by cases q<;>exact h
  obtain⟨key,g,h⟩:=aF h;obtain⟨p,g2,h⟩:=aF h;cases h;obtain⟨a,ys,rfl,ha,e,r⟩:=hp.vJ;rcases dE.val key ⟨e,r⟩with⟨h1,h2⟩|⟨p',v',h1,h2,h3⟩
  .rw[h1]at g2;cases g2
  .rw[h1]at g2;cases g2;exact .inr (.inr (.inr ⟨a,ys,key,v',rfl,ha,hq.key g,h2,k _ H (aT.refl _) h3⟩))
 |_=>cases q<;>cases h
noncomputable def DF (xs:List PV) (lo hi:Option Int):List PV:=(xs.drop (HT.e9 xs.length 0 lo)).take (HT.e9 xs.length xs.length hi - HT.e9 xs.length 0 lo)
theorem bI.cut (r:bI K Z H ps xs) (lo hi:Option Int):bI K Z H (DF ps lo hi) (zZ xs lo hi):=by
 unfold DF zZ;rw[<-r.length];exact(r.drop _).take _
def aeM (K:Frag):V->Option Int->Option Int->Hp->VK->Prop:=fun x lo hi H Q=>∃a xs,x= .ref a/\TupAt K H a xs/\∀p H',aT H H'->TupAt K H' p (zZ xs lo hi)->Q (.ref p) H'
theorem ahD (K:Frag) (hK:X.K=K:=by rfl):N2 X (aeM K):=by
 subst hK;intro zq s σ H x v vl vu lo hi sl Q I rx hs pl pu h;obtain⟨a,xs,rfl,hx,q⟩:=h
 by_cases hw:HT.e9 xs.length 0 lo=0/\HT.e9 xs.length xs.length hi=xs.length
 .cases rx;obtain⟨its,r,ht,hz⟩:=I.tuple hx.sq;have hlen:its.toArray.size=xs.length:=by rw[cp];exact r.length.symm
  refine⟨"tuple",_,PyProof.Rows.slot_tuple_getitem.lookup,ht.typeIs,?_⟩;refine HT.uJ ht hs pl pu (by rw[hlen];exact hw) ⟨.ref a,H,I,rfl,q a H (aT.refl _) ?_⟩;have e:zZ xs lo hi=xs:=by unfold zZ;rw[hw.1,hw.2,drop_zero,Nat.sub_zero,de]
  rw[e];exact hx
 .exact Z7 zq s σ H (.ref a) v vl vu lo hi sl Q I rx hs pl pu ⟨a,xs,rfl,hx.sq,hw,fun p hp=>q p _ (aT.upd hp) (.inl aU)⟩
def T4 (K:Frag):V->Option Int->Option Int->Hp->VK->Prop:=fun x lo hi H Q=>aaM K x lo hi H Q\/ (aeM K x lo hi H Q\/ (∃z,x= .str z/\z.length<=sizeLine/\Q (.str (Txt.slice z lo hi)) H))
theorem W0 (K:Frag) (hK:X.K=K:=by rfl):N2 X (T4 K):=N2.or (slL K hK) (N2.or (ahD K hK) ac8)
noncomputable def OI:PV->Option Int->Option Int->Option Bv
 | .lst ps,lo,hi=>some (.new (.lst (DF ps lo hi)))
 | .tup ps,lo,hi=>some (.val (.tup (DF ps lo hi)))
 | .str z,lo,hi=>bD (decide (z.length<1000000)) (some (.val (.str (Txt.slice z lo hi))))
 |_,_,_=>none
theorem YW:af9 K (T4 K) OI:=by
 intro Z H x p lo hi b Q hp h k;cases p with
 |lst ps=>
  cases h;obtain⟨a,xs,rfl,ha,ra⟩:=hp.rA;exact .inl ⟨a,xs,rfl,ha.sq,fun l hl=>k _ _ (aT.upd hl) (DJ hl (ra.cut lo hi))⟩
 |tup ps=>
  cases h;obtain⟨a,xs,rfl,ha,ra⟩:=hp.tup;exact .inr (.inl ⟨a,xs,rfl,ha,fun l H' s t=>k _ _ s (Rep.tup t ((ra.cut lo hi).aK (.same s)))⟩)
 |str z=>
  obtain⟨c,h⟩:=aL h;cases h;exact .inr (.inr ⟨z,hp.str,gx (gP c),k _ H (aT.refl _) (Rep.str _)⟩)
 |_=>cases h
theorem AL.one (h:AL K Z H [p] vs):∃v,vs=[v]/\Red K Z H p v:=by
 cases h with|cons h r=>cases r;exact⟨_,rfl,h⟩
theorem AL.two (h:AL K Z H [p,q] vs):∃v u,vs=[v,u]/\Red K Z H p v/\Red K Z H q u:=by
 cases h with|cons h r=>cases r with|cons h' r=>cases r;exact⟨_,_,rfl,h,h'⟩
noncomputable def sI:List PV->Option Bv
 |[.lst ps]=>some (.val (.int ps.length))
 |[.tup ps]=>some (.val (.int ps.length))
 |[.str z]=>bD (decide (z.length<1000000)) (some (.val (.int z.length)))
 |_=>none
def O5 (K:Frag):List V->Hp->VK->Prop:=fun xs H Q=>(∃p ys,xs=[.ref p]/\(gE K H p ys\/ rB K H p ys)/\Q (.int ys.length) H)\/ ∃z,xs=[.str z]/\z.length<=sizeLine/\Q (.int z.length) H
theorem zP (K:Frag) (hK:X.K=K:=by rfl):cK X (.builtin "len") (O5 K):=by subst hK;exact cK.or EE D6
theorem JS:iA K (O5 K) sI:=by
 intro Z H vs ps b Q hp h k;unfold sI at h;split at h
 .cases h;obtain⟨v,rfl,hv⟩:=hp.one;obtain⟨a,xs,rfl,ha,ra⟩:=hv.rA;exact .inl ⟨a,xs,rfl,.inl ha.sq,k _ H (aT.refl _) (by rw[ra.length];exact Rep.int _)⟩
 .cases h;obtain⟨v,rfl,hv⟩:=hp.one;obtain⟨a,xs,rfl,ha,ra⟩:=hv.tup;exact .inl ⟨a,xs,rfl,.inr ha.sq,k _ H (aT.refl _) (by rw[ra.length];exact Rep.int _)⟩
 .obtain⟨c,h⟩:=aL h;cases h;obtain⟨v,rfl,hv⟩:=hp.one;exact .inr ⟨_,by rw[hv.str],gx (gP c),k _ H (aT.refl _) (Rep.int _)⟩
 .cases h
noncomputable def mF:List PV->Option Bv
 |[.lst ps]=>some (.val (.tup ps))
 |[.tup ps]=>some (.val (.tup ps))
 |_=>none
def Y4 (K:Frag):List V->Hp->VK->Prop:=fun xs H Q=>∃p ys,xs=[.ref p]/\((gE K H p ys/\∀l,H l=none->Q (.ref l) (upd H l (.tup ys)))\/ (rB K H p ys/\Q (.ref p) H))
theorem AE (K:Frag) (hK:X.K=K:=by rfl):cK X (.type "tuple") (Y4 K):=by subst hK;exact AI
theorem K7:iA K (Y4 K) mF:=by
 intro Z H vs ps b Q hp h k;unfold mF at h;split at h
 .cases h;obtain⟨v,rfl,hv⟩:=hp.one;obtain⟨a,xs,rfl,ha,ra⟩:=hv.rA;exact⟨a,xs,rfl,.inl ⟨ha.sq,fun l hl=>k _ _ (aT.upd hl) (Rep.tup (.inl aU) (ra.aK (.same (aT.upd hl))))⟩⟩
 .cases h;obtain⟨v,rfl,hv⟩:=hp.one;obtain⟨a,xs,rfl,ha,ra⟩:=hv.tup;exact⟨a,xs,rfl,.inr ⟨ha.sq,k _ H (aT.refl _) (Rep.tup ha ra)⟩⟩
 .cases h
noncomputable def DR:List PV->Option Bv
 |[.lst ps]=>some (.new (.lst ps))
 |[.tup ps]=>some (.new (.lst ps))
 |_=>none
theorem G7:iA K (SH K) DR:=by
 intro Z H vs ps b Q hp h k;unfold DR at h;split at h
 .cases h;obtain⟨v,rfl,hv⟩:=hp.one;obtain⟨a,xs,rfl,ha,ra⟩:=hv.rA;exact⟨a,xs,rfl,.inl ha.sq,fun l hl=>k _ _ (aT.upd hl) (DJ hl ra)⟩
 .cases h;obtain⟨v,rfl,hv⟩:=hp.one;obtain⟨a,xs,rfl,ha,ra⟩:=hv.tup;exact⟨a,xs,rfl,.inr ha.sq,fun l hl=>k _ _ (aT.upd hl) (DJ hl ra)⟩
 .cases h
noncomputable def MU:List PV->Option Bv
 |[.int i,.int j]=>some (.val (.int (if j<i then j else i)))
 |_=>none
theorem MV:iA K (fun xs H Q=>∃i j,xs=[.int i,.int j]/\Q (.int (if j<i then j else i)) H) MU:=by
 intro Z H vs ps b Q hp h k;unfold MU at h;split at h
 .cases h;obtain⟨v,u,rfl,hv,hu⟩:=hp.two;exact⟨_,_,by rw[hv.int,hu.int],k _ H (aT.refl _) (Rep.int _)⟩
 .cases h
noncomputable def A5:List PV->Option Bv
 |[.int i]=>some (.val (.int i))
 |[.bl k]=>some (.val (.int (if k then 1 else 0)))
 |_=>none
theorem MR:iA K (fun xs H Q=>(∃i,xs=[.int i]/\Q (.int i) H)\/ ∃k,xs=[.bl k]/\Q (.int (if k then 1 else 0)) H) A5:=by
 intro Z H vs ps b Q hp h k;unfold A5 at h;split at h
 .cases h;obtain⟨v,rfl,hv⟩:=hp.one;exact .inl ⟨_,by rw[hv.int],k _ H (aT.refl _) (Rep.int _)⟩
 .cases h;obtain⟨v,rfl,hv⟩:=hp.one;exact .inr ⟨_,by rw[hv.bl],k _ H (aT.refl _) (Rep.int _)⟩
 .cases h
noncomputable def GS:List PV->Option Bv
 |[.int i]=>bD (decide (i.natAbs.log2<1920)) (some (.val (.str (toString i))))
 |_=>none
theorem MF:iA K (fun xs H Q=>∃i,xs=[.int i]/\i.natAbs.log2<1920/\Q (.str (toString i)) H) GS:=by
 intro Z H vs ps b Q hp h k;unfold GS at h;split at h
 .obtain⟨c,h⟩:=aL h;cases h;obtain⟨v,rfl,hv⟩:=hp.one;exact⟨_,by rw[hv.int],av c,k _ H (aT.refl _) (Rep.str _)⟩
 .cases h
noncomputable def AA:List PV->Option (List Str)
 |[]=>some []
 | .str x::ps=>bO (AA ps) fun xs=>some (x::xs)
 |_=>none
theorem tQ:∀{ps:List PV} {xs:List Str},AA ps=some xs->ps=xs.map PV.str
 |[],xs,h=>by cases h;rfl
 | p::ps,xs,h=>by
  cases p with
  |str x=>
   obtain⟨ys,g,h⟩:=aF h;cases h;rw[tQ g];rfl
  |_=>cases h
theorem qN (xs:List Str):AA (xs.map PV.str)=some xs:=by
 induction xs with
 |nil=>rfl
 |cons x xs ih=>rw[map_cons,AA,ih];rfl
theorem bI.strs:∀{xs:List Str} {vs:List V},bI K Z H (xs.map PV.str) vs->vs=xs.map V.str
 |[],vs,h=>by cases h;rfl
 |x::xs,vs,h=>by cases h with|cons h r=>cases h;rw[bI.strs r];rfl
noncomputable def HC:PV->List PV->Option Bv
 | .str z,[.lst ps]=>bO (AA ps) fun xs=>bD (decide ((xs.map (·.length)).sum+xs.length*z.length<1000000)) (some (.val (.str (Txt.join z xs))))
 |_,_=>none
theorem MI:adR K (rJoin K) HC:=by
 intro Z H x vs p ps b Q hp hps h k;unfold HC at h;split at h
 .obtain⟨xs,g,h⟩:=aF h;obtain⟨c,h⟩:=aL h;cases h;obtain⟨v,rfl,hv⟩:=hps.one;obtain⟨a,ys,rfl,ha,ra⟩:=hv.rA;rw[tQ g]at ra;rw[ra.strs]at ha;refine⟨_,a,xs,hp.str,rfl,ha.sq,?_,k _ H (aT.refl _) (Rep.str _)⟩;have:=av c;omega
 .cases h
noncomputable def iE:PV->Option (List PV)
 | .lst ps=>some ps
 | .tup ps=>some ps
 | .str z=>some (z.cps.toList.map fun c=>.str ⟨#[c]⟩)
 |_=>none
noncomputable def sV (f:FE):FI:=fun st e=>bE (f e) fun b e1=>match b with
 | .slot i=>match e1[i]? with
  |some (some (.bor p))=>bO (iE p) fun ps=>some (ps,e1)
  |some (some (.own p))=>bD (st i) (bO (iE p) fun ps=>some (ps,e1))
  |some (some (.loc p))=>bD (st i) (bO (iE p) fun ps=>some (ps,e1))
  |_=>none
 | .val p=>bO (iE p) fun ps=>some (ps,e1)
 | .new p=>bO (iE p) fun ps=>some (ps,e1)
def acB (K:Frag) (tl:TE):TI:=fun σ H R=>tl σ H fun x H1=>(∃a,x= .ref a/\(∃xs,gE K H1 a xs)/\R (Itl K a) H1)\/ ((∃a,x= .ref a/\(∃xs,rB K H1 a xs)/\R (Itt K a) H1)\/ ∃z,x= .str z/\R (Its z) H1)
theorem cB (K:Frag) {tg l:Expr} {tl:TE} (hl:PE X l tl) (hK:X.K=K:=by rfl):PI X tg l (acB K tl):=by
 subst hK;intro zq s σ H R I h;refine cS (hl zq s σ H _ I h) fun v s1 ⟨x,H1,I1,r1,q1⟩=>?_
 rcases q1 with⟨a,e,⟨xs,hq⟩,q⟩|⟨a,e,⟨xs,hq⟩,q⟩|⟨z,e,q⟩
 .subst e;cases r1;obtain⟨its,rv,p,hz⟩:=I1.list hq;refine ka p.isList ?_;refine⟨s1.heap.objs.size,[s1.heap.objs.size],_,_,H1,rfl,I1.kept (t':=s1.toks) fun b o e=>ah _ e,OT a _,⟨_,bz _ rfl,rfl,rfl⟩,fun b hb=>?_,q⟩;have e:b=s1.heap.objs.size:=by simpa using hb
  subst e;exact I1.xA (bc _) (I1.bR.fresh (bc _))
 .subst e;cases r1;obtain⟨its,rv,p,hz⟩:=I1.tuple hq;refine jq (show s1.heap.IsTuple a its.toArray from p) ?_;refine⟨s1.heap.objs.size,[s1.heap.objs.size],_,_,H1,rfl,I1.kept (t':=s1.toks) fun b o e=>ah _ e,KL a _,⟨_,bz _ rfl,rfl,rfl⟩,fun b hb=>?_,q⟩;have e:b=s1.heap.objs.size:=by simpa using hb
  subst e;exact I1.xA (bc _) (I1.bR.fresh (bc _))
 .subst e;obtain⟨t,rfl⟩:=r1;cases ha:z.cps.all (·<128)with
  |true=>
   refine wpAny_pyIter_ascii ha ?_;refine⟨s1.heap.objs.size,[s1.heap.objs.size],_,_,H1,rfl,I1.kept (t':=s1.toks) fun b o e=>ah _ e,OX z t _,⟨_,bz _ rfl,rfl,rfl⟩,fun b hb=>?_,q⟩;have e:b=s1.heap.objs.size:=by simpa using hb
   subst e;exact I1.xA (bc _) (I1.bR.fresh (bc _))
  |false=>
   refine wpAny_pyIter_wide ha ?_;refine⟨s1.heap.objs.size,[s1.heap.objs.size],_,_,H1,rfl,I1.kept (t':=s1.toks) fun b o e=>ah _ e,OS z t _,⟨_,bz _ rfl,rfl,rfl⟩,fun b hb=>?_,q⟩;have e:b=s1.heap.objs.size:=by simpa using hb
   subst e;exact I1.xA (bc _) (I1.bR.fresh (bc _))
theorem vC {L':aJ} {H':Hp} (o:lQ O M W L H) (hw:∀a,Wr a->aw W a\/ L a) (k1:∀a ob,H a=some ob->¬Wr a->H' a=some ob) (k2:∀a xs,H a=some (.tup xs)->H' a=some (.tup xs)) (k3:∀a,L' a->L a\/ H a=none):cZ (aW M L) (aW M L') H H':=
 ⟨k2,fun a ob h n=>⟨k1 a ob h fun z=>n ((hw a z).elim (fun⟨i,w⟩=>.inl (o.wm i a w)) .inr),fun z=>z.elim (fun z=>n (.inl z)) fun z=>(k3 a z).elim (fun z=>n (.inr z)) fun z=>by rw[h]at z;cases z⟩⟩
theorem uM (o:lQ O M W L H) (hw:∀a,Wr a->aw W a\/ L a) (ha:(Rd H a (.lst xs)/\¬Wr a)\/ abM K a xs) (r:bI K (aW M L) H ps xs):TL K M L Wr H (Itl K a) ps:=by
 intro L' H' k1 k2 k3;have st:=vC o hw k1 k2 k3;have sq:gE K H' a xs:=by
  rcases ha with⟨h|⟨u,h⟩,n⟩|h
  .exact .inl (.inl (k1 _ _ h n))
  .exact .inl (.inr ⟨u,k1 _ _ h n⟩)
  .exact .inr h
 refine⟨fun k p hp=>?_,xs,sq,by rw[r.length];exact bc _⟩;obtain⟨v,hv,rv⟩:=r.get hp;refine⟨⟨xs,v,sq,hv⟩,fun x H3 y=>?_⟩;obtain⟨e,y⟩:=y;subst e;have:=y xs sq;rw[hv]at this;cases this;exact⟨aT.refl _,rv.aK st⟩
theorem adE (o:lQ O M W L H) (hw:∀a,Wr a->aw W a\/ L a) (ha:TupAt K H a xs) (r:bI K (aW M L) H ps xs):TL K M L Wr H (Itt K a) ps:=by
 intro L' H' k1 k2 k3;have st:=vC o hw k1 k2 k3;have sq:rB K H' a xs:=TupAt.sq (ha.elim (fun h=>.inl (k2 _ _ h)) .inr);refine⟨fun k p hp=>?_,xs,sq,by rw[r.length];exact bc _⟩;obtain⟨v,hv,rv⟩:=r.get hp;refine⟨⟨xs,v,sq,hv⟩,fun x H3 y=>?_⟩;obtain⟨e,y⟩:=y;subst e;have:=y xs sq;rw[hv]at this;cases this;exact⟨aT.refl _,rv.aK st⟩
theorem aaP {z:Str}:TL K M L Wr H (Its z) (z.cps.toList.map fun c=>.str ⟨#[c]⟩):=by
 intro L' H' k1 k2 k3;refine⟨fun k p hp=>?_,by simp[Its]⟩;rw[aq]at hp;cases c:z.cps.toList[k]? with
 |none=>rw[c]at hp;cases hp
 |some d=>
  rw[c]at hp;cases hp;have hk:k<z.cps.size:=by simpa using(af.mp c).1
  refine⟨hk,fun x H3 y=>?_⟩;obtain⟨e,d',h1,h2⟩:=y;subst e h2;rw[<-getElem?_toList,c]at h1;cases h1;exact⟨aT.refl _,.str _⟩
theorem abO (h:Ref K t f):w9 K (acB K t) (sV f):=by
 intro st O M W L σ H e e' ps R o he hf q;obtain⟨x,e1,f1,hf⟩:=aM hf;refine h O M W L σ H e e1 x _ o he f1 fun v H1 k1 rb fr=>?_
 have o1:=o.keep k1.cD;have en:=rb.en o1;have vals:∀p,Rep K (aW M L) H1 p v->iE p=some ps->e1=e'->(∃a,v= .ref a/\(∃xs,gE K H1 a xs)/\R (Itl K a) H1)\/ ((∃a,v= .ref a/\(∃xs,rB K H1 a xs)/\R (Itt K a) H1)\/ ∃z,v= .str z/\R (Its z) H1):=fun p hp hi ee=>by
  subst ee;cases hp with
  |lst ha n r=>
   cases hi;exact .inl ⟨_,rfl,⟨_,.inl ha⟩,q _ H1 k1 en fun Wr hw _=>uM o1 hw (.inl ⟨ha,fun z=>n ((hw _ z).elim (fun⟨i,w⟩=>.inl (o.wm i _ w)) .inr)⟩) r⟩
  |tup ha r=>
   cases hi;exact .inr (.inl ⟨_,rfl,⟨_,ha.sq⟩,q _ H1 k1 en fun Wr hw _=>adE o1 hw ha r⟩)
  |str z=>
   cases hi;exact .inr (.inr ⟨z,rfl,q _ H1 k1 en fun Wr hw _=>aaP⟩)
  |_=>cases hi
 cases x with
 |val p=>
  obtain⟨ps',g,hf⟩:=aF hf;cases hf;exact vals p rb.2 g rfl
 |new p=>
  obtain⟨ps',g,hf⟩:=aF hf;cases hf;exact vals p (rb.weak o1).2 g rfl
 | slot i=>
  dsimp only at hf;cases c:e1[i]? with
  |none=>rw[c]at hf;cases hf
  | some s=>
   cases s with
   |none=>rw[c]at hf;cases hf
   | some s=>
    rw[c]at hf;obtain⟨u,hu,sr⟩:=rb.1.at' i s c;have:=rb.2;rw[hu]at this;cases this;cases s with
    |val p=>cases hf
    |bor p=>
     obtain⟨ps',g,hf⟩:=aF hf;cases hf;obtain⟨a,rfl,lt⟩:=sr;cases lt with
     |lst ha od n m r=>cases g;exact .inl ⟨a,rfl,⟨_,.inl ha⟩,q _ H1 k1 en fun Wr hw _=>uM o1 hw (.inl ⟨ha,fun z=>(hw _ z).elim n m⟩) r⟩
     |fL ha r=>cases g;exact .inl ⟨a,rfl,⟨_,.inr ha⟩,q _ H1 k1 en fun Wr hw _=>uM o1 hw (.inr ha) r⟩
     |aZ ha od n m kk r=>cases g
    |own p=>
     obtain⟨hst,hf⟩:=aL hf;obtain⟨ps',g,hf⟩:=aF hf;cases hf;obtain⟨a,rfl,w,ct⟩:=sr;cases ct with
     |lst ha r=>cases g;exact .inl ⟨a,rfl,⟨_,gE.of ha⟩,q _ H1 k1 en fun Wr hw hs=>uM o1 hw (.inl ⟨.inl ha,hs i a _ hst c rfl hu⟩) r⟩
     |aZ ha kk r=>cases g
    |loc p=>
     obtain⟨hst,hf⟩:=aL hf;obtain⟨ps',g,hf⟩:=aF hf;cases hf;obtain⟨a,rfl,w,ct⟩:=sr;cases ct with
     |lst ha r=>cases g;exact .inl ⟨a,rfl,⟨_,gE.of ha⟩,q _ H1 k1 en fun Wr hw hs=>uM o1 hw (.inl ⟨.inl ha,hs i a _ hst c rfl hu⟩) r⟩
     |aZ ha kk r=>cases g
theorem QV {lo:Int}:TL K M L Wr H (Itr lo n) ((List.range n).map fun k:Nat=>.int (lo+(k:Int))):=by
 intro L' H' k1 k2 k3;refine⟨fun k p hp=>?_,by simp[Itr]⟩;rw[aq]at hp
 by_cases hk:k<n
 .rw[List.getElem?_range hk]at hp;cases hp;refine⟨hk,fun x H3 y=>?_⟩;obtain⟨e,y⟩:=y;subst e y;exact⟨aT.refl _,.int _⟩
 .rw[List.getElem?_eq_none (by simpa using hk)]at hp;cases hp
end
section
variable {K:Frag}
theorem WW {f:FN} {Q:VK} {E:XK} (hf:∀ns:List Int,ns.length<=63->f [.lst (ns.map PV.int)]=some (.bl true,[])) (h:E6 K vs H Q E):WR K [.b] false f vs H Q E:=by
 obtain⟨a,ns,rfl,hS,hl,q⟩:=h;have rl:∀(Z:aJ) (ms:List Int),bI K Z H (ms.map PV.int) (ms.map V.int):=fun Z ms=>by
  induction ms with
  |nil=>exact .nil
  |cons m ms ih=>exact .cons (.int m) ih
 refine⟨cY,[.lst (ns.map PV.int)],.bl true,[],fun a z=>z.elim,rfl,rfl,fun i k p v h1 h2 h3=>?_,fun i j hij h1 h2=>?_,fun i a ⟨h1,_⟩=>?_,hf ns hl,fun v H' k r=>?_⟩
 .cases i with
  | zero=>
   cases h1;cases h2;cases h3;have nw:¬aw (rV [.b] [.ref a] H) a:=fun⟨i,h,_⟩=>by
    cases i with
    |zero=>cases h
    |succ i=>simp at h
   rcases hS with h|h
   .refine⟨a,rfl,.lst h ?_ nw (fun z=>z) (rl _ ns)⟩;rcases h with h|⟨u,h⟩
    .show H a≠none;rw[h];exact fun z=>nomatch z
    .show H a≠none;rw[h];exact fun z=>nomatch z
   .exact⟨a,rfl,.fL h (rl _ ns)⟩
  |succ i=>simp at h1
 .cases i with
  |zero=>cases h1
  |succ i=>simp at h1
 .cases i with
  |zero=>cases h1
  |succ i=>simp at h1
 .obtain⟨r,_⟩:=r;cases r;exact q H'
noncomputable def kdOf:PV->Option L2.Kd
 | .bG=>some .bG
 | .bl _=>some .bl
 | .int _=>some .int
 | .str _=>some .str
 | .lst _=>some .lst
 | .tup _=>some .tup
 | .aZ _=>some .aZ
 | .ty _=>none
noncomputable def UD (k:L2.Kd):String->Option Bool
 |"str"=>some (decide (k= .str))
 |"tuple"=>some (decide (k= .tup))
 |"int"=>some (decide (k= .int)||decide (k= .bl))
 |"bool"=>some (decide (k= .bl))
 |_=>none
theorem UO {k:L2.Kd} {T:String} {b:Bool} (h:UD k T=some b):kitOne K (.type k.nm) (.type T)=some b:=by
 unfold UD at h;split at h
 .cases h;exact abU k
 .cases h;exact abK k
 .cases h;exact ab2 k
 .cases h;exact XB k
 .cases h
def Y1 (K:Frag):List V->Hp->VK->Prop:=fun xs H Q=>∃p x T k b,xs=[x,.ty T]/\Red K cY H p x/\kdOf p=some k/\UD k T=some b/\Q (.bl b) H
theorem ah6 (K:Frag) (hK:X.K=K:=by rfl):cK X (.builtin "isinstance") (Y1 K):=by
 subst hK;intro zq s σ H xs us Q I r h;obtain⟨p,x,T,k,b,rfl,hp,hk,hT,q⟩:=h;obtain⟨u,u',rfl,rx,ry⟩:=vals2 r;cases ry;have e:=UO (K:=X.K) hT;have fin:∀tk,EP X zq σ Q (.bool b) {s with toks:=tk}:=fun tk=>⟨.bl b,H,I.tok tk,rfl,q⟩
 cases p with
 |bG=>cases hk;have:=hp.bG;subst this;cases(show u=Value.none from rx);exact kia_one PySem.W.kitx_none I.MA True.intro e (fun z=>nomatch z) fin
 |bl y=>cases hk;have:=hp.bl;subst this;cases(show u=Value.bool y from rx);exact kia_one PySem.W.kitx_bool I.MA True.intro e (fun z=>nomatch z) fin
 |int i=>cases hk;have:=hp.int;subst this;obtain⟨t,q⟩:=(show∃t,u=Value.int i t from rx);cases q;exact kia_one PySem.W.kitx_int I.MA True.intro e (fun z=>nomatch z) fin
 |str y=>cases hk;have:=hp.str;subst this;obtain⟨t,q⟩:=(show∃t,u=Value.str y t from rx);cases q;exact kia_one PySem.W.kitx_str I.MA True.intro e (fun z=>nomatch z) fin
 |ty y=>cases hk
 |tup ps=>
  cases hk;obtain⟨a,xs,rfl,ha,_⟩:=hp.tup;cases(show u=Value.ref a from rx);obtain⟨its,_,⟨o,h1,h2,_⟩,_⟩:=I.tuple ha.sq;exact kia_one PySem.W.kitx_tuple I.MA ⟨o,h1,h2⟩ e (fun z=>nomatch z) fin
 |lst ps=>
  cases hk;obtain⟨a,xs,rfl,ha,_⟩:=hp.rA;cases(show u=Value.ref a from rx);obtain⟨its,_,pl,_⟩:=I.list ha.sq;obtain⟨o,h1,h2,_⟩:=pl.isList;exact kia_one PySem.W.kitx_list I.MA ⟨o,h1,h2⟩ e (fun z=>nomatch z) fin
 |aZ kvs=>
  cases hk;obtain⟨a,ys,rfl,ha,_,_⟩:=hp.vJ;cases(show u=Value.ref a from rx);obtain⟨_,_,vs,_,pd⟩:=hJ I.bR ha;obtain⟨o,es,ep,h1,h2,_⟩:=pd;exact kia_one PySem.W.kitx_dict I.MA ⟨o,h1,h2.1⟩ e (fun z=>nomatch z) fin
noncomputable def LN:List PV->Option Bv
 |[p,.ty n]=>bO (kdOf p) fun k=>bO (UD k n) fun b=>some (.val (.bl b))
 |_=>none
theorem S4:iA K (Y1 K) LN:=by
 intro Z H vs ps b Q hp h k;unfold LN at h;split at h
 .rename_i p n;obtain⟨c,g,h⟩:=aF h;obtain⟨d,g2,h⟩:=aF h;cases h;obtain⟨v,u,rfl,hv,hu⟩:=hp.two;have eu:=hu.ty;subst eu;exact⟨p,v,n,c,d,rfl,hv.any,g,g2,k _ H (aT.refl _) (Rep.bl _)⟩
 .cases h
noncomputable def Z8:PV->Option Bool
 | .bG=>some false
 | .bl b=>some b
 | .int i=>some (i !=0)
 | .str y=>bD (decide (y.length<1000000)) (some ((y.length:Int) !=0))
 | .lst ps=>some (!ps.isEmpty)
 | .tup ps=>some (!ps.isEmpty)
 |_=>none
noncomputable def UX (f:FE):FT:=fun e=>bE (f e) fun b e1=>bO (b.weak.get e1) fun p=>bO (Z8 p) fun c=>some (c,e1)
theorem bI.empty (r:bI K Z H ps xs):ps.isEmpty=xs.isEmpty:=by cases r<;>rfl
theorem YH (h:Ref K t f):mS K (fun σ H Q=>t σ H fun x H'=>∃k,WE K x H' k/\Q k H') (UX f):=by
 intro O M W L σ H e e' b Q o he hf q;obtain⟨x,e1,f1,hf⟩:=aM hf;obtain⟨p,g1,hf⟩:=aF hf;obtain⟨c,g2,hf⟩:=aF hf;cases hf;refine h O M W L σ H e _ _ _ o he f1 fun v1 H1 k1 r1 fr=>?_
 have o1:=o.keep k1.cD;have en:=r1.en o1;have rd:=(r1.rv o1).red en g1;refine⟨b,?_,q H1 k1 en⟩;cases p with
 |bG=>cases g2;rw[rd.bG];rfl
 |bl y=>cases g2;rw[rd.bl];rfl
 |int y=>cases g2;rw[rd.int];rfl
 |str y=>obtain⟨c,g2⟩:=aL g2;cases g2;rw[rd.str];exact⟨gx (gP c),rfl⟩
 |lst ps=>cases g2;obtain⟨a,xs,rfl,ha,ra⟩:=rd.rA;exact .inl ⟨xs,ha.sq,by rw[ra.empty]⟩
 |tup ps=>cases g2;obtain⟨a,xs,rfl,ha,ra⟩:=rd.tup;exact .inr (.inl ⟨xs,ha.sq,by rw[ra.empty]⟩)
 |ty y=>cases g2
 |aZ y=>cases g2
end
theorem B9 (K:Frag) {a:Expr} {ta:TE} (ha:PE X a ta) (he:∀whole,isTrue a X.env whole=(do let v<-whole;standAt a.pos;holding [v] (truthy v))) (hK:X.K=K:=by rfl):
  PT X a (fun σ H Q=>ta σ H fun x H'=>∃k,WE K x H' k/\Q k H'):=by subst hK;exact QJ ha he
theorem NH {K:Frag} {wi:TI} {g:TG} {tt:TT} {te:TE} {fi:FI} {cap:List Nat} (ms:List (Nat×Nat)) {fg:FG} {ft:FT} {fe:FE} (hms:(ms.all fun z=>ms.all fun z'=>(z.1==z'.1)==(z.2==z'.2))=true) (hi:w9 K wi fi) (hg:DC K g fg) (ht:mS K tt ft) (he:Ref K te fe):Ref K (A9 wi k cap g tt te) (dZ fi k cap ms fg ft fe):=by
 have key:∀z∈ms,∀z'∈ms,(z.1==z'.1)=(z.2==z'.2):=fun z hz z' hz'=>by
  have:=bg.mp (bg.mp hms z hz) z' hz';simpa using this
 refine RE ms (fun i j1 j2 h1 h2=>?_) (fun i1 i2 j h1 h2=>?_) hi hg ht he
 .have:=key _ h1 _ h2;simpa using this
 .have:=key _ h1 _ h2;simpa using this
theorem ab8 (i:Nat) (e:En):aC i e=(match e[i]? with
 |some (some (.val p))=>some (.val p,e)
 |some (some _)=>some (.slot i,e)
 |_=>none):=rfl
theorem ahI (p:PV) (e:En):fC p e=some (.val p,e):=rfl
theorem aeH (g:PV->PV->Option Bv) (fa fb:FE) (e:En):bC g fa fb e=bE (fa e) fun x e1=>bE (fb e1) fun y e2=>bO (x.weak.get e2) fun p=>bO (y.weak.get e2) fun q=>bO (g p q) fun b=>some (b,e2):=rfl
theorem aeZ (g:PV->Option Bv) (fa:FE) (e:En):fUn g fa e=bE (fa e) fun x e1=>bO (x.weak.get e1) fun p=>bO (g p) fun b=>some (b,e1):=rfl
theorem adQ (e:En):aI e=some ([],e):=rfl
theorem U6 (fa:FE) (fr:FA) (e:En):aB fa fr e=bE (fa e) fun x e1=>bE (fr e1) fun xs e2=>some (x.weak::xs,e2):=rfl
theorem aeF (g:List PV->Option Bv) (fa:FA) (e:En):jE g fa e=bE (fa e) fun xs e1=>bO (getL e1 xs) fun ps=>bO (g ps) fun b=>some (b,e1):=rfl
theorem aeQ (g:PV->List PV->Option Bv) (fo:FE) (fa:FA) (e:En):fBM g fo fa e=(bE (fo e) fun x e0=>match x with
 | .val (.str z)=>bE (fa e0) fun xs e1=>bO (getL e1 xs) fun ps=>bO (g (.str z) ps) fun b=>some (b,e1)
 |_=>none):=rfl
theorem aaJ (fa:FA) (e:En):dD fa e=bE (fa e) fun xs e1=>bO (putL xs) fun ps=>bD (decide (ps.length<1000000)) (some (.val (.tup ps),e1)):=rfl
theorem ZZ (fa:FA) (e:En):gF fa e=bE (fa e) fun xs e1=>bO (putL xs) fun ps=>bD (decide (ps.length<1000000)) (some (.new (.lst ps),e1)):=rfl
theorem VR (f:FE) (e:En):bH f e=(bE (f e) fun b e1=>match b with
 | .val (.bl c)=>some (c,e1)
 |_=>none):=rfl
theorem aaU (f g:FT) (e:En):tH f g e=bE (f e) fun b e1=>bB b (g e1) (some (false,e1)):=rfl
theorem aeU (f g:FT) (e:En):fOr f g e=bE (f e) fun b e1=>bB b (some (true,e1)) (g e1):=rfl
theorem abA (f:FT) (e:En):XG f e=bE (f e) fun b e1=>some (!b,e1):=rfl
theorem WU (e:En):dC e=some (true,e):=rfl
theorem X3 (fa fb:FE) (e:En):QD fa fb e=bE (fa e) fun b e1=>bO (T1 b) fun c=>bB c (fb e1) (some (.val (.bl false),e1)):=rfl
theorem aeR (fc:FT) (fa fb:FE) (e:En):VS fc fa fb e=bE (fc e) fun b e1=>bB b (fa e1) (fb e1):=rfl
theorem N8 (e:En):eY e=some (none,e):=rfl
theorem X9 (f:FE) (e:En):mQ f e=(bE (f e) fun b e1=>match b with
 | .val (.int i)=>some (some i,e1)
 |_=>none):=rfl
theorem afC (g:PV->Option Int->Option Int->Option Bv) (fa:FE) (fl fh:FO) (e:En):NS g fa fl fh e=bE (fa e) fun x e1=>bE (fl e1) fun lo e2=>bE (fh e2) fun hi e3=>bO (x.weak.get e3) fun p=>bO (g p lo hi) fun b=>some (b,e3):=rfl
theorem VA (e:En):dF e=some (.nx e):=rfl
theorem abD (f:FE) (e:En):cV f e=bE (f e) fun b e1=>some (.rt b e1):=rfl
theorem aeX (fc:FT) (f g:FS) (e:En):wD fc f g e=bE (fc e) fun b e1=>bB b (f e1) (g e1):=rfl
theorem acZ (i:Nat) (f:FE) (e:En):bW i f e=(bE (f e) fun b e1=>match b with
 | .val p=>some (.nx (e1.set i (some (.val p))))
 | .new p=>some (.nx (e1.set i (some (.val p))))
 | .slot j=>match e1[j]? with
  |some (some (.bor p))=>some (.nx (e1.set i (some (.bor p))))
  |_=>none):=rfl
theorem W3 (i:Nat) (f:FE) (e:En):dP i f e=(bE (f e) fun b e1=>match b with
 | .new p=>some (.nx (e1.set i (some (.loc p))))
 |_=>none):=rfl
theorem acD (i:Nat) (f:FS) (e:En):aaS i f e=bO (rel i e) f:=rfl
theorem aaI (i:Nat) (f:FE) (e:En):wV i f e=(bO (ownAt e i) fun p0=>match p0 with
 | .lst _=>bE (f e) fun b e1=>bO b.put fun p=>match ownAt e1 i with
  |some (.lst ps)=>bD (decide (ps.length<1000000)) (some (.nx (cL e1 i (.lst (ps++[p])))))
  |_=>none
 |_=>none):=rfl
theorem PY (i:Nat) (fi fv:FE) (e:En):D4 i fi fv e=(bE (fv e) fun b e1=>bO b.put fun p=>bO (ownAt e1 i) fun _=>bE (fi e1) fun k e2=>match k with
 | .val (.int k)=>match ownAt e2 i with
  |some (.lst ps)=>bO (AD ps.length k) fun j=>some (.nx (cL e2 i (.lst (ps.set j p))))
  |_=>none
 |_=>none):=rfl
theorem V1 (i:Nat) (fk fv:FE) (e:En):dN i fk fv e=(bE (fv e) fun b e1=>bO b.put fun p=>bO (ownAt e1 i) fun _=>bE (fk e1) fun k e2=>bO (k.weak.get e2) fun kp=>bO (keyOf kp) fun key=>match ownAt e2 i with
  |some (.aZ kvs)=>bD (decide (kvs.length<1000000)) (some (.nx (cL e2 i (.aZ (eG kvs key p)))))
  |_=>none):=rfl
theorem S3 (i:Nat) (p:PV) (e:En):aP i p e=some (e.set i (some (.val p))):=rfl
theorem YN (ps:List PV) (e:En):j7 ps e=match ps with|[]=>some e|_=>none:=rfl
theorem TQ (f:FG) (g:O1) (ps:List PV) (e:En):b8 f g ps e=match ps with|p::ps=>bO (f p e) (g ps)|[]=>none:=rfl
theorem YF (n:Nat) (f:O1) (p:PV) (e:En):j4 n f p e=(match p with
 | .tup ps=>bD (decide (ps.length=n)) (f ps e)
 |_=>none):=rfl
theorem adN (f:FE) (fg:FG) (e:En):aa6 f fg e=bE (f e) fun b e1=>bO b.put fun p=>bO (fg p e1) fun e2=>some (.nx e2):=rfl
theorem afQ (f:FE) (st:Nat->Bool) (e:En):sV f st e=(bE (f e) fun b e1=>match b with
 | .slot i=>match e1[i]? with
  |some (some (.bor p))=>bO (iE p) fun ps=>some (ps,e1)
  |some (some (.own p))=>bD (st i) (bO (iE p) fun ps=>some (ps,e1))
  |some (some (.loc p))=>bD (st i) (bO (iE p) fun ps=>some (ps,e1))
  |_=>none
 | .val p=>bO (iE p) fun ps=>some (ps,e1)
 | .new p=>bO (iE p) fun ps=>some (ps,e1)):=rfl
theorem abY (f:FE) (e:En):UX f e=bE (f e) fun b e1=>bO (b.weak.get e1) fun p=>bO (Z8 p) fun c=>some (c,e1):=rfl
theorem YB (e:En):l7 e=some (.new (.aZ []),e):=rfl
end Mr
namespace L2
open PySem PySem.Spec PyProof.Rows
variable {a:Expr} {p pos:Pos} {ta:TA}
noncomputable def aeJ (K:Frag) (a:Addr):It:=
 ⟨fun i H=>∃xs x,gE K H a xs/\xs[i]? =some x,fun i H v H'=>∃t,H t=none/\v= .ref t/\∀xs,gE K H a xs->∃x,xs[i]? =some x/\H'=upd H t (.tup [.int i,x]),fun i H=>∃xs,gE K H a xs/\xs.length=i⟩
theorem JP {P:Program} {w:World} {K:Frag} {elts:List Expr} {x1} (a it e:Addr) (hei:e≠it):Turn P w K (.Tuple elts x1 pos) (aeJ K a) [e,it] e (fun i h=>(∃old,IsEnum h e it i old)/\h.IsListIter it a i)where
 mem:=by simp
 obj:=fun i h st b hb=>by
  obtain⟨⟨old,he⟩,o,ho,c,d⟩:=st;rcases bw.mp hb with z|z
  .subst z;exact⟨_,he,fun v z=>by cases z⟩
  .have z:b=it:=by simpa using z
   subst z;exact⟨o,ho,fun v z=>by rw[d]at z;cases z⟩
 keep:=fun i h h' st k=>⟨let⟨old,he⟩:=st.1;⟨old,k e (by simp) _ he⟩,st.2.at fun o q=>k it (by simp) o q⟩
 item:=by
  intro X hP hw hK hc i zq s σ H E I hf st hg;subst hP hw hK;obtain⟨xs,x,hq,hx⟩:=hg;obtain⟨its,rv,p,hz⟩:=I.list hq;obtain⟨u,hu,ru⟩:=rv.get hx;obtain⟨⟨old,he⟩,ht⟩:=st;have hne:a≠it:=fun z=>by
   obtain⟨o,ho,c,_⟩:=ht;obtain⟨o',_,ho',c',_,_⟩:=p;subst z;rw[ho]at ho';cases ho'
   rw[c]at c';exact absurd (Value.type.inj c') (by decide)
  have hae:a≠e:=fun z=>by
   obtain⟨o',_,ho',c',_,_⟩:=p;subst z;rw[he]at ho';cases ho'
   exact absurd (Value.type.inj c') (by decide)
  have hlt:i<its.toArray.size:=by have:=(af.mp hu).1;simpa using this
  refine wpAny_pyNext_enum_itemD (Draws.list (A:=X.A.in1) (by exact I.ok.hd hc) it a hne its.toArray) he ⟨ht,p.isList⟩ hlt hei (by simp[hei,Ne.symm hae]) fun v h' tk hPv ho' st' htup hsz hk=>?_
  have ev:v=u:=by
   have h1:its[i]? =some v:=by simpa using hPv
   rw[hu]at h1;exact(Option.some.inj h1).symm
  subst ev;refine⟨_,rfl,wpAny_letOwnedTupleGo_enum (s:={s with heap:=h',toks:=tk+1}) ho' fun h2 he2 sb=>?_⟩;have hTe:s.heap.objs.size≠e:=fun z=>by
   have:=cm he;rw[<-z]at this;exact jm _ this
  have hTi:s.heap.objs.size≠it:=fun z=>by
   obtain⟨o,ho,_⟩:=ht;have:=cm ho;rw[<-z]at this;exact jm _ this
  have hk2:∀b o,b∉[e,it]->s.heap.get? b=some o->h2.get? b=some o:=fun b o hb q=>
   sb.extBut b o (fun z=>hb (by simp[z])) (hk b o (fun z=>hb (by simp[z])) (fun z=>hb (by simp[z])) q)
  have I1:Inv X zq σ H {s with heap:=h2,toks:=tk+1}:=I.CH hk2 hf;have hfr:H s.heap.objs.size=none:=I.bR.fresh (bc _);have htup2:h2.get? s.heap.objs.size=some {cls:=.type "tuple",data:=.seq #[.int i tk,v]}:=sb.extBut _ _ hTe htup;have I2:Inv X zq σ (upd H s.heap.objs.size (.tup [.int i,x])) {s with heap:=h2,toks:=tk+1}:=by
   refine I.un2 hk2 hf hfr (by simp[hTe,hTi]) ⟨by show 2<=sizeLine;decide,[.int i tk,v],.cons ⟨_,rfl⟩ (.cons ru .nil),r6.of htup2⟩ (fun b hb o q=>?_);rcases bw.mp hb with r|r
   .subst r;exact⟨_,he2⟩
   .have r:b=it:=by simpa using r
    subst r;obtain⟨o',ho',_⟩:=st'.1.extBut sb.extBut (Ne.symm hei);exact⟨o',ho'⟩
  refine⟨.ref s.heap.objs.size,_,I2,rfl,⟨s.heap.objs.size,hfr,rfl,fun ys hy=>⟨x,by rw[I.pL hy hq];exact hx,rfl⟩⟩,⟨⟨_,he2⟩,st'.1.extBut sb.extBut (Ne.symm hei)⟩,fun b hb=>?_⟩;have hbT:b≠s.heap.objs.size:=fun z=>by
   rcases bw.mp hb with r|r
   .exact hTe (z▸r)
   .have r:b=it:=by simpa using r
    exact hTi (z▸r)
  rw[aX hbT];exact(hf b hb).1
 done:=by
  intro X hP hw hK hc i zq s σ H E I hf st hg;subst hP hw hK;obtain⟨xs,hq,hx⟩:=hg;obtain⟨its,rv,p,hz⟩:=I.list hq;obtain⟨⟨old,he⟩,ht⟩:=st;have hl:=rv.length;have hne:a≠it:=fun z=>by
   obtain⟨o,ho,c,_⟩:=ht;obtain⟨o',_,ho',c',_,_⟩:=p;subst z;rw[ho]at ho';cases ho'
   rw[c]at c';exact absurd (Value.type.inj c') (by decide)
  have ei:(i:Nat)=its.toArray.size:=by simp;omega
  subst ei;obtain⟨f0,f1,f2,f3,f4,f5⟩:=hf it (by simp);exact wpAny_pyNext_enum_endD (Draws.list (A:=X.A.in1) (by exact I.ok.hd hc) it a hne its.toArray) he ⟨ht,p.isList⟩ fun h' eb=>⟨rfl,I.turned (t':=s.toks) (fun b o hb e=>eb b o hb e) f0 f1 f3 f4 f5⟩
 self:=fun _ _ _ _ _ st h=>let⟨_,he⟩:=st.1;wpAny_pyIter_enum he h
section
variable {X:Cx} {elts:List Expr} {x1:Nat} {tpos:Pos}
def EH (K:Frag) (ta:TA):TI:=fun σ H R=>ta σ H fun vs H1=>(∃a xs,vs=[.ref a]/\rB K H1 a xs/\R (Ite K a) H1)\/ ∃a xs,vs=[.ref a]/\gE K H1 a xs/\R (aeJ K a) H1
theorem SE (hg:Gl X "enumerate") (hm:X.mg "enumerate"=none) (ha:PA X [a] ta) (hs:starEach [a] X.env=[(false,eval a X.env)]:=by rfl):PI X (.Tuple elts x1 tpos) (.Call (.Name "enumerate" p) [a] [] pos) (EH X.K ta):=by
 intro zq s σ H R I h;refine Call_ (tG I hg hm DG (ie (cS (ha pos zq s σ H _ I h) fun us s1 ⟨vs,H1,I1,r1,q1⟩=>?_) hs rfl));rcases q1 with⟨t,xs,e,hq,q⟩|⟨t,xs,e,hq,q⟩
 .subst e;obtain⟨u,rfl,rx⟩:=vals1 r1;cases rx;obtain⟨its,rv,pt,hz⟩:=I1.tuple hq;refine kE (show s1.heap.IsTuple t its.toArray from pt) fun h' he ht hsz hk=>?_
  have I2:Inv X zq σ H1 {s1 with heap:=h'}:=I1.kept (t':=s1.toks) hk;refine wpAny_pyIter_enum (s:={s1 with heap:=h'}) he ?_;refine⟨s1.heap.objs.size+1,[s1.heap.objs.size+1,s1.heap.objs.size],_,_,H1,rfl,I2,KQ t s1.heap.objs.size (s1.heap.objs.size+1) (Nat.succ_ne_self _),⟨⟨_,he⟩,ht⟩,fun b hb=>?_,q⟩;rcases bw.mp hb with r|r
  .subst r;exact I1.xA (jg _) (I1.bR.fresh (jg _))
  .have r:b=s1.heap.objs.size:=by simpa using r
   subst r;exact I1.xA (bc _) (I1.bR.fresh (bc _))
 .subst e;obtain⟨u,rfl,rx⟩:=vals1 r1;cases rx;obtain⟨its,rv,pt,hz⟩:=I1.list hq;refine call_enumerate_list pt.isList fun h' he ht hsz hk=>?_
  have I2:Inv X zq σ H1 {s1 with heap:=h'}:=I1.kept (t':=s1.toks) hk;refine wpAny_pyIter_enum (s:={s1 with heap:=h'}) he ?_;refine⟨s1.heap.objs.size+1,[s1.heap.objs.size+1,s1.heap.objs.size],_,_,H1,rfl,I2,JP t s1.heap.objs.size (s1.heap.objs.size+1) (Nat.succ_ne_self _),⟨⟨_,he⟩,ht⟩,fun b hb=>?_,q⟩;rcases bw.mp hb with r|r
  .subst r;exact I1.xA (jg _) (I1.bR.fresh (jg _))
  .have r:b=s1.heap.objs.size:=by simpa using r
   subst r;exact I1.xA (bc _) (I1.bR.fresh (bc _))
theorem C8 (K:Frag) (hg:Gl X "enumerate") (hm:X.mg "enumerate"=none) (ha:PA X [a] ta) (h:X.K=K:=by rfl) (hs:starEach [a] X.env=[(false,eval a X.env)]:=by rfl):
  PI X (.Tuple elts x1 tpos) (.Call (.Name "enumerate" p) [a] [] pos) (EH K ta):=h▸SE hg hm ha hs
end
end L2
namespace Mr
open PySem PySem.Spec L2 PyProof.Rows
variable {fa:FA} {a b:Str}
section
variable {K:Frag}
noncomputable def MO (fa:FA):FI:=fun _ e=>bE (fa e) fun bs e1=>match bs with
 |[.val (.tup ps)]=>some (ps.zipIdx.map fun z=>.tup [.int (z.2:Int),z.1],e1)
 |[.val (.lst ps)]=>some (ps.zipIdx.map fun z=>.tup [.int (z.2:Int),z.1],e1)
 |_=>none
theorem T7 {ta:TA} (h:vS K ta fa):w9 K (EH K ta) (MO fa):=by
 intro st O M W L σ H e e' ps R o he hf q;obtain⟨x,e1,f1,hf⟩:=aM hf;refine h O M W L σ H e e1 x _ o he f1 fun vs H1 k1 en rv=>?_
 have o1:=o.keep k1.cD;split at hf
 .rename_i ps0;cases hf;cases rv with
  | cons h r=>
   cases r;cases h with
   | tup ha ra=>
    rename_i a xs;refine .inl ⟨a,xs,rfl,ha.sq,q _ H1 k1 en fun Wr hw _=>?_⟩;intro L' H' j1 j2 j3;have st:=vC o1 hw j1 j2 j3;have sq:rB K H' a xs:=TupAt.sq (ha.elim (fun h=>.inl (j2 _ _ h)) .inr);refine⟨fun k p hp=>?_,xs,sq,by rw[ag,ji,ra.length]⟩;rw[aq,ik]at hp;cases c:ps0[k]? with
    |none=>rw[c]at hp;cases hp
    |some p0=>
     rw[c]at hp;cases hp;obtain⟨v,hv,rv⟩:=ra.get c;refine⟨⟨xs,v,sq,hv⟩,fun x H3 y=>?_⟩;obtain⟨t,ht,rfl,y⟩:=y;obtain⟨x',hx',rfl⟩:=y xs sq;rw[hv]at hx';cases hx';refine⟨aT.upd ht,.tup (.inl aU) (.cons ?_ (.cons ((rv.aK st).aK (.same (aT.upd ht))) .nil))⟩;rw[zero_add];exact .int _
 .rename_i ps0;cases hf;cases rv with
  | cons h r=>
   cases r;cases h with
   | lst ha n ra=>
    rename_i a xs;refine .inr ⟨a,xs,rfl,.inl ha,q _ H1 k1 en fun Wr hw _=>?_⟩;intro L' H' j1 j2 j3;have st:=vC o1 hw j1 j2 j3;have nw:¬Wr a:=fun z=>n ((hw _ z).elim (fun⟨i,w⟩=>.inl (o.wm i _ w)) .inr)
    have sq:gE K H' a xs:=by
     rcases ha with h|⟨u,h⟩
     .exact .inl (.inl (j1 _ _ h nw))
     .exact .inl (.inr ⟨u,j1 _ _ h nw⟩)
    refine⟨fun k p hp=>?_,xs,sq,by rw[ag,ji,ra.length]⟩;rw[aq,ik]at hp;cases c:ps0[k]? with
    |none=>rw[c]at hp;cases hp
    |some p0=>
     rw[c]at hp;cases hp;obtain⟨v,hv,rv⟩:=ra.get c;refine⟨⟨xs,v,sq,hv⟩,fun x H3 y=>?_⟩;obtain⟨t,ht,rfl,y⟩:=y;obtain⟨x',hx',rfl⟩:=y xs sq;rw[hv]at hx';cases hx';refine⟨aT.upd ht,.tup (.inl aU) (.cons ?_ (.cons ((rv.aK st).aK (.same (aT.upd ht))) .nil))⟩;rw[zero_add];exact .int _
 .cases hf
theorem VJ {st:Nat->Bool} {e:En}:MO fa st e=bE (fa e) fun bs e1=>match bs with
 |[.val (.tup ps)]=>some (ps.zipIdx.map fun z=>.tup [.int (z.2:Int),z.1],e1)
 |[.val (.lst ps)]=>some (ps.zipIdx.map fun z=>.tup [.int (z.2:Int),z.1],e1)
 |_=>none:=rfl
end
section
variable {K:Frag}
def HU (a b:Str):Prop:=¬b.cps.toList<a.cps.toList
theorem AZ {c:Str} (h:HU a b) (h':HU b c):HU a c:=not_lt.mpr (List.le_trans (not_lt.mp h) (not_lt.mp h'))
theorem P4 {a b:Str} (h:HU a b) (h':HU b a):a=b:=by
 have:=List.le_antisymm (not_lt.mp h) (not_lt.mp h');exact Str.ext' (by cases a;cases b;simp at this;exact this)
theorem vX:∀{x:Str} {r:List Str},risingS x r=true->(x::r).Pairwise HU
 |x,[],_=>List.pairwise_singleton _ _
 | x,y::r,h=>by
  have h:(!ltCps y.cps.toList x.cps.toList && risingS y r)=true:=h;rw[cj]at h;have ih:=vX h.2;have hxy:HU x y:=by
   have:=h.1;rw[ltCps_eq]at this;simpa [HU]using this
  refine iu.mpr ⟨fun z hz=>?_,ih⟩;rcases bw.mp hz with e|e
  .rw[e];exact hxy
  .exact AZ hxy ((iu.mp ih).1 z e)
theorem FD {l:List Str} (h:sortedS l=true):l.Pairwise HU:=by
 cases l with
 |nil=>exact .nil
 |cons x r=>exact vX h
theorem vW:∀{a b:List Str},a.Pairwise HU->b.Pairwise HU->a.Perm b->a=b
 |[],b,_,_,p=>(List.Perm.nil_eq p)
 |x::a,[],_,_,p=>absurd p.symm.nil_eq (by simp)
 | x::a,y::b,ha,hb,p=>by
  have hx:=(iu.mp ha).1;have hy:=(iu.mp hb).1;have e:x=y:=by
   rcases bw.mp (p.mem_iff.mp bh)with z|z
   .exact z
   .rcases bw.mp (p.mem_iff.mpr bh)with w|w
    .exact w.symm
    .exact P4 (hx y w) (hy x z)
  subst e;rw[vW (iu.mp ha).2 (iu.mp hb).2 p.cons_inv]
noncomputable def leS (a b:Str):Bool:=!ltCps b.cps.toList a.cps.toList
theorem qQ:leS a b=true↔HU a b:=by
 unfold leS HU;rw[ltCps_eq];simp
noncomputable def eB (ss:List Str):List Str:=ss.mergeSort leS
theorem DE (ss:List Str):(eB ss).Pairwise HU:=by
 have:=List.pairwise_mergeSort (le:=leS) (fun a b c h1 h2=>qQ.mpr (AZ (qQ.mp h1) (qQ.mp h2))) (fun a b=>by
  rw[or_eq_true,qQ,qQ]
  by_cases h:HU a b
  .exact .inl h
  .right;unfold HU at h⊢
   have h:=Classical.not_not.mp h;exact not_lt.mpr (List.le_of_lt h)) ss
 exact this.imp fun h=>qQ.mp h
theorem fD (ss:List Str):(eB ss).Perm ss:=List.mergeSort_perm ss leS
theorem GK {ss out:List Str} (hp:out.Perm ss) (hs:sortedS out=true):eB ss=out:=vW (DE ss) (FD hs) ((fD ss).trans hp.symm)
noncomputable def zR:List PV->Option Bv
 |[.lst ps]=>bO (AA ps) fun ss=>bD (decide (ss.length<64)) (some (.new (.lst ((eB ss).map PV.str))))
 |_=>none
theorem bI.ofStrs {Z:aJ} {H:Hp}:∀(ss:List Str),bI K Z H (ss.map PV.str) (ss.map V.str)
 |[]=>.nil
 |s::ss=>.cons (.str s) (bI.ofStrs ss)
theorem QZ:iA K (JG K) zR:=by
 intro Z H vs ps b Q hp h k;unfold zR at h;split at h
 .obtain⟨ss,g,h⟩:=aF h;obtain⟨c,h⟩:=aL h;cases h;obtain⟨v,rfl,hv⟩:=hp.one;obtain⟨a,ys,rfl,ha,ra⟩:=hv.rA;rw[tQ g]at ra;rw[ra.strs]at ha;refine⟨a,ss,rfl,ha.sq,av c,fun l out h1 h2 hl=>?_⟩;rw[GK h1 h2]at k;exact k _ _ (aT.upd hl) (DJ hl (bI.ofStrs out))
 .cases h
end
end Mr
namespace Mr
open PySem L2
variable {Q:Bv×En->Prop} {e:En} {fg:FG} {fi:FI} {ft:FT} {ks:List Kd} {xs:List PV} {y:Str}
structure Mark {α:Type} (Q:α->Prop):Type where
def Wp {α:Type} (r:Option α) (Q:α->Prop) (u:Mark Q:=⟨⟩):Prop:=∃a,r=some a/\Q a
section
variable {α β:Type} {Q:β->Prop}
theorem ahX:AD 1 0=some 0:=by decide
theorem ahA:AD 2 0=some 0:=by decide
theorem ag0:AD 2 1=some 1:=by decide
theorem agS:AD 3 0=some 0:=by decide
theorem ag2:AD 3 1=some 1:=by decide
theorem ahE:AD 3 2=some 2:=by decide
theorem ahO:AD 4 0=some 0:=by decide
theorem ag9:AD 4 1=some 1:=by decide
theorem ahU:AD 4 2=some 2:=by decide
theorem ahS:AD 4 3=some 3:=by decide
theorem O6 {a b c d:Nat}:(((a,b):Nat×Nat)==(c,d))=(a==c && b==d):=rfl
theorem at0 {x:α} {xs:List α}:rK (x::xs) 0=some x:=iP (j:=0) rfl
theorem at1 {x y:α} {xs:List α}:rK (x::y::xs) 1=some y:=iP (j:=1) rfl
theorem at2 {x y z:α} {xs:List α}:rK (x::y::z::xs) 2=some z:=iP (j:=2) rfl
theorem at3 {x y z w:α} {xs:List α}:rK (x::y::z::w::xs) 3=some w:=iP (j:=3) rfl
theorem mR {r:Option (α×En)} {k:α->En->Option β}:Wp (bE r k) Q↔Wp r fun z=>Wp (k z.1 z.2) Q:=by
 constructor
 .rintro⟨b,h,q⟩;obtain⟨a,e,h1,h2⟩:=aM h;exact⟨(a,e),h1,b,h2,q⟩
 .rintro⟨⟨a,e⟩,rfl,b,h2,q⟩;exact⟨b,h2,q⟩
theorem mD {r:Option α} {k:α->Option β}:Wp (bO r k) Q↔Wp r fun z=>Wp (k z) Q:=by
 constructor
 .rintro⟨b,h,q⟩;obtain⟨a,h1,h2⟩:=aF h;exact⟨a,h1,b,h2,q⟩
 .rintro⟨a,rfl,b,h2,q⟩;exact⟨b,h2,q⟩
theorem b9 {b:β}:Wp (some b) Q↔Q b:=⟨fun⟨_,h,q⟩=>by cases h;exact q,fun q=>⟨b,rfl,q⟩⟩
theorem tZ:Wp (none:Option β) Q↔False:=by
 constructor
 .rintro⟨_,h,_⟩;cases h
 .exact False.elim
theorem eQ {c:Bool} {k:Option β}:Wp (bD c k) Q↔c=true/\Wp k Q:=by
 constructor
 .rintro⟨b,h,q⟩;obtain⟨h1,h2⟩:=aL h;exact⟨h1,b,h2,q⟩
 .rintro⟨rfl,b,h,q⟩;exact⟨b,h,q⟩
theorem wp_seq {f g:FS} {e:En} {Q:Out->Prop}:Wp (aR f g e) Q↔Wp (f e) fun o=>match o with| .nx e1=>Wp (g e1) Q|o=>Q o:=by
 unfold aR;cases f e with
 |none=>simp[tZ]
 |some o=>
  rw[b9];cases o<;>simp[b9]
theorem X4 {c:Bool} {x y:Option β}:Wp (bB c x y) Q↔((c=true->Wp x Q)/\(c=false->Wp y Q)):=by
 cases c<;>simp[bB]
theorem agR {x y:β}:bB true x y=x:=rfl
theorem ahT {x y:β}:bB false x y=y:=rfl
theorem Wp.mono {r:Option β} {Q Q':β->Prop} (h:Wp r Q) (k:∀b,Q b->Q' b):Wp r Q':=let⟨b,e,q⟩:=h;⟨b,e,k b q⟩
theorem Wp.eq {r:Option β} {b:β} (h:Wp r fun x=>x=b):r=some b:=let⟨_,e,q⟩:=h;q▸e
theorem ad4 {r:Option β} {b:β} (h:r=some b) (q:Q b):Wp r Q:=⟨b,h,q⟩
end
theorem ac0 {nl:Nat} {fr:Bool} {g:FS} {ps:List PV} {Q:PV×List PV->Prop}:Wp (pA ks nl fr g ps) Q↔Wp (g (qX ks ps++List.replicate nl none)) fun o=>Wp (aaR ks fr o) Q:=by
 unfold pA;exact mD
theorem wp_call {fr:Bool} {f:FN} {fa:FA}:Wp (bA ks fr f fa e) Q↔Wp (fa e) fun z=>Wp (OU z.2 ks z.1) fun ps=>
  (decide ((cC ks z.1).Nodup) && (rX ks z.1).all fun i=>!(cC ks z.1).contains i)=true/\Wp (f ps) fun rq=>Wp (pO (rq.2.map fun q=>some (.own q)) (cC ks z.1).zipIdx z.2) fun e2=>Q (resB rq.1 fr,e2):=by
 unfold bA;constructor
 .intro h;obtain⟨z,h1,h⟩:=mR.mp h;obtain⟨ps,h2,h⟩:=mD.mp h;obtain⟨g,h⟩:=eQ.mp h;obtain⟨rq,h3,h⟩:=mD.mp h;obtain⟨e2,h4,h⟩:=mD.mp h;exact⟨z,h1,ps,h2,g,rq,h3,e2,h4,b9.mp h⟩
 .rintro⟨z,h1,ps,h2,g,rq,h3,e2,h4,q⟩;exact mR.mpr ⟨z,h1,mD.mpr ⟨ps,h2,eQ.mpr ⟨g,mD.mpr ⟨rq,h3,mD.mpr ⟨e2,h4,b9.mpr q⟩⟩⟩⟩⟩
theorem cJ {body:PV->En->Option Out} (I:Nat->En->Prop) {Q:Out->Prop} (hs:∀(i:Nat) x e,xs[i]? =some x->I i e->Wp (body x e) fun o=>match o with| .nx e1=>I (i+1) e1| .ct e1=>I (i+1) e1| .bk e1=>Q (.nx e1)| .rt b e1=>Q (.rt b e1))
  (hd:∀e,I xs.length e->Q (.nx e)) {e:En} (h0:I 0 e):Wp (rE body xs e) Q:=by
 have key:∀(ys:List PV) (i:Nat) (e:En),i<=xs.length->xs.drop i=ys->I i e->Wp (rE body ys e) Q:=by
  intro ys
  induction ys with
  | nil=>
   intro i e hil hy hi;unfold rE;rw[b9];have hl:xs.length<=i:=by
    have:=dq List.length hy;rw[fy]at this;simp at this;omega
   have h:i=xs.length:=by omega
   subst h;exact hd e hi
  | cons x ys ih=>
   intro i e hil hy hi;have hlt:i<xs.length:=by
    have:=dq List.length hy;rw[fy,length_cons]at this;omega
   rw[eh hlt]at hy;have hx:xs[i]? =some x:=by rw[aj hlt,(List.cons.inj hy).1]
   obtain⟨o,h1,h2⟩:=hs i x e hx hi;unfold rE;rw[h1];cases o with
   |nx e1=>exact ih (i+1) e1 hlt (List.cons.inj hy).2 h2
   |ct e1=>exact ih (i+1) e1 hlt (List.cons.inj hy).2 h2
   |bk e1=>exact b9.mpr h2
   |rt b e1=>exact b9.mpr h2
 exact key xs 0 e (ic _) rfl h0
theorem c9 {fe:FE} (I:Nat->List PV->En->Prop) {Q:List PV×En->Prop} {xs:List PV} (hs:∀(i:Nat) x e acc,xs[i]? =some x->I i acc e->Wp (fg x e) fun e1=>Wp (ft e1) fun z=>match z.1 with|false=>I (i+1) acc z.2|true=>Wp (fe z.2) fun w=>Wp w.1.put fun p=>I (i+1) (acc++[p]) w.2)
  (hd:∀acc e,I xs.length acc e->Q (acc,e)) {e:En} (h0:I 0 [] e):Wp (kR fg ft fe xs e) Q:=by
 have key:∀(ys:List PV) (i:Nat) (acc:List PV) (e:En),i<=xs.length->xs.drop i=ys->I i acc e->∃rest e',kR fg ft fe ys e=some (rest,e')/\I xs.length (acc++rest) e':=by
  intro ys
  induction ys with
  | nil=>
   intro i acc e hil hy hi;have hl:xs.length<=i:=by
    have:=dq List.length hy;rw[fy]at this;simp at this;omega
   have h:i=xs.length:=by omega
   subst h;exact⟨[],e,rfl,by rw[df];exact hi⟩
  | cons x ys ih=>
   intro i acc e hil hy hi;have hlt:i<xs.length:=by
    have:=dq List.length hy;rw[fy,length_cons]at this;omega
   rw[eh hlt]at hy;have hx:xs[i]? =some x:=by rw[aj hlt,(List.cons.inj hy).1]
   obtain⟨e1,h1,z,h2,h3⟩:=hs i x e acc hx hi;obtain⟨b,e2⟩:=z;unfold kR;rw[h1,qZ,h2,G1];cases b with
   |false=>exact ih (i+1) acc e2 hlt (List.cons.inj hy).2 h3
   |true=>
    obtain⟨⟨r,e3⟩,h4,p,h5,h6⟩:=h3;dsimp only at h4 h5 h6⊢
    obtain⟨rest,e',h7,h8⟩:=ih (i+1) (acc++[p]) e3 hlt (List.cons.inj hy).2 h6;rw[h4,G1,h5,qZ,h7,G1];exact⟨p::rest,e',rfl,by rw[gp]at h8;exact h8⟩
 obtain⟨rest,e',h1,h2⟩:=key xs 0 [] e (ic _) rfl h0;exact⟨_,h1,hd _ _ h2⟩
theorem l6 {fc:FT} {fb:FS} (I:En->Prop) (μ:En->Nat) {Q:Out->Prop} (hs:∀e,I e->Wp (fc e) fun z=>match z.1 with|false=>Q (.nx z.2)|true=>Wp (fb z.2) fun o=>match o with| .nx e1=>I e1/\μ e1<μ e| .ct e1=>I e1/\μ e1<μ e| .bk e1=>Q (.nx e1)| .rt b e1=>Q (.rt b e1)):
  ∀{n:Nat} {e:En},μ e<n->I e->Wp (gK fc fb n e) Q
 |0,e,h,_=>absurd h (not_lt_zero _)
 | n+1,e,h,hi=>by
  obtain⟨⟨b,e1⟩,h1,h2⟩:=hs e hi;unfold gK;rw[h1,G1];cases b with
  |false=>exact b9.mpr h2
  |true=>
   obtain⟨o,h3,h4⟩:=h2;dsimp only at h3⊢
   rw[h3];cases o with
   |nx e2=>exact l6 I μ hs (by have:=h4.2;omega) h4.1
   |ct e2=>exact l6 I μ hs (by have:=h4.2;omega) h4.1
   |bk e2=>exact b9.mpr h4
   |rt b e2=>exact b9.mpr h4
theorem SM {k:Nat} {cap:List Nat} {ms:List (Nat×Nat)} {fe:FE}:Wp (dZ fi k cap ms fg ft fe e) Q↔Wp (fi (fun i=>!(ms.any fun z=>z.1==i)) e) fun z=>z.1.length<1000000/\Wp (kR fg ft fe z.1 (wX k cap ms z.2)) fun w=>Wp (pO w.2 ms z.2) fun e2=>Q (.new (.lst w.1),e2):=by
 unfold dZ;constructor
 .intro h;obtain⟨z,h1,h⟩:=mR.mp h;obtain⟨g,h⟩:=eQ.mp h;obtain⟨w,h2,h⟩:=mR.mp h;obtain⟨e2,h3,h⟩:=mD.mp h;exact⟨z,h1,av g,w,h2,e2,h3,b9.mp h⟩
 .rintro⟨z,h1,g,w,h2,e2,h3,q⟩;exact mR.mpr ⟨z,h1,eQ.mpr ⟨decide_eq_true g,mR.mpr ⟨w,h2,mD.mpr ⟨e2,h3,b9.mpr q⟩⟩⟩⟩
theorem VT {fb:FS} {Q:Out->Prop}:Wp (iG fi fg fb e) Q↔Wp (fi (fun _=>false) e) fun z=>Wp (rE (fun x e=>bO (fg x e) fb) z.1 z.2) Q:=by
 unfold iG;rw[mR]
theorem aa4:cN PV.bG (PV.str y)=false:=by simp[cN]
theorem ac7 {x:Int} {y:Int}:cN (PV.int x) (PV.int y)=(x==y):=by simp[cN]
theorem CW {x:Str}:cN (PV.str x) (PV.str y)=(x==y):=by simp[cN]
theorem aa1 {x:List PV} {y:List PV}:cN (PV.lst x) (PV.lst y)=dR x y:=by simp[cN]
theorem XA:dR [] []=true:=by simp[dR]
theorem W7 {x:PV}:dR (x::xs) []=false:=by simp[dR]
end Mr
namespace Mr
open PySem PySem.Spec L2 PyProof.Rows
variable {fa fb:FE}
section
variable {K:Frag}
noncomputable def PN:PV->PV->Option Bv
 | .aZ kvs,p=>bO (keyOf p) fun k=>some (.val ((cG kvs k).getD .bG))
 |_,_=>none
noncomputable def BQ (fa fb:FE):FE:=fun e=>bE (fa e) fun x e1=>bO (x.weak.get e1) fun p1=>match p1 with
 | .aZ _=>bE (fb e1) fun y e2=>bO (x.weak.get e2) fun p=>bO (y.weak.get e2) fun q=>bO (PN p q) fun b=>some (b,e2)
 |_=>none
theorem RI {ta tb:TE} (ha:Ref K ta fa) (hb:Ref K tb fb):Ref K (O7 ta tb) (BQ fa fb):=by
 intro O M W L σ H e e' b Q o he hf q;obtain⟨x,e1,f1,hf⟩:=aM hf;obtain⟨p1,g0,hf⟩:=aF hf;cases p1 with
 | aZ kvs1=>
  obtain⟨y,e2,f2,hf⟩:=aM hf;obtain⟨p,g1,hf⟩:=aF hf;obtain⟨p',g2,hf⟩:=aF hf;obtain⟨c,g3,hf⟩:=aF hf;cases hf;refine ha O M W L σ H e e1 x _ o he f1 fun v1 H1 k1 r1 fr=>?_
  have o1:=o.keep k1.cD;obtain⟨a1,ys1,e11,ha1,_,_⟩:=((r1.rv o1).red (r1.en o1) g0).vJ;refine⟨a1,e11,.inl ⟨ys1,ha1⟩,?_⟩;refine hb O M W L σ H1 e1 _ y _ o1 (r1.en o1) f2 fun v2 H2 k2 r2 fr=>?_
  have o2:=o1.keep k2.cD;have en:=r2.en o2;have rp:=((r1.rv o1).keep o1 k2).red en g1;have rq:=(r2.rv o2).red en g2;cases p with
  | aZ kvs=>
   obtain⟨key,g4,g3⟩:=aF g3;cases g3;obtain⟨a,ys,e3,ha',ek,r⟩:=rp.vJ;rw[e11]at e3;cases e3;refine⟨eW ys key,.inl ⟨ys,key,ha',rq.key g4,rfl⟩,?_⟩;refine q _ H2 (k1.trans k2) ?_ ?_
   .refine⟨en,?_⟩;rcases dE.val key ⟨ek,r⟩with⟨h1,h2⟩|⟨p'',v',h1,h2,h3⟩
    .rw[h1,h2];exact .bG
    .rw[h1,h2];exact h3
   .trivial
  |_=>cases g3
 |_=>cases hf
theorem XQ {e:En}:BQ fa fb e=bE (fa e) fun x e1=>bO (x.weak.get e1) fun p1=>match p1 with
 | .aZ _=>bE (fb e1) fun y e2=>bO (x.weak.get e2) fun p=>bO (y.weak.get e2) fun q=>bO (PN p q) fun b=>some (b,e2)
 |_=>none:=rfl
end
end Mr
namespace L2
open PySem PySem.Spec PyProof.Rows PySem.W
variable {a l:Addr} {o u:HO} {H:Hp} {kvs:List (Key×V)} {vs:List (Key×Value)} {s':Shared} {Q:Value->Shared->Prop}
section
variable {prog:Program} {w:World} {A:Around} {E:Value->Shared->Prop} {s:Shared} {T:String} {r d:Addr} {n:Nat} {Pz:Nat->Value->Prop} {OKh:Heap->Prop}
def o6 (s s':Shared):Prop:=∃h' tk dr,s'={s with heap:=h',toks:=tk,drawn:=dr}/\s.heap.objs.size<=h'.objs.size/\∀b o,s.heap.get? b=some o->h'.get? b=some o
theorem o6.size {s:Shared} (g:o6 s s'):s.heap.objs.size<=s'.heap.objs.size:=by
 obtain⟨h',tk,dr,rfl,k,_⟩:=g;exact k
theorem wC {Q:List Value->Shared->Prop} (K:KdlSrc prog w T r d n Pz OKh) (hh:A.handled=none) (bR:OKh s.heap) (hn:n<=sizeLine)
  (hq:∀vs s',o6 s s'->vs.length=n->(∀j v,vs[j]? =some v->Pz j v)->Q vs s'):wpAny (model prog w) A (collect (.ref r)) Q E s:=by
 have ha:=K.there _ bR;have fin:∀(h':Heap) (tk:Nat) (acc:Array Value) (c:Nat),(∀b o,s.heap.get? b=some o->h'.get? b=some o)->
   h'.get? s.heap.objs.size=some {cls:=.type "list",dict:=none,data:=.seq acc c,slots:= #[]}->ItemsOf Pz acc n->
   wpAny (model prog w) A (match Value.ref s.heap.objs.size with
    | Value.ref a=>do
     match(<-load a).data with
      |Data.seq xs _=>pure xs.toList
      |_=>unsupported "internal:collect"
    |_=>unsupported "internal:collect") Q E {s with heap:=h',toks:=tk}:=fun h' tk acc c kp hS hacc=>by
  show wpAny _ A (load s.heap.objs.size>>=_) _ _ _;exact ae (wpAny_load hS (au (hq _ _ ⟨h',tk,s.drawn,rfl,gx (cm hS),kp⟩ (by rw[length_toList];exact hacc.1) fun j v e=>hacc.2 j v (by rw[<-getElem?_toList];exact e))))
 unfold collect;refine ae (wpAny_runValue (gq F.entry_proto_collect ?_));rw[ff F.plain_proto_collect _];refine ae (m:=newList []) (dk ?_);refine au ⟨gV F.plain_list_iadd _,gq F.entry_list_iadd ?_⟩;rw[ff F.plain_list_iadd _];have e0:(s.heap.push {cls:=.type "list",data:=.seq ([]:List Value).toArray}).get? s.heap.objs.size=some {cls:=.type "list",data:=.seq #[] 0}:=bz _ rfl;have key:=kdl_extend (A:=A) (s:={s with heap:=s.heap.push {cls:=.type "list",data:=.seq ([]:List Value).toArray}}) (R:=fun rs s'=>∃h' tk acc c,rs= .ok (.ret (.ref s.heap.objs.size))/\s'={s with heap:=h',toks:=tk}/\(∀b o,s.heap.get? b=some o->h'.get? b=some o)/\h'.get? s.heap.objs.size=some {cls:=.type "list",dict:=none,data:=.seq acc c,slots:= #[]}/\ItemsOf Pz acc n) K hh (K.keep _ _ bR fun b _ o e=>ah _ e) s.heap.objs.size (iw ha.1) (iw ha.2) (.ref s.heap.objs.size) 0 e0
  (fun h' tk acc c kp hS hacc=>⟨h',tk,acc,c,rfl,rfl,fun b o e=>kp b o (cn (cm e)) (ah _ e),hS,hacc⟩) hn
 refine dy key (fun f s' h=>?_) fun e s' h=>?_
 .cases f with
  |done f=>
   obtain⟨h',tk,acc,c,e1,rfl,kp,hS,hacc⟩:=h;cases e1;exact fin h' tk acc c kp hS hacc
  |again c'=>
   refine⟨h.1,codeAny_mono h.2 fun rs s2 hr=>?_⟩;obtain⟨h',tk,acc,c,rfl,rfl,kp,hS,hacc⟩:=hr;exact fin h' tk acc c kp hS hacc
 .obtain⟨h',tk,acc,c,e1,_⟩:=h;cases e1
theorem OV (K:KdlSrc prog w T r d n Pz OKh) (hnt:T≠"tuple") (hh:A.handled=none) (bR:OKh s.heap) (hn:n<=sizeLine)
  (hq:∀(vs:List Value) s1,o6 s s1->vs.length=n->(∀j v,vs[j]? =some v->Pz j v)->Q (.ref s1.heap.objs.size) {s1 with heap:=s1.heap.push {cls:=.type "tuple",data:=.seq vs.toArray}}):
  wpAny (model prog w) A (call (.type "tuple") [.ref r]) Q E s:=by
 have hT:=K.type s bR;refine callType_codes (Q₁:=fun obj s₁=>s₁.TypeIs obj "tuple"/\Q obj s₁) F.called_tuple (F.typeCall_tuple_1 _) F.entry_object_init ?_ fun obj s₁ h₁=>
  ⟨h₁.1,F.args_object_init_2 obj _,object_init_meets F.called_tuple.init.lookup F.called_tuple.made (by decide) prog w A.in1 _ s₁ ⟨h₁.1,rfl,h₁.2⟩⟩
 refine codeAny_of_tree ?_;refine ae (m:=checkBuiltinCall "tuple.__new__" ⟨[.type "tuple",.ref r],[]⟩) (wpAny_of_eq (F.newCall_tuple_1 _) (au ⟨gV F.plain_tuple_new _,gq F.entry_tuple_new ?_⟩));rw[ff F.plain_tuple_new _];have a1:=sub_tuple_self;have a2:=init_tuple_lookup;have a3:=madeHere_tuple;have a4:(Value.type T==Value.type "tuple")=false:=K.notTuple;unfold Builtin.«tuple.__new__»;generalize hC:collect=C
 wp_walk using wpAny_typeOf hT
 subst hC;refine wC K hh bR hn fun vs s1 g hl hv=>?_
 refine ae (au ?_);unfold Builtin.Tuple.tupleExact;refine ae (m:=newObj (.type "tuple") (.seq vs.toArray)) (dk ?_ (by show vs.toArray.size<=sizeLine;rw[cp,hl];exact hn));exact au ⟨⟨_,bz _ rfl,rfl⟩,hq vs s1 g hl hv⟩
theorem u3 {v:Value} {R:List Str->Prop}
  (hcol:∀(E':Value->Shared->Prop) (Q':List Value->Shared->Prop),(∀vs s1 ss,o6 s s1->StrsAre vs ss->R ss->Q' vs s1)->wpAny (model prog w) A.in1 (collect v) Q' E' s) (h64:∀ss,R ss->ss.length<64)
  (hq:∀(a:Addr) s2 (out:List Value) c ss ss',o6 s s2->s.heap.objs.size<=a->s2.heap.get? a=some (seqObj "list" out.toArray c)->StrsAre out ss'->R ss->ss'.Perm ss->sortedS ss'=true->Q (.ref a) s2):
  wpAny (model prog w) A (call (.builtin "sorted") [v]) Q E s:=by
 refine Calls.call_function_entry kind_sorted plain_sorted entry_sorted (args_sorted1 _) ?_;unfold Builtin.«sorted»;refine ae (m:=checkCount "sorted" 1 1 _) (au (ae (hcol _ _ fun vs s1 ss g hS hR=>?_)));have hl:vs.length<64:=by rw[hS.length];exact h64 ss hR
 refine ae (wpAny_newList ?_ (by simp only[jc];omega));have e1:(s1.heap.push (seqObj "list" vs.toArray 0)).get? s1.heap.objs.size=some (seqObj "list" vs.toArray 0):=bz _ rfl;refine ae (gd (gv slot_list_sort ⟨_,e1,rfl⟩ entry_list_sort (list_sort_treeK strKind_oneLt e1 hS.keysOf (fun v₁ v₂ rest e=>keyKind_strs (by rw[<-e];exact hS)) hl fun st' a1 a2=>⟨_,rfl,?_⟩) (args_list_sort _)));obtain⟨ss',b1,b2,b3⟩:=sorted_out_str hS a1 a2;refine au ⟨_,rfl,?_⟩;obtain⟨c,hc⟩:=sortedHeap_at (out:=(arrOf st').map (·.2)) e1;refine hq s1.heap.objs.size _ ((arrOf st').map (·.2)).toList c ss ss' ?_ g.size (by rw[toArray_toList];exact hc) b1 hR b2 b3;obtain⟨h',tk,dr,rfl,gz,k⟩:=g;refine⟨_,tk,dr,rfl,gf gz (gx (cm hc)),fun b o e=>?_⟩;have hb:=cm (k b o e);rw[sortedHeap_old (cn hb) (by rw[size_push'];exact dw hb)];exact ah _ (k b o e)
end
section
variable {X:Cx} {zq:List (Addr×Obj)} {σ:St} {H:Hp} {s s':Shared}
theorem Inv.agA (I:Inv X zq σ H s) (g:o6 s s'):Inv X zq σ H s':=by
 obtain⟨h',tk,dr,rfl,_,k⟩:=g;exact I.call (g':=s.gens) (d':=dr) (t':=tk) (ch:=[]) (Un.kept k) (I.bR.kept k) I.bare fun _ z=>nomatch z
end
noncomputable def OW (v d:Addr):HO:=.ext fun h=>h.IsValuesView v d
theorem Rd.upd (h:Rd H a o) (hl:H l=none):Rd (upd H l u) a o:=by
 have ne:a≠l:=by
  rintro rfl;rcases h with h|⟨_,h⟩<;>(rw[hl]at h;cases h)
 rcases h with h|⟨x,h⟩
 .exact .inl (by rw[aX ne];exact h)
 .exact .inr ⟨x,by rw[aX ne];exact h⟩
theorem KV.vals (r:KV kvs vs):Vals (kvs.map (·.2)) (vs.map (·.2)):=by
 unfold KV at r
 induction r with
 |nil=>exact .nil
 |cons h t ih=>exact .cons h.2 ih
theorem KV.len (r:KV kvs vs):kvs.length=vs.length:=by
 have:=dq List.length r.keys;simpa using this
theorem CB.upd (h:CB H a kvs) (hl:H l=none):CB (upd H l u) a kvs:=let⟨ep,e⟩:=h;⟨ep,Rd.upd e hl⟩
theorem Inv.aeD {X:Cx} {zq:List (Addr×Obj)} {σ:St} {s:Shared} (I:Inv X zq σ H s) (g:o6 s s') (hp:s.heap.objs.size<=a) (new:dQ X.prog X.w (L2.upd H a o) s'.heap a o):Inv X zq σ (L2.upd H a o) s':=by
 obtain⟨h',tk,dr,rfl,_,k⟩:=g;exact I.call (g':=s.gens) (d':=dr) (t':=tk) (ch:=[]) (Un.laid k hp (I.bR.fresh hp)) (I.bR.laid k hp new) I.bare fun _ z=>nomatch z
section
variable {X:Cx}
def RA (to:TE):TE:=fun σ H Q=>to σ H fun x H1=>∃a kvs,x= .ref a/\CB H1 a kvs/\∀v,H1 v=none->Q (.ref v) (upd H1 v (OW v a))
theorem MC {o:Expr} {to:TE} {apos cpos:Pos} (ho:PE X o to) (hbase:attributeBase o "values" X.env (eval o X.env)=eval o X.env:=by rfl) (hline:(apos.endLine==cpos.line)=true:=by rfl):
  PE X (.Call (.Attribute o "values" apos) [] [] cpos) (RA to):=by
 intro zq s σ H Q I h;refine wpAny_Call_method0_late hbase hline (cS (ho zq s σ H _ I h) fun v s1 ⟨x,H1,I1,r1,a,kvs,ex,ha,q1⟩=>?_);subst ex;obtain rfl:v=Value.ref a:=r1;obtain⟨hz,hd,vs,rel,dd⟩:=hJ I1.bR ha;refine⟨"dict","dict.values",plainAttrs_dict,PySem.F.slot_dict_values,PySem.F.type_dict_values,dd.typeIs,dd.mapOf.noDict,ip rfl (PySem.evalArgs_none ?_)⟩;refine call_meetsIn PySem.F.slot_dict_values dd.typeIs PySem.F.entry_dict_values (PySem.F.args_dict_values_1 _) (meets_dict_values (bP X.prog X.w) a hd) ⟨⟨vs,dd⟩,?_⟩;have e0:(s1.heap.push {cls:=.type "dict_values",data:=.fields #[.ref a]}).get? s1.heap.objs.size=some {cls:=.type "dict_values",data:=.fields #[.ref a]}:=bz _ rfl;refine⟨.ref s1.heap.objs.size,_,I1.laid (t':=s1.toks) (o:=OW s1.heap.objs.size a) (fun b u e=>ah _ e) (bc _) ⟨⟨_,e0,rfl,rfl⟩,⟨_,e0⟩,fun h1 h2 ⟨u,e,c⟩ k=>⟨u,k u e,c⟩⟩,rfl,q1 _ (I1.bR.fresh (bc _))⟩
def YS:List V->Hp->VK->Prop:=fun xs H Q=>∃v a kvs,xs=[.ref v]/\H v=some (OW v a)/\CB H a kvs/\∀l,H l=none->Q (.ref l) (upd H l (.tup (kvs.map (·.2))))
theorem ahJ (hc:X.calm=true:=by rfl):cK X (.type "tuple") YS:=by
 intro zq s σ H xs us Q I r ⟨v,a,kvs,e,hv,ha,q⟩;subst e;obtain⟨u,rfl,rx⟩:=vals1 r;cases rx;obtain⟨hz,hd,vs,rel,dd⟩:=hJ I.bR ha;obtain⟨ep,dd⟩:=dd.dictAt;refine OV (kdl_values (knd:=bP X.prog X.w) (r:=v) (d:=a) (kvs:=vs) (ep:=ep)) (by decide) (by exact I.ok.hd hc) ⟨(I.bR v _ hv).1,dd⟩ (by rw[<-rel.len];exact hz) fun ws s1 g hl hw=>?_
 have ew:=kdl_vals_eq ws hl hw;subst ew;have I1:=I.agA g;exact⟨.ref s1.heap.objs.size,_,I1.laid (t':=s1.toks) (o:=.tup (kvs.map (·.2))) (fun b o e=>ah _ e) (bc _) ⟨by rw[ag];exact hz,_,rel.vals,r6.new _ _⟩,rfl,q _ (I1.bR.fresh (bc _))⟩
def ZS:List V->Hp->VK->Prop:=fun xs H Q=>∃v a kvs,xs=[.ref v]/\H v=some (OW v a)/\CB H a kvs/\∀l,H l=none->Q (.ref l) (upd H l (.lst (kvs.map (·.2))))
theorem ahW (hc:X.calm=true:=by rfl):cK X (.type "list") ZS:=by
 intro zq s σ H xs us Q I r ⟨v,a,kvs,e,hv,ha,q⟩;subst e;obtain⟨u,rfl,rx⟩:=vals1 r;cases rx;obtain⟨hz,hd,vs,rel,dd⟩:=hJ I.bR ha;obtain⟨ep,dd⟩:=dd.dictAt;refine kdl_call (kdl_values (knd:=bP X.prog X.w) (r:=v) (d:=a) (kvs:=vs) (ep:=ep)) (by exact I.ok.hd hc) ⟨(I.bR v _ hv).1,dd⟩ (by rw[<-rel.len];exact hz) fun h' tk acc c kp hS hacc=>?_
 have ew:=kdl_vals_eq acc.toList (by rw[length_toList];exact hacc.1) fun j x e=>hacc.2 j x (by rw[<-getElem?_toList];exact e)
 refine⟨.ref s.heap.objs.size,_,I.laid (t':=tk) (o:=.lst (kvs.map (·.2))) kp (bc _) ⟨by rw[ag];exact hz,_,c,rel.vals,?_⟩,rfl,q _ (I.bR.fresh (bc _))⟩;rw[hS,<-ew,toArray_toList]
def J0:List V->Hp->VK->Prop:=fun xs H Q=>∃a kvs ss,xs=[.ref a]/\CB H a kvs/\kvs.map (·.1)=ss.map Sum.inr/\ss.length<64/\∀l out,out.Perm ss->sortedS out=true->H l=none->Q (.ref l) (upd H l (.lst (out.map V.str)))
theorem u4 {prog:Program} {w:World}:∀{ss:List Str} {vs:List (Key×Value)} {us:List Value},vs.map (·.1)=ss.map Sum.inr->us.length=vs.length->(∀(j:Nat) v,us[j]? =some v->∃k x,vs[j]? =some (k,x)/\(bP prog w).is k v=true)->StrsAre us ss
 |[],[],[],_,_,_=>.nil
 |[],[],_::_,_,h,_=>by cases h
 |[],_::_,_,h,_,_=>by cases h
 |_::_,[],_,h,_,_=>by cases h
 |_::_,_::_,[],_,h,_=>by cases h
 | t::ss,(k,x)::vs,u::us,h,hl,hu=>by
  rw[map_cons,map_cons]at h;have h:=List.cons.inj h;have e:k=Sum.inr t:=h.1;subst e;obtain⟨k',x',e',hk⟩:=hu 0 u rfl;cases e';rcases cE (show pC (Sum.inr t) u=true from hk)with⟨i,tk,z,_⟩|⟨y,tk,z,rfl⟩
  .cases z
  .cases z;exact .cons _ tk (u4 h.2 (by simpa using hl) fun j v e=>hu (j+1) v (by simpa using e))
theorem afB (hc:X.calm=true:=by rfl):cK X (.builtin "sorted") J0:=by
 intro zq s σ H xs us Q I r ⟨a,kvs,ss,e,ha,hk,h64,q⟩;subst e;obtain⟨u,rfl,rx⟩:=vals1 r;cases rx;obtain⟨hz,hd,vs,rel,dd⟩:=hJ I.bR ha;obtain⟨ep,dd⟩:=dd.dictAt;rw[rel.keys]at hk;refine u3 (R:=fun tt=>tt=ss) (fun E' Q' k=>?_) (fun tt e=>by rw[e];exact h64) fun l s2 out c tt tt' g hl hat h1 h2 h3 h4=>?_
 .exact wC (kdl_dict (knd:=bP X.prog X.w) (d:=a) (kvs:=vs) (ep:=ep) hd) (by exact I.ok.hd hc) dd (by rw[<-rel.len];exact hz) fun ws s1 g hl hw=>k ws s1 ss g (u4 hk hl hw) rfl
 .subst h2;exact⟨.ref l,_,I.aeD (o:=.lst (tt'.map V.str)) g hl ⟨by rw[ag,h3.length_eq];rw[jc];omega,out,c,iZ h1,hat⟩,rfl,q _ tt' h3 h4 (I.bR.fresh hl)⟩
end
section
variable (prog:Program) (w:World)
variable {prog w}
noncomputable def gD (ks:List Str) (x:Str):List Str:=if x∈ks then ks else ks++[x]
variable {A:Around} {E:Value->Shared->Prop} {s:Shared}
end
noncomputable def cQ (ss:List Str):List Str:=ss.foldl gD []
theorem fP (ss:List Str) (x:Str):cQ (ss++[x])=gD (cQ ss) x:=by unfold cQ;rw[foldl_append];rfl
end L2
namespace Mr
open PySem PySem.Spec L2 PyProof.Rows
variable {e:En} {fa:FE} {ta:TE}
section
variable {K:Frag}
noncomputable def KH (fa:FE):FE:=fun e=>bE (fa e) fun x e1=>bO (x.weak.get e1) fun p=>match p with
 | .aZ kvs=>some (.val (.tup (kvs.map (·.2))),e1)
 |_=>none
noncomputable def KD (fa:FE):FE:=fun e=>bE (fa e) fun x e1=>bO (x.weak.get e1) fun p=>match p with
 | .aZ kvs=>some (.new (.lst (kvs.map (·.2))),e1)
 |_=>none
theorem NQ (ha:Ref K ta fa):Ref K (tCB YS (eI (RA ta) tN)) (KH fa):=by
 intro O M W L σ H e e' b Q o he hf q;obtain⟨x,e1,f1,hf⟩:=aM hf;obtain⟨p,g0,hf⟩:=aF hf;cases p with
 |aZ kvs=>
  cases hf;refine ha O M W L σ H e _ x _ o he f1 fun v1 H1 k1 r1 fr=>?_
  have o1:=o.keep k1.cD;have en:=r1.en o1;obtain⟨a,ys,rfl,hd,ek,rl⟩:=((r1.rv o1).red en g0).vJ;refine⟨a,ys,rfl,hd,fun v hv=>⟨v,a,ys,rfl,aU,CB.upd hd hv,fun l hl=>?_⟩⟩;have s1:aT H1 (upd H1 v (OW v a)):=aT.upd hv;have s2:=aT.upd (o:=.tup (ys.map (·.2))) hl;refine q _ _ ((k1.trans (.same s1)).trans (.same s2)) ⟨(en.same s1).same s2,.tup (.inl aU) ((rl.aK (.same s1)).aK (.same s2))⟩ trivial
 |_=>cases hf
theorem M4 (ha:Ref K ta fa):Ref K (tCB ZS (eI (RA ta) tN)) (KD fa):=by
 intro O M W L σ H e e' b Q o he hf q;obtain⟨x,e1,f1,hf⟩:=aM hf;obtain⟨p,g0,hf⟩:=aF hf;cases p with
 |aZ kvs=>
  cases hf;refine ha O M W L σ H e _ x _ o he f1 fun v1 H1 k1 r1 fr=>?_
  have o1:=o.keep k1.cD;have en:=r1.en o1;obtain⟨a,ys,rfl,hd,ek,rl⟩:=((r1.rv o1).red en g0).vJ;refine⟨a,ys,rfl,hd,fun v hv=>⟨v,a,ys,rfl,aU,CB.upd hd hv,fun l hl=>?_⟩⟩;have s1:aT H1 (upd H1 v (OW v a)):=aT.upd hv;have k2:=k1.trans (.same s1);have s2:=aT.upd (o:=.lst (ys.map (·.2))) hl;have rn:RN K (aW M L) _ _ (.ref l) (.new (.lst (kvs.map (·.2)))):=DJ hl (rl.aK (.same s1));exact q _ _ (k2.trans (.same s2)) (rn.rb (o.keep k2.cD) (en.same s1) s2) (rn.fr k2.cD)
 |_=>cases hf
noncomputable def rF:List (Key×PV)->Option (List Str)
 |[]=>some []
 |(.inr x,_)::r=>bO (rF r) fun ss=>some (x::ss)
 |_=>none
theorem yK:∀{kvs:List (Key×PV)} {ss:List Str},rF kvs=some ss->kvs.map (·.1)=ss.map Sum.inr
 |[],ss,h=>by cases h;rfl
 |(.inr x,p)::r,ss,h=>by
  obtain⟨ss',h1,h⟩:=aF h;cases h;rw[map_cons,map_cons,yK h1]
 |(.inl x,p)::r,ss,h=>by cases h
noncomputable def sC:List PV->Option Bv
 |[.aZ kvs]=>bO (rF kvs) fun ss=>bD (decide (ss.length<64)) (some (.new (.lst ((eB ss).map PV.str))))
 |_=>none
theorem T8:iA K J0 sC:=by
 intro Z H vs ps b Q hp h k;unfold sC at h;split at h
 .obtain⟨ss,g,h⟩:=aF h;obtain⟨c,h⟩:=aL h;cases h;obtain⟨v,rfl,hv⟩:=hp.one;obtain⟨a,ys,rfl,ha,ek,ra⟩:=hv.vJ;refine⟨a,ys,ss,rfl,ha,ek.trans (yK g),av c,fun l out h1 h2 hl=>?_⟩;rw[GK h1 h2]at k;exact k _ _ (aT.upd hl) (DJ hl (bI.ofStrs out))
 .cases h
theorem R4:KH fa e=bE (fa e) fun x e1=>bO (x.weak.get e1) fun p=>match p with
 | .aZ kvs=>some (.val (.tup (kvs.map (·.2))),e1)
 |_=>none:=rfl
theorem Q2:KD fa e=bE (fa e) fun x e1=>bO (x.weak.get e1) fun p=>match p with
 | .aZ kvs=>some (.new (.lst (kvs.map (·.2))),e1)
 |_=>none:=rfl
end
end Mr
namespace Mr
open PySem PySem.Spec L2 PyProof.Rows PySem.W
variable {A:Around} {C:Bool->Shared->Prop} {ps:List PV} {n:Nat} {prog:Program} {s:Shared} {w:World}
noncomputable def eE (lt:PV->PV->Option Bool):List PV->List PV->Option Bool
 |[],[]=>some false
 |[],_::_=>some true
 |_::_,[]=>some false
 |x::xs,y::ys=>if cN x y=true then eE lt xs ys else lt x y
noncomputable def tO:Nat->PV->PV->Option Bool
 |_,.str a,.str b=>some (decide (a.cps.toList<b.cps.toList))
 |_,.int a,.int b=>some (decide (a<b))
 |n+1,.tup xs,.tup ys=>eE (tO n) xs ys
 |_,_,_=>none
section
variable {s:Shared}
theorem adM {lt:PV->PV->Option Bool}:∀{xs ys:List PV} {us vs:List Value} {c:Bool} {fin:Bool},bV s.heap xs us->bV s.heap ys vs->(∀x∈xs,∀y∈ys,∀u v,Lies s.heap x u->Lies s.heap y v->SeqAt.EqAt A s u v (cN x y)/\∀b,lt x y=some b->OG A s u v b)->
  fin=decide (us.length<vs.length)->eE lt xs ys=some c->EX A s fin (us.zip vs) c:=by
 intro xs
 induction xs with
 |nil=>
  intro ys us vs c fin h1 h2 hk hf h;cases h1;cases h2<;>(cases h;rw[hf];exact .done)
 | cons x xs ih=>
  intro ys us vs c fin h1 h2 hk hf h;cases h1 with
  | cons r1 rr1=>
   cases h2 with
   |nil=>cases h;rw[hf];exact .done
   | @cons y _ ys _ r2 rr2=>
    obtain⟨he,hl⟩:=hk x bh y bh _ _ r1 r2;unfold eE at h;cases e:cN x y with
    |true=>
     rw[e]at he;rw[ao e]at h;exact .same he (ih rr1 rr2 (fun a ha b hb=>hk a (ba _ ha) b (ba _ hb)) (by rw[hf];simp) h)
    |false=>
     rw[e]at he;rw[ai (by rw[e];exact ax)]at h;exact .less he (hl c h)
theorem JC:∀(n:Nat) (A:Around) {p q:PV} {v u:Value} {b:Bool},A.units+n<cLine->i4 n p=true->i4 n q=true->Lies s.heap p v->Lies s.heap q u->tO n p q=some b->OG A s v u b:=by
 intro n
 induction n with
 | zero=>
  intro A p q v u b hu o1 o2 h1 h2 h;cases p with
  |str x=>
   cases q with
   |str y=>cases h;cases h1;cases h2;exact fun prog w E Q q=>PySem.P.lt_str q
   |_=>cases h
  |int x=>
   cases q with
   |int y=>cases h;cases h1;cases h2;exact fun prog w E Q q=>PyProof.Rows.lt_int q
   |_=>cases h
  |_=>cases q<;>cases h
 | succ n ih=>
  intro A p q v u b hu o1 o2 h1 h2 h;cases p with
  |str x=>
   cases q with
   |str y=>cases h;cases h1;cases h2;exact fun prog w E Q q=>PySem.P.lt_str q
   |_=>cases h
  |int x=>
   cases q with
   |int y=>cases h;cases h1;cases h2;exact fun prog w E Q q=>PyProof.Rows.lt_int q
   |_=>cases h
  | tup xs=>
   cases q with
   | tup ys=>
    cases h1 with
    | tup t1 l1=>
     cases h2 with
     |tup t2 l2=>
      have hin:A.in1.units=A.units+1:=rfl;have o1:xs.all (i4 n)=true:=o1;have o2:ys.all (i4 n)=true:=o2;refine abE t1 t2 (by omega) ?_;simpa using adM (A:=A.in1) (s:=s) l1 l2 (fun x hx y hy u v a b=>⟨EC n A.in1 (by omega) (bg.mp o1 x hx) (bg.mp o2 y hy) a b,fun c hc=>ih A.in1 (by omega) (bg.mp o1 x hx) (bg.mp o2 y hy) a b hc⟩) rfl h
   |_=>cases h
  |_=>cases q<;>cases h
theorem RK {fin:Bool} {lt:PV->PV->Option Bool}:∀{xs ys:List PV} {us vs:List Value} {c:Bool} (i:Nat),1<=i->bV s.heap xs us->bV s.heap ys vs->
  (∀x∈xs,∀y∈ys,∀u v,Lies s.heap x u->Lies s.heap y v->SeqAt.EqAt A s u v (cN x y)/\∀b,lt x y=some b->OG A s u v b)->fin=decide (us.length<vs.length)->eE lt xs ys=some c->C c s->KatLex prog w A true fin C (us.zip vs) i s:=by
 intro xs
 induction xs with
 |nil=>
  intro ys us vs c i hi h1 h2 hk hf h hC;cases h1;cases h2<;>(cases h;exact kat_nil (by rw[hf];exact hC))
 | cons x xs ih=>
  intro ys us vs c i hi h1 h2 hk hf h hC;cases h1 with
  | cons r1 rr1=>
   cases h2 with
   |nil=>cases h;exact kat_nil (by rw[hf];exact hC)
   | @cons y _ ys _ r2 rr2=>
    obtain⟨he,hl⟩:=hk x bh y bh _ _ r1 r2;refine kat_cons (he prog w _ _ ?_);unfold eE at h;cases e:cN x y with
    |true=>
     rw[ao e]at h;exact kat_yes (ih (i+1) (by omega) rr1 rr2 (fun a ha b hb=>hk a (ba _ ha) b (ba _ hb)) (by rw[hf];simp) h hC)
    |false=>
     rw[ai (by rw[e];exact ax)]at h;refine kat_no ?_;have e0:(true && i==0)=false:=by simp;omega
     rw[e0];exact kat_one _ _ (hl c h prog w _ _ hC)
noncomputable def pJ (b:Bool):PV->Bool
 | .tup (.str _::_)=>b
 | .tup (.int _::_)=>!b
 |_=>false
noncomputable def acR (b:Bool):String:=if b then "str"else "int"
theorem agX {b:Bool} {n:Nat} {vs:List Value} (hl:bV s.heap ps vs) (hu:A.units+n<cLine) (led:∀p∈ps,pJ b p=true) (ok:∀p∈ps,i4 (n+1) p=true)
  {i j:Nat} {c:Bool} {p q:PV} (hp:ps[i]? =some p) (hq:ps[j]? =some q) (hc:tO (n+1) p q=some c) (hC:C c s):kas_ask prog w A (tuples' (Value.type (acR b) !=Value.type "tuple")) vs i j C s:=by
 have kt:(Value.type (acR b) !=Value.type "tuple")=true:=by cases b<;>decide
 obtain⟨u,hu1,lu⟩:∃u,vs[i]? =some u/\Lies s.heap p u:=by
  have hlt:i<vs.length:=by rw[<-hl.length];exact(af.mp hp).1
  obtain⟨p',e,l⟩:=hl.get (aj hlt);rw[hp]at e;cases e
  exact⟨_,aj hlt,l⟩
 obtain⟨v,hv1,lv⟩:∃v,vs[j]? =some v/\Lies s.heap q v:=by
  have hlt:j<vs.length:=by rw[<-hl.length];exact(af.mp hq).1
  obtain⟨p',e,l⟩:=hl.get (aj hlt);rw[hq]at e;cases e
  exact⟨_,aj hlt,l⟩
 have l1:=led p (ay hp);have l2:=led q (ay hq);have o1:=ok p (ay hp);have o2:=ok q (ay hq);show wpAny _ _ (keyLt' _ (vs.getD i Value.none) (vs.getD j Value.none)) C _ s;rw[cc,hu1,cc,hv1,kt];cases lu with
 | @tup _ us xs t1 r1=>
  cases lv with
  | @tup _ vs' ys t2 r2=>
   obtain⟨oa,ga,_,na,da⟩:=t1;obtain⟨ob,gb,_,nb,db⟩:=t2;refine kat_lt ga da gb db ?_;have o1:xs.all (i4 n)=true:=o1;have o2:ys.all (i4 n)=true:=o2;have key:∀x∈xs,∀y∈ys,∀u v,Lies s.heap x u->Lies s.heap y v->SeqAt.EqAt A s u v (cN x y)/\∀b,tO n x y=some b->OG A s u v b:=fun x hx y hy u v a b=>
    ⟨EC n A hu (bg.mp o1 x hx) (bg.mp o2 y hy) a b,fun c hc=>JC n A hu (bg.mp o1 x hx) (bg.mp o2 y hy) a b hc⟩
   have hc:eE (tO n) xs ys=some c:=hc;cases r1 with
   |nil=>cases l1
   | @cons x u0 xs us a1 a2=>
    cases r2 with
    |nil=>cases l2
    | @cons y v0 ys vs' b1 b2=>
     obtain⟨he,_⟩:=key x bh y bh _ _ a1 b1;refine kat_cons (he prog w _ _ ?_);unfold eE at hc;cases e:cN x y with
     |true=>
      rw[ao e]at hc;exact kat_yes (RK 1 (bc _) a2 b2 (fun a ha b hb=>key a (ba _ ha) b (ba _ hb)) (by simp) hc hC)
     | false=>
      rw[ai (by rw[e];exact ax)]at hc;refine kat_no ?_;cases x with
      | str x=>
       cases y with
       |str y=>
        have hc:some (decide (x.cps.toList<y.cps.toList))=some c:=by cases n<;>exact hc
        cases hc;cases a1;cases b1;exact oneLt_str hC
       |int y=>cases b<;>cases l1<;>cases l2
       |_=>cases l2
      | int x=>
       cases y with
       |int y=>
        have hc:some (decide (x<y))=some c:=by cases n<;>exact hc
        cases hc;cases a1;cases b1;exact oneLt_int hC
       |str y=>cases b<;>cases l1<;>cases l2
       |_=>cases l2
      |_=>cases l1
  |_=>cases l2
 |_=>cases l1
end
noncomputable def rJ:Nat->PV->Bool
 |_,.bG=>true
 |_,.int _=>true
 |_,.str _=>true
 |n+1,.tup ps=>ps.all (rJ n)
 |_,_=>false
theorem DK:∀{n:Nat} {p:PV},rJ n p=true->i4 n p=true:=by
 intro n
 induction n with
 |zero=>intro p h;cases p<;>first|rfl|cases h
 |succ n ih=>
  intro p h;cases p with
  |tup ps=>exact bg.mpr fun x hx=>ih (bg.mp h x hx)
  |lst ps=>cases h
  |aZ ps=>cases h
  |ty x=>cases h
  |bl x=>cases h
  |_=>rfl
theorem L5 (ih:∀{p q:PV},rJ n p=true->rJ n q=true->cN p q=true->p=q):∀{xs ys:List PV},xs.all (rJ n)=true->ys.all (rJ n)=true->dR xs ys=true->xs=ys
 |[],[],_,_,_=>rfl
 |[],_::_,_,_,h=>by simp[dR]at h
 |_::_,[],_,_,h=>by simp[dR]at h
 |x::xs,y::ys,h1,h2,h=>by
  simp only[dR,cj]at h;rw[all_cons,cj]at h1 h2;rw[ih h1.1 h2.1 h.1,L5 ih h1.2 h2.2 h.2]
theorem KY:∀{n:Nat} {p q:PV},rJ n p=true->rJ n q=true->cN p q=true->p=q:=by
 intro n
 induction n with
 |zero=>
  intro p q h1 h2 h;cases p<;>cases q<;>first|rfl|(cases h1;done)|(cases h2;done)|(simp[cN]at h;try subst h;try rfl)
 | succ n ih=>
  intro p q h1 h2 h;cases p with
  |tup xs=>
   cases q with
   |tup ys=>rw[qS]at h;rw[L5 ih h1 h2 h]
   |_=>simp[cN]at h
  |lst xs=>cases h1
  |aZ xs=>cases h1
  |ty xs=>cases h1
  |bl xs=>cases h1
  |bG=>cases q<;>first|rfl|(simp[cN]at h)
  |int i=>cases q<;>first|(cases h2;done)|(simp[cN]at h;try subst h;try rfl)
  |str i=>cases q<;>first|(cases h2;done)|(simp[cN]at h;try subst h;try rfl)
theorem vI (ih:∀{p:PV},rJ n p=true->cN p p=true):∀{xs:List PV},xs.all (rJ n)=true->dR xs xs=true
 |[],_=>by simp[dR]
 |x::xs,h=>by
  rw[all_cons,cj]at h;simp only[dR,cj];exact⟨ih h.1,vI ih h.2⟩
theorem z6:∀{n:Nat} {p:PV},rJ n p=true->cN p p=true:=by
 intro n
 induction n with
 |zero=>intro p h;cases p<;>first|(simp[cN];done)|cases h
 |succ n ih=>
  intro p h;cases p with
  |tup xs=>rw[qS];exact vI ih h
  |lst xs=>cases h
  |aZ xs=>cases h
  |ty xs=>cases h
  |bl xs=>cases h
  |_=>simp[cN]
noncomputable def code:Nat->PV->List Int
 |_,.str x=>x.cps.toList.map (fun c:Nat=>(c:Int)+1)++[0]
 |_,.int i=>[i]
 |n+1,.tup xs=>xs.flatMap (fun x=>1::code n x)++[0]
 |_,_=>[0]
noncomputable abbrev gZ:List Int->List Int->Bool:=mL JK
theorem DQ (a r r':List Int):gZ (a++r) (a++r')=gZ r r':=by
 induction a with
 |nil=>rfl
 |cons x a ih=>
  show g8 JK x x (gZ (a++r) (a++r'))=_;exact(iC (A:=JK) (a:=x)).trans ih
theorem fE {x y:Int} {r r':List Int}:gZ (x::r) (y::r')=if x=y then gZ r r' else decide (x<y):=by
 show g8 JK x y (gZ r r')=_;rcases fW (A:=JK) x y with⟨a,b⟩|⟨a,b⟩|a
 .rw[fB a];have a:=av a;rw[ai (by omega),decide_eq_true a]
 .rw[mG a];have a:=av a;rw[ai (by omega),decide_eq_false (by omega)]
 .subst a;rw[ao rfl];exact iC (A:=JK) (a:=x)
theorem CV:∀(a b:List Nat) (r r':List Int),gZ ((a.map fun c:Nat=>(c:Int)+1)++[0]++r) ((b.map fun c:Nat=>(c:Int)+1)++[0]++r')=if a=b then gZ r r' else decide (a<b)
 |[],[],r,r'=>by
  rw[ao rfl];exact DQ [0] r r'
 |[],y::b,r,r'=>by
  rw[ai (by simp)];show gZ (0::r) (((y:Int)+1)::_)=_;rw[fE,ai (by omega),decide_eq_true (by omega)];exact(decide_eq_true (by simp)).symm
 |x::a,[],r,r'=>by
  rw[ai (by simp)];show gZ (((x:Int)+1)::_) (0::r')=_;rw[fE,ai (by omega),decide_eq_false (by omega)];exact(decide_eq_false (by simp)).symm
 | x::a,y::b,r,r'=>by
  show gZ (((x:Int)+1)::((a.map fun c:Nat=>(c:Int)+1)++[0]++r)) (((y:Int)+1)::((b.map fun c:Nat=>(c:Int)+1)++[0]++r'))=_;rw[fE,CV a b r r']
  by_cases e:x=y
  .subst e;rw[ao rfl]
   by_cases e2:a=b
   .subst e2;rw[ao rfl,ao rfl]
   .rw[ai e2,ai (by simpa using e2)];congr 1;simp[List.cons_lt_cons_iff]
  .rw[ai (by omega),ai (by intro z;exact e (List.cons.inj z).1)]
   by_cases h:x<y
   .rw[decide_eq_true (show(x:Int)+1<y+1 by omega)];exact(decide_eq_true (List.cons_lt_cons_iff.mpr (.inl h))).symm
   .rw[decide_eq_false (show¬(x:Int)+1<y+1 by omega)];refine(decide_eq_false fun z=>?_).symm;rcases List.cons_lt_cons_iff.mp z with z|z
    .exact h z
    .exact e z.1
theorem E3 (ih:∀{p q:PV} {b:Bool} (r r':List Int),rJ n p=true->rJ n q=true->tO n p q=some b->gZ (code n p++r) (code n q++r')=if cN p q=true then gZ r r' else b):
  ∀{xs ys:List PV} {b:Bool} (r r':List Int),xs.all (rJ n)=true->ys.all (rJ n)=true->eE (tO n) xs ys=some b->
   gZ (xs.flatMap (fun x=>1::code n x)++[0]++r) (ys.flatMap (fun x=>1::code n x)++[0]++r')=if dR xs ys=true then gZ r r' else b
 |[],[],b,r,r',_,_,h=>by
  rw[ao (by simp[dR])];exact DQ [0] r r'
 |[],y::ys,b,r,r',_,_,h=>by
  cases h;rw[ai (by simp[dR])];show gZ (0::r) (1::_)=_;rw[fE];rfl
 |x::xs,[],b,r,r',_,_,h=>by
  cases h;rw[ai (by simp[dR])];show gZ (1::_) (0::r')=_;rw[fE];rfl
 | x::xs,y::ys,b,r,r',h1,h2,h=>by
  rw[all_cons,cj]at h1 h2;have e1:∀(z:PV) (zs:List PV) (w:List Int),(z::zs).flatMap (fun x=>1::code n x)++[0]++w=1::(code n z++(zs.flatMap (fun x=>1::code n x)++[0]++w)):=fun z zs w=>by simp
  rw[e1,e1,fE,ao rfl];unfold eE at h;cases e:cN x y with
  |true=>
   rw[ao e]at h;have exy:=KY h1.1 h2.1 e;subst exy;rw[DQ,E3 ih r r' h1.2 h2.2 h];simp only[dR,e,Bool.true_and]
  |false=>
   rw[ai (by rw[e];exact ax)]at h;rw[ih _ _ h1.1 h2.1 h,ai (by rw[e];exact ax),ai (by simp[dR,e])]
theorem VH:∀{n:Nat} {p q:PV} {b:Bool} (r r':List Int),rJ n p=true->rJ n q=true->tO n p q=some b->gZ (code n p++r) (code n q++r')=if cN p q=true then gZ r r' else b:=by
 have str:∀{n:Nat} {x y:Str} {b:Bool} (r r':List Int),tO n (.str x) (.str y)=some b->gZ (code n (.str x)++r) (code n (.str y)++r')=if cN (.str x) (.str y)=true then gZ r r' else b:=fun{n x y b} r r' h=>by
  have h:some (decide (x.cps.toList<y.cps.toList))=some b:=by cases n<;>exact h
  cases h;have e1:∀z:Str,code n (.str z)=z.cps.toList.map (fun c:Nat=>(c:Int)+1)++[0]:=fun z=>by cases n<;>rfl
  rw[e1,e1,CV]
  by_cases e:x=y
  .subst e;rw[ao rfl,ao (by simp[cN])]
  .rw[ai (fun z=>e (LY z)),ai (by simpa [cN]using e)]
 have int:∀{n:Nat} {x y:Int} {b:Bool} (r r':List Int),tO n (.int x) (.int y)=some b->gZ (code n (.int x)++r) (code n (.int y)++r')=if cN (.int x) (.int y)=true then gZ r r' else b:=fun{n x y b} r r' h=>by
  have h:some (decide (x<y))=some b:=by cases n<;>exact h
  cases h;have e1:∀z:Int,code n (.int z)=[z]:=fun z=>by cases n<;>rfl
  rw[e1,e1];show gZ (x::r) (y::r')=_;rw[fE]
  by_cases e:x=y
  .subst e;rw[ao rfl,ao (by simp[cN])]
  .rw[ai e,ai (by simpa [cN]using e)]
 intro n
 induction n with
 | zero=>
  intro p q b r r' h1 h2 h;cases p with
  |str x=>cases q with
   |str y=>exact str r r' h
   |_=>cases h
  |int x=>cases q with
   |int y=>exact int r r' h
   |_=>cases h
  |_=>cases q<;>cases h
 | succ n ih=>
  intro p q b r r' h1 h2 h;cases p with
  |str x=>cases q with
   |str y=>exact str r r' h
   |_=>cases h
  |int x=>cases q with
   |int y=>exact int r r' h
   |_=>cases h
  | tup xs=>cases q with
   |tup ys=>
    rw[qS];exact E3 ih r r' h1 h2 h
   |_=>cases h
  |_=>cases q<;>cases h
theorem L7 (ih:∀{p q:PV},tO n p q=some false->tO n q p=some false->cN p q=true) (sym:∀p q:PV,cN p q=cN q p):∀{xs ys:List PV},eE (tO n) xs ys=some false->eE (tO n) ys xs=some false->dR xs ys=true
 |[],[],_,_=>by simp[dR]
 |[],_::_,h,_=>by cases h
 |_::_,[],_,h=>by cases h
 | x::xs,y::ys,h,h'=>by
  unfold eE at h h';rw[sym y x]at h';cases e:cN x y with
  |true=>
   rw[ao e]at h h';simp only[dR,e,Bool.true_and];exact L7 ih sym h h'
  |false=>
   rw[ai (by rw[e];exact ax)]at h h';rw[ih h h']at e;cases e
mutual
theorem K0:∀p q:PV,cN p q=cN q p
 | .bG,q=>by cases q<;>simp[cN]
 | .bl a,q=>by cases q<;>simp only[cN]<;>(rw[Bool.eq_iff_iff,beq_iff_eq,beq_iff_eq];exact eq_comm)
 | .int a,q=>by cases q<;>simp only[cN]<;>(rw[Bool.eq_iff_iff,beq_iff_eq,beq_iff_eq];exact eq_comm)
 | .str a,q=>by cases q<;>simp only[cN]<;>(rw[Bool.eq_iff_iff,beq_iff_eq,beq_iff_eq];exact eq_comm)
 | .ty a,q=>by cases q<;>simp[cN]
 | .aZ a,q=>by cases q<;>simp[cN]
 | .tup xs,q=>by
  cases q with
  |tup ys=>simp only[cN];exact y9 xs ys
  |_=>simp[cN]
 | .lst xs,q=>by
  cases q with
  |lst ys=>simp only[cN];exact y9 xs ys
  |_=>simp[cN]
theorem y9:∀xs ys:List PV,dR xs ys=dR ys xs
 |[],ys=>by cases ys<;>simp[dR]
 |x::xs,[]=>by simp[dR]
 |x::xs,y::ys=>by simp only[dR];rw[K0 x y,y9 xs ys]
end
theorem tri:∀{n:Nat} {p q:PV},tO n p q=some false->tO n q p=some false->cN p q=true:=by
 have str:∀{x y:Str},¬x.cps.toList<y.cps.toList->¬y.cps.toList<x.cps.toList->cN (.str x) (.str y)=true:=fun h h'=>by
  have e:=List.le_antisymm (not_lt.mp h') (not_lt.mp h);rw[LY e];simp[cN]
 have int:∀{x y:Int},¬x<y->¬y<x->cN (.int x) (.int y)=true:=fun h h'=>by
  have e:_=_:=Int.le_antisymm (Int.not_lt.mp h') (Int.not_lt.mp h);rw[e];simp[cN]
 intro n
 induction n with
 | zero=>
  intro p q h h';cases p with
  |str x=>cases q with
   |str y=>exact str (fz (Option.some.inj h)) (fz (Option.some.inj h'))
   |_=>cases h
  |int x=>cases q with
   |int y=>exact int (fz (Option.some.inj h)) (fz (Option.some.inj h'))
   |_=>cases h
  |_=>cases q<;>cases h
 | succ n ih=>
  intro p q h h';cases p with
  |str x=>cases q with
   |str y=>exact str (fz (Option.some.inj h)) (fz (Option.some.inj h'))
   |_=>cases h
  |int x=>cases q with
   |int y=>exact int (fz (Option.some.inj h)) (fz (Option.some.inj h'))
   |_=>cases h
  |tup xs=>cases q with
   |tup ys=>rw[qS];exact L7 ih K0 h h'
   |_=>cases h
  |_=>cases q<;>cases h
noncomputable def cW (n:Nat) (ps:List PV):Bool:=ps.all fun p=>rJ n p && ps.all fun q=>(tO n p q).isSome
noncomputable abbrev vH:KeyOrd:=af1 JK
noncomputable def o4 (n:Nat) (a b:PV):Bool:=!gZ (code n b) (code n a)
noncomputable def wK (n:Nat) (ps:List PV):List PV:=ps.mergeSort (o4 n)
theorem uZ (a b c:PV) (h1:o4 n a b=true) (h2:o4 n b c=true):o4 n a c=true:=by
 unfold o4 at*;rw[not_eq_true']at*;exact KeyOrd.kle_trans (O:=vH) h1 h2
theorem vR {n:Nat} (a b:PV):(o4 n a b||o4 n b a)=true:=by
 unfold o4;rcases fW (A:=vH) (code n a) (code n b)with⟨x,y⟩|⟨x,y⟩|x
 .rw[show gZ (code n b) (code n a)=false from y];rfl
 .rw[show gZ (code n a) (code n b)=false from y];simp
 .rw[x,show gZ (code n b) (code n b)=false from vH.irrefl _];rfl
theorem dI (n:Nat) (ps:List PV):(wK n ps).Perm ps:=List.mergeSort_perm ps (o4 n)
theorem iR (n:Nat) (ps:List PV):(wK n ps).Pairwise fun a b=>o4 n a b=true:=List.pairwise_mergeSort uZ vR ps
theorem qE:∀{a b:List PV},a.Pairwise (fun x y=>o4 n x y=true)->b.Pairwise (fun x y=>o4 n x y=true)->a.Perm b->(∀x∈a,∀y∈a,o4 n x y=true->o4 n y x=true->x=y)->a=b
 |[],b,_,_,p,_=>List.Perm.nil_eq p
 |x::a,[],_,_,p,_=>absurd p.symm.nil_eq (by simp)
 | x::a,y::b,ha,hb,p,an=>by
  have hx:=(iu.mp ha).1;have hy:=(iu.mp hb).1;have e:x=y:=by
   rcases bw.mp (p.mem_iff.mp bh)with z|z
   .exact z
   .rcases bw.mp (p.mem_iff.mpr bh)with w|w
    .exact w.symm
    .exact an x bh y (ba _ w) (hx y w) (hy x z)
  subst e;rw[qE (iu.mp ha).2 (iu.mp hb).2 p.cons_inv fun u hu v hv=>an u (ba _ hu) v (ba _ hv)]
theorem uI (h:cW n ps=true) {p q:PV} (hp:p∈ps) (hq:q∈ps):tO n p q=some (gZ (code n p) (code n q)):=by
 have a:=bg.mp h p hp;have b:=bg.mp h q hq;rw[cj]at a b;have c:=bg.mp a.2 q hq;obtain⟨v,e⟩:=jy.mp c;have c':=bg.mp b.2 p hp;obtain⟨v',e'⟩:=jy.mp c';have k:=VH [] [] a.1 b.1 e;rw[df,df]at k;rw[e,k];cases z:cN p q with
 |false=>rw[ai ax]
 | true=>
  rw[ao rfl];have epq:=KY a.1 b.1 z;subst epq;rw[e]at e';cases e';show some v=some false;have irr:∀{m:Nat} {p:PV} {v:Bool},rJ m p=true->tO m p p=some v->v=false:=by
   intro m p v hp h;cases v with
   |false=>rfl
   | true=>
    exfalso;cases m with
    |zero=>
     cases p with
     |str x=>exact absurd (av (Option.some.inj h)) (List.lt_irrefl _)
     |int x=>exact absurd (av (Option.some.inj h)) (by omega)
     |_=>cases h
    | succ m=>
     cases p with
     |str x=>exact absurd (av (Option.some.inj h)) (List.lt_irrefl _)
     |int x=>exact absurd (av (Option.some.inj h)) (by omega)
     | tup xs=>
      have key:∀{l:List PV},l.all (rJ m)=true->eE (tO m) l l=some false:=by
       intro l
       induction l with
       |nil=>intro _;rfl
       |cons x l ih=>
        intro hl;rw[all_cons,cj]at hl;unfold eE;rw[ao (z6 hl.1)];exact ih hl.2
      have:=key (show xs.all (rJ m)=true from hp);rw[show eE (tO m) xs xs=some true from h]at this;cases this
     |_=>cases h
  rw[irr a.1 e]
theorem pR (h:cW n ps=true) {p q:PV} (hp:p∈ps) (hq:q∈ps) (h1:o4 n p q=true) (h2:o4 n q p=true):p=q:=by
 have a:=bg.mp h p hp;have b:=bg.mp h q hq;rw[cj]at a b;unfold o4 at h1 h2;rw[not_eq_true']at h1 h2;refine KY a.1 b.1 (tri (n:=n) ?_ ?_)
 .rw[uI h hp hq,h2]
 .rw[uI h hq hp,h1]
section
variable {X:Cx} {k:Nat}
def JE (K:Frag):List V->Hp->VK->Prop:=fun xs H Q=>∃p ys ps b,xs=[.ref p]/\gE K H p ys/\bI K cY H ps ys/\ys.length<64/\(∀x∈ps,pJ b x=true)/\cW 3 ps=true/\
 ∀l (ix:List Nat),ix.Perm (List.range ps.length)->(ix.map fun i=>ps.getD i .bG).Pairwise (fun a b=>o4 3 a b=true)->H l=none->Q (.ref l) (upd H l (.lst (ix.map fun i=>ys.getD i .bG)))
theorem BD {b:Bool}:∀{ps:List PV} {vs:List Value},bV s.heap ps vs->(∀x∈ps,pJ b x=true)->∃fs,KatTups s.heap vs fs/\fs.length=vs.length/\∀v∈fs,(∃x t,b=true/\v= .str x t)\/ ∃x t,b=false/\v= .int x t
 |[],_,.nil,_=>⟨[],.nil,rfl,fun _ h=>nomatch h⟩
 | p::ps,_,.cons l r,h=>by
  obtain⟨fs,h1,h2,h3⟩:=BD r fun z hz=>h z (ba _ hz)
  have hp:=h p bh;cases l with
  | tup t1 r1=>
   obtain⟨o,g1,g2,m,g3⟩:=t1;cases r1 with
   |nil=>cases hp
   | cons a1 a2=>
    cases a1 with
    |str x t=>
     refine⟨.str x t::fs,.cons g1 g2 g3 (by simp) h1,by rw[length_cons,length_cons,h2],fun v hv=>?_⟩;rcases bw.mp hv with e|e
     .exact .inl ⟨x,t,hp,e⟩
     .exact h3 v e
    |int x t=>
     refine⟨.int x t::fs,.cons g1 g2 g3 (by simp) h1,by rw[length_cons,length_cons,h2],fun v hv=>?_⟩;rcases bw.mp hv with e|e
     .exact .inr ⟨x,t,by simpa [pJ]using hp,e⟩
     .exact h3 v e
    |_=>cases hp
  |_=>cases hp
theorem RH {P:Program} {b:Bool} {vs:List Value} (hL:bV s.heap ps vs) (hu:A.units+2<cLine) (led:∀x∈ps,pJ b x=true) (ok:∀x∈ps,i4 3 x=true) (cmp:cW 3 ps=true) (h2:2<=vs.length):
  DV P w A vs (fun p=>oM vH (fun i=>code 3 (ps.getD i .bG)) p vs.length) s:=by
 have hl:=hL.length;obtain⟨fs,k1,k2,k3⟩:=BD hL led;refine⟨tuples' (Value.type (acR b) !=Value.type "tuple"),fun Q E q=>kat_kind k1 (by omega) (fun v hv=>?_) (by cases b<;>decide) q,fun G hG=>vL.run (n:=vs.length) (ans:=LH vH (fun i=>code 3 (ps.getD i .bG))) (fun i j C hi hj hC=>?_) (fun p h1 h2=>hG p h1 h2) (VN (by omega)) (acF (by omega))⟩
 .rcases k3 v hv with⟨x,t,rfl,rfl⟩|⟨x,t,rfl,rfl⟩
  .exact Looks.of_pure rfl
  .exact Looks.of_pure rfl
 .have e1:ps[i]? =some ps[i]:=aj (by omega);have e2:ps[j]? =some ps[j]:=aj (by omega);refine agX (n:=2) hL hu led ok e1 e2 (uI cmp (getElem_mem _) (getElem_mem _)) ?_;have hC:C (vH.blt (code 3 (ps.getD i .bG)) (code 3 (ps.getD j .bG))) _:=hC;rw[cc,e1,cc,e2]at hC;exact hC
theorem Y6 {p:Array Nat} {m:Nat} (h:oM vH (fun i=>code 3 (ps.getD i .bG)) p m) (hm:p.toList.length=m):(p.toList.map fun i=>ps.getD i .bG).Pairwise (fun a b=>o4 3 a b=true):=by
 rw[List.pairwise_iff_getElem];intro i j hi hj hij;rw[ag]at hi hj;have h:=h i j (by omega) (by omega);rw[getElem_map,getElem_map];have ky:∀(i:Nat) (hi:i<p.toList.length),Ky vH (fun i=>code 3 (ps.getD i .bG)) p i=code 3 (ps.getD p.toList[i] .bG):=fun i hi=>by
  unfold Ky;rw[Array.getD_eq_getD_getElem?,<-getElem?_toList,aj hi];rfl
 rw[ky i hi,ky j hj]at h;show(!gZ _ _)=true;rw[not_eq_true'];exact h
theorem ac9 (K:Frag) (hr:dW k X.A) (hK:X.K=K:=by rfl):cK X (.builtin "sorted") (JE K):=by
 subst hK;intro zq s σ H xs us Q I r ⟨p,ys,ps,b,e,hq,rp,h64,led,cmp,q⟩;subst e;obtain⟨u,rfl,rx⟩:=vals1 r;cases rx;obtain⟨vs,rv,pl,hz⟩:=I.list hq;have hlen:=rv.length;have hpl:=rp.length;have ok:∀x∈ps,i4 3 x=true:=fun x hx=>by
  have:=bg.mp cmp x hx;rw[cj]at this;exact DK this.1
 refine GU (R:=fun p=>oM vH (fun i=>code 3 (ps.getD i .bG)) p vs.length) pl.isList (by omega) (fun l2 h' kp=>?_) (fun h2 i j a b=>?_) fun out p h1 h2 h3=>?_
 .have I':=I.kept (t':=s.toks) kp;have hL:bV h' ps vs:=bI.lies I' (n:=3) (bg.mpr ok) rp rv;exact RH (s:={s with heap:=h'}) hL (by have:=hr.un;show X.A.units+1+1+2<_;omega) led ok cmp l2
 .rw[show i=j by omega];exact ij _
 .have hp:p.toList.Perm (List.range vs.length):=by simpa using Array.perm_iff_toList_perm.mp h1
  have hlt:∀i∈p.toList,i<vs.length:=fun i hi=>mem_range.mp (hp.mem_iff.mp hi)
  have z2:=yF rv p.toList hlt;rw[<-h3]at z2;have hpz:p.toList.length=vs.length:=by rw[hp.length_eq,cw]
  obtain⟨c,hat⟩:=sortedAll_at s.heap vs out;refine⟨.ref (s.heap.objs.size+1),_,I.laid (t':=s.toks) (o:=.lst (p.toList.map fun i=>ys.getD i .bG)) (fun b o e=>sortedAll_old e) (jg _) ⟨by rw[ag,hpz,<-hlen];exact hz,out.toList,c,z2,hat⟩,rfl,q _ _ (by rw[hpl,hlen];exact hp) (Y6 h2 hpz) (I.bR.fresh (jg _))⟩
end
section
variable {K:Frag}
noncomputable def zG:List PV->Option Bv
 |[.lst ps]=>bD (decide (ps.length<64) && ((ps.all (pJ true)||ps.all (pJ false)) && cW 3 ps)) (some (.new (.lst (wK 3 ps))))
 |_=>none
theorem A6 {Z:aJ} {H:Hp} {ys:List V} (r:bI K Z H ps ys):∀{ix:List Nat},(∀i∈ix,i<ps.length)->bI K Z H (ix.map fun i=>ps.getD i .bG) (ix.map fun i=>ys.getD i .bG)
 |[],_=>.nil
 |i::ix,h=>by
  have hi:=h i bh;have e:=aj hi;obtain⟨v,ev,rv⟩:=r.get e;refine .cons ?_ (A6 r fun j hj=>h j (ba _ hj));dsimp only;rw[cc,cc,e,ev];exact rv
theorem QW:iA K (JE K) zG:=by
 intro Z H vs qs b Q hp h kk;unfold zG at h;split at h
 .rename_i ps;obtain⟨c,h⟩:=aL h;cases h;rw[cj,cj]at c;obtain⟨c1,c2,c3⟩:=c;obtain⟨v,rfl,hv⟩:=hp.one;obtain⟨a,ys,rfl,ha,ra⟩:=hv.rA;have led:∃b,∀x∈ps,pJ b x=true:=by
   rcases Bool.or_eq_true_iff.mp c2 with z|z
   .exact⟨true,fun x hx=>bg.mp z x hx⟩
   .exact⟨false,fun x hx=>bg.mp z x hx⟩
  obtain⟨b,led⟩:=led;refine⟨a,ys,ps,b,rfl,ha.sq,ra.aK (.less fun _ z=>z.elim),by rw[<-ra.length];exact av c1,led,c3,fun l ix h1 h2 hl=>?_⟩;have hix:∀i∈ix,i<ps.length:=fun i hi=>mem_range.mp (h1.mem_iff.mp hi)
  have pm:(ix.map fun i=>ps.getD i .bG).Perm ps:=by
   have:=h1.map fun i=>ps.getD i PV.bG
   have e:(List.range ps.length).map (fun i=>ps.getD i PV.bG)=ps:=by
    apply ext_getElem
    .simp
    .intro i a1 a2;simp[aj a2]
   rw[e]at this;exact this
  have es:wK 3 ps=ix.map fun i=>ps.getD i .bG:=
   qE (iR 3 ps) h2 ((dI 3 ps).trans pm.symm) fun x hx y hy=>pR c3 ((dI 3 ps).mem_iff.mp hx) ((dI 3 ps).mem_iff.mp hy)
  rw[es]at kk;exact kk _ _ (aT.upd hl) (DJ hl (A6 ra hix))
 .cases h
end
end Mr
namespace Mr
open PySem PySem.Spec L2 PyProof.Rows
variable {X:Cx} {e:En} {fa:FA} {ta:TA}
section
variable {K:Frag}
def QU (K:Frag):List V->Hp->VK->Prop:=fun xs H Q=>JG K xs H Q\/ (J0 xs H Q\/ JE K xs H Q)
theorem BU {k:Nat} (K:Frag) (hr:dW k X.A) (hK:X.K=K:=by rfl) (hc:X.calm=true:=by rfl):cK X (.builtin "sorted") (QU K):=cK.or (N4 K hK) (cK.or (afB hc) (ac9 K hr hK))
noncomputable def fM:List PV->Option Bv:=fun p=>(zR p).or ((sC p).or (zG p))
theorem HD:iA K (QU K) fM:=iA.or QZ (iA.or T8 QW)
end
section
variable {K:Frag}
noncomputable def mulC (i j:Int):Bool:=decide (Builtin.Int.intTooBig (Builtin.Int.intBits i+Builtin.Int.intBits j)=false)
theorem C9:kA X (binaryOp .Mult) (rI IntMulOk fun i j=>.int (i*j)):=opI fun _ _ _ _ _ _ _ hc q=>mul_int q hc
noncomputable def wR:PV->PV->Option Bv:=gI mulC fun i j=>.int (i*j)
theorem LJ:eF K (rI IntMulOk fun i j=>.int (i*j)) wR:=UA (fun i j h=>by
 have h:=av h;unfold IntMulOk;rw[h,Bool.and_false];exact ax) fun _ _ _ _=>.int _
end
section
variable {K:Frag}
noncomputable def inR (k:Int):Bool:= @decide (-1000000000<=k/\k<1000000000) (Classical.propDecidable _)
theorem jG {k:Int} (h0: -1000000000<=k) (h1:k<1000000000):inR k=true:= @decide_eq_true _ (Classical.propDecidable _) ⟨h0,h1⟩
noncomputable def wZ (fa:FA):FI:=fun _ e=>bE (fa e) fun bs e1=>match bs with
 |[.val (.int j)]=>bD (inR j) (some ((List.range j.toNat).map (fun k:Nat=>.int (0+(k:Int))),e1))
 |_=>none
theorem VM (h:vS K ta fa):w9 K (ZN ta) (wZ fa):=by
 intro st O M W L σ H e e' ps R o he hf q;obtain⟨x,e1,f1,hf⟩:=aM hf;refine h O M W L σ H e e1 x _ o he f1 fun vs H1 k1 en rv=>?_
 split at hf
 .rename_i j;obtain⟨c,hf⟩:=aL hf;have c:= @av _ (Classical.propDecidable _) c;cases hf;cases rv with
  |cons h r=>
   cases r;cases h;exact⟨j,rfl,by omega,by omega,q _ H1 k1 en fun Wr hw _=>QV⟩
 .cases hf
noncomputable def abR (fa:FA):FI:=fun _ e=>bE (fa e) fun bs e1=>match bs with
 |[.val (.int i),.val (.int j)]=>bD (inR i && inR j) (some ((List.range (j - i).toNat).map (fun k:Nat=>.int (i+(k:Int))),e1))
 |_=>none
theorem WY (h:vS K ta fa):w9 K (YO ta) (abR fa):=by
 intro st O M W L σ H e e' ps R o he hf q;obtain⟨x,e1,f1,hf⟩:=aM hf;refine h O M W L σ H e e1 x _ o he f1 fun vs H1 k1 en rv=>?_
 split at hf
 .rename_i i j;obtain⟨c,hf⟩:=aL hf;rw[cj]at c;have c1:= @av _ (Classical.propDecidable _) c.1;have c2:= @av _ (Classical.propDecidable _) c.2;cases hf;cases rv with
  | cons h r=>
   cases r with
   |cons h' r=>
    cases r;cases h;cases h';exact⟨i,j,rfl,⟨by omega,by omega,by omega,by omega⟩,q _ H1 k1 en fun Wr hw _=>QV⟩
 .cases hf
theorem abX {st:Nat->Bool}:wZ fa st e=bE (fa e) fun bs e1=>match bs with
 |[.val (.int j)]=>bD (inR j) (some ((List.range j.toNat).map (fun k:Nat=>.int (0+(k:Int))),e1))
 |_=>none:=rfl
theorem ab5 {st:Nat->Bool}:abR fa st e=bE (fa e) fun bs e1=>match bs with
 |[.val (.int i),.val (.int j)]=>bD (inR i && inR j) (some ((List.range (j - i).toNat).map (fun k:Nat=>.int (i+(k:Int))),e1))
 |_=>none:=rfl
end
end Mr
namespace Mr
open PySem L2
variable {fa:FE} {f:FN} {α β:Type}
section
variable {K:Frag}
theorem aQ.given {M L:aJ} {W:WS} {H H':Hp} {σ:St} {e:En} {l:Addr} (h:aQ K (aW M (aW L (one l))) W (aW L (one l)) H σ e) (f:SR σ e l) (nL:¬L l) (nW:∀i,¬W i l) (kp:∀a o,a≠l->H a=some o->H' a=some o) (kt:∀a xs,H a=some (.tup xs)->H' a=some (.tup xs)):aQ K (aW M L) W L H' σ e:=by
 have k:cZ (aW M (aW L (one l))) (aW M L) H H':=⟨kt,fun a o q n=>⟨kp a o (fun z=>n (.inr (.inr z))) q,fun z=>n (z.elim .inl fun z=>.inr (.inl z))⟩⟩;refine⟨h.len,fun i sl q=>?_,h.uU⟩;obtain⟨v,h1,h2⟩:=h.at' i sl q;refine⟨v,h1,?_⟩;cases sl with
 |val p=>exact Rep.aK k h2
 |own p=>obtain⟨a,e,w,c⟩:=h2;exact⟨a,e,w,c.aK k fun o q=>kp a o (fun z=>nW i (z▸w)) q⟩
 | loc p=>
  obtain⟨a,e,w,c⟩:=h2;have na:a≠l:=fun z=>by
   subst z e;exact f i _ q rfl h1
  exact⟨a,e,w.elim id fun z=>absurd z na,c.aK k fun o q=>kp a o na q⟩
 |bor p=>
  obtain⟨a,e,c⟩:=h2;refine⟨a,e,?_⟩;cases c with
  |lst e od n m r=>exact .lst (e.elim (fun e=>.inl (kp _ _ (fun z=>m (.inr z)) e)) fun⟨u,e⟩=>.inr ⟨u,kp _ _ (fun z=>m (.inr z)) e⟩) od n (fun z=>m (.inl z)) (r.aK k)
  |fL e r=>exact .fL e (r.aK k)
  |aZ e od n m kk r=>exact .aZ (e.elim (fun e=>.inl (kp _ _ (fun z=>m (.inr z)) e)) fun⟨u,e⟩=>.inr ⟨u,kp _ _ (fun z=>m (.inr z)) e⟩) od n (fun z=>m (.inl z)) kk (r.aK k)
noncomputable def JQ (f:FN) (fa:FE) (i:Nat):FE:=fun e=>bE (fa e) fun x e1=>match x with
 | .new p=>bO (rd e1 i) fun q=>match q with
  | .int k=>bO (f [p,.int k]) fun rq=>some (.val rq.1,e1)
  |_=>none
 |_=>none
theorem NU {ta:TE} {E:XK} (i:Nat) (ha:Ref K ta fa):Ref K (BY (WR K [.m,.b] false f) [] E (eI ta (eI (yX i) tN))) (JQ f fa i):=by
 intro O M W L σ H e e' b Q o he hf q;obtain⟨x,e1,f1,hf⟩:=aM hf;cases x with
 | new p=>
  obtain⟨qv,g1,hf⟩:=aF hf;cases qv with
  | int k=>
   obtain⟨⟨r,qs⟩,g2,hf⟩:=aF hf;cases hf;refine ha O M W L σ H e _ _ _ o he f1 fun v1 H1 k1 r1 fr=>?_
   have o1:=o.keep k1.cD;obtain⟨a,rfl,nO,nL,en,hfree,ct⟩:=r1;have hfr:H a=none:=fr a rfl;have en0:=en.ZA hfree;have g1':=g1;unfold Mr.rd at g1';cases c:e'[i]? with
   |none=>rw[c]at g1';cases g1'
   | some s=>
    cases s with
    |none=>rw[c]at g1';cases g1'
    | some s=>
     obtain⟨u,hs,_⟩:=en0.at' i s c;have hu:=(en0.rd g1 hs).int;subst hu;refine⟨.int k,hs,?_⟩;show WR K [.m,.b] false f ([.ref a,.int k]++[]) H1 Q E;rw[df];obtain⟨ob,hob,nt⟩:=ct.there;have ws:∀j b,rV [.m,.b] [.ref a,.int k] H1 j b->b=a:=fun j b ⟨h1,h2⟩=>by
      match j,h1,h2 with
      |0,h1,h2=>cases h2;rfl
      |1,h1,h2=>cases h1
     refine⟨aW M (aW L (one a)),[p,.int k],r,qs,fun b z=>?_,rfl,rfl,fun j kk p' v h1 h2 h3=>?_,fun j1 j2 hne h1 h2=>?_,fun j b h=>?_,g2,fun v H' kc res=>?_⟩
     .rcases z with z|z|z
      .exact o1.old b (o1.mo b z)
      .exact(o1.loc b z).1
      .rw[show b=a from z,hob];exact fun z=>nomatch z
     .match j,h1,h2,h3 with
      |0,h1,h2,h3=>cases h1;cases h2;cases h3;exact⟨a,rfl,⟨rfl,rfl⟩,ct⟩
      |1,h1,h2,h3=>cases h1;cases h2;cases h3;exact Rep.int k
     .match j1,j2,h1,h2 with
      |0,0,_,_=>exact absurd rfl hne
      |0,1,_,h2=>cases h2
      |1,_,h1,_=>cases h1
     .exact .inr (.inr (ws j b h))
     .have kp:∀b u,b≠a->H1 b=some u->H' b=some u:=fun b u nb e=>kc.obj b u e (fun⟨j,w⟩=>nb (ws j b w)) fun z=>z
      have kout:cA W L H H':=⟨fun b u e n m=>kp b u (fun z=>by rw[z,hfr]at e;cases e) (k1.obj b u e n m),fun b xs e=>kc.tup b xs (k1.tup b xs e),fun b h=>kc.cD b (k1.cD b h)⟩;exact q v H' kout ⟨en.given hfree nL (fun j w=>nO (o1.mo a (o1.wm j a w))) kp kc.tup,res.1.aK (.less fun b z=>z.elim .inl fun z=>.inr (.inl z))⟩ trivial
  |_=>cases hf
 |_=>cases hf
theorem QL {i:Nat} {e:En}:JQ f fa i e=bE (fa e) fun x e1=>match x with
 | .new p=>bO (rd e1 i) fun q=>match q with
  | .int k=>bO (f [p,.int k]) fun rq=>some (.val rq.1,e1)
  |_=>none
 |_=>none:=rfl
end
theorem XE {k:α->Option β}:bO (none:Option α) k=none:=rfl
theorem XO {k:α->En->Option β}:bE (none:Option (α×En)) k=none:=rfl
end Mr
namespace L2
open PySem PySem.Spec PyProof.Rows PySem.W
section
variable {prog:Program} {w:World} {A:Around} {E:Value->Shared->Prop} {s:Shared}
theorem o6.trans {s s1 s2:Shared} (a:o6 s s1) (b:o6 s1 s2):o6 s s2:=by
 obtain⟨h1,t1,d1,rfl,z1,k1⟩:=a;obtain⟨h2,t2,d2,rfl,z2,k2⟩:=b;exact⟨h2,t2,d2,rfl,gf z1 z2,fun x o e=>k2 x o (k1 x o e)⟩
theorem w5 {v:Value} {Ok:List Value->Shared->Prop} {R:List Value->Array Nat->Prop} {Q:Value->Shared->Prop}
  (hcol:∀(E':Value->Shared->Prop) (Q':List Value->Shared->Prop),(∀vs s1,o6 s s1->Ok vs s1->Q' vs s1)->wpAny (model prog w) A.in1 (collect v) Q' E' s) (h64:∀vs s1,Ok vs s1->vs.length<64)
  (hk:∀vs s1,o6 s s1->Ok vs s1->2<=vs.length->∀h':Heap,(∀b o,s1.heap.get? b=some o->h'.get? b=some o)->DV prog w A.in1.in1 vs (R vs) {s1 with heap:=h'}) (hR:∀vs s1,Ok vs s1->vs.length<2->R vs (List.range vs.length).toArray)
  (hq:∀(a:Addr) s1 s2 (out:Array Value) c vs (p:Array Nat),o6 s s1->Ok vs s1->o6 s1 s2->s1.heap.objs.size<=a->s2.heap.get? a=some (seqObj "list" out c)->sP vs.length p->R vs p->out.toList=p.toList.map (fun i=>vs.getD i Value.none)->Q (.ref a) s2):
  wpAny (model prog w) A (call (.builtin "sorted") [v]) Q E s:=by
 refine Calls.call_function_entry kind_sorted plain_sorted entry_sorted (args_sorted1 _) ?_;unfold Builtin.«sorted»;refine ae (m:=checkCount "sorted" 1 1 _) (au (ae (hcol _ _ fun vs s1 g ok=>?_)));have hl:=h64 vs s1 ok;refine ae (wpAny_newList ?_ (by simp only[jc];omega));have e1:(s1.heap.push (seqObj "list" vs.toArray 0)).get? s1.heap.objs.size=some (seqObj "list" vs.toArray 0):=bz _ rfl;refine ae (gd (gv slot_list_sort ⟨_,e1,rfl⟩ entry_list_sort ?bd (args_list_sort _)))
 case bd=>
  refine B0 e1 hl (fun l2 h' kp=>hk vs s1 g ok l2 h' fun b o gb=>kp b o (cn (cm gb)) (ah _ gb)) (hR vs s1 ok) fun out p p1 p2 p3=>⟨_,rfl,au ⟨_,rfl,?_⟩⟩
  obtain⟨c,hc⟩:=sortedHeap_at (out:=out) e1;refine hq s1.heap.objs.size s1 _ out c vs p g ok ?_ (bc _) hc p1 p2 p3;refine⟨_,s1.toks,s1.drawn,rfl,gx (cm hc),fun b o e=>?_⟩;have hb:=cm e;rw[sortedHeap_old (cn hb) (by rw[size_push'];exact dw hb)];exact ah _ e
theorem AN {K:Type} [DecidableEq K] {knd:KeyKind prog w K} {r d:Addr} {kvs:List (K×Value)} {ep:Nat} {Q:List Value->Shared->Prop} (hh:A.handled=none) (hv:s.heap.IsItemsView r d) (hm:s.heap.DictAt knd d kvs ep) (hn:kvs.length<=sizeLine)
  (hq:∀s1 (as:List Addr),o6 s s1->as.length=kvs.length->KdxG knd kvs s.heap.objs.size s1.heap as->Q (as.map Value.ref) s1):wpAny (model prog w) A (collect (.ref r)) Q E s:=by
 have hr:r<s.heap.objs.size:=let⟨_,ho,_⟩:=hv;cm ho
 have hd:d<s.heap.objs.size:=hm.lt_size;have fin:∀(h':Heap) (tk:Nat) (acc:Array Value) (c:Nat) (as:List Addr),(∀b o,s.heap.get? b=some o->h'.get? b=some o)->
   h'.get? s.heap.objs.size=some {cls:=.type "list",dict:=none,data:=.seq acc c,slots:= #[]}->as.length=kvs.length->KdxG knd kvs s.heap.objs.size h' as->acc.toList=as.map Value.ref->
   wpAny (model prog w) A (match Value.ref s.heap.objs.size with
    | Value.ref a=>do
     match(<-load a).data with
      |Data.seq xs _=>pure xs.toList
      |_=>unsupported "internal:collect"
    |_=>unsupported "internal:collect") Q E {s with heap:=h',toks:=tk}:=fun h' tk acc c as kp hS hl hG ea=>by
  show wpAny _ A (load s.heap.objs.size>>=_) _ _ _;refine ae (wpAny_load hS (au ?_));show Q acc.toList _;rw[ea];exact hq _ as ⟨h',tk,s.drawn,rfl,gx (cm hS),kp⟩ hl hG
 unfold collect;refine ae (wpAny_runValue (gq F.entry_proto_collect ?_));rw[ff F.plain_proto_collect _];refine ae (m:=newList []) (dk ?_);refine au ⟨gV F.plain_list_iadd _,gq F.entry_list_iadd ?_⟩;rw[ff F.plain_list_iadd _];have e0:(s.heap.push {cls:=.type "list",data:=.seq ([]:List Value).toArray}).get? s.heap.objs.size=some {cls:=.type "list",data:=.seq #[] 0}:=bz _ rfl;have key:=kdx_extend (A:=A) (knd:=knd) (kvs:=kvs) (ep:=ep) (s:={s with heap:=s.heap.push {cls:=.type "list",data:=.seq ([]:List Value).toArray}}) (R:=fun rs s'=>∃h' tk acc c as,rs= .ok (.ret (.ref s.heap.objs.size))/\s'={s with heap:=h',toks:=tk}/\(∀b o,s.heap.get? b=some o->h'.get? b=some o)/\h'.get? s.heap.objs.size=some {cls:=.type "list",dict:=none,data:=.seq acc c,slots:= #[]}/\as.length=kvs.length/\KdxG knd kvs s.heap.objs.size h' as/\acc.toList=as.map Value.ref)
  hh (let⟨o,ho,x⟩:=hv;⟨o,ah _ ho,x⟩) (hm.push _) s.heap.objs.size (iw hr) (cn hd) (.ref s.heap.objs.size) 0 e0
  (fun h' tk acc c as kp hS hl hG ea=>⟨h',tk,acc,c,as,rfl,rfl,fun b o e=>kp b o (cn (cm e)) (ah _ e),hS,hl,hG.low (by rw[ig];exact jg _),ea⟩) hn
 refine dy key (fun f s' h=>?_) fun e s' h=>?_
 .cases f with
  |done f=>
   obtain⟨h',tk,acc,c,as,e1,rfl,kp,hS,hl,hG,ea⟩:=h;cases e1;exact fin h' tk acc c as kp hS hl hG ea
  |again c'=>
   refine⟨h.1,codeAny_mono h.2 fun rs s2 hr=>?_⟩;obtain⟨h',tk,acc,c,as,rfl,rfl,kp,hS,hl,hG,ea⟩:=hr;exact fin h' tk acc c as kp hS hl hG ea
 .obtain⟨h',tk,acc,c,as,e1,_⟩:=h;cases e1
theorem Inv.aeN {X:Cx} {zq:List (Addr×Obj)} {σ:L2.St} {H H':Hp} {s s':Shared} (I:Inv X zq σ H s) (g:o6 s s') (he:∀b,b<s.heap.objs.size->H' b=H b) (new:∀a o,s.heap.objs.size<=a->H' a=some o->dQ X.prog X.w H' s'.heap a o):Inv X zq σ H' s':=by
 obtain⟨h',tk,dr,rfl,_,k⟩:=g;have old:∀a o,H a=some o->H' a=some o:=fun a o e=>by rw[he a (I.bR.lt e)];exact e
 refine I.call (g':=s.gens) (d':=dr) (t':=tk) (ch:=[]) ⟨fun b u q _ _ _=>k b u q,fun b u q _ _ _=>⟨u.slots,k b u q⟩,fun b u q n _=>by rw[he b (cm q)];exact n,fun b u q _=>⟨u,k b u q⟩,fun b xs q=>old b _ q,fun b u xs q=>old b _ q,fun b ps q=>⟨#[],by rw[old b _ q];simp⟩⟩ (fun a o e=>?_) I.bare fun _ z=>nomatch z
 by_cases ha:a<s.heap.objs.size
 .rw[he a ha]at e;exact(I.bR a o e).aK (fun c v _ q=>k c v q) (fun c q=>old c _ q) fun c xs q=>old c _ q
 .exact new a o (Nat.le_of_not_lt ha) e
end
section
variable {X:Cx}
noncomputable def US (v d:Addr):HO:=.ext fun h=>h.IsItemsView v d
def JL (to:TE):TE:=fun σ H Q=>to σ H fun x H1=>∃a kvs,x= .ref a/\CB H1 a kvs/\∀v,H1 v=none->Q (.ref v) (upd H1 v (US v a))
theorem GY {o:Expr} {to:TE} {apos cpos:Pos} (ho:PE X o to) (hbase:attributeBase o "items" X.env (eval o X.env)=eval o X.env:=by rfl) (hline:(apos.endLine==cpos.line)=true:=by rfl):
  PE X (.Call (.Attribute o "items" apos) [] [] cpos) (JL to):=by
 intro zq s σ H Q I h;refine wpAny_Call_method0_late hbase hline (cS (ho zq s σ H _ I h) fun v s1 ⟨x,H1,I1,r1,a,kvs,ex,ha,q1⟩=>?_);subst ex;obtain rfl:v=Value.ref a:=r1;obtain⟨hz,hd,vs,rel,dd⟩:=hJ I1.bR ha;refine⟨"dict","dict.items",plainAttrs_dict,PySem.F.slot_dict_items,PySem.F.type_dict_items,dd.typeIs,dd.mapOf.noDict,ip rfl (PySem.evalArgs_none ?_)⟩;refine call_meetsIn PySem.F.slot_dict_items dd.typeIs PySem.F.entry_dict_items (PySem.F.args_dict_items_1 _) (meets_dict_items (bP X.prog X.w) a hd) ⟨⟨vs,dd⟩,?_⟩;have e0:(s1.heap.push {cls:=.type "dict_items",data:=.fields #[.ref a]}).get? s1.heap.objs.size=some {cls:=.type "dict_items",data:=.fields #[.ref a]}:=bz _ rfl;exact⟨.ref s1.heap.objs.size,_,I1.laid (t':=s1.toks) (o:=US s1.heap.objs.size a) (fun b u e=>ah _ e) (bc _) ⟨⟨_,e0,rfl,rfl⟩,⟨_,e0⟩,fun h1 h2 ⟨u,e,c⟩ k=>⟨u,k u e,c⟩⟩,rfl,q1 _ (I1.bR.fresh (bc _))⟩
end
end L2
namespace Mr
open PySem PySem.Spec L2 PyProof.Rows PySem.W
variable {fa:FE} {H:Hp} {Z:aJ}
noncomputable def yW:Key->PV
 | .inl i=>.int i
 | .inr x=>.str x
theorem CF {h:Heap} {k:Key} {v:Value} (e:pC k v=true):Lies h (yW k) v/\RelV (kV k) v:=by
 rcases cE e with⟨i,t,rfl,rfl⟩|⟨x,t,rfl,rfl⟩
 .exact⟨.int i t,t,rfl⟩
 .exact⟨.str x t,t,rfl⟩
noncomputable def bS (kvs:List (Key×PV)):List PV:=kvs.map fun z=>.tup [yW z.1,z.2]
section
variable {X:Cx} {k:Nat}
def SX (K:Frag):List V->Hp->VK->Prop:=fun xs H Q=>∃v a ys kvs b,xs=[.ref v]/\H v=some (US v a)/\CB H a ys/\dE K cY H kvs ys/\kvs.length<64/\(∀x∈bS kvs,pJ b x=true)/\cW 3 (bS kvs)=true/\
 ∀l H' (as:List Addr) (ix:List Nat),aT H H'->(∀(j:Nat) t q,as[j]? =some t->ys[j]? =some q->H' t=some (.tup [kV q.1,q.2]))->as.length=ys.length->ix.Perm (List.range kvs.length)->(ix.map fun i=>(bS kvs).getD i .bG).Pairwise (fun a b=>o4 3 a b=true)->H l=none->H' l=some (.lst (ix.map fun i=>.ref (as.getD i 0)))->Q (.ref l) H'
theorem HM {h:Heap}:∀{ps:List PV} {vs:List Value},ps.length=vs.length->(∀(j:Nat) p v,ps[j]? =some p->vs[j]? =some v->Lies h p v)->bV h ps vs
 |[],[],_,_=>.nil
 |[],_::_,h,_=>by cases h
 |_::_,[],h,_=>by cases h
 |p::ps,v::vs,h,k=>.cons (k 0 p v rfl rfl) (HM (by simpa using h) fun j p v a b=>k (j+1) p v (by simpa using a) (by simpa using b))
theorem sortI (K:Frag) (hr:dW k X.A) (hK:X.K=K:=by rfl) (hc:X.calm=true:=by rfl):cK X (.builtin "sorted") (SX K):=by
 subst hK;intro zq s σ H xs us Q I r ⟨v,a,ys,kvs,b,e,hv,ha,rd,h64,led,cmp,q⟩;subst e;obtain⟨u,rfl,rx⟩:=vals1 r;cases rx;obtain⟨hz,hd,vs,rel,dd⟩:=hJ I.bR ha;obtain⟨ep,dd⟩:=dd.dictAt;have hlen:kvs.length=ys.length:=by have:=dq List.length rd.1;simpa using this.symm
 have hlen2:=rel.len;have ok:∀x∈bS kvs,i4 3 x=true:=fun x hx=>by
  have:=bg.mp cmp x hx;rw[cj]at this;exact DK this.1
 refine w5 (s:=s) (Ok:=fun ws s1=>∃as:List Addr,ws=as.map Value.ref/\as.length=vs.length/\KdxG (bP X.prog X.w) vs s.heap.objs.size s1.heap as) (R:=fun ws p=>oM vH (fun i=>code 3 ((bS kvs).getD i .bG)) p ws.length) (fun E' Q' kk=>?_) ?_ ?_ ?_ ?_
 .exact AN (by exact I.ok.hd hc) (I.bR v _ hv).1 dd (by rw[<-hlen2];exact hz) fun s1 as gr hl g=>kk _ s1 gr ⟨as,rfl,hl,g⟩
 .rintro ws s1 ⟨as,rfl,hl,g⟩;rw[ag];omega
 .rintro ws s1 gr ⟨as,rfl,hl,g⟩ l2 h' kp;have I':Inv X zq σ H {s1 with heap:=h'}:=(I.agA gr).kept (t':=s1.toks) kp;have okv:(kvs.map (·.2)).all (i4 2)=true:=bg.mpr fun p hp=>by
   obtain⟨z,hz,rfl⟩:=bp.mp hp;have:=ok (.tup [yW z.1,z.2]) (bp.mpr ⟨z,hz,rfl⟩);have this:([yW z.1,z.2].all (i4 2))=true:=this;rw[all_cons,all_cons,cj,cj]at this;exact this.2.1
  have lv:bV h' (kvs.map (·.2)) (vs.map (·.2)):=bI.lies I' (n:=2) okv rd.2 rel.vals;have hL:bV h' (bS kvs) (as.map Value.ref):=by
   refine HM (by unfold bS;rw[ag,ag];omega) fun j p v hp hv=>?_
   rw[aq]at hv;obtain⟨t,ht,rfl⟩:=bf.mp hv;unfold bS at hp;rw[aq]at hp;obtain⟨z,hz',rfl⟩:=bf.mp hp;obtain⟨key,kk,x,e1,e2,e3⟩:=g.pairs j t ht;have ek:kk=z.1:=by
    have a1:(vs.map (·.1))[j]? =some kk:=by rw[aq,e1];rfl
    have a2:(kvs.map (·.1))[j]? =some z.1:=by rw[aq,hz'];rfl
    rw[<-rel.keys,rd.1,a2]at a1;exact(Option.some.inj a1).symm
   subst ek;obtain⟨p',h1,h2⟩:=lv.get (show(vs.map (·.2))[j]? =some x by rw[aq,e1];rfl);rw[aq,hz']at h1;cases h1;exact .tup ⟨_,kp _ _ e3,rfl,0,rfl⟩ (.cons (CF (show pC z.1 key=true from e2)).1 (.cons h2 .nil))
  exact RH (s:={s1 with heap:=h'}) hL (by have:=hr.un;show X.A.units+1+1+2<_;omega) led ok cmp l2
 .rintro ws s1 ⟨as,rfl,hl,g⟩ h2 i j a b;rw[show i=j by omega];exact ij _
 .rintro l s1 s2 out c ws p gr ⟨as,rfl,hl,g⟩ g2 hla hat h1 h2 h3;have hp:p.toList.Perm (List.range as.length):=by
   have:=Array.perm_iff_toList_perm.mp h1;rw[ag]at this;simpa using this
  have hlt:∀i∈p.toList,i<as.length:=fun i hi=>mem_range.mp (hp.mem_iff.mp hi)
  have above:∀t∈as,s.heap.objs.size<=t:=fun t ht=>gx (g.above t ht)
  have nl:l∉as:=fun z=>absurd (g.there z) (Nat.not_lt.mpr hla)
  have hls:s.heap.objs.size<=l:=gf gr.size hla
  let H':Hp:=fun x=>if x=l then some (.lst (p.toList.map fun i=>V.ref (as.getD i 0)))else match as.findIdx? (fun t=>t==x)with
   |some j=>(ys[j]?).map fun q=>HO.tup [kV q.1,q.2]
   |none=>H x
  have hl':H' l=some (.lst (p.toList.map fun i=>V.ref (as.getD i 0))):=ao rfl;have hno:∀x,x≠l->x∉as->H' x=H x:=fun x h1 h2=>by
   show(if x=l then _ else _)=_;rw[ai h1];have:as.findIdx? (fun t=>t==x)=none:=List.findIdx?_eq_none_iff.mpr fun t ht=>by
    cases c:t==x with
    |false=>rfl
    |true=>exact absurd (by rw[<-eq_of_beq c];exact ht) h2
   rw[this]
  have hat':∀(j:Nat) t q,as[j]? =some t->ys[j]? =some q->H' t=some (.tup [kV q.1,q.2]):=fun j t q hj hq=>by
   have hm:=ay hj;show(if t=l then _ else _)=_;rw[ai (fun z:t=l=>nl (by rw[<-z];exact hm))];have:as.findIdx? (fun u=>u==t)=some j:=by
    rw[List.findIdx?_eq_some_iff_getElem];obtain⟨hjl,ej⟩:=af.mp hj;refine⟨hjl,by simp[ej],fun i hi=>?_⟩;have:=List.pairwise_iff_getElem.mp g.rise i j (by omega) hjl hi;rw[ej]at this;simpa using cn this
   rw[this];show(ys[j]?).map _=_;rw[hq];rfl
  have same:aT H H':=fun x o e=>by
   have hx:=I.bR.lt e;rw[hno x (fun z:x=l=>absurd (by rw[<-z];exact hx) (Nat.not_lt.mpr hls)) (fun z=>absurd hx (Nat.not_lt.mpr (above x z)))];exact e
  have I2:Inv X zq σ H' s2:=by
   refine I.aeN (gr.trans g2) (fun x hx=>hno x (fun z:x=l=>absurd (by rw[<-z];exact hx) (Nat.not_lt.mpr hls)) (fun z=>absurd hx (Nat.not_lt.mpr (above x z)))) fun x o hx e=>?_
   by_cases hxl:x=l
   .subst hxl;rw[hl']at e;cases e;refine⟨by rw[ag,hp.length_eq,cw,hl,<-hlen2];exact hz,out.toList,c,?_,hat⟩;rw[h3];have:∀(ix:List Nat),(∀i∈ix,i<as.length)->Vals (ix.map fun i=>V.ref (as.getD i 0)) (ix.map fun i=>(as.map Value.ref).getD i Value.none):=by
     intro ix
     induction ix with
     |nil=>intro _;exact .nil
     |cons i ix ih=>
      intro hi;refine .cons ?_ (ih fun j hj=>hi j (ba _ hj));have:=hi i bh;dsimp only;rw[cc,cc,aq,aj this];rfl
    exact this _ hlt
   .by_cases hxa:x∈as
    .obtain⟨j,hj⟩:=List.mem_iff_getElem?.mp hxa;have hjl:=(af.mp hj).1;have hy:ys[j]? =some (ys[j]'(by omega)):=aj (by omega);rw[hat' j x _ hj hy]at e;cases e;obtain⟨key,kk,y,e1,e2,e3⟩:=g.pairs j x hj;have rl:=rel;obtain⟨t1,t2,t3,t4,t5,t6⟩:=g2;subst t4;have rj:∀{l1:List (Key×V)} {l2:List (Key×Value)} {j:Nat} {a b},KV l1 l2->l1[j]? =some a->l2[j]? =some b->a.1=b.1/\RelV a.2 b.2:=by
      intro l1 l2 j a b r;unfold KV at r
      induction r generalizing j with
      |nil=>intro h;simp at h
      |cons h t ih=>
       intro h1 h2;cases j with
       |zero=>simp at h1 h2;subst h1 h2;exact h
       |succ j=>exact ih (by simpa using h1) (by simpa using h2)
     obtain⟨q1,q2⟩:=rj rel hy e1;refine⟨by show 2<=sizeLine;decide,[key,y],.cons ?_ (.cons q2 .nil),r6.of (t6 _ _ e3)⟩;have q1:(ys[j]'(by omega)).1=kk:=q1;rw[q1];exact(CF (h:=s1.heap) (show pC kk key=true from e2)).2
    .rw[hno x hxl hxa]at e;exact absurd (I.bR.lt e) (Nat.not_lt.mpr hx)
  have hk:as.length=kvs.length:=by omega
  refine⟨.ref l,H',I2,rfl,q l H' as p.toList same hat' (by omega) (by rw[<-hk];exact hp) (Y6 h2 (by rw[hp.length_eq,cw,ag])) (I.bR.fresh hls) hl'⟩
end
section
variable {K:Frag}
theorem QR (k:Key):Rep K Z H (yW k) (kV k):=by
 cases k with
 |inl i=>exact .int i
 |inr x=>exact .str x
noncomputable def KA (fa:FE):FE:=fun e=>bE (fa e) fun x e1=>bO (x.weak.get e1) fun p=>match p with
 | .aZ kvs=>bD (decide (kvs.length<64) && (((bS kvs).all (pJ true)||(bS kvs).all (pJ false)) && cW 3 (bS kvs))) (some (.new (.lst (wK 3 (bS kvs))),e1))
 |_=>none
theorem E5:∀{kvs:List (Key×PV)} {ys:List (Key×V)} {i:Nat} {z:Key×PV},dE K Z H kvs ys->kvs[i]? =some z->∃y,ys[i]? =some y/\y.1=z.1/\Rep K Z H z.2 y.2
 |[],ys,i,z,h,e=>by simp at e
 | x::kvs,ys,i,z,h,e=>by
  rcases h.cases with⟨q,_⟩|⟨j,p,v,r,t,q,q',hp,hr⟩
  .cases q
  .cases q;subst q';cases i with
   |zero=>simp at e;subst e;exact⟨(j,v),rfl,rfl,hp⟩
   |succ i=>exact E5 (i:=i) hr (by simpa using e)
theorem NZ {ta:TE} (ha:Ref K ta fa):Ref K (tCB (SX K) (eI (JL ta) tN)) (KA fa):=by
 intro O M W L σ H e e' b Q o he hf q;obtain⟨x,e1,f1,hf⟩:=aM hf;obtain⟨p,g0,hf⟩:=aF hf;cases p with
 | aZ kvs=>
  obtain⟨c,hf⟩:=aL hf;cases hf;rw[cj,cj]at c;obtain⟨c1,c2,c3⟩:=c;refine ha O M W L σ H e _ x _ o he f1 fun v1 H1 k1 r1 fr=>?_
  have o1:=o.keep k1.cD;have en:=r1.en o1;obtain⟨a,ys,rfl,hd,ek,rl⟩:=((r1.rv o1).red en g0).vJ;have led:∃b,∀x∈bS kvs,pJ b x=true:=by
   rcases Bool.or_eq_true_iff.mp c2 with z|z
   .exact⟨true,fun x hx=>bg.mp z x hx⟩
   .exact⟨false,fun x hx=>bg.mp z x hx⟩
  obtain⟨bb,led⟩:=led;refine⟨a,ys,rfl,hd,fun v hv=>?_⟩;have s1:aT H1 (upd H1 v (US v a)):=aT.upd hv;have k2:=k1.trans (.same s1);have rd:dE K (aW M L) (upd H1 v (US v a)) kvs ys:=⟨ek,rl.aK (.same s1)⟩;refine⟨v,a,ys,kvs,bb,rfl,aU,hd.upd hv,⟨ek,(rl.aK (.same s1)).aK (.less fun _ z=>z.elim)⟩,av c1,led,c3,fun l H' as ix sm hat al h1 h2 hl hl'=>?_⟩;have hix:∀i∈ix,i<kvs.length:=fun i hi=>mem_range.mp (h1.mem_iff.mp hi)
  have pl:(bS kvs).length=kvs.length:=by unfold bS;rw[ag]
  have pm:(ix.map fun i=>(bS kvs).getD i .bG).Perm (bS kvs):=by
   have:=h1.map fun i=>(bS kvs).getD i PV.bG
   have e:(List.range kvs.length).map (fun i=>(bS kvs).getD i PV.bG)=bS kvs:=by
    rw[<-pl];apply ext_getElem
    .simp
    .intro i a1 a2;simp[aj a2]
   rw[e]at this;exact this
  have es:wK 3 (bS kvs)=ix.map fun i=>(bS kvs).getD i .bG:=
   qE (iR 3 _) h2 ((dI 3 _).trans pm.symm) fun x hx y hy=>pR c3 ((dI 3 _).mem_iff.mp hx) ((dI 3 _).mem_iff.mp hy)
  rw[es]at q;have st:cZ (aW M L) (aW (aW M L) (one l)) (upd H1 v (US v a)) H':=cZ.new sm hl;have reps:∀(js:List Nat),(∀i∈js,i<kvs.length)->bI K (aW (aW M L) (one l)) H' (js.map fun i=>(bS kvs).getD i .bG) (js.map fun i=>V.ref (as.getD i 0)):=by
   intro js
   induction js with
   |nil=>intro _;exact .nil
   |cons i js ih=>
    intro hj;have hi:=hj i bh;refine .cons ?_ (ih fun j h=>hj j (ba _ h));have hlen:ys.length=kvs.length:=by have:=dq List.length ek;simpa using this
    obtain⟨y,hy,e1,e2⟩:=E5 rd (aj hi);have ht:as[i]? =some (as[i]'(by omega)):=aj (by omega);dsimp only;rw[cc,cc,ht];unfold bS;rw[aq,aj hi];show Rep K _ H' (.tup [yW kvs[i].1,kvs[i].2]) (.ref as[i]);refine .tup (.inl (hat i _ _ ht hy)) (.cons (by rw[e1];exact QR _) (.cons (e2.aK st) .nil))
  have rn:RN K (aW M L) (upd H1 v (US v a)) H' (.ref l) (.new (.lst (ix.map fun i=>(bS kvs).getD i .bG))):=⟨l,rfl,hl,.lst hl' (reps ix hix)⟩;exact q _ _ (k2.trans (.same sm)) (rn.rb (o.keep k2.cD) (en.same s1) sm) (rn.fr k2.cD)
 |_=>cases hf
theorem QS {e:En}:KA fa e=bE (fa e) fun x e1=>bO (x.weak.get e1) fun p=>match p with
 | .aZ kvs=>bD (decide (kvs.length<64) && (((bS kvs).all (pJ true)||(bS kvs).all (pJ false)) && cW 3 (bS kvs))) (some (.new (.lst (wK 3 (bS kvs))),e1))
 |_=>none:=rfl
end
end Mr
namespace L2
open PySem PySem.Spec PyProof.Rows PySem.W
section
variable {X:Cx}
def S0:List V->Hp->VK->Prop:=fun xs H Q=>∃a kvs,xs=[.ref a]/\CB H a kvs/\Q (.int kvs.length) H
theorem ag6:cK X (.builtin "len") S0:=by
 intro zq s σ H xs us Q I r ⟨a,kvs,e,ha,q⟩;subst e;obtain⟨u,rfl,rx⟩:=vals1 r;cases rx;obtain⟨hz,hd,vs,rel,dd⟩:=hJ I.bR ha;refine call_len_dict hd dd (by have:=rel.len;rw[jc]at hz;omega) ?_;exact⟨.int kvs.length,H,I.tok _,⟨s.toks+1,by rw[rel.len]⟩,q⟩
end
end L2
namespace Mr
open PySem L2
section
variable {K:Frag}
noncomputable def K8:List PV->Option Bv
 |[.aZ kvs]=>some (.val (.int kvs.length))
 |_=>none
theorem XF:iA K S0 K8:=by
 intro Z H vs ps b Q hp h k;unfold K8 at h;split at h
 .cases h;obtain⟨v,rfl,hv⟩:=hp.one;obtain⟨a,ys,rfl,ha,ek,ra⟩:=hv.vJ;refine⟨a,ys,rfl,ha,k _ H (aT.refl _) ?_⟩;have:=dq List.length ek;rw[ag,ag]at this;rw[this];exact Rep.int _
 .cases h
def Y7 (K:Frag):List V->Hp->VK->Prop:=fun xs H Q=>O5 K xs H Q\/ S0 xs H Q
theorem ahR {X:Cx} (K:Frag) (hK:X.K=K:=by rfl):cK X (.builtin "len") (Y7 K):=cK.or (zP K hK) ag6
noncomputable def UL:List PV->Option Bv:=fun p=>(sI p).or (K8 p)
theorem LV:iA K (Y7 K) UL:=iA.or JS XF
end
end Mr
namespace L2
open PySem PySem.Spec PyProof.Rows PySem.W
section
variable {prog:Program} {w:World} {A:Around} {R:Result->Shared->Prop} {I:Addr} {fp wr:List Addr} {n:Nat} {Pz:Nat->Value->Prop} {Sz:Nat->Heap->Prop}
def UK (prog:Program) (w:World) (A:Around) (ok:Heap->Prop) (Pz:Nat->Value->Prop) (bt:Nat->Nat->Bool):Prop:=
 ∀i j vi vj (s:Shared) (Q:Value->Shared->Prop) (E:Value->Shared->Prop),ok s.heap->Pz i vi->Pz j vj->Q (.bool (bt i j)) s->wpAny (model prog w) A (richCompare .Lt vi vj) Q E s
theorem u5:(toString "min"++toString ".loop":String)="min.loop":=by decide
theorem GG {ok:Heap->Prop} (W:Walks prog w A.in1 I fp wr n Pz Sz) (bt:Nat->Nat->Bool) (hcmp:UK prog w A.in1 ok Pz bt) (S:Addr) (nf:S∉fp) (okk:∀h h',ok h->(∀b o,b∉wr->b≠S->h.get? b=some o->h'.get? b=some o)->ok h'):
  ∀(k j:Nat) (s:Shared) (vb:Value) (c:Nat),n - (j+1)=k->j+1<=n->ok s.heap->Sz (j+1) s.heap->Pz (argBest bt j) vb->s.heap.get? S=some {cls:=.type "list",dict:=none,data:=.seq #[vb,vb] c,slots:= #[]}->
  (∀v h' tk,Pz (argBest bt (n - 1)) v->(∀b o,b∉wr->b≠S->s.heap.get? b=some o->h'.get? b=some o)->R (.ok (.ret v)) {s with heap:=h',toks:=tk})->codeAny (model prog w) A (.builtin "min.loop" ⟨[.ref I,.none,.ref S],[]⟩) R s:=by
 have nw:S∉wr:=fun h=>nf (W.sub _ h)
 intro k
 induction k with
 |zero=>
  intro j s vb c hk hj bR st hb gS hR;have e:j+1=n:=by omega
  refine gq F.entry_min_loop ?_;rw[ff gw _];refine ae (m:=seqItems? (.ref S)) (gn gS rfl ?_);refine ae (m:=tryCatch (pyNext (.ref I)) _) (wpAny_tryCatch (W.done s _ _ (e▸st) fun h' tk kp=>?_));have gS':=kp S _ nw gS;refine ae (m:=updateSeq S (fun _=> #[])) (wpAny_updateSeq gS' rfl (ae (wpAny_letGo (au ?_))));exact hR vb _ tk (by rw[<-e];exact hb) fun b o h1 h2 q=>(jz _ _ (Ne.symm h2)).trans (kp b o h1 q)
 | succ k ih=>
  intro j s vb c hk hj bR st hb gS hR;have hlt:j+1<n:=by omega
  refine gq F.entry_min_loop ?_;rw[ff gw _];refine ae (m:=seqItems? (.ref S)) (gn gS rfl ?_);refine ae (m:=tryCatch (pyNext (.ref I)) _) (wpAny_tryCatch (W.item (j+1) s _ _ hlt st fun v h' tk hP st' kp=>?_));have gS':=kp S _ nw gS;have ok':ok h':=okk _ _ bR fun b o h1 _ q=>kp b o h1 q
  refine ae (m:=tryCatch (holding [v,v] (richCompare .Lt v vb>>=_)) _) (wpAny_tryCatch (gd (ae (hcmp (j+1) (argBest bt j) v vb {s with heap:=h',toks:=tk} _ _ ok' hP hb ?_))));refine ae (gd (wpAny_truthy_bool (ae (wpAny_letGo (au ?_)))));cases hbt:bt (j+1) (argBest bt j)with
  |true=>
   simp only[if_true];refine ae (wpAny_updateSeq gS' rfl (ae (wpAny_letGo ?_)));rw[u5];have ne:∀{b:Addr} {o:Obj},b≠S->h'.get? b=some o->(h'.update S (Obj.mapSeq fun _=> #[v,v])).get? b=some o:=fun h q=>(jz _ _ (Ne.symm h)).trans q
   refine au ⟨gV gw _,ih (j+1) _ v _ (by omega) hlt (okk _ _ ok' fun b o _ h2 q=>ne h2 q) (W.frame _ _ _ st' fun b hbf o q=>ne (fun z=>nf (by rw[<-z];exact hbf)) q) (by simp only[argBest,hbt,if_true];exact hP) (ko _ gS' rfl) fun v' h2 tk2 hP' kp2=>?_⟩;exact hR v' h2 tk2 hP' fun b o h1 h3 q=>kp2 b o h1 h3 (ne h3 (kp b o h1 q))
  |false=>
   simp only[false_eq_true,if_false];refine ae (wpAny_letGo ?_);rw[u5];refine au ⟨gV gw _,ih (j+1) _ vb c (by omega) hlt ok' st' (by simp only[argBest,hbt,false_eq_true,if_false];exact hb) gS' fun v' h2 tk2 hP' kp2=>?_⟩;exact hR v' h2 tk2 hP' fun b o h1 h3 q=>kp2 b o h1 h3 (kp b o h1 q)
theorem min_list {E:Value->Shared->Prop} {s:Shared} {l:Addr} {vs:List Value} {Q:Value->Shared->Prop} {ok:Heap->Prop} (bt:Nat->Nat->Bool) (hh:A.handled=none) (hl:s.heap.IsList l vs.toArray) (hn:0<vs.length)
  (bR:∀h',(∀b o,s.heap.get? b=some o->h'.get? b=some o)->ok h') (okk:∀h h':Heap,ok h->(∀b o,b<s.heap.objs.size->h.get? b=some o->h'.get? b=some o)->ok h') (hcmp:UK prog w A.in1 ok (fun i v=>vs[i]? =some v) bt)
  (hq:∀v h' tk,vs[argBest bt (vs.length - 1)]? =some v->(∀b o,s.heap.get? b=some o->h'.get? b=some o)->Q v {s with heap:=h',toks:=tk}):wpAny (model prog w) A (call (.builtin "min") [.ref l]) Q E s:=by
 have lS:l<s.heap.objs.size:=let⟨_,e,_⟩:=hl;cm e
 refine call_function_tree F.kind_min F.plain_min F.entry_min (F.args_min1 _) ?_;refine ae (m:=Builtin.Builtins.bindParams "min" ["key","default"] 0 ⟨[],[]⟩) (wpAny_of_eq (show Builtin.Builtins.bindParams "min" ["key","default"] 0 ⟨[],[]⟩=pure [none,none]from rfl) (ae (au ?_)));refine ae (ka hl ?_);refine ae (dk ?_);rw[u5];generalize hX:(s.heap.push {cls:=.type "list_iterator",data:=.fields #[.ref l,.int 0 0]})=h1;have z1:h1.objs.size=s.heap.objs.size+1:=by rw[<-hX];exact ig ..
 have k1:∀b o,s.heap.get? b=some o->h1.get? b=some o:=fun b o e=>by rw[<-hX];exact ah _ e
 have e1:h1.get? s.heap.objs.size=some {cls:=.type "list_iterator",data:=.fields #[.ref l,.int 0 0]}:=by rw[<-hX];exact bz _ rfl
 have nI:l≠s.heap.objs.size:=cn lS;have W:=Walks.list (prog:=prog) (w:=w) (A:=A.in1) (by exact hh) s.heap.objs.size l nI vs.toArray;have gS:(h1.push {cls:=.type "list",data:=.seq ([]:List Value).toArray}).get? h1.objs.size=some {cls:=.type "list",dict:=none,data:=.seq #[] 0,slots:= #[]}:=bz _ rfl;have nf:h1.objs.size∉[s.heap.objs.size,l]:=by
  rw[z1];simp only[bw,dv,or_false,not_or];exact⟨iw (jo _),iw (dw lS)⟩
 have nw:h1.objs.size∉[s.heap.objs.size]:=fun z=>nf (by simp at z⊢;exact .inl z)
 have st0:(h1.push {cls:=.type "list",data:=.seq ([]:List Value).toArray}).IsListIter s.heap.objs.size l 0/\(h1.push {cls:=.type "list",data:=.seq ([]:List Value).toArray}).IsList l vs.toArray:=by
  refine⟨⟨_,ah _ e1,rfl,rfl⟩,?_⟩;obtain⟨o,e,r⟩:=hl;exact⟨o,ah _ (k1 _ _ e),r⟩
 refine au ⟨gV gw _,?_⟩;refine gq F.entry_min_loop ?_;rw[ff gw _];refine ae (m:=seqItems? (.ref h1.objs.size)) (gn gS rfl ?_);refine ae (m:=tryCatch (pyNext (.ref s.heap.objs.size)) _) (wpAny_tryCatch (W.item 0 {s with heap:=h1.push {cls:=.type "list",data:=.seq ([]:List Value).toArray}} _ _ (by simpa using hn) st0 fun v h' tk hP st' kp=>?_));have gS':=kp h1.objs.size _ nw gS;refine ae (m:=updateSeq h1.objs.size (fun _=> #[v,v])) (wpAny_updateSeq gS' rfl ?_);rw[u5];have ne:∀{b:Addr} {o:Obj},b≠h1.objs.size->h'.get? b=some o->(h'.update h1.objs.size (Obj.mapSeq fun _=> #[v,v])).get? b=some o:=fun h q=>(jz _ _ (Ne.symm h)).trans q
 have ltS:∀{b:Addr} {o:Obj},s.heap.get? b=some o->b∉[s.heap.objs.size]/\b≠h1.objs.size:=fun e=>by
  have:=cm e;rw[z1];exact⟨by simp;exact cn this,cn (dw this)⟩
 have kq:∀b o,s.heap.get? b=some o->(h'.update h1.objs.size (Obj.mapSeq fun _=> #[v,v])).get? b=some o:=fun b o e=>ne (ltS e).2 (kp b o (ltS e).1 (ah _ (k1 b o e)))
 refine au ⟨gV gw _,GG (ok:=ok) W bt (fun i j vi vj s Q E h1 h2 h3 h4=>hcmp i j vi vj s Q E h1 (by simpa using h2) (by simpa using h3) h4) h1.objs.size nf (fun h h2 o k=>okk h h2 o fun b u hb q=>k b u (by simp;exact cn hb) (by rw[z1];exact cn (dw hb)) q) _ 0 _ v _ rfl (by simp;omega) (bR _ kq) (W.frame _ _ _ st' fun b hbf o q=>ne (fun z=>nf (by rw[<-z];exact hbf)) q) (by simpa [argBest]using hP) (ko _ gS' rfl) fun v' h2 tk2 hP' kp2=>?_⟩;exact hq v' h2 tk2 (by simpa using hP') fun b o e=>kp2 b o (ltS e).1 (ltS e).2 (kq b o e)
end
end L2
namespace Mr
open PySem PySem.Spec L2 PyProof.Rows PySem.W
variable {ps:List PV}
noncomputable def w8 (ps:List PV) (i j:Nat):Bool:=gZ (code 3 (ps.getD i .bG)) (code 3 (ps.getD j .bG))
noncomputable def yH (ps:List PV):PV:=ps.getD (argBest (w8 ps) (ps.length - 1)) .bG
theorem m9 (bt:Nat->Nat->Bool):∀k,argBest bt k<=k
 |0=>bc _
 |k+1=>by
  have:=m9 bt k;unfold argBest;split<;>omega
theorem YD {ps:List PV} {k:Nat} (hk:k<ps.length):∀i,i<=k->o4 3 (ps.getD (argBest (w8 ps) k) .bG) (ps.getD i .bG)=true:=by
 induction k with
 |zero=>
  intro i hi;have:i=0:=by omega
  subst this;unfold o4 argBest;rw[show gZ (code 3 (ps.getD 0 .bG)) (code 3 (ps.getD 0 .bG))=false from vH.irrefl _];rfl
 | succ k ih=>
  intro i hi;have ih:=ih (by omega);unfold argBest;cases e:w8 ps (k+1) (argBest (w8 ps) k)with
  | true=>
   rw[ao rfl]
   by_cases h:i=k+1
   .subst h;unfold o4;rw[show gZ (code 3 (ps.getD (k+1) .bG)) (code 3 (ps.getD (k+1) .bG))=false from vH.irrefl _];rfl
   .refine uZ _ (ps.getD (argBest (w8 ps) k) .bG) _ ?_ (ih i (by omega));unfold o4;rw[show gZ (code 3 (ps.getD (argBest (w8 ps) k) .bG)) (code 3 (ps.getD (k+1) .bG))=false from C6 (A:=vH) e];rfl
  | false=>
   rw[ai ax]
   by_cases h:i=k+1
   .subst h;unfold o4;rw[show gZ (code 3 (ps.getD (k+1) .bG)) (code 3 (ps.getD (argBest (w8 ps) k) .bG))=false from e];rfl
   .exact ih i (by omega)
theorem G4 (h:0<ps.length):yH ps∈ps:=by
 unfold yH;have:=m9 (w8 ps) (ps.length - 1);rw[cc,aj (show argBest (w8 ps) (ps.length - 1)<ps.length by omega)];exact getElem_mem _
theorem sD {q:PV} (hq:q∈ps):o4 3 (yH ps) q=true:=by
 obtain⟨i,hi,rfl⟩:=List.mem_iff_getElem.mp hq;have:=YD (ps:=ps) (k:=ps.length - 1) (by omega) i (by omega);rw[show ps.getD i .bG=ps[i] by rw[cc,aj hi];rfl]at this;exact this
section
variable {X:Cx} {k:Nat}
def ZP (K:Frag):List V->Hp->VK->Prop:=fun xs H Q=>∃p ys ps,xs=[.ref p]/\gE K H p ys/\bI K cY H ps ys/\0<ps.length/\cW 3 ps=true/\Q (ys.getD (argBest (w8 ps) (ps.length - 1)) .bG) H
theorem PQ (K:Frag) (hr:dW k X.A) (hK:X.K=K:=by rfl) (hc:X.calm=true:=by rfl):cK X (.builtin "min") (ZP K):=by
 subst hK;intro zq s σ H xs us Q I r ⟨p,ys,ps,e,hq,rp,h0,cmp,q⟩;subst e;obtain⟨u,rfl,rx⟩:=vals1 r;cases rx;obtain⟨vs,rv,pl,hz⟩:=I.list hq;have hlen:=rv.length;have hpl:=rp.length;have ok:∀x∈ps,i4 3 x=true:=fun x hx=>by
  have:=bg.mp cmp x hx;rw[cj]at this;exact DK this.1
 refine min_list (ok:=fun h=>∀b o,s.heap.get? b=some o->h.get? b=some o) (w8 ps) (by exact I.ok.hd hc) pl.isList (by omega) (fun h' kp=>kp) (fun h h' o kk b u e=>kk b u (cm e) (o b u e)) (fun i j vi vj s' Q E bR h1 h2 hQ=>?_) fun v h' tk hv kp=>?_
 .have hL:bV s'.heap ps vs:=bI.lies (I.kept (t':=s.toks) bR) (n:=3) (bg.mpr ok) rp rv;obtain⟨p1,e1,l1⟩:=hL.get h1;obtain⟨p2,e2,l2⟩:=hL.get h2;have m1:=ay e1;have m2:=ay e2;refine JC (s:=s') 3 X.A.in1 (by have:=hr.un;show X.A.units+1+3<_;omega) (ok p1 m1) (ok p2 m2) l1 l2 (uI cmp m1 m2) _ _ _ _ ?_;have hQ:Q (.bool (gZ (code 3 (ps.getD i .bG)) (code 3 (ps.getD j .bG)))) s':=hQ;rw[cc,e1,cc,e2]at hQ;exact hQ
 .obtain⟨y,hy,ry⟩:=rv.get' hv;refine⟨y,H,I.kept (t':=tk) kp,ry,?_⟩;rw[cc,show ps.length=vs.length by omega,hy]at q;exact q
end
section
variable {K:Frag}
noncomputable def wO:List PV->Option Bv
 |[.lst ps]=>bD (decide (0<ps.length) && cW 3 ps) (some (.val (yH ps)))
 |_=>none
theorem MB:iA K (ZP K) wO:=by
 intro Z H vs qs b Q hp h kk;unfold wO at h;split at h
 .rename_i ps;obtain⟨c,h⟩:=aL h;cases h;rw[cj]at c;have c1:=av c.1;obtain⟨v,rfl,hv⟩:=hp.one;obtain⟨a,ys,rfl,ha,ra⟩:=hv.rA;refine⟨a,ys,ps,rfl,ha.sq,ra.aK (.less fun _ z=>z.elim),c1,c.2,kk _ H (aT.refl _) ?_⟩;have hlt:argBest (w8 ps) (ps.length - 1)<ps.length:=by have:=m9 (w8 ps) (ps.length - 1);omega
  obtain⟨y,hy,ry⟩:=ra.get (aj hlt);show Rep K Z H (yH ps) _;unfold yH;rw[cc,cc,hy,aj hlt];exact ry
 .cases h
end
end Mr
namespace L2
open PySem
section
variable {X:Cx} {zq:List (Addr×Obj)} {σ:St} {H:Hp} {s:Shared} {a:Addr} {y d:V} {u r:Value} {A:Around} {E:Value->Shared->Prop}
theorem P0 {kvs:List (Key×V)} {k:Key} {Q:Value->Shared->Prop} (I:Inv X zq σ H s) (e:y7 H a kvs) (ry:RelV (kV k) u) (rd:RelV d r) (hz:kvs.length<sizeLine)
  (h1:∀v w' s',eW kvs k=some v->Inv X zq σ H s'->RelV v w'->Q w' s') (h2:∀ep s',eW kvs k=none->Inv X zq σ (upd H a (.dK (putK kvs k d) ep)) s'->Q r s'):
  wpAny (model X.prog X.w) A (call (.builtin "dict.setdefault") [.ref a,u,r]) Q E s:=by
 obtain⟨z,hd,vs,rel,dd⟩:=Q7 I.bR e;have hz':vs.length<=sizeLine:=by rw[<-rel.length];exact z
 have rv:=rel.val k;refine call_meetsIn PySem.F.slot_dict_setdefault dd.typeIs PySem.F.entry_dict_setdefault (PySem.F.args_dict_setdefault_3 _ _ _) (kt_meets_setdefault (bP X.prog X.w) a (rD ry) hd r) ⟨vs,dd,hz',fun v hv=>?_,fun hn h' dd' hs=>?_⟩
 .rw[hv]at rv;cases c:eW kvs k with
  |none=>rw[c]at rv;exact rv.elim
  |some v'=>rw[c]at rv;exact h1 v' v _ c (I.tok _) rv
 .rw[hn]at rv;cases c:eW kvs k with
  |some v'=>rw[c]at rv;exact rv.elim
  |none=>
   have hl:(putK kvs k d).length<=sizeLine:=by have:=kF kvs k d;omega
   have he:∃q,h'.get? a=some q:=let⟨q,_,_,hq,_⟩:=dd';⟨q,hq⟩
   obtain⟨ep,da⟩:=dd'.dictAt;exact h2 ep _ c (xF I e.mut hs he (IV hl hd (rel.put k rd) da))
end
def T9 (td ty tx:TE):TE:=fun σ H Q=>td σ H fun x H1=>∃a,x= .ref a/\IsD H1 a/\ty σ H1 fun y H2=>tx σ H2 fun z H3=>∃kvs k,y7 H3 a kvs/\y=kV k/\kvs.length<sizeLine/\
 (∀v,eW kvs k=some v->Q v H3)/\(∀ep,eW kvs k=none->Q z (upd H3 a (.dK (putK kvs k z) ep)))
section
variable {X:Cx} {o e f:Expr} {apos cpos:Pos} {td ty tx:TE}
theorem HW (ho:PE X o td) (he:PE X e ty) (hf:PE X f tx) (m:M2 X o "setdefault" apos e f cpos):PE X (.Call (.Attribute o "setdefault" apos) [e,f] [] cpos) (T9 td ty tx):=by
 intro zq s σ H Q I h;refine wpAny_Call_method m.base m.few m.line plainAttrs_dict PySem.F.slot_dict_setdefault PySem.F.type_dict_setdefault (cS (ho zq s σ H _ I h) fun u s1 ⟨x,H1,I1,rx,a,ex,d,q1⟩=>?_);subst ex;obtain rfl:u=Value.ref a:=rx;obtain⟨t1,t2,_⟩:=JI I1 d;refine⟨t1,t2,?_⟩;rw[m.trees];refine ip rfl (Calls.evalArgs_plain (jn (cS (he zq s1 σ H1 _ I1 q1) fun iv s2 ⟨y,H2,I2,ry,q2⟩=>
  jn (cS (hf zq s2 σ H2 _ I2 q2) fun fv s3 ⟨z,H3,I3,rz,kvs,k,ea,ey,hz,g1,g2⟩=>Calls.spliced_nil ?_))))
 subst ey;exact P0 I3 ea ry rz hz (fun v w' s' c I' r'=>⟨v,H3,I',r',g1 v c⟩) fun ep s' c I'=>⟨z,_,I',rz,g2 ep c⟩
end
end L2
namespace Mr
open PySem L2
variable {Q:AJ->Prop} {a:Addr} {d:DD} {e:En} {D:Ends} {fa:FA} {fb fk fv:FE} {fi:FIT} {fc:FT} {f g:FX} {H H' H1:Hp} {i:Nat} {σ:St} {tv:TE} {t:Tr} {W:WS} {B L L1 M O Z:aJ}
abbrev DD:=List (Key×List PV)
abbrev Tr:=List (Key×Addr×List PV)
noncomputable def ofT (t:Tr):DD:=t.map fun z=>(z.1,z.2.2)
def BX (a:Addr) (t:Tr):aJ:=fun b=>b=a\/ b∈t.map (·.2.1)
noncomputable def wB (W:WS) (B:aJ):WS:=⟨W.w,fun c=>W.old c/\¬B c⟩
structure Sec (K:Frag) (Z:aJ) (H:Hp) (a:Addr) (t:Tr):Prop where
 ZF:y7 H a (t.map fun z=>(z.1,V.ref z.2.1))
 lst:∀z∈t,∃xs,H z.2.1=some (.lst xs)/\bI K Z H z.2.2 xs
 nd:(a::t.map (·.2.1)).Nodup
 kd:(t.map (·.1)).Nodup
def Bok (O L:aJ) (H:Hp) (B:aJ):Prop:=∀b,B b->H b≠none/\¬O b/\¬L b
theorem Bok.ZI (o:lQ O M W L H) (b:Bok O L H B):lQ (aW O B) (aW M B) (wB W B) L H:=
 ⟨fun a h=>h.elim (o.old a) fun h=>(b a h).1,fun a h=>h.elim (fun h=>.inl (o.mo a h)) .inr,fun i a h=>.inl (o.wm i a h),fun a h=>⟨(o.loc a h).1,fun z=>z.elim (o.loc a h).2 fun z=>(b a z).2.2 h⟩⟩
structure fR (W:WS) (L L' B B':aJ) (H H':Hp):Prop where
 obj:∀a o,H a=some o->¬aw W a->¬L a->¬B a->H' a=some o
 tup:∀a xs,H a=some (.tup xs)->H' a=some (.tup xs)
 cD:∀a,H a≠none->H' a≠none
 new:∀a,L' a->L a\/ H a=none
 V7:∀a,B' a->B a\/ H a=none
theorem none_of {H:Hp} (d:∀a,H a≠none->H1 a≠none) {a:Addr} (h:H1 a=none):H a=none:=by
 cases e:H a with
 |none=>rfl
 |some o=>exact absurd h (d a (by rw[e];exact fun z=>nomatch z))
theorem fR.keep (k:cA W L H H'):fR W L L B B H H':=⟨fun a o h n m _=>k.obj a o h n m,k.tup,k.cD,fun _ h=>.inl h,fun _ h=>.inl h⟩
theorem fR.refl:fR W L L B B H H:=.keep .refl
theorem fR.trans {L2 B1 B2:aJ} {H2:Hp} (a:fR W L L1 B B1 H H1) (b:fR W L1 L2 B1 B2 H1 H2):fR W L L2 B B2 H H2:=
  ⟨fun c o h n m l=>b.obj c o (a.obj c o h n m l) n (fun z=>(a.new c z).elim m fun z=>(by rw[h]at z;cases z)) fun z=>(a.V7 c z).elim l fun z=>(by rw[h]at z;cases z),
   fun c xs h=>b.tup c xs (a.tup c xs h),fun c h=>b.cD c (a.cD c h),fun c h=>(b.new c h).elim (a.new c) fun z=>.inr (none_of a.cD z),fun c h=>(b.V7 c h).elim (a.V7 c) fun z=>.inr (none_of a.cD z)⟩
inductive AJ where
 |nx (e:En) (d:DD)|ct (e:En) (d:DD)
abbrev FX:=En->DD->Option AJ
structure M9 (K:Frag) (O M:aJ) (W:WS) (x:Nat) (a:Addr) (L:aJ) (σ:St) (H:Hp) (e:En) (t:Tr):Prop where
 ok:lQ O M W L H
 EF:Bok O L H (BX a t)
 en:aQ K (aW (aW M (BX a t)) L) (wB W (BX a t)) L H σ e
 at':σ[x]? =some (some (.ref a))
 sec:Sec K (aW (aW M (BX a t)) L) H a t
def LS (K:Frag) (O M:aJ) (W:WS) (x:Nat) (a:Addr) (L:aJ) (H:Hp) (t:Tr) (D:Ends):AJ->Prop
 | .nx e' d'=>∀L' σ' H' t',fR W L L' (BX a t) (BX a t') H H'->M9 K O M W x a L' σ' H' e' t'->ofT t'=d'->D.nx σ' H'
 | .ct e' d'=>∀L' σ' H' t',fR W L L' (BX a t) (BX a t') H H'->M9 K O M W x a L' σ' H' e' t'->ofT t'=d'->D.ct σ' H'
theorem LS.later {K:Frag} {x:Nat} {t1:Tr} {r:AJ} (g:fR W L L1 (BX a t) (BX a t1) H H1) (h:LS K O M W x a L H t D r):LS K O M W x a L1 H1 t1 D r:=by
 cases r with
 |nx e d=>exact fun L' σ' H' t' g'=>h L' σ' H' t' (g.trans g')
 |ct e d=>exact fun L' σ' H' t' g'=>h L' σ' H' t' (g.trans g')
def G8 (K:Frag) (x:Nat) (ts:TS) (f:FX):Prop:=∀(O M:aJ) (W:WS) (a:Addr) (L:aJ) (σ:St) (H:Hp) (e:En) (t:Tr) (r:AJ) (D:Ends),M9 K O M W x a L σ H e t->f e (ofT t)=some r->LS K O M W x a L H t D r->ts D σ H
section
variable {K:Frag} {x:Nat}
theorem Sec.keep (o:lQ O M W L H) (b:Bok O L H (BX a t)) (k:cA (wB W (BX a t)) L H H') (s:Sec K (aW (aW M (BX a t)) L) H a t):Sec K (aW (aW M (BX a t)) L) H' a t:=by
 have st:=k.aK (b.ZI o);have nb:∀c ob,BX a t c->H c=some ob->H' c=some ob:=fun c ob hc h=>k.obj c ob h (fun⟨i,w⟩=>(b c hc).2.1 (o.mo _ (o.wm i c w))) (b c hc).2.2
 exact⟨let⟨ep,e⟩:=s.ZF;⟨ep,nb a _ (.inl rfl) e⟩,fun z hz=>let⟨xs,h1,h2⟩:=s.lst z hz;⟨xs,nb _ _ (.inr (bp.mpr ⟨z,hz,rfl⟩)) h1,h2.aK st⟩,s.nd,s.kd⟩
theorem M9.keep {e':En} (n:M9 K O M W x a L σ H e t) (k:cA (wB W (BX a t)) L H H') (en:aQ K (aW (aW M (BX a t)) L) (wB W (BX a t)) L H' σ e'):M9 K O M W x a L σ H' e' t:=
 ⟨n.ok.keep k.cD,fun b h=>⟨k.cD b (n.EF b h).1,(n.EF b h).2⟩,en,n.at',n.sec.keep n.ok n.EF k⟩
theorem kw (k:cA (wB W B) L H H'):cA W L H H':=⟨k.obj,k.tup,k.cD⟩
noncomputable def S9:FX:=fun e d=>some (.nx e d)
theorem NT:G8 K x PZ S9:=by
 intro O M W a L σ H e t r D n hf q;cases hf;exact q L σ H t .refl n rfl
noncomputable def aeP (f g:FX):FX:=fun e d=>match f e d with
 |some (.nx e1 d1)=>g e1 d1
 |r=>r
noncomputable def xIf (fc:FT) (f g:FX):FX:=fun e d=>bE (fc e) fun b e1=>bB b (f e1 d) (g e1 d)
theorem Q4 {c:TT} {t u:TS} (hc:mS K c fc) (h1:G8 K x t f) (h2:G8 K x u g):G8 K x (abL c t u) (xIf fc f g):=by
 intro O M W a L σ H e tr r D n hf q;obtain⟨b,e1,f1,hf⟩:=aM hf;refine hc _ _ _ L σ H e _ _ _ (n.EF.ZI n.ok) n.en f1 fun H1 k1 en=>?_
 have n1:=n.keep k1 en;cases b with
 |true=>rw[ao rfl];exact h1 O M W a L σ H1 e1 tr r D n1 hf (q.later (.keep (kw k1)))
 |false=>rw[ai ax];exact h2 O M W a L σ H1 e1 tr r D n1 hf (q.later (.keep (kw k1)))
def LG (K:Frag) (x:Nat) (g:TG) (f:FG):Prop:=∀(O M:aJ) (W:WS) (L:aJ) (σ:St) (H:Hp) (e e':En) (p:PV) (v:V) (Q:St->Hp->Prop),lQ O M W L H->aQ K (aW M L) W L H σ e->Rep K (aW M L) H p v->f p e=some e'->(∀σ',σ'[x]? =σ[x]?->aQ K (aW M L) W L H σ' e'->Q σ' H)->g v σ H Q
def C0 (K:Frag) (x:Nat) (g:K3) (f:O1):Prop:=∀(O M:aJ) (W:WS) (L:aJ) (σ:St) (H:Hp) (e e':En) (p:List PV) (v:List V) (Q:St->Hp->Prop),lQ O M W L H->aQ K (aW M L) W L H σ e->bI K (aW M L) H p v->f p e=some e'->(∀σ',σ'[x]? =σ[x]?->aQ K (aW M L) W L H σ' e'->Q σ' H)->g v σ H Q
theorem IU (h:i≠x):LG K x (jY i) (aP i):=by
 intro O M W L σ H e e' p v Q o he hp hf q;cases hf;exact q _ (dh h) (aQ.put he rfl hp)
theorem MZ:C0 K x acK j7:=by
 intro O M W L σ H e e' p v Q o he hp hf q;cases p with
 |nil=>cases hf;cases hp;exact⟨rfl,q σ rfl he⟩
 |cons p ps=>cases hf
theorem J2 {g:TG} {gs:K3} {f:FG} {fs:O1} (h1:LG K x g f) (h2:C0 K x gs fs):C0 K x (S7 g gs) (b8 f fs):=by
 intro O M W L σ H e e' p v Q o he hp hf q;cases p with
 |nil=>cases hf
 |cons p ps=>
  obtain⟨e1,f1,hf⟩:=aF hf;cases hp with
  |cons hp hr=>exact⟨_,_,rfl,h1 O M W L σ H e e1 p _ _ o he hp f1 fun σ' ex he'=>h2 O M W L σ' H e1 e' ps _ _ o he' hr hf fun σ2 ex2=>q σ2 (ex2.trans ex)⟩
theorem M7 {n:Nat} {g:K3} {f:O1} (h:C0 K x g f):LG K x (XU K n g) (j4 n f):=by
 intro O M W L σ H e e' p v Q o he hp hf q;cases p with
 |tup ps=>
  obtain⟨g1,hf⟩:=aL hf;cases hp with
  |tup ha hr=>exact⟨_,_,rfl,ha.sq,by rw[<-hr.length];exact av g1,h O M W L σ H e e' ps _ Q o he hr hf q⟩
 |_=>cases hf
def ad5 (K:Frag) (Z:aJ) (H:Hp) (J:It) (items:List PV):Prop:=∀Z' H',cZ Z Z' H H'->(∀k p,items[k]? =some p->J.go k H'/\∀x H3,J.yld k H' x H3->aT H' H3/\Rep K Z' H3 p x)/\J.stop items.length H'
abbrev FIT:=En->Option (List PV×En)
def UN (K:Frag) (wi:TI) (f:FIT):Prop:=∀(O M:aJ) (W:WS) (L:aJ) (σ:St) (H:Hp) (e e':En) (ps:List PV) (R:It->Hp->Prop),lQ O M W L H->aQ K (aW M L) W L H σ e->f e=some (ps,e')->
 (∀J H',cA W L H H'->aQ K (aW M L) W L H' σ e'->ad5 K (aW M L) H' J ps->R J H')->wi σ H R
noncomputable def xIt (f:FE):FIT:=fun e=>bE (f e) fun b e1=>match b with
 | .val (.tup ps)=>some (ps,e1)
 |_=>none
theorem VI {t:TE} {f:FE} (h:Ref K t f):UN K (acB K t) (xIt f):=by
 intro O M W L σ H e e' ps R o he hf q;obtain⟨b,e1,f1,hf⟩:=aM hf;refine h O M W L σ H e e1 b _ o he f1 fun v H1 k1 rb fr=>?_
 split at hf
 .cases hf;obtain⟨en,rp⟩:=rb;cases rp with
  |tup ha r=>
   rename_i aa xs;refine .inr (.inl ⟨_,rfl,⟨_,ha.sq⟩,q _ H1 k1 en fun Z' H' st=>?_⟩);have sq:rB K H' aa xs:=TupAt.sq (ha.elim (fun h=>.inl (st.tup _ _ h)) .inr);refine⟨fun k p hp=>?_,xs,sq,by rw[r.length];exact bc _⟩;obtain⟨v,hv,rv⟩:=r.get hp;refine⟨⟨xs,v,sq,hv⟩,fun x H3 y=>?_⟩;obtain⟨e,y⟩:=y;subst e;have:=y xs sq;rw[hv]at this;cases this;exact⟨aT.refl _,rv.aK st⟩
 .cases hf
noncomputable def abV (fa:FA):FIT:=fun e=>bE (fa e) fun bs e1=>match bs with
 |[.val (.tup ps)]=>some (ps.zipIdx.map fun z=>.tup [.int (z.2:Int),z.1],e1)
 |_=>none
theorem UP {ta:TA} (h:vS K ta fa):UN K (EH K ta) (abV fa):=by
 intro O M W L σ H e e' ps R o he hf q;obtain⟨b,e1,f1,hf⟩:=aM hf;refine h O M W L σ H e e1 b _ o he f1 fun vs H1 k1 en rv=>?_
 split at hf
 .rename_i ps0;cases hf;cases rv with
  | cons h r=>
   cases r;cases h with
   | tup ha ra=>
    rename_i aa xs;refine .inl ⟨aa,xs,rfl,ha.sq,q _ H1 k1 en fun Z' H' st=>?_⟩;have sq:rB K H' aa xs:=TupAt.sq (ha.elim (fun h=>.inl (st.tup _ _ h)) .inr);refine⟨fun k p hp=>?_,xs,sq,by rw[ag,ji,ra.length]⟩;rw[aq,ik]at hp;cases c:ps0[k]? with
    |none=>rw[c]at hp;cases hp
    |some p0=>
     rw[c]at hp;cases hp;obtain⟨v,hv,rv⟩:=ra.get c;refine⟨⟨xs,v,sq,hv⟩,fun x H3 y=>?_⟩;obtain⟨t,ht,rfl,y⟩:=y;obtain⟨x',hx',rfl⟩:=y xs sq;rw[hv]at hx';cases hx';refine⟨aT.upd ht,.tup (.inl aU) (.cons ?_ (.cons ((rv.aK st).aK (.same (aT.upd ht))) .nil))⟩;rw[zero_add];exact .int _
 .cases hf
noncomputable def rH (body:PV->En->DD->Option AJ):List PV->En->DD->Option AJ
 |[],e,d=>some (.nx e d)
 |p::ps,e,d=>match body p e d with
  |some (.nx e1 d1)=>rH body ps e1 d1
  |some (.ct e1 d1)=>rH body ps e1 d1
  |none=>none
noncomputable def S6 (fi:FIT) (fg:FG) (fb:FX):FX:=fun e d=>bE (fi e) fun ps e1=>rH (fun x e d=>bO (fg x e) fun e2=>fb e2 d) ps e1 d
theorem fR.aK {L':aJ} {t':Tr} (o:lQ O M W L H) (g:fR W L L' (BX a t) (BX a t') H H'):cZ (aW (aW M (BX a t)) L) (aW (aW M (BX a t')) L') H H':=
 ⟨g.tup,fun c ob h n=>⟨g.obj c ob h (fun⟨i,w⟩=>n (.inl (.inl (o.wm i c w)))) (fun z=>n (.inr z)) fun z=>n (.inl (.inr z)),fun z=>by
  rcases z with(z|z)|z
  .exact n (.inl (.inl z))
  .exact(g.V7 c z).elim (fun z=>n (.inl (.inr z))) fun z=>by rw[h]at z;cases z
  .exact(g.new c z).elim (fun z=>n (.inr z)) fun z=>by rw[h]at z;cases z⟩⟩
theorem TH {wi:TI} {g:TG} {tb:TS} {fg:FG} {fb:FX} (hi:UN K wi fi) (hg:LG K x g fg) (hb:G8 K x tb fb):G8 K x (aaO wi g tb) (S6 fi fg fb):=by
 intro O M W a L σ H e tr r D n hf q;obtain⟨ps,e1,f1,hf⟩:=aM hf;refine hi _ _ _ L σ H e e1 ps _ (n.EF.ZI n.ok) n.en f1 fun J H1 k1 en it=>?_
 have n1:=n.keep k1 en;have q1:=q.later (.keep (kw k1))
 let N:Nat->St->Hp->Prop:=fun i σ' H'=>∃L' e' t',fR W L L' (BX a tr) (BX a t') H1 H'/\M9 K O M W x a L' σ' H' e' t'/\rH (fun x e d=>bO (fg x e) fun e2=>fb e2 d) (ps.drop i) e' (ofT t')=some r
 refine⟨fun i m σ' H'=>m=ps.length - i/\i<=ps.length/\N i σ' H',⟨ps.length,by simp,ic _,L,e1,tr,.refl,n1,by rw[drop_zero];exact hf⟩,?_⟩;rintro i m σ2 H2 ⟨rfl,hil,L2,e2,t2,g2,n2,f2⟩;obtain⟨itm,its⟩:=it _ H2 (g2.aK n1.ok)
 by_cases hlt:i<ps.length
 .refine .inr ?_;obtain⟨go,yl⟩:=itm i ps[i] (by simp[hlt]);refine⟨go,N (i+1),fun σ' H' n=>⟨ps.length - (i+1),by omega,rfl,hlt,n⟩,fun v H3 y=>?_⟩;obtain⟨s3,rp⟩:=yl v H3 y;rw[eh hlt]at f2;unfold rH at f2;have k3:cA (wB W (BX a t2)) L2 H2 H3:=.same s3;have n3:=n2.keep k3 (n2.en.same s3);have g3:fR W L L2 (BX a tr) (BX a t2) H1 H3:=g2.trans (.keep (kw k3));cases c1:fg ps[i] e2 with
  |none=>rw[c1]at f2;cases f2
  | some e3=>
   rw[c1,qZ]at f2;refine hg _ _ _ L2 σ2 H3 e2 e3 _ v _ (n3.EF.ZI n3.ok) n3.en rp c1 fun σ3 ex en3=>?_
   have n4:M9 K O M W x a L2 σ3 H3 e3 t2:=⟨n3.ok,n3.EF,en3,by rw[ex];exact n3.at',n3.sec⟩;cases c2:fb e3 (ofT t2)with
   |none=>rw[c2]at f2;cases f2
   |some r1=>
    rw[c2]at f2;refine hb O M W a L2 σ3 H3 e3 t2 r1 _ n4 c2 ?_;cases r1 with
    |nx e4 d4=>exact fun L' σ' H' t' g' n' ed=>⟨L',e4,t',g3.trans g',n',by rw[ed];exact f2⟩
    |ct e4 d4=>exact fun L' σ' H' t' g' n' ed=>⟨L',e4,t',g3.trans g',n',by rw[ed];exact f2⟩
 .have e:i=ps.length:=by omega
  subst e;rw[drop_length]at f2;cases f2;exact .inl ⟨its,q1 L2 σ2 H2 t2 g2 n2 rfl⟩
end
theorem JB {α β:Type} {f:α->β}:∀{l:List α},(l.map f).Nodup->∀y∈l,∀z∈l,f y=f z->y=z
 |[],_,_,h,_,_,_=>nomatch h
 | w::l,nd,y,hy,z,hz,e=>by
  rw[map_cons,fq]at nd;rcases bw.mp hy with e1|h1
  .rcases bw.mp hz with e2|h2
   .rw[e1,e2]
   .exact absurd (bp.mpr ⟨z,h2,by rw[<-e,e1]⟩) nd.1
  .rcases bw.mp hz with e2|h2
   .exact absurd (bp.mpr ⟨y,h1,by rw[e,e2]⟩) nd.1
   .exact JB nd.2 y h1 z h2 e
noncomputable def q5 (d:DD) (k:Key) (p:PV):DD:=if(d.any fun kp=>decide (kp.1=k))=true then d.map (fun kp=>if kp.1=k then(kp.1,kp.2++[p])else kp)else d++[(k,[p])]
noncomputable def z9 (t:Tr) (k:Key) (p:PV):Tr:=t.map fun z=>if z.1=k then(z.1,z.2.1,z.2.2++[p])else z
theorem A3 (t:Tr) (k:Key) (p:PV):(z9 t k p).map (·.2.1)=t.map (·.2.1):=by
 unfold z9;rw[iz];refine ja fun z _=>?_
 simp only[Function.comp_apply];split<;>rfl
theorem RC (t:Tr) (k:Key) (p:PV):(z9 t k p).map (·.1)=t.map (·.1):=by
 unfold z9;rw[iz];refine ja fun z _=>?_
 simp only[Function.comp_apply];split<;>rfl
theorem Q9 (t:Tr) (k:Key) (p:PV):(z9 t k p).map (fun z=>(z.1,V.ref z.2.1))=t.map fun z=>(z.1,V.ref z.2.1):=by
 unfold z9;rw[iz];refine ja fun z _=>?_
 simp only[Function.comp_apply];split<;>rfl
theorem L4 (t:Tr) (k:Key) (p:PV):ofT (z9 t k p)=(ofT t).map fun kp=>if kp.1=k then(kp.1,kp.2++[p])else kp:=by
 unfold z9 ofT;rw[iz,iz];refine ja fun z _=>?_
 simp only[Function.comp_apply];split<;>rfl
theorem CL (a:Addr) (t:Tr) (k:Key) (p:PV):BX a (z9 t k p)=BX a t:=by
 unfold BX;rw[A3]
section
variable {K:Frag} {x:Nat}
theorem aQ.grow {Z':aJ} {W':WS} {e:En} (h:aQ K Z W L H σ e) (k:cZ Z Z' H H') (ew:W'.w=W.w) (od:∀a,W.old a->H a≠none->W'.old a)
  (ow:∀a o,aw W a\/ L a->H a=some o->H' a=some o) (bo:∀a o,H a=some o->W.old a->¬aw W a->¬L a->H' a=some o):aQ K Z' W' L H' σ e:=by
 have aw':∀a,aw W' a->aw W a:=fun a ⟨i,w⟩=>⟨i,by rw[<-ew];exact w⟩
 refine⟨h.len,fun i s q=>?_,h.uU⟩;obtain⟨v,h1,h2⟩:=h.at' i s q;refine⟨v,h1,?_⟩;have rn:∀{a:Addr} {ob:HO},Rd H a ob->H a≠none:=fun r=>by rcases r with r|⟨u,r⟩<;>(rw[r];exact fun z=>nomatch z)
 cases s with
 |val p=>exact Rep.aK k h2
 |own p=>obtain⟨a,e,w,c⟩:=h2;exact⟨a,e,by rw[ew];exact w,c.aK k fun o q=>ow a o (.inl ⟨_,w⟩) q⟩
 |loc p=>obtain⟨a,e,w,c⟩:=h2;exact⟨a,e,w,c.aK k fun o q=>ow a o (.inr w) q⟩
 |bor p=>
  obtain⟨a,e,c⟩:=h2;refine⟨a,e,?_⟩;cases c with
  |lst e o n m r=>exact .lst (e.elim (fun e=>.inl (bo _ _ e o n m)) fun⟨u,e⟩=>.inr ⟨u,bo _ _ e o n m⟩) (od _ o (rn e)) (fun z=>n (aw' _ z)) m (r.aK k)
  |fL e r=>exact .fL e (r.aK k)
  |aZ e o n m kk r=>exact .aZ (e.elim (fun e=>.inl (bo _ _ e o n m)) fun⟨u,e⟩=>.inr ⟨u,bo _ _ e o n m⟩) (od _ o (rn e)) (fun z=>n (aw' _ z)) m kk (r.aK k)
theorem aQ.unset {e:En} {v:Option V} (h:aQ K Z W L H σ e):aQ K Z W L H (σ.set i v) (e.set i none):=by
 refine⟨by rw[kg,kg];exact h.len,fun j t q=>?_,fun j k s1 s2 hjk q1 q2 m1 m2=>?_⟩
 .rcases eT q with⟨rfl,hl,e⟩|⟨hn,q⟩
  .cases e
  .rw[dh hn];exact h.at' j t q
 .rcases eT q1 with⟨rfl,hl,e⟩|⟨hn1,q1⟩
  .cases e
  .rcases eT q2 with⟨rfl,hl,e⟩|⟨hn2,q2⟩
   .cases e
   .rw[dh hn1,dh hn2];exact h.uU j k s1 s2 hjk q1 q2 m1 m2
theorem GB {l:Addr} {k:Key} {ps:List PV} {e2:En} {b:Bv} {p:PV} (hv:Ref K tv fv) (n:M9 K O M W x a L σ H e t) (hz:(k,l,ps)∈t)
  (f2:fv e=some (b,e2)) (g:b.put=some p) (hl:ps.length<1000000) (q:∀H',fR W L L (BX a t) (BX a (z9 t k p)) H H'->M9 K O M W x a L σ H' e2 (z9 t k p)->D.nx σ H'):
  tyV K "list" (.ref l) H/\(eI tv tN) σ H fun xs H5=>xR (.ref l) xs H5 fun _ H6=>D.nx σ H6:=by
 obtain⟨xs0,e0,_⟩:=n.sec.lst _ hz;refine⟨.inl ⟨rfl,xs0,gE.of e0⟩,?_⟩;refine hv _ _ _ L σ H e _ _ _ (n.EF.ZI n.ok) n.en f2 fun v H5 k5 rb fr=>?_
 have o5:=(n.EF.ZI n.ok).keep k5.cD;obtain⟨en,rp⟩:=rb.put o5 g;have n5:=n.keep k5 en;obtain⟨xs,e5,r5⟩:=n5.sec.lst _ hz;have bl:BX a t l:=.inr (bp.mpr ⟨_,hz,rfl⟩);have nl:=(n5.EF l bl).2;have st:cZ (aW (aW M (BX a t)) L) (aW (aW M (BX a t)) L) H5 (upd H5 l (.lst (xs++[v]))):=.write (.inl (.inr bl)) e5 fun _ z=>nomatch z
 have cD:∀c,H5 c≠none->upd H5 l (.lst (xs++[v])) c≠none:=fun c h=>by
  by_cases hc:c=l
  .rw[hc,aU];exact fun z=>nomatch z
  .rw[aX hc];exact h
 have off:∀c ob,c≠l->H5 c=some ob->upd H5 l (.lst (xs++[v])) c=some ob:=fun c ob hc h=>by rw[aX hc];exact h
 refine⟨l,xs,v,rfl,rfl,e5,by rw[<-r5.length,jc];show ps.length<_;omega,q _ ?_ ?_⟩
 .rw[CL];exact⟨fun c ob h nw nL nB=>off c ob (fun z=>nB (by rw[z];exact bl)) (k5.obj c ob h nw nL),fun c ys h=>st.tup c ys (k5.tup c ys h),fun c h=>cD c (k5.cD c h),fun _ h=>.inl h,fun _ h=>.inl h⟩
 .have al:a≠l:=fun z=>by
   have:=n5.sec.nd;rw[fq]at this;exact this.1 (by rw[z];exact bp.mpr ⟨_,hz,rfl⟩)
  refine⟨n5.ok.keep cD,?_,?_,n5.at',?_⟩
  .rw[CL];exact fun c h=>⟨cD c (n5.EF c h).1,(n5.EF c h).2⟩
  .rw[CL];refine n5.en.grow st rfl (fun _ h _=>h) (fun c ob h he=>off c ob (fun z=>?_) he) fun c ob he h _ _=>off c ob (fun z=>h.2 (by rw[z];exact bl)) he
   rw[z]at h;exact h.elim (fun⟨i,w⟩=>nl.1 (n.ok.mo _ (n.ok.wm i l w))) nl.2
  .rw[CL];refine⟨?_,fun z hz'=>?_,?_,?_⟩
   .rw[Q9];exact let⟨ep,e⟩:=n5.sec.ZF;⟨ep,off a _ al e⟩
   .obtain⟨z0,h0,rfl⟩:=bp.mp hz'
    by_cases hk:z0.1=k
    .have:z0=(k,l,ps):=JB n5.sec.kd z0 h0 _ hz hk;subst this;rw[ao rfl];exact⟨_,aU,(r5.aK st).app (.cons (rp.aK st) .nil)⟩
    .rw[ai hk];obtain⟨ys,h1,h2⟩:=n5.sec.lst z0 h0;have hne:z0.2.1≠l:=fun z=>by
      have:=JB (fq.mp n5.sec.nd).2 z0 h0 _ hz z;exact hk (by rw[this])
     exact⟨ys,off _ _ hne h1,h2.aK st⟩
   .rw[A3];exact n5.sec.nd
   .rw[RC];exact n5.sec.kd
noncomputable def aa0 (fk fv:FE):FX:=fun e d=>bE (fk e) fun kb e1=>bO (kb.weak.get e1) fun kp=>bO (keyOf kp) fun k=>bE (fv e1) fun b e2=>bO b.put fun p=>
 bD (decide (d.length<1000000) && d.all fun kp=>decide (kp.2.length<1000000)) (some (.nx e2 (q5 d k p)))
theorem aaG:∀(t:Tr) (k:Key),(eW (t.map fun z=>(z.1,V.ref z.2.1)) k=none/\∀z∈t,z.1≠k)\/ ∃z∈t,z.1=k/\eW (t.map fun z=>(z.1,V.ref z.2.1)) k=some (.ref z.2.1)
 |[],k=>.inl ⟨rfl,fun _ h=>nomatch h⟩
 | z::t,k=>by
  by_cases h:z.1=k
  .refine .inr ⟨z,bh,h,?_⟩;unfold eW;rw[map_cons,find?_cons,decide_eq_true h];rfl
  .have e:eW ((z::t).map fun z=>(z.1,V.ref z.2.1)) k=eW (t.map fun z=>(z.1,V.ref z.2.1)) k:=by
    unfold eW;rw[map_cons,find?_cons,decide_eq_false h]
   rw[e];rcases aaG t k with⟨h1,h2⟩|⟨y,hy,h1,h2⟩
   .exact .inl ⟨h1,fun w hw=>(bw.mp hw).elim (fun e=>by rw[e];exact h) (h2 w)⟩
   .exact .inr ⟨y,ba _ hy,h1,h2⟩
theorem O8 {tk:TE} (hk:Ref K tk fk) (hv:Ref K tv fv):G8 K x (QO (tBM K "list" xR (T9 (yX x) tk (R7 tN)) (eI tv tN))) (aa0 fk fv):=by
 intro O M W a L σ H e tr r D n hf q;obtain⟨kb,e1,f1,hf⟩:=aM hf;obtain⟨kp,g1,hf⟩:=aF hf;obtain⟨k,gk,hf⟩:=aF hf;obtain⟨b,e2,f2,hf⟩:=aM hf;obtain⟨p,g2,hf⟩:=aF hf;obtain⟨gz,hf⟩:=aL hf;cases hf;rw[cj]at gz;have z1:=av gz.1;have z2:=bg.mp gz.2;have lenT:tr.length=(ofT tr).length:=by unfold ofT;rw[ag]
 refine⟨.ref a,n.at',a,rfl,.inl ⟨_,n.sec.ZF.rd⟩,?_⟩;refine hk _ _ _ L σ H e _ _ _ (n.EF.ZI n.ok) n.en f1 fun y H2 k1 rb fr=>?_
 have o2:=(n.EF.ZI n.ok).keep k1.cD;have n2:=n.keep k1 (rb.en o2);have ky:y=kV k:=((rb.rv o2).red (rb.en o2) g1).key gk;refine⟨ic _,fun l hl=>?_⟩;have al:a≠l:=fun z=>(n2.EF a (.inl rfl)).1 (by rw[z];exact hl)
 have sm:aT H2 (upd H2 l (.lst [])):=aT.upd hl;have n3:M9 K O M W x a L σ (upd H2 l (.lst [])) e1 tr:=n2.keep (.same sm) (n2.en.same sm);refine⟨_,k,n3.sec.ZF,ky,by rw[ag,lenT,jc];omega,?_,?_⟩
 .intro v hv';rcases aaG tr k with⟨h1,_⟩|⟨z,hz,h1,h2⟩
  .rw[h1]at hv';cases hv'
  .rw[h2]at hv';cases hv';have hz':(k,z.2.1,z.2.2)∈tr:=by rw[<-h1];exact hz
   have zl:=av (z2 (z.1,z.2.2) (bp.mpr ⟨z,hz,rfl⟩));refine GB hv n3 hz' f2 g2 zl fun H' g' n'=>q L σ H' _ ((fR.keep (kw k1)).trans ((fR.keep (.same sm)).trans g')) n' ?_
   rw[L4];have anyT:((ofT tr).any fun kp=>decide (kp.1=k))=true:=iq.mpr ⟨(z.1,z.2.2),bp.mpr ⟨z,hz,rfl⟩,decide_eq_true h1⟩;unfold q5;rw[ao anyT]
 .intro ep hv';rcases aaG tr k with⟨_,h2⟩|⟨z,hz,h1,h2⟩
  .have anyF:((tr.map fun z=>(z.1,V.ref z.2.1)).any fun kv=>decide (kv.1=k))=false:=by
    rw[any_map,jt];intro z hz;simpa using h2 z hz
   have eput:putK (tr.map fun z=>(z.1,V.ref z.2.1)) k (.ref l)=(tr++[(k,l,[])]:Tr).map fun z:Key×Addr×List PV=>(z.1,V.ref z.2.1):=by
    unfold putK;rw[anyF,ai ax,cf];rfl
   rw[eput];have cD:∀c,H2 c≠none->upd (upd H2 l (.lst [])) a (.dK ((tr++[(k,l,[])]:Tr).map fun z:Key×Addr×List PV=>(z.1,V.ref z.2.1)) ep) c≠none:=fun c h=>by
    by_cases hc:c=a
    .rw[hc,aU];exact fun z=>nomatch z
    .rw[aX hc]
     by_cases hc:c=l
     .rw[hc,aU];exact fun z=>nomatch z
     .rw[aX hc];exact h
   have off:∀c ob,c≠a->H2 c=some ob->upd (upd H2 l (.lst [])) a (.dK ((tr++[(k,l,[])]:Tr).map fun z:Key×Addr×List PV=>(z.1,V.ref z.2.1)) ep) c=some ob:=fun c ob hc h=>by
    rw[aX hc,aX (fun z=>by rw[z,hl]at h;cases h)];exact h
   have ll:upd (upd H2 l (.lst [])) a (.dK ((tr++[(k,l,[])]:Tr).map fun z:Key×Addr×List PV=>(z.1,V.ref z.2.1)) ep) l=some (.lst []):=by rw[aX (Ne.symm al),aU]
   have bx:∀c,BX a (tr++[(k,l,[])]) c->BX a tr c\/ c=l:=fun c h=>by
    rcases h with h|h
    .exact .inl (.inl h)
    .rw[cf]at h;rcases bj.mp h with h|h
     .exact .inl (.inr h)
     .exact .inr (by simpa using h)
   have st:cZ (aW (aW M (BX a tr)) L) (aW (aW M (BX a (tr++[(k,l,[])]))) L) H2 (upd (upd H2 l (.lst [])) a (.dK ((tr++[(k,l,[])]:Tr).map fun z:Key×Addr×List PV=>(z.1,V.ref z.2.1)) ep)):=
    ⟨fun c ys h=>off c _ (fun z=>by obtain⟨_,e⟩:=n2.sec.ZF;rw[z,e]at h;cases h) h,fun c ob h nz=>⟨off c ob (fun z=>nz (.inl (.inr (.inl z)))) h,fun z=>by
     rcases z with(z|z)|z
     .exact nz (.inl (.inl z))
     .rcases bx c z with z|z
      .exact nz (.inl (.inr z))
      .rw[z,hl]at h;cases h
     .exact nz (.inr z)⟩⟩
   have na:=n2.EF a (.inl rfl);have n4:M9 K O M W x a L σ (upd (upd H2 l (.lst [])) a (.dK ((tr++[(k,l,[])]:Tr).map fun z:Key×Addr×List PV=>(z.1,V.ref z.2.1)) ep)) e1 (tr++[(k,l,[])]):=by
    refine⟨n2.ok.keep cD,fun c h=>?_,?_,n2.at',?_⟩
    .rcases bx c h with h|h
     .exact⟨cD c (n2.EF c h).1,(n2.EF c h).2⟩
     .rw[h];exact⟨by rw[ll];exact(fun z=>nomatch z),fun z=>n2.ok.old l z hl,fun z=>(n2.ok.loc l z).1 hl⟩
    .refine n2.en.grow st rfl (fun c h hc=>⟨h.1,fun z=>(bx c z).elim h.2 fun z=>hc (by rw[z];exact hl)⟩) (fun c ob h he=>off c ob (fun z=>?_) he) fun c ob he h _ _=>off c ob (fun z=>h.2 (.inl z)) he
     rw[z]at h;exact h.elim (fun⟨i,w⟩=>na.2.1 (n2.ok.mo _ (n2.ok.wm i a w))) na.2.2
    .refine⟨⟨ep,aU⟩,fun z hz=>?_,?_,?_⟩
     .rcases bj.mp hz with hz|hz
      .obtain⟨xs,h1,h3⟩:=n2.sec.lst z hz;have hne:z.2.1≠a:=fun w=>(fq.mp n2.sec.nd).1 (by rw[<-w];exact bp.mpr ⟨z,hz,rfl⟩)
       exact⟨xs,off _ _ hne h1,h3.aK st⟩
      .rw[bu.mp hz];exact⟨[],ll,.nil⟩
     .rw[cf,<-cons_append];refine dz.mpr ⟨n2.sec.nd,by simp,fun u hu w hw e=>?_⟩;have hw':w=l:=by simpa using hw
      rw[e,hw']at hu;rcases bw.mp hu with hu|hu
      .exact al hu.symm
      .obtain⟨z,hz,ez⟩:=bp.mp hu;obtain⟨xs,h1,_⟩:=n2.sec.lst z hz;rw[show z.2.1=l from ez,hl]at h1;cases h1
     .rw[cf];refine dz.mpr ⟨n2.sec.kd,by simp,fun u hu w hw e=>?_⟩;have hw':w=k:=by simpa using hw
      obtain⟨z,hz,ez⟩:=bp.mp hu;exact h2 z hz (by rw[ez,e,hw'])
   have g4:fR W L L (BX a tr) (BX a (tr++[(k,l,[])])) H2 (upd (upd H2 l (.lst [])) a (.dK ((tr++[(k,l,[])]:Tr).map fun z:Key×Addr×List PV=>(z.1,V.ref z.2.1)) ep)):=
    ⟨fun c ob h _ _ nb=>off c ob (fun z=>nb (.inl z)) h,st.tup,cD,fun _ h=>.inl h,fun c h=>(bx c h).elim .inl fun z=>.inr (by rw[z];exact hl)⟩
   have hz:(k,l,[])∈tr++[(k,l,([]:List PV))]:=bj.mpr (.inr bh);refine GB hv n4 hz f2 g2 (by decide) fun H' g' n'=>q L σ H' _ ((fR.keep (kw k1)).trans (g4.trans g')) n' ?_
   have anyD:((ofT tr).any fun kp=>decide (kp.1=k))=false:=by
    unfold ofT;rw[any_map,jt];intro z hz;simpa using h2 z hz
   unfold q5;rw[anyD,ai ax,L4];have eo:ofT (tr++[(k,l,[])])=ofT tr++[(k,[])]:=by unfold ofT;rw[cf];rfl
   rw[eo,cf];congr 1
   .have:∀kp∈ofT tr,(if kp.1=k then(kp.1,kp.2++[p])else kp)=kp:=fun kp hkp=>by
     obtain⟨z,hz,rfl⟩:=bp.mp hkp;exact ai (h2 z hz)
    rw[ja this,map_id']
   .simp
  .rw[h2]at hv';cases hv'
noncomputable def sX (x:Nat) (f:FX):FS:=fun e=>bD (decide (x<e.length)) (match f (e.set x none) []with
 |some (.nx e' d)=>some (.rt (.new (.aZ (d.map fun kp=>(kp.1,.lst kp.2)))) e')
 |_=>none)
theorem yC:∀{t:Tr},(∀z∈t,∃xs,H z.2.1=some (.lst xs)/\bI K Z H z.2.2 xs/\¬Z z.2.1)->bI K Z H (((ofT t).map fun kp=>(kp.1,PV.lst kp.2)).map (·.2)) ((t.map fun z=>(z.1,V.ref z.2.1)).map (·.2))
 |[],_=>.nil
 |z::t,h=>by
  obtain⟨xs,h1,h2,h3⟩:=h z bh;exact .cons (.lst (.inl h1) h3 h2) (yC fun w hw=>h w (ba _ hw))
theorem KO {ts:TS} (h:G8 K x ts f):gA K (VV (t9 DU (jY x)) (VV ts (aaE (yX x)))) (sX x f):=by
 intro O M W L σ H e r D o he hf q;obtain⟨hx,hf⟩:=aL hf;have hx:=av hx;split at hf
 .rename_i e' d c;cases hf;intro a ha;have sm:aT H (upd H a (.dK [] 0)):=aT.upd ha;have na:¬O a/\¬L a:=⟨fun z=>o.old a z ha,fun z=>(o.loc a z).1 ha⟩;have b0:∀c,BX a [] c->c=a:=fun c h=>h.elim id fun h=>nomatch h
  have n0:M9 K O M W x a L (σ.set x (some (.ref a))) (upd H a (.dK [] 0)) (e.set x none) []:=by
   refine⟨o.keep (cA.same (W:=W) (L:=L) sm).cD,fun c h=>?_,?_,?_,?_⟩
   .rw[b0 c h,aU];exact⟨(fun z=>nomatch z),na⟩
   .refine(he.grow (Z':=aW (aW M (BX a [])) L) (W':=wB W (BX a [])) (H':=upd H a (.dK [] 0)) ⟨fun _ _ h=>sm _ _ h,fun c ob h nz=>⟨sm _ _ h,fun z=>?_⟩⟩ rfl (fun c h hc=>⟨h,fun z=>hc (by rw[b0 c z];exact ha)⟩) (fun c ob _ h=>sm _ _ h) fun c ob h _ _ _=>sm _ _ h).unset;rcases z with(z|z)|z
    .exact nz (.inl z)
    .rw[b0 c z,ha]at h;cases h
    .exact nz (.inr z)
   .rw[fx (by rw[<-he.len];exact hx)]
   .exact⟨⟨0,aU⟩,(fun _ h=>nomatch h),by simp,by simp⟩
  refine h O M W a L _ _ _ [] _ _ n0 c fun L' σ' H' t' g n ed=>⟨.ref a,n.at',q L' σ' H' (.ref a) ?_ n.ok ?_⟩
  .refine⟨fun c ob h nw nl=>g.obj c ob (sm _ _ h) nw nl fun z=>?_,fun c ys h=>g.tup c ys (sm _ _ h),fun c h=>g.cD c ((cA.same (W:=W) (L:=L) sm).cD c h),fun c h=>(g.new c h).elim .inl fun z=>.inr (none_of (cA.same (W:=W) (L:=L) sm).cD z)⟩;rw[b0 c z,ha]at h;cases h
  .subst ed;have nb:=fun c h=>n.EF c h
   have na':=nb a (.inl rfl);have less:∀c,aW M (aW L' (one a)) c->aW (aW M (BX a t')) L' c:=fun c z=>by
    rcases z with z|z|z
    .exact .inl (.inl z)
    .exact .inr z
    .exact .inl (.inr (.inl z))
   have k:cZ (aW (aW M (BX a t')) L') (aW M (aW L' (one a))) H' H':=.less less;refine⟨a,rfl,na'.2.1,na'.2.2,⟨n.en.len,fun i s hs=>?_,n.en.uU⟩,fun i s hs hm es=>?_,?_⟩
   .obtain⟨v,h1,h2⟩:=n.en.at' i s hs;refine⟨v,h1,?_⟩;cases s with
    |val p=>exact Rep.aK k h2
    |own p=>obtain⟨a,e,w,c⟩:=h2;exact⟨a,e,w,c.aK k fun o q=>q⟩
    |loc p=>obtain⟨a,e,w,c⟩:=h2;exact⟨a,e,.inl w,c.aK k fun o q=>q⟩
    |bor p=>
     obtain⟨a',e,c⟩:=h2;refine⟨a',e,?_⟩;cases c with
     |lst e od n m r=>exact .lst e od.1 n (fun z=>z.elim m fun z=>od.2 (.inl z)) (r.aK k)
     |fL e r=>exact .fL e (r.aK k)
     |aZ e od n m kk r=>exact .aZ e od.1 n (fun z=>z.elim m fun z=>od.2 (.inl z)) kk (r.aK k)
   .obtain⟨v,h1,h2⟩:=n.en.at' i s hs;rw[h1]at es;cases es;cases s with
    |val p=>cases hm
    |bor p=>cases hm
    |own p=>obtain⟨a',e,w,c⟩:=h2;cases e;exact na'.2.1 (n.ok.mo _ (n.ok.wm i a w))
    |loc p=>obtain⟨a',e,w,c⟩:=h2;cases e;exact na'.2.2 w
   .obtain⟨_,ZF⟩:=n.sec.ZF;refine .aZ ZF ?_ (yC fun z hz=>?_)
    .unfold ofT;rw[iz,iz,iz];rfl
    .obtain⟨xs,h1,h2⟩:=n.sec.lst z hz;have hb:BX a t' z.2.1:=.inr (bp.mpr ⟨z,hz,rfl⟩);have nz:=nb _ hb;refine⟨xs,h1,h2.aK k,fun w=>?_⟩;rcases w with w|w|w
     .exact nz.2.1 (n.ok.mo _ w)
     .exact nz.2.2 w
     .exact(fq.mp n.sec.nd).1 (by rw[<-show z.2.1=a from w];exact bp.mpr ⟨z,hz,rfl⟩)
 .cases hf
end
section
variable {K:Frag}
noncomputable def RT:PV->PV->PV->Option Bv
 | .aZ kvs,p,z=>bO (keyOf p) fun k=>some (.val ((cG kvs k).getD z))
 |_,_,_=>none
noncomputable def S8 (fa fb fc:FE):FE:=fun e=>bE (fa e) fun x e1=>bO (x.weak.get e1) fun p1=>match p1 with
 | .aZ _=>bE (fb e1) fun y e2=>bE (fc e2) fun z e3=>bO z.put fun pz=>bO (x.weak.get e3) fun p=>bO (y.weak.get e3) fun q=>bO (RT p q pz) fun b=>some (b,e3)
 |_=>none
theorem P9 {ta tb tc:TE} {fa fc:FE} (ha:Ref K ta fa) (hb:Ref K tb fb) (hc:Ref K tc fc):Ref K (SF ta tb tc) (S8 fa fb fc):=by
 intro O M W L σ H e e' b Q o he hf q;obtain⟨x,e1,f1,hf⟩:=aM hf;obtain⟨p1,g0,hf⟩:=aF hf;cases p1 with
 | aZ kvs1=>
  obtain⟨y,e2,f2,hf⟩:=aM hf;obtain⟨z,e3,f3,hf⟩:=aM hf;obtain⟨pz,gz,hf⟩:=aF hf;obtain⟨p,g1,hf⟩:=aF hf;obtain⟨p',g2,hf⟩:=aF hf;obtain⟨c,g3,hf⟩:=aF hf;cases hf;refine ha O M W L σ H e e1 x _ o he f1 fun v1 H1 k1 r1 fr=>?_
  have o1:=o.keep k1.cD;obtain⟨a1,ys1,e11,ha1,_,_⟩:=((r1.rv o1).red (r1.en o1) g0).vJ;refine⟨a1,e11,.inl ⟨ys1,ha1⟩,?_⟩;refine hb O M W L σ H1 e1 _ y _ o1 (r1.en o1) f2 fun v2 H2 k2 r2 fr=>?_
  have o2:=o1.keep k2.cD;refine hc O M W L σ H2 e2 _ z _ o2 (r2.en o2) f3 fun v3 H3 k3 r3 fr=>?_
  have o3:=o2.keep k3.cD;obtain⟨en,rz⟩:=r3.put o3 gz;have rp:=(((r1.rv o1).keep o1 k2).keep o2 k3).red en g1;have rq:=((r2.rv o2).keep o2 k3).red en g2;cases p with
  | aZ kvs=>
   obtain⟨key,g4,g3⟩:=aF g3;cases g3;obtain⟨a,ys,e3',ha',ek,r⟩:=rp.vJ;rw[e11]at e3';cases e3';refine⟨eW ys key,.inl ⟨ys,key,ha',rq.key g4,rfl⟩,?_⟩;refine q _ H3 ((k1.trans k2).trans k3) ?_ ?_
   .refine⟨en,?_⟩;rcases dE.val key ⟨ek,r⟩with⟨h1,h2⟩|⟨p'',v',h1,h2,h3⟩
    .rw[h1,h2];exact rz
    .rw[h1,h2];exact h3
   .trivial
  |_=>cases g3
 |_=>cases hf
theorem WC {fa fc:FE}:S8 fa fb fc e=bE (fa e) fun x e1=>bO (x.weak.get e1) fun p1=>match p1 with
 | .aZ _=>bE (fb e1) fun y e2=>bE (fc e2) fun z e3=>bO z.put fun pz=>bO (x.weak.get e3) fun p=>bO (y.weak.get e3) fun q=>bO (RT p q pz) fun b=>some (b,e3)
 |_=>none:=rfl
theorem W8 {f g:FX} {e:En} {d:DD} {Q:AJ->Prop}:Wp (aeP f g e d) Q↔Wp (f e d) fun o=>match o with| .nx e1 d1=>Wp (g e1 d1) Q|o=>Q o:=by
 unfold aeP;cases f e d with
 |none=>simp[tZ]
 |some o=>
  rw[b9];cases o<;>simp[b9]
theorem VG {fg:FG} {fb:FX}:Wp (S6 fi fg fb e d) Q↔Wp (fi e) fun z=>Wp (rH (fun x e d=>bO (fg x e) fun e2=>fb e2 d) z.1 z.2 d) Q:=by
 unfold S6;rw[mR]
theorem afJ {x:Nat} {f:FX} {e:En} {Q:Out->Prop}:Wp (sX x f e) Q↔x<e.length/\Wp (f (e.set x none) []) fun o=>match o with| .nx e' d=>Q (.rt (.new (.aZ (d.map fun kp=>(kp.1,.lst kp.2)))) e')| .ct _ _=>False:=by
 unfold sX;rw[eQ,decide_eq_true_eq];refine and_congr_right fun _=>?_
 cases f (e.set x none) []with
 |none=>simp[tZ]
 |some o=>
  rw[b9];cases o<;>simp[b9,tZ]
theorem U8:S9 e d=some (.nx e d):=rfl
theorem ae2:xIf fc f g e d=bE (fc e) fun b e1=>bB b (f e1 d) (g e1 d):=rfl
theorem ad8 {f:FE}:xIt f e=bE (f e) fun b e1=>match b with
 | .val (.tup ps)=>some (ps,e1)
 |_=>none:=rfl
theorem abF:abV fa e=bE (fa e) fun bs e1=>match bs with
 |[.val (.tup ps)]=>some (ps.zipIdx.map fun z=>.tup [.int (z.2:Int),z.1],e1)
 |_=>none:=rfl
theorem ab3:aa0 fk fv e d=bE (fk e) fun kb e1=>bO (kb.weak.get e1) fun kp=>bO (keyOf kp) fun k=>bE (fv e1) fun b e2=>bO b.put fun p=>
 bD (decide (d.length<1000000) && d.all fun kp=>decide (kp.2.length<1000000)) (some (.nx e2 (q5 d k p))):=rfl
theorem GP {body:PV->En->DD->Option AJ} (I:Nat->En->DD->Prop) {xs:List PV} (hs:∀(i:Nat) x e d,xs[i]? =some x->I i e d->Wp (body x e d) fun o=>match o with| .nx e1 d1=>I (i+1) e1 d1| .ct e1 d1=>I (i+1) e1 d1)
  (hd:∀e d,I xs.length e d->Q (.nx e d)) {e:En} {d:DD} (h0:I 0 e d):Wp (rH body xs e d) Q:=by
 have key:∀(ys:List PV) (i:Nat) (e:En) (d:DD),i<=xs.length->xs.drop i=ys->I i e d->Wp (rH body ys e d) Q:=by
  intro ys
  induction ys with
  | nil=>
   intro i e d hil hy hi;unfold rH;rw[b9];have hl:xs.length<=i:=by
    have:=dq List.length hy;rw[fy]at this;simp at this;omega
   have h:i=xs.length:=by omega
   subst h;exact hd e d hi
  | cons x ys ih=>
   intro i e d hil hy hi;have hlt:i<xs.length:=by
    have:=dq List.length hy;rw[fy,length_cons]at this;omega
   rw[eh hlt]at hy;have hx:xs[i]? =some x:=by rw[aj hlt,(List.cons.inj hy).1]
   obtain⟨o,h1,h2⟩:=hs i x e d hx hi;unfold rH;rw[h1];cases o with
   |nx e1 d1=>exact ih (i+1) e1 d1 hlt (List.cons.inj hy).2 h2
   |ct e1 d1=>exact ih (i+1) e1 d1 hlt (List.cons.inj hy).2 h2
 exact key xs 0 e d (ic _) rfl h0
end
end Mr
namespace L2
open PySem
section
variable {prog:Program} {w:World} {A:Around} {R:Result->Shared->Prop} {s:Shared}
theorem NJ {kx vx target iter:Expr} {ifs:List Expr} {scope:Scope} {pos:Pos} {it:Value} {D:Addr} {env:Env} (I:Nat->Shared->Prop)
  (turn:∀n s,I n s->wpAny (model prog w) A (pyNext it) (fun r s₁=>match r with
   |none=>R (.ok .next) s₁
   | some v=>wpAny (model prog w) A (letOwnedTupleGo target it v) (fun _ s₁'=>wpAny (model prog w) A (assign target env v) (fun _ s₂=>
     wpAny (model prog w) A (forIn ifs true fun c r=>if r=true then do let ok<-isTrue c env (eval c env);pure (ForInStep.yield ok)else pure (ForInStep.yield r)) (fun ok s₃=>
      if ok=true then wpAny (model prog w) A (eval kx env) (fun kv s₄=>wpAny (model prog w) A (eval vx env) (fun vv s₅=>
       wpAny (model prog w) A (dictSet D kv vv) (fun _ s₆=>∃m,m<n/\I m s₆) (fun _ _=>False) s₅) (fun _ _=>False) s₄) (fun _ _=>False) s₃
      else∃m,m<n/\I m s₃) (fun _ _=>False) s₂) (fun _ _=>False) s₁') (fun _ _=>False) s₁) (fun _ _=>False) s)
  (n:Nat) (h:I n s):
  codeAny (model prog w) A (.compLoop (.DictComp kx vx [⟨target,iter,ifs,0⟩] scope pos) 0 it (.ref D) env) R s:=by
 refine codeAny_loop rfl I (fun n s hI=>?_) n h;show wpAny _ A ((compTurn (.DictComp kx vx [⟨target,iter,ifs,0⟩] scope pos) 0 it (.ref D) env).onRaise (fun x=>do noteFrame x env;theTreesLotGoes x)) _ _ s;refine wpAny_noted ?_;refine dy (E:=fun _ _=>False) ?_ (fun _ _ q=>q) (fun _ _ z=>z.elim);rw[compTurn_dict];refine ae (wpAny_standAt (ae (dy (turn n s hI) (fun r s₁ h₁=>?_) fun _ _ h'=>h')));cases r with
 |none=>exact au h₁
 | some v=>
  refine ae (dy h₁ (fun _ s₁' h₁'=>?_) fun _ _ h'=>h');refine ae (dy h₁' (fun _ s₂ h₂=>ae (dy h₂ (fun ok s₃ h₃=>?_) fun _ _ h'=>h')) fun _ _ h'=>h');cases ok with
  |false=>exact au ⟨rfl,h₃⟩
  |true=>
   exact ae (ae (dy h₃ (fun kv s₄ h₄=>ae (gd (dy h₄ (fun vv s₅ h₅=>ae (wpAny_standAt (gd (dy h₅ (fun _ s₆ h₆=>au ⟨rfl,h₆⟩) fun _ _ h'=>h')))) fun _ _ h'=>h'))) fun _ _ h'=>h'))
end
def ae8 (J:It) (g:TG) (tt:TT) (tk te:TE) (l:Addr) (σ0:St) (H0:Hp) (Q:VK):Prop:=
 ∃W:Nat->Nat->St->Hp->Prop,(∃m,W 0 m σ0 H0)/\
   ∀i m σ' H2,W i m σ' H2->(J.stop i H2/\Q (.ref l) H2)\/ (J.go i H2/\∃N:St->Hp->Prop,(∀σ3 H3,N σ3 H3->∃m',m'<m/\W (i+1) m' σ3 H3)/\
    ∀x H3,J.yld i H2 x H3->g x σ' H3 fun σ4 H4=>tt σ4 H4 fun b H5=>if b=true then tk σ4 H5 fun kv H6=>te σ4 H6 fun y H7=>∃kvs key,y7 H7 l kvs/\kv=kV key/\kvs.length<sizeLine/\∀ep,N σ4 (upd H7 l (.dK (putK kvs key y) ep))else N σ4 H5)
def EN (wi:TI) (k:Nat) (cap:List Nat) (g:TG) (tt:TT) (tk te:TE):TE:=fun σ H Q=>wi σ H fun J H1=>∀l,H1 l=none->ae8 J g tt tk te l (gG k cap σ) (upd H1 l (.dK [] 0)) Q
section
variable {X:Cx} {kx vx tg iter:Expr} {ifs:List Expr} {scope:Scope} {pos:Pos} {wi:TI} {g:TG} {tt:TT} {tk te:TE} {N:List Str} {k:Nat} {cap:List Nat}
theorem RM {zq:List (Addr×Obj)} {σ:St} {H2:Hp} {s2:Shared} {cl:List (Str×Addr)} {C:Addr} {fp:List Addr} {h1:Heap} {tk:Nat} {m0:Str->Option Value} (S:gM X scope N k cap) (I2:Inv X zq σ H2 s2)
  (hcl1:∀y c,cl.lookup y=some c->X.env.cells.lookup y=some c) (hcl2:∀y,(y,NameKind.free)∈scope.names->(cl.lookup y).isSome=true) (hC:C=s2.heap.objs.size+1)
  (hf:∀b∈fp,tS X zq H2 b) (ho:∀b∈fp,b<s2.heap.objs.size) (hk:∀b o,s2.heap.get? b=some o->h1.get? b=some o) (hD:h1.get? s2.heap.objs.size=some {cls:=.type "dict",data:=.dict #[]}) (hns:h1.Ns C m0):
  Inv (bJ X scope N ⟨cl,C,s2,H2,fp⟩) [] (gG k cap σ) (upd H2 s2.heap.objs.size (.dK [] 0)) {s2 with heap:=h1,toks:=tk}:=by
 have fr:H2 s2.heap.objs.size=none:=I2.bR.fresh (bc _);have hCf:H2 C=none:=I2.bR.fresh (hC▸jg _);refine⟨yE S I2 hcl1 hcl2 (hC▸jg _) hf ho,rfl,I2.bare,Un.laid hk (bc _) fr,⟨m0,hns,fun i y v e1 e2 e3=>?_⟩,fun x c e=>?_,?_,fun x c e=>?_,fun p hp=>absurd (show p∈([]:List (Addr×Obj))from hp) (by simp),I2.bR.laid hk (bc _) ?_,?_⟩
 .obtain⟨q,j,rfl,hj,hv⟩:=BI e2;obtain⟨z,hz1,hz2,hz3⟩:=S.cap q j hj;have e1':N[k+q]? =some y:=e1;rw[hz1]at e1';cases e1';obtain⟨m,hn,hl⟩:=I2.loc;have hfr:=S.free (y,.free) (gm hz3) rfl;obtain⟨u,r,l⟩:=hl j y v hz2 hv (by rcases hfr with z|z;exact .inr (.inl z);exact .inr (.inr z));refine⟨u,r,.inr ⟨e8 (env:=X.env) hz3,?_⟩⟩;obtain⟨c,hc⟩:=jy.mp (hcl2 y (gm hz3));rcases l with⟨hk',_⟩|⟨_,c',hc',hcell⟩
  .rcases hfr with z|z<;>(rw[hk']at z;cases z)
  .have e:=hcl1 y c hc;rw[hc']at e;cases e;obtain⟨o,ho',hd⟩:=hcell;exact⟨_,hc,o,hk _ _ ho',hd⟩
 .obtain⟨v,o,ho',hd⟩:=I2.cell x c (hcl1 x c e);exact⟨v,o,hk _ _ ho',hd⟩
 .show upd H2 s2.heap.objs.size (.dK [] 0) C=none;rw[aX (iw (hC▸jo _))];exact hCf
 .have e':=hcl1 x c e;obtain⟨v,q⟩:=I2.cell x c e';rw[aX (cn q.lt)];exact I2.p4 x c e'
 .exact⟨ic _,kz.mpr (Ne.symm (cn I2.big)),[],.nil,⟨_, #[],hD,⟨rfl,rfl,rfl⟩,rfl,(fun _ h=>absurd h (by simp)),.nil,jh⟩⟩
 .show(gG k cap σ).length=N.length;unfold gG;rw[br,gu,ag,S.len]
theorem TN (hc:X.calm=true) (S:gM X scope N k cap) (hi:PI X tg iter wi) (hg:∀c,PG (bJ X scope N c) tg g) (ht:∀c,YT (bJ X scope N c) ifs tt) (hk:∀c,PE (bJ X scope N c) kx tk) (he:∀c,PE (bJ X scope N c) vx te)
  (hs:∀x,foldedSetIterable iter X.env x=pure x:=by intro _;rfl):PE X (.DictComp kx vx [⟨tg,iter,ifs,0⟩] scope pos) (EN wi k cap g tt tk te):=by
 intro zq s σ H Q I h;rw[arm_eval_DictComp];obtain⟨cl,hclos,hcl1,hcl2⟩:=k8 (scope:=scope) (env:=X.env) (fun p hp hf=>I.ok.has p.1 (S.free p hp hf));refine wpAny_comprehension_free (use:=none) rfl hs hclos S.kind S.names (cS (hi zq s σ H _ I h) fun v s1 h1=>cS h1 fun itv s2 h2=>?_);obtain⟨it,fp,tn,J,H2,e,I2,T,st2,f2,q2⟩:=h2;subst e;obtain⟨W,⟨m0,w0⟩,turn⟩:=q2 s2.heap.objs.size (I2.bR.fresh (bc _));have hob:∀b∈fp,b<s2.heap.objs.size:=fun b hb=>let⟨o,e,_⟩:=T.obj _ _ st2 b hb;cm e
 refine dk (wpAny_newFunctionEnv S.cell (by intro y hy;simp at hy) (fun h₁ hns₁ hsb₁=>?_) S.kind);dsimp only at hns₁ hsb₁⊢
 generalize hHH:s2.heap.push {cls:=.type "dict",dict:=none,data:=.dict #[]}=HH at hns₁ hsb₁⊢
 have hCC:HH.objs.size=s2.heap.objs.size+1:=by rw[<-hHH,ig]
 have old:∀b o,s2.heap.get? b=some o->h₁.get? b=some o:=fun b o e=>hsb₁.extBut b o (cn (hCC▸dw (cm e))) (ah _ (hHH▸ah _ e))
 have hD:h₁.get? s2.heap.objs.size=some {cls:=.type "dict",data:=.dict #[]}:=hsb₁.extBut _ _ (cn (hCC▸jo _)) (ah _ (hHH▸bz _ rfl));have I4:=fun tk=>RM (tk:=tk) S I2 hcl1 hcl2 hCC f2 hob old hD hns₁
 have X':=bJ X scope N ⟨cl,HH.objs.size,s2,H2,fp⟩;have stat:∀{H':Hp},(∀b∈fp,H' b=none)->∀b∈fp,tS (bJ X scope N ⟨cl,HH.objs.size,s2,H2,fp⟩) [] H' b:=fun hn b hb=>
  ⟨hn b hb,cn (hCC▸dw (hob b hb)),(yE S I2 hcl1 hcl2 (hCC▸jg _) f2 hob).FC b hb,.inl hb,fun x c e=>(f2 b hb).2.2.2.2.1 x c (hcl1 x c e),fun p hp=>absurd (show p∈([]:List (Addr×Obj))from hp) (by simp)⟩
 have loop:∀s₃:Shared,s₃={s2 with heap:=h₁,toks:=s2.toks+([]:List (Str×Value)).length}->
   codeAny (model X.prog X.w) X.A (.compLoop (.DictComp kx vx [⟨tg,iter,ifs,0⟩] scope pos) 0 (.ref it) (.ref s2.heap.objs.size) (compEnvC scope cl HH.objs.size X.env))
    (compPost (model X.prog X.w) X.A X.xe none (EP X zq σ Q) (.ref s2.heap.objs.size) HH.objs.size) s₃:=by
  rintro s₃ rfl;refine NJ (fun n s'=>∃i σ' H',Inv (bJ X scope N ⟨cl,HH.objs.size,s2,H2,fp⟩) [] σ' H' s'/\tn i s'.heap/\(∀b∈fp,H' b=none)/\W i n σ' H') ?_ m0
   ⟨0,gG k cap σ,_,I4 _,T.keep _ _ _ st2 fun b _ o e=>old b o e,fun b hb=>by rw[aX (cn (hob b hb))];exact(f2 b hb).1,w0⟩
  rintro n s3 ⟨i,σ3,H3,I3,st3,fr3,w3⟩;rcases turn i n σ3 H3 w3 with⟨stop,qn⟩|⟨go,NN,hN,step⟩
  .refine cS (T.done (bJ X scope N ⟨cl,HH.objs.size,s2,H2,fp⟩) rfl rfl rfl hc i [] s3 σ3 H3 _ I3 (stat fr3) st3 stop) fun r s4 ⟨hr,J4⟩=>?_
   subst hr;obtain⟨m,hn,_⟩:=J4.loc;refine⟨m,hn,fun h' hs'=>?_⟩;have keepC:∀b o,b≠HH.objs.size->s4.heap.get? b=some o->h'.get? b=some o:=fun b o hb e=>hs'.extBut b o hb e
   have gZ:∀b o,s2.heap.get? b=some o->b≠HH.objs.size:=fun b o e=>cn (hCC▸dw (cm e))
   have u:=J4.base;have u':Un (NW X.stack) fp H2 H3 s2.heap h':=⟨fun b o q n hb hx=>keepC b o (gZ b o q) (u.keep b o q n hb hx),fun b o q n hb hx=>by
     obtain⟨sl,e⟩:=u.slot b o q n hb hx;exact⟨sl,keepC b _ (gZ b o q) e⟩,u.free,fun b o q hx=>by
     obtain⟨o',e⟩:=u.there b o q hx;exact⟨o',keepC b _ (gZ b o q) e⟩,u.AQ,u.zH,u.AV⟩
   refine⟨.ref s2.heap.objs.size,H3,I2.R3 (ch:=fp) J4.os u' (J4.bR.but J4.free keepC) J4.bare fun b hb=>?_,rfl,qn⟩;obtain⟨_,f1,_,f3,f4,f5⟩:=f2 b hb;exact⟨f3,f1,f4,f5⟩
  .refine cS (T.item (bJ X scope N ⟨cl,HH.objs.size,s2,H2,fp⟩) rfl rfl rfl hc i [] s3 σ3 H3 _ I3 (stat fr3) st3 go) fun r s4 ⟨u,hr,h4⟩=>?_
   subst hr;refine cS h4 fun _ s5 ⟨x,H5,I5,r5,y5,st5,fr5⟩=>?_
   have I5':=I5.pinned (stat fr5) (T.obj _ _ st5);have again:∀{s7:Shared} {σ7:St} {H7:Hp},Inv (bJ X scope N ⟨cl,HH.objs.size,s2,H2,fp⟩) ([]++sQ fp s5.heap) σ7 H7 s7->NN σ7 H7->
     ∃m,m<n/\∃i σ' H',Inv (bJ X scope N ⟨cl,HH.objs.size,s2,H2,fp⟩) [] σ' H' s7/\tn i s7.heap/\(∀b∈fp,H' b=none)/\W i m σ' H':=fun{s7 σ7 H7} I7 n7=>by
    obtain⟨m',hm,w7⟩:=hN σ7 H7 n7;refine⟨m',hm,i+1,σ7,H7,I7.mB,T.keep _ _ _ st5 fun b hb o e=>(I7.pin (b,o) (bq _ (bq _ (eJ hb e)))).1,fun b hb=>?_,w7⟩;obtain⟨o,e,d⟩:=T.obj _ _ st5 b hb;exact(I7.pin (b,o) (bq _ (bq _ (eJ hb e)))).2.1
   refine cS (hg _ _ s5 σ3 H5 x u _ I5' r5 (step x H5 y5)) fun _ s6 ⟨σ6,H6,I6,q6⟩=>?_
   refine cS (ht _ _ s6 σ6 H6 _ I6 q6) fun b s7 ⟨H7,I7,q7⟩=>?_
   cases b with
   |false=>exact again I7 q7
   |true=>
    refine cS (hk _ _ s7 σ6 H7 _ I7 q7) fun kv s8 ⟨kx',H8,I8,r8,q8⟩=>?_
    refine cS (he _ _ s8 σ6 H8 _ I8 q8) fun y s9 ⟨yv,H9,I9,r9,kvs,key,hl,ek,hz,n9⟩=>?_
    subst ek;obtain⟨z,hd,vs,rel,dd⟩:=Q7 I9.bR hl;have hz':vs.length<=sizeLine:=by rw[<-rel.length];exact z
    have hl':(putK kvs key yv).length<=sizeLine:=by have:=kF kvs key yv;omega
    refine wpAny_dictSet_pairs (hsz:=hz') (rD r8) dd fun h' dd' hs'=>?_
    have hx':∃q,h'.get? s2.heap.objs.size=some q:=let⟨q,_,_,hq,_⟩:=dd';⟨q,hq⟩
    obtain⟨ep,da⟩:=dd'.dictAt;exact again (xF I9 hl.mut hs' hx' (IV hl' hd (rel.put key r9) da)) (n9 ep)
 exact codeAny_compStart_dict (loop _ rfl) (T.self X.A 0 _ _ _ (T.keep _ _ _ st2 fun b _ o e=>old b o e) (loop _ rfl))
theorem yJ (N:List Str) (k:Nat) (cap:List Nat) (XN:List Str) (xs:Scope) (hc:X.calm=true) (hN:X.N=XN) (hx:X.env.scope=xs) (hi:PI X tg iter wi) (chk:tU XN xs scope N k cap=true)
  (hg:∀c,PG (bJ X scope N c) tg g) (ht:∀c,YT (bJ X scope N c) ifs tt) (hk:∀c,PE (bJ X scope N c) kx tk) (he:∀c,PE (bJ X scope N c) vx te)
  (hs:∀x,foldedSetIterable iter X.env x=pure x:=by intro _;rfl):PE X (.DictComp kx vx [⟨tg,iter,ifs,0⟩] scope pos) (EN wi k cap g tt tk te):=TN hc (oH hN hx chk) hi hg ht hk he hs
end
end L2
namespace Mr
open PySem L2
variable {fe fk:FE} {fg:FG} {fi:FI} {ft:FT} {cap:List Nat} {k:Nat} {te tk:TE} {g:TG} {wi:TI} {tt:TT}
noncomputable def oQ (fg:FG) (ft:FT) (fk fe:FE):List PV->En->List (Key×PV)->Option (List (Key×PV)×En)
 |[],e,d=>some (d,e)
 |x::xs,e,d=>bO (fg x e) fun e1=>bE (ft e1) fun b e2=>match b with
  |false=>oQ fg ft fk fe xs e2 d
  |true=>bE (fk e2) fun kb e3=>bE (fe e3) fun r e4=>bO (kb.weak.get e4) fun kp=>bO (keyOf kp) fun k=>bO r.put fun p=>oQ fg ft fk fe xs e4 (eG d k p)
noncomputable def i9 (fi:FI) (k:Nat) (cap:List Nat) (ms:List (Nat×Nat)) (fg:FG) (ft:FT) (fk fe:FE):FE:=fun e=>
 bE (fi (fun i=>!(ms.any fun z=>z.1==i)) e) fun items e1=>bD (decide (items.length<1000000)) (bE (oQ fg ft fk fe items (wX k cap ms e1) []) fun ys ei=>bO (pO ei ms e1) fun e2=>some (.new (.aZ ys),e2))
section
variable {K:Frag}
theorem ON (ms:List (Nat×Nat)) (hms:∀i j1 j2,(i,j1)∈ms->(i,j2)∈ms->j1=j2) (hms2:∀i1 i2 j,(i1,j)∈ms->(i2,j)∈ms->i1=i2) (hi:w9 K wi fi) (hg:DC K g fg) (ht:mS K tt ft) (hk:Ref K tk fk) (he:Ref K te fe):Ref K (EN wi k cap g tt tk te) (i9 fi k cap ms fg ft fk fe):=by
 intro O M W L σ H e e' b Q o hen hf q;obtain⟨items,e1,f1,hf⟩:=aM hf;obtain⟨hsz,hf⟩:=aL hf;obtain⟨ys,ei,f2,hf⟩:=aM hf;obtain⟨e2,f3,hf⟩:=aF hf;cases hf;have hsz:=av hsz;refine hi (fun i=>!(ms.any fun z=>z.1==i)) O M W L σ H e e1 items _ o hen f1 fun J H1 k1 en it=>?_
 have o1:=o.keep k1.cD
 let W':WS:=O0 ms e1 σ H1
 have wsub:=BG (ms:=ms) en;have it:=it (aw W') (fun a z=>(wsub a z).1) fun i a s hst hs hm ha ⟨j,i',s',hm',hs',hmine',ha'⟩=>by
  have ne:i'≠i:=fun z=>by
   subst z;have:(ms.any fun z=>z.1==i')=true:=iq.mpr ⟨(i',j),hm',by simp⟩;rw[this]at hst;cases hst
  exact en.uU i' i s' s ne hs' hs hmine' hm (by rw[ha',ha])
 intro l hl;have zl:∀a ob,H1 a=some ob->a≠l:=fun a ob h=>bX h hl
 let M':aJ:=aW M (aW L (one l))
 let O':aJ:=fun a=>H1 a≠none\/ a=l
 have s0:aT H1 (upd H1 l (.dK [] 0)):=aT.upd hl;have okc0:=aeL (l:=l) (ms:=ms) o1 en;have en0:=enI (k:=k) (cap:=cap) (ob0:=.dK [] 0) hms en hl;have dl:∀a xs,H1 a=some (.tup xs)->a≠l:=fun a xs h=>zl a _ h
 let N:Nat->St->Hp->Prop:=fun i σ' H'=>∃ei' acc vs,cA W' (one l) (upd H1 l (.dK [] 0)) H'/\y7 H' l vs/\dE K (aW M' cY) H' acc vs/\aQ K (aW M' cY) W' cY H' σ' ei'/\acc.length<=i/\
  oQ fg ft fk fe (items.drop i) ei' acc=some (ys,ei)
 have k0':∀H',cA W' (one l) (upd H1 l (.dK [] 0)) H'->∀a,H1 a≠none\/ a=l->H' a≠none:=fun H' kk a z=>kk.cD a (by
  rcases z with z|z
  .cases e:H1 a with
   |none=>exact absurd e z
   |some u=>rw[s0 _ _ e];exact fun z=>nomatch z
  .rw[z,aU];exact fun z=>nomatch z)
 refine⟨fun i m σ' H'=>m=items.length - i/\i<=items.length/\N i σ' H',⟨items.length,by simp,ic _,wX k cap ms e1,[],[],.refl,⟨0,aU⟩,⟨rfl,.nil⟩,en0,bc _,by rw[drop_zero];exact f2⟩,?_⟩;rintro i m σ2 H2 ⟨rfl,hil,ei2,acc,vs,kk,hl2,ra,en2,hacc,f4⟩;have oki:=okc0 H2 (k0' H2 kk);obtain⟨itm,its⟩:=it (aW L (one l)) H2 (fun a ob h n=>kk.obj a ob (s0 _ _ h) n (zl a ob h)) (fun a xs h=>kk.tup a xs (s0 _ _ h)) (fun a z=>z.elim .inl fun z=>.inr (by rw[show a=l from z];exact hl))
 by_cases hlt:i<items.length
 .refine .inr ?_;obtain⟨go,yl⟩:=itm i items[i] (by simp[hlt]);refine⟨go,N (i+1),fun σ' H' n=>⟨items.length - (i+1),by omega,rfl,hlt,n⟩,fun x H3 y=>?_⟩;obtain⟨s3,rp⟩:=yl x H3 y;rw[eh hlt]at f4;obtain⟨e4,c1,f4⟩:=aF f4;have oki3:=oki.keep (H':=H3) (cA.same (W:=W') (L:=cY) s3).cD;have rp':Rep K (aW M' cY) H3 items[i] x:=rp.aK (.less fun a z=>z.elim id fun z=>z.elim);refine hg O' M' W' cY σ2 H3 ei2 e4 _ x _ oki3 (en2.same s3) rp' c1 fun σ3 en3=>?_
  obtain⟨b,e5,c2,f4⟩:=aM f4;refine ht O' M' W' cY σ3 H3 e4 e5 b _ oki3 en3 c2 fun H4 k4 en4=>?_
  have oki4:=oki3.keep k4.cD;have nlw:¬aw W' l:=fun z=>by obtain⟨_,ob,h,_⟩:=wsub l z;rw[hl]at h;cases h
  have kL:∀{A B:Hp},cA W' cY A B->cA W' (one l) A B:=fun k=>⟨fun a ob h n m=>k.obj a ob h n fun z=>z,k.tup,k.cD⟩
  have st:∀{A B:Hp},cA W' cY A B->lQ O' M' W' cY A->cZ (aW M' cY) (aW M' cY) A B:=fun k ok=>k.aK ok
  have k34:cA W' cY H2 H4:=(cA.same s3).trans k4;cases b with
  |false=>
   rw[ai ax];exact⟨e5,acc,vs,kk.trans (kL k34),(let⟨ep,e⟩:=hl2;⟨ep,k34.obj l _ e nlw (fun z=>z)⟩),⟨ra.1,ra.2.aK (st k34 oki)⟩,en4,le_succ_of_le hacc,f4⟩
  | true=>
   rw[ao rfl];obtain⟨kb,e6,ck,f4⟩:=aM f4;obtain⟨rv,e7,c3,f4⟩:=aM f4;obtain⟨kp,cg,f4⟩:=aF f4;obtain⟨key,cy,f4⟩:=aF f4;obtain⟨p,c4,f4⟩:=aF f4;refine hk O' M' W' cY σ3 H4 e5 e6 kb _ oki4 en4 ck fun kv H4' k4' rk frk=>?_
   have oki4':=oki4.keep k4'.cD;refine he O' M' W' cY σ3 H4' e6 e7 rv _ oki4' (rk.en oki4') c3 fun v H5 k5 rb fr=>?_
   have oki5:=oki4'.keep k5.cD;obtain⟨en5,rp5⟩:=rb.put oki5 c4;have ek:kv=kV key:=(((rk.rv oki4').keep oki4' k5).red en5 cg).key cy;have k35:cA W' cY H2 H5:=(k34.trans k4').trans k5;obtain⟨ep0,hl20⟩:=hl2;have hl5:=k35.obj l _ hl20 nlw (fun z=>z);have ra5:dE K (aW M' cY) H5 acc vs:=⟨ra.1,ra.2.aK (st k35 oki)⟩;have lv:vs.length=acc.length:=by have:=dq List.length ra.1;rw[ag,ag]at this;exact this
   refine⟨vs,key,⟨_,hl5⟩,ek,by rw[jc];omega,fun ep=>?_⟩;have stw:cZ (aW M' cY) (aW M' cY) H5 (upd H5 l (.dK (putK vs key v) ep)):=.write (.inl (.inr (.inr rfl))) hl5 fun _ z=>nomatch z
   have kw:cA W' (one l) H5 (upd H5 l (.dK (putK vs key v) ep)):=.write (.inr rfl) hl5 fun _ z=>nomatch z
   have lp:(eG acc key p).length<=acc.length+1:=by
    unfold eG;split
    .rw[ag];omega
    .rw[br];exact bc _
   refine⟨e7,eG acc key p,putK vs key v,(kk.trans (kL k35)).trans kw,⟨ep,aU⟩,dE.put key ⟨ra5.1,ra5.2.aK stw⟩ (rp5.aK stw),?_,by omega,f4⟩;exact enW en5 nlw (fun od=>od hl) stw
 .have e:i=items.length:=by omega
  subst e;rw[drop_length]at f4;cases f4;have kout:=PC en hl kk;have enf:=enO hms2 o1 en hl kk en2 f3;refine .inl ⟨its,q _ _ (k1.trans kout) ⟨l,rfl,fun z=>o1.old l z hl,fun z=>(o1.loc l z).1 hl,enf,fun i s hs hm e=>?_,.aZ hl2.choose_spec ra.1 (ra.2.aK (.less fun a z=>.inl z))⟩ (Fr.back (b:=.new (.aZ _)) k1.cD fun a e=>by cases e;exact hl)⟩;obtain⟨s',hs',hm'⟩:=nJ f3 i s hs hm;obtain⟨_,ob,h,_⟩:=JN en i s' l hs' hm' e;rw[hl]at h;cases h
theorem J1 (ms:List (Nat×Nat)) (hms:(ms.all fun z=>ms.all fun z'=>(z.1==z'.1)==(z.2==z'.2))=true) (hi:w9 K wi fi) (hg:DC K g fg) (ht:mS K tt ft) (hk:Ref K tk fk) (he:Ref K te fe):Ref K (EN wi k cap g tt tk te) (i9 fi k cap ms fg ft fk fe):=by
 have key:∀z∈ms,∀z'∈ms,(z.1==z'.1)=(z.2==z'.2):=fun z hz z' hz'=>by
  have:=bg.mp (bg.mp hms z hz) z' hz';simpa using this
 refine ON ms (fun i j1 j2 h1 h2=>?_) (fun i1 i2 j h1 h2=>?_) hi hg ht hk he
 .have:=key _ h1 _ h2;simpa using this
 .have:=key _ h1 _ h2;simpa using this
end
theorem jX {fk fe:FE} (I:Nat->List (Key×PV)->En->Prop) {Q:List (Key×PV)×En->Prop} {xs:List PV}
  (hs:∀(i:Nat) x e d,xs[i]? =some x->I i d e->Wp (fg x e) fun e1=>Wp (ft e1) fun z=>match z.1 with|false=>I (i+1) d z.2|true=>Wp (fk z.2) fun kb=>Wp (fe kb.2) fun w=>Wp (kb.1.weak.get w.2) fun kp=>Wp (keyOf kp) fun k=>Wp w.1.put fun p=>I (i+1) (eG d k p) w.2)
  (hd:∀d e,I xs.length d e->Q (d,e)) {e:En} {d:List (Key×PV)} (h0:I 0 d e):Wp (oQ fg ft fk fe xs e d) Q:=by
 have key:∀(ys:List PV) (i:Nat) (e:En) (d:List (Key×PV)),i<=xs.length->xs.drop i=ys->I i d e->Wp (oQ fg ft fk fe ys e d) Q:=by
  intro ys
  induction ys with
  | nil=>
   intro i e d hil hy hi;unfold oQ;rw[b9];have hl:xs.length<=i:=by
    have:=dq List.length hy;rw[fy]at this;simp at this;omega
   have h:i=xs.length:=by omega
   subst h;exact hd d e hi
  | cons x ys ih=>
   intro i e d hil hy hi;have hlt:i<xs.length:=by
    have:=dq List.length hy;rw[fy,length_cons]at this;omega
   rw[eh hlt]at hy;have hx:xs[i]? =some x:=by rw[aj hlt,(List.cons.inj hy).1]
   obtain⟨e1,g1,⟨b,e2⟩,g2,h⟩:=hs i x e d hx hi;unfold oQ;rw[g1,qZ,g2,G1];cases b with
   |false=>exact ih (i+1) e2 d hlt (List.cons.inj hy).2 h
   |true=>
    obtain⟨⟨kb,e3⟩,g3,⟨r,e4⟩,g4,kp,g5,k,g6,p,g7,h⟩:=h;dsimp only at g3 g4 g5 g6 g7 h⊢
    rw[g3,G1,g4,G1,g5,qZ,g6,qZ,g7,qZ];exact ih (i+1) e4 _ hlt (List.cons.inj hy).2 h
 exact key xs 0 e d (ic _) rfl h0
theorem N7 {ms:List (Nat×Nat)} {e:En} {Q:Bv×En->Prop}:
  Wp (i9 fi k cap ms fg ft fk fe e) Q↔Wp (fi (fun i=>!(ms.any fun z=>z.1==i)) e) fun z=>z.1.length<1000000/\Wp (oQ fg ft fk fe z.1 (wX k cap ms z.2) []) fun w=>Wp (pO w.2 ms z.2) fun e2=>Q (.new (.aZ w.1),e2):=by
 unfold i9;constructor
 .intro h;obtain⟨z,h1,h⟩:=mR.mp h;obtain⟨g,h⟩:=eQ.mp h;obtain⟨w,h2,h⟩:=mR.mp h;obtain⟨e2,h3,h⟩:=mD.mp h;exact⟨z,h1,av g,w,h2,e2,h3,b9.mp h⟩
 .rintro⟨z,h1,g,w,h2,e2,h3,q⟩;exact mR.mpr ⟨z,h1,eQ.mpr ⟨decide_eq_true g,mR.mpr ⟨w,h2,mD.mpr ⟨e2,h3,b9.mpr q⟩⟩⟩⟩
end Mr
namespace L2
open PySem PyProof.Rows
section
variable {X:Cx}
def CY (K:Frag):V->List V->Hp->VK->Prop:=fun x vs H Q=>∃(l:Addr) (zs:List Str) (y:Str),x= .ref l/\vs=[.str y]/\gE K H l (zs.map V.str)/\y∈zs/\zs.length<1000000/\Q (.int (zs.idxOf y:Nat)) H
theorem tF (k:Str):∀{vs:List Value} {ys:List Str},StrsAre vs ys->∀(j:Nat) (h1:j<vs.length) (h2:j<ys.length),isStrOf k vs[j]=(ys[j]==k)
 |_,_,.cons n t h,0,_,_=>rfl
 |_,_,.cons n t h,j+1,h1,h2=>tF k h j (by simpa using h1) (by simpa using h2)
theorem FQ:∀{vs:List Value} {ys:List Str},StrsAre vs ys->vs.length=ys.length
 |_,_,.nil=>rfl
 |_,_,.cons n t h=>by rw[length_cons,length_cons,FQ h]
theorem vB (K:Frag) (hK:X.K=K:=by rfl):MtR X "list.index" (CY K):=by
 subst hK;intro zq s σ H x vs v us Q I rx rv h;obtain⟨l,zs,y,rfl,rfl,hq,hy,hz,q⟩:=h;cases rx;obtain⟨u,rfl,t,rfl⟩:=vals1 rv;obtain⟨its,r,pl,_⟩:=I.list hq;have hi:StrsAre its zs:=xS r;have hl:=pl.isList;obtain⟨⟨cls,dd,data,sl⟩,ho,hc,n,hd⟩:=id hl;simp only at hc hd;subst hc hd;have hlen:=FQ hi;have hj:zs.idxOf y<zs.length:=ku.mpr hy;refine call_meets slot_list_index ⟨_,ho,rfl⟩ PySem.F.entry_list_index (PySem.F.args_list_index_2 _ _)
  (SeqAt.list_indexAt l its.toArray n dd sl (.str y t) (isStrOf y) (zs.idxOf y) (by simpa [hlen]using hj) (by omega) ?_ ?_) ⟨ho,fun w hw=>(eq_isStrOf y t hi w (by simpa using hw)).at _ _,⟨.int (zs.idxOf y:Nat),H,I.tok _,⟨_,rfl⟩,q⟩⟩
 .show isStrOf y its[zs.idxOf y]=true;rw[tF y hi _ (by omega) hj];simpa using getElem_idxOf hj
 .intro j hjs hlt;show isStrOf y its[j]=false;rw[tF y hi j (by simpa using hjs) (by omega)];have:=List.not_of_lt_findIdx (p:=(·==y)) (xs:=zs) (i:=j) hlt;simpa using this
end
end L2
namespace Mr
open PySem L2
section
variable {K:Frag}
noncomputable def uK:PV->List PV->Option Bv
 | .lst ps,[.str y]=>bO (AA ps) fun zs=>bD (decide (y∈zs) && decide (zs.length<1000000)) (some (.val (.int (zs.idxOf y:Nat))))
 |_,_=>none
theorem NA:adR K (CY K) uK:=by
 intro Z H x vs p ps b Q hp hps h k;unfold uK at h;split at h
 .obtain⟨zs,g,h⟩:=aF h;obtain⟨c,h⟩:=aL h;cases h;rw[cj]at c;obtain⟨v,rfl,hv⟩:=hps.one;obtain⟨a,ys,rfl,ha,ra⟩:=hp.rA;rw[tQ g]at ra;rw[ra.strs]at ha;exact⟨a,zs,_,rfl,by rw[hv.str],ha.sq,av c.1,av c.2,k _ H (aT.refl _) (Rep.int _)⟩
 .cases h
end
end Mr
namespace L2
open PySem PySem.Spec PyProof.Rows
variable {l tg:Expr} {elts:List Expr} {P:Program} {K:Frag} {tl:TE} {w:World}
theorem Paired.acY {α β:Type} {F:α->β->Prop}:∀{l:List α} {m:List β} {i:Nat} {x:α},Paired F l m->l[i]? =some x->∃y,m[i]? =some y/\F x y
 |_,_,_,_,.nil,h=>by simp at h
 |_,_,0,_,.cons h _,e=>by simp at e;subst e;exact⟨_,rfl,h⟩
 |_,_,i+1,_,.cons _ r,e=>by
  obtain⟨y,h1,h2⟩:=Paired.acY (i:=i) r (by simpa using e);exact⟨y,by simpa using h1,h2⟩
theorem Q3 {k:Key} {v:Value} (e:pC k v=true):RelV (kV k) v:=by
 rcases cE e with⟨i,t,rfl,rfl⟩|⟨x,t,rfl,rfl⟩
 .exact⟨t,rfl⟩
 .exact⟨t,rfl⟩
noncomputable def Itk (a:Addr) (kvs:List (Key×V)) (ep:Nat):It:=
 ⟨fun i H=>Rd H a (.dK kvs ep)/\i<kvs.length,fun i H x H'=>H'=H/\∀kv,kvs[i]? =some kv->x=kV kv.1,fun i H=>Rd H a (.dK kvs ep)/\i=kvs.length⟩
theorem N5 (a it:Addr) (kvs:List (Key×V)) (ep:Nat):Turn P w K tg (Itk a kvs ep) [it] it (fun i h=>h.IsKeyIter it a i kvs.length ep)where
 mem:=by simp
 obj:=fun i h st b hb=>by
  have e:b=it:=by simpa using hb
  subst e;obtain⟨o,e,c,d⟩:=st;exact⟨o,e,fun v z=>by rw[d]at z;cases z⟩
 keep:=fun i h h' st k=>st.at fun o e=>k it (by simp) o e
 item:=by
  intro X hP hw hK hc i zq s σ H E I hf st hg;subst hP hw hK;obtain⟨hr,hi⟩:=hg;obtain⟨_,_,vs,rel,dd⟩:=yG I.bR hr;have hl:kvs.length=vs.length:=Paired.length rel;obtain⟨q,hq,rq⟩:=Paired.acY rel (aj hi);rw[hl]at st;obtain⟨f0,f1,f2,f3,f4,f5⟩:=hf it (by simp);refine wpAny_pyNext_dict_item st dd (k:=q.1) (v:=q.2) hq fun key h' hk st' sb=>?_
  have I1:Inv X zq σ H {s with heap:=h'}:=I.turned (t':=s.toks) (fun b o hb e=>(sb.2 b hb).trans e) f0 f1 f3 f4 f5;obtain⟨o,e,c,d⟩:=id st';rw[<-hl]at st';refine⟨key,rfl,BW (s:={s with heap:=h'}) e c d (by decide) ⟨kV q.1,H,I1,Q3 hk,⟨rfl,fun kv hkv=>?_⟩,st',fun b hb=>(hf b hb).1⟩⟩;rw[aj hi]at hkv;cases hkv;rw[rq.1]
 done:=by
  intro X hP hw hK hc i zq s σ H E I hf st hg;subst hP hw hK;obtain⟨hr,hi⟩:=hg;obtain⟨_,_,vs,rel,dd⟩:=yG I.bR hr;have hl:kvs.length=vs.length:=Paired.length rel;rw[hl]at st;obtain⟨f0,f1,f2,f3,f4,f5⟩:=hf it (by simp);exact wpAny_pyNext_dict_end (I.ok.hd hc) st dd (List.getElem?_eq_none_iff.mpr (by omega)) fun h' eb=>⟨rfl,I.turned (t':=s.toks) (fun b o hb e=>eb b o hb e) f0 f1 f3 f4 f5⟩
 self:=fun _ _ _ _ _ st h=>wpAny_pyIter_keyiter st h
noncomputable def Iti (a:Addr) (kvs:List (Key×V)) (ep:Nat):It:=
 ⟨fun i H=>Rd H a (.dK kvs ep)/\i<kvs.length,fun i H v H'=>∃t,H t=none/\v= .ref t/\∀kv,kvs[i]? =some kv->H'=upd H t (.tup [kV kv.1,kv.2]),fun i H=>Rd H a (.dK kvs ep)/\i=kvs.length⟩
theorem KP {x1} {pos:Pos} (a it:Addr) (kvs:List (Key×V)) (ep:Nat):Turn P w K (.Tuple elts x1 pos) (Iti a kvs ep) [it] it (fun i h=>∃ok ov,IsItemIter h it a i kvs.length ep ok ov)where
 mem:=by simp
 obj:=fun i h st b hb=>by
  have e:b=it:=by simpa using hb
  subst e;obtain⟨_,_,e⟩:=st;exact⟨_,e,fun v z=>by cases z⟩
 keep:=fun i h h' st k=>let⟨ok,ov,e⟩:=st;⟨ok,ov,k it (by simp) _ e⟩
 item:=by
  intro X hP hw hK hc i zq s σ H E I hf st hg;subst hP hw hK;obtain⟨hr,hi⟩:=hg;obtain⟨ok,ov,st⟩:=st;obtain⟨_,_,vs,rel,dd⟩:=yG I.bR hr;have hl:kvs.length=vs.length:=Paired.length rel;obtain⟨q,hq,rq⟩:=Paired.acY rel (aj hi);rw[hl]at st;refine wpAny_pyNext_items_item st dd (k:=q.1) (v:=q.2) hq fun key h' hk ho' htup hsz hkp=>?_
  refine⟨_,rfl,wpAny_letOwnedTupleGo_items (s:={s with heap:=h'}) ho' fun h2 he2 sb=>?_⟩;have hT:s.heap.objs.size≠it:=fun z=>by
   have:=cm st;rw[<-z]at this;exact jm _ this
  have hk2:∀b o,b∉[it]->s.heap.get? b=some o->h2.get? b=some o:=fun b o hb q=>
   sb.extBut b o (fun z=>hb (by simp[z])) (hkp b o (fun z=>hb (by simp[z])) q)
  have hfr:H s.heap.objs.size=none:=I.bR.fresh (bc _);have htup2:h2.get? s.heap.objs.size=some {cls:=.type "tuple",data:=.seq #[key,q.2]}:=sb.extBut _ _ hT htup;have I2:Inv X zq σ (upd H s.heap.objs.size (.tup [kV q.1,kvs[i].2])) {s with heap:=h2,toks:=s.toks}:=by
   refine I.un2 hk2 hf hfr (by simp[hT]) ⟨by show 2<=sizeLine;decide,[key,q.2],.cons (Q3 hk) (.cons rq.2 .nil),r6.of htup2⟩ (fun b hb o q=>?_);have r:b=it:=by simpa using hb
   subst r;exact⟨_,he2⟩
  refine⟨.ref s.heap.objs.size,_,I2,rfl,⟨s.heap.objs.size,hfr,rfl,fun kv hkv=>?_⟩,⟨_,_,by rw[hl];exact he2⟩,fun b hb=>?_⟩
  .rw[aj hi]at hkv;cases hkv;rw[rq.1]
  .have r:b=it:=by simpa using hb
   rw[aX (by rw[r];exact Ne.symm hT)];exact(hf b hb).1
 done:=by
  intro X hP hw hK hc i zq s σ H E I hf st hg;subst hP hw hK;obtain⟨hr,hi⟩:=hg;obtain⟨ok,ov,st⟩:=st;obtain⟨_,_,vs,rel,dd⟩:=yG I.bR hr;have hl:kvs.length=vs.length:=Paired.length rel;rw[hl]at st;obtain⟨f0,f1,f2,f3,f4,f5⟩:=hf it (by simp);exact wpAny_pyNext_items_end (I.ok.hd hc) st dd (List.getElem?_eq_none_iff.mpr (by omega)) fun h' eb=>⟨rfl,I.turned (t':=s.toks) (fun b o hb e=>eb b o hb e) f0 f1 f3 f4 f5⟩
 self:=fun _ _ _ _ _ st h=>by
  obtain⟨_,_,e⟩:=st;exact PySem.W.kcp_self e h
section
variable {X:Cx}
def ZH (tl:TE):TI:=fun σ H R=>tl σ H fun x H1=>∃a kvs ep,x= .ref a/\Rd H1 a (.dK kvs ep)/\R (Itk a kvs ep) H1
theorem xI (hl:PE X l tl):PI X tg l (ZH tl):=by
 intro zq s σ H R I h;refine cS (hl zq s σ H _ I h) fun v s1 ⟨x,H1,I1,r1,a,kvs,ep,e,hr,q⟩=>?_
 subst e;cases r1;obtain⟨_,hd,vs,rel,dd⟩:=yG I1.bR hr;refine wpAny_pyIter_dict hd dd ?_;refine⟨s1.heap.objs.size,[s1.heap.objs.size],_,_,H1,rfl,I1.kept (t':=s1.toks) fun b o e=>ah _ e,N5 a _ kvs ep,⟨_,bz _ rfl,rfl,by rw[show kvs.length=vs.length from Paired.length rel];rfl⟩,fun b hb=>?_,q⟩;have e:b=s1.heap.objs.size:=by simpa using hb
 subst e;exact I1.xA (bc _) (I1.bR.fresh (bc _))
def R0 (te:TE):TI:=fun σ H R=>te σ H fun x H1=>∃v a kvs ep,x= .ref v/\H1 v=some (US v a)/\Rd H1 a (.dK kvs ep)/\R (Iti a kvs ep) H1
theorem R6 {x1} {tpos:Pos} (hl:PE X l tl):PI X (.Tuple elts x1 tpos) l (R0 tl):=by
 intro zq s σ H R I h;refine cS (hl zq s σ H _ I h) fun v s1 ⟨x,H1,I1,r1,vw,a,kvs,ep,e,hv,hr,q⟩=>?_
 subst e;cases r1;obtain⟨_,hd,vs,rel,dd⟩:=yG I1.bR hr;have vi:s1.heap.IsItemsView vw a:=(show dQ X.prog X.w H1 s1.heap vw (US vw a)from I1.bR vw _ hv).1;refine wpAny_pyIter_items vi dd ?_;refine⟨s1.heap.objs.size,[s1.heap.objs.size],_,_,H1,rfl,I1.kept (t':=s1.toks) fun b o e=>ah _ e,KP a _ kvs ep,⟨.none,.none,by rw[show kvs.length=vs.length from Paired.length rel];exact bz _ rfl⟩,fun b hb=>?_,q⟩;have e:b=s1.heap.objs.size:=by simpa using hb
 subst e;exact I1.xA (bc _) (I1.bR.fresh (bc _))
end
end L2
namespace Mr
open PySem PySem.Spec L2 PyProof.Rows
variable {f:FE} {H:Hp} {kvs:List (Key×PV)} {t:TE} {Z:aJ}
section
variable {K:Frag}
noncomputable def F0:PV->Option (List (Key×PV))
 | .aZ kvs=>some kvs
 |_=>none
theorem qU {p:PV} (h:F0 p=some kvs):p= .aZ kvs:=by
 cases p with
 |aZ k=>cases h;rfl
 |_=>cases h
noncomputable def B7 (f:FE) (st:Nat->Bool) (e:En):Option (List (Key×PV)×En):=bE (f e) fun b e1=>match b with
 | .slot i=>match e1[i]? with
  |some (some (.bor p))=>bO (F0 p) fun ps=>some (ps,e1)
  |some (some (.own p))=>bD (st i) (bO (F0 p) fun ps=>some (ps,e1))
  |some (some (.loc p))=>bD (st i) (bO (F0 p) fun ps=>some (ps,e1))
  |_=>none
 | .val p=>bO (F0 p) fun ps=>some (ps,e1)
 | .new p=>bO (F0 p) fun ps=>some (ps,e1)
theorem HG (h:Ref K t f) {st:Nat->Bool} {O M L:aJ} {W:WS} {σ:L2.St} {e e':En} {Q:VK} (o:lQ O M W L H) (he:aQ K (aW M L) W L H σ e) (hf:B7 f st e=some (kvs,e'))
  (q:∀a ys ep H1,cA W L H H1->aQ K (aW M L) W L H1 σ e'->Rd H1 a (.dK ys ep)->dE K (aW M L) H1 kvs ys->
   (∀Wr:aJ,(∀a,Wr a->aw W a\/ L a)->(∀(i:Nat) a s,st i=true->e'[i]? =some (some s)->s.eC=true->σ[i]? =some (some (.ref a))->¬Wr a)->¬Wr a)->Q (.ref a) H1):t σ H Q:=by
 obtain⟨x,e1,f1,hf⟩:=aM hf;refine h O M W L σ H e e1 x _ o he f1 fun v H1 k1 rb fr=>?_
 have o1:=o.keep k1.cD;have en:=rb.en o1;have vals:∀p,Rep K (aW M L) H1 p v->F0 p=some kvs->e1=e'->Q v H1:=fun p hp hi ee=>by
  subst ee;have:=qU hi;subst this;cases hp with
  |aZ ha n ek r=>exact q _ _ _ H1 k1 en ha ⟨ek,r⟩ fun Wr hw _ z=>n ((hw _ z).elim (fun⟨i,w⟩=>.inl (o.wm i _ w)) .inr)
 cases x with
 |val p=>
  obtain⟨ps',g,hf⟩:=aF hf;cases hf;exact vals p rb.2 g rfl
 |new p=>
  obtain⟨ps',g,hf⟩:=aF hf;cases hf;exact vals p (rb.weak o1).2 g rfl
 | slot i=>
  dsimp only at hf;cases c:e1[i]? with
  |none=>rw[c]at hf;cases hf
  | some s=>
   cases s with
   |none=>rw[c]at hf;cases hf
   | some s=>
    rw[c]at hf;obtain⟨u,hu,sr⟩:=rb.1.at' i s c;have:=rb.2;rw[hu]at this;cases this;cases s with
    |val p=>cases hf
    |bor p=>
     obtain⟨ps',g,hf⟩:=aF hf;cases hf;have:=qU g;subst this;obtain⟨a,rfl,lt⟩:=sr;cases lt with
     |aZ ha od n m ek r=>exact q _ _ _ H1 k1 en ha ⟨ek,r⟩ fun Wr hw _ z=>(hw _ z).elim n m
    |own p=>
     obtain⟨hst,hf⟩:=aL hf;obtain⟨ps',g,hf⟩:=aF hf;cases hf;have:=qU g;subst this;obtain⟨a,rfl,w,ct⟩:=sr;cases ct with
     |aZ ha ek r=>exact q _ _ _ H1 k1 en (.inl ha) ⟨ek,r⟩ fun Wr hw hs=>hs i a _ hst c rfl hu
    |loc p=>
     obtain⟨hst,hf⟩:=aL hf;obtain⟨ps',g,hf⟩:=aF hf;cases hf;have:=qU g;subst this;obtain⟨a,rfl,w,ct⟩:=sr;cases ct with
     |aZ ha ek r=>exact q _ _ _ H1 k1 en (.inl ha) ⟨ek,r⟩ fun Wr hw hs=>hs i a _ hst c rfl hu
theorem LR (k:Key):Rep K Z H (yW k) (kV k):=by
 cases k with
 |inl i=>exact .int i
 |inr x=>exact .str x
theorem L8 {H':Hp} {Wr:aJ} {a:Addr} {u:HO} (h:Rd H a u) (k1:∀a o,H a=some o->¬Wr a->H' a=some o) (n:¬Wr a):Rd H' a u:=by
 rcases h with h|⟨o,h⟩
 .exact .inl (k1 _ _ h n)
 .exact .inr ⟨o,k1 _ _ h n⟩
theorem dE.at {ys:List (Key×V)} (r:dE K Z H kvs ys) {i:Nat} {z:Key×PV} (h:kvs[i]? =some z):∃y,ys[i]? =some y/\y.1=z.1/\Rep K Z H z.2 y.2:=by
 obtain⟨r1,r2⟩:=r;obtain⟨v,hv,rv⟩:=r2.get (i:=i) (p:=z.2) (by rw[aq,h];rfl);rw[aq]at hv;cases c:ys[i]? with
 |none=>rw[c]at hv;cases hv
 |some y=>
  rw[c]at hv;cases hv;have e:=dq (·[i]?) r1;simp only[aq,c,h]at e;exact⟨y,rfl,Option.some.inj e,rv⟩
theorem dE.len {ys:List (Key×V)} (r:dE K Z H kvs ys):kvs.length=ys.length:=by
 have:=dq List.length r.1;simpa using this.symm
noncomputable def xX (f:FE):FI:=fun st e=>bO (B7 f st e) fun z=>some (z.1.map fun kv=>yW kv.1,z.2)
theorem SN (h:Ref K t f):w9 K (ZH t) (xX f):=by
 intro st O M W L σ H e e' ps R o he hf q;obtain⟨⟨kvs,e1⟩,g1,hf⟩:=aF hf;cases hf;refine HG h o he g1 fun a ys ep H1 k1 en rd r nw=>⟨a,ys,ep,rfl,rd,q _ H1 k1 en fun Wr hw hs=>?_⟩
 intro L' H' c1 c2 c3;have rd':=L8 rd c1 (nw Wr hw hs);refine⟨fun k p hp=>?_,rd',by rw[ag];exact r.len⟩;rw[aq]at hp;cases c:kvs[k]? with
 |none=>rw[c]at hp;cases hp
 |some z=>
  rw[c]at hp;cases hp;obtain⟨y,hy,ey,_⟩:=r.at c;refine⟨⟨rd',(af.mp hy).1⟩,fun x H3 yl=>?_⟩;obtain⟨e,yl⟩:=yl;subst e;rw[yl y hy,ey];exact⟨aT.refl _,LR _⟩
noncomputable def JH (f:FE):FI:=fun st e=>bO (B7 f st e) fun z=>some (bS z.1,z.2)
theorem OF (h:Ref K t f):w9 K (R0 (JL t)) (JH f):=by
 intro st O M W L σ H e e' ps R o he hf q;obtain⟨⟨kvs,e1⟩,g1,hf⟩:=aF hf;cases hf;refine HG h o he g1 fun a ys ep H1 k1 en rd r nw=>⟨a,ys,rfl,⟨ep,rd⟩,fun v hv=>?_⟩
 have s1:aT H1 (upd H1 v (US v a)):=aT.upd hv;have k2:=k1.trans (.same s1);have o2:=o.keep k2.cD;refine⟨v,a,ys,ep,rfl,aU,Rd.upd rd hv,q _ _ k2 (en.same s1) fun Wr hw hs=>?_⟩;intro L' H' c1 c2 c3;have rd':=L8 (Rd.upd rd hv) c1 (nw Wr hw hs);have st:=vC o2 hw c1 c2 c3;have lp:(bS kvs).length=ys.length:=by unfold bS;rw[ag];exact r.len
 refine⟨fun k p hp=>?_,rd',lp⟩;unfold bS at hp;rw[aq]at hp;cases c:kvs[k]? with
 |none=>rw[c]at hp;cases hp
 |some z=>
  rw[c]at hp;cases hp;obtain⟨y,hy,ey,ry⟩:=r.at c;refine⟨⟨rd',(af.mp hy).1⟩,fun x H3 yl=>?_⟩;obtain⟨t',ht,rfl,yl⟩:=yl;have e3:=yl y hy;subst e3;have s3:=aT.upd (o:=.tup [kV y.1,y.2]) ht;exact⟨s3,.tup (.inl aU) (.cons (by rw[ey];exact LR _) (.cons (((ry.aK (.same s1)).aK st).aK (.same s3)) .nil))⟩
end
end Mr
namespace Mr
open PySem L2
variable {ta tb:TE}
section
variable {K:Frag}
noncomputable def qL (fa fb:FE):FE:=fun e=>bE (fa e) fun x e1=>bO (x.weak.get e1) fun p1=>match p1 with
 | .lst _=>bE (fb e1) fun y e2=>bO (x.weak.get e2) fun p=>bO (y.weak.get e2) fun q=>bO (uK p [q]) fun b=>some (b,e2)
 |_=>none
theorem J5 {fa fb:FE} (ha:Ref K ta fa) (hb:Ref K tb fb):Ref K (tBM K "list" (CY K) ta (eI tb tN)) (qL fa fb):=by
 intro O M W L σ H e e' b Q o he hf q;obtain⟨x,e1,f1,hf⟩:=aM hf;obtain⟨p1,g0,hf⟩:=aF hf;cases p1 with
 |lst ps1=>
  obtain⟨y,e2,f2,hf⟩:=aM hf;obtain⟨p,g1,hf⟩:=aF hf;obtain⟨p',g2,hf⟩:=aF hf;obtain⟨c,g3,hf⟩:=aF hf;cases hf;refine ha O M W L σ H e e1 x _ o he f1 fun v1 H1 k1 r1 fr=>?_
  have o1:=o.keep k1.cD;obtain⟨a1,ys1,e11,ha1,_⟩:=((r1.rv o1).red (r1.en o1) g0).rA;refine⟨by rw[e11];exact .inl ⟨rfl,ys1,ha1.sq⟩,?_⟩;refine hb O M W L σ H1 e1 _ y _ o1 (r1.en o1) f2 fun v2 H2 k2 r2 fr=>?_
  have o2:=o1.keep k2.cD;have en:=r2.en o2;have rp:=((r1.rv o1).keep o1 k2).red en g1;have rq:=(r2.rv o2).red en g2;refine NA _ H2 v1 [v2] p [p'] _ Q rp (.cons rq .nil) g3 fun v H' s rn=>?_
  exact q v H' ((k1.trans k2).trans (.same s)) (rn.rb o2 en s) (rn.fr (k1.trans k2).cD)
 |_=>cases hf
end
section
variable {K:Frag}
def Ind (t:TE):Prop:=∀(σ σ':L2.St) (H:Hp) (Q Q':VK),(∀v H',Q v H'->Q' v H')->t σ H Q->t σ' H Q'
theorem GI:Ind DU:=fun _ _ _ _ _ k h p hp=>k _ _ (h p hp)
theorem K1:Ind (R7 tN):=fun _ _ _ _ _ k h=>⟨h.1,fun p hp=>k _ _ (h.2 p hp)⟩
theorem SK {i j:Nat} {fa fb:FS} (ia:Ind ta) (ib:Ind tb) (ha:gA K (t9 ta (jY i)) fa) (hb:gA K (t9 tb (jY j)) fb):gA K (acC i j (eI ta (eI tb tN))) (aR fa fb):=by
 intro O M W L σ H e r D o he hf q;have k:=C5 ha hb O M W L σ H e r D o he hf q;exact ia _ σ _ _ _ (fun x H1 k1=>ib _ σ _ _ _ (fun y H2 k2=>⟨_,_,rfl,k2⟩) k1) k
end
end Mr
namespace L2
open PySem PySem.Spec PyProof.Rows PySem.W
section
variable {prog:Program} {w:World} {A:Around}
theorem TF {E:Value->Shared->Prop} {s0:Shared} {x y:Value} {Q:Value->Shared->Prop} {ok:Heap->Prop} (bt:Nat->Nat->Bool) (hh:A.handled=none)
  (bR:∀h',(∀b o,s0.heap.get? b=some o->h'.get? b=some o)->ok h') (okk:∀h h':Heap,ok h->(∀b o,b<s0.heap.objs.size->h.get? b=some o->h'.get? b=some o)->ok h') (hcmp:UK prog w A.in1 ok (fun i v=>[x,y][i]? =some v) bt)
  (hq:∀v h' tk,[x,y][argBest bt ([x,y].length - 1)]? =some v->(∀b o,s0.heap.get? b=some o->h'.get? b=some o)->Q v {s0 with heap:=h',toks:=tk}):wpAny (model prog w) A (call (.builtin "min") [x,y]) Q E s0:=by
 refine call_function_tree F.kind_min F.plain_min F.entry_min (F.args_min2 _ _) ?_;refine ae (m:=Builtin.Builtins.bindParams "min" ["key","default"] 0 ⟨[],[]⟩) (wpAny_of_eq (show Builtin.Builtins.bindParams "min" ["key","default"] 0 ⟨[],[]⟩=pure [none,none]from rfl) ?_);show wpAny _ A.in1 (newTuple [x,y]>>=_) _ _ s0;refine ae (dk ?_)
 let s:Shared:={s0 with heap:=s0.heap.push {cls:=.type "tuple",data:=.seq #[x,y]}}
 let l:Addr:=s0.heap.objs.size
 let vs:List Value:=[x,y]
 have lS0:s0.heap.objs.size<(s0.heap.push {cls:=.type "tuple",data:=.seq #[x,y]}).objs.size:=by rw[ig];exact jo _
 have hl:s.heap.IsTuple l vs.toArray:=⟨_,bz _ rfl,rfl,0,rfl⟩;have hn:0<vs.length:=by show 0<2;decide
 have hsz:s0.heap.objs.size<s.heap.objs.size:=lS0;have lS:l<s.heap.objs.size:=let⟨_,e,_⟩:=hl;cm e
 have k0:∀b o,s0.heap.get? b=some o->s.heap.get? b=some o:=fun b o e=>ah _ e
 refine ae (jq (s:=s) hl ?_);refine ae (dk ?_);rw[u5];generalize hX:(s.heap.push {cls:=.type "tuple_iterator",data:=.fields #[.ref l,.int 0 0]})=h1;have z1:h1.objs.size=s.heap.objs.size+1:=by rw[<-hX];exact ig ..
 have k1:∀b o,s.heap.get? b=some o->h1.get? b=some o:=fun b o e=>by rw[<-hX];exact ah _ e
 have e1:h1.get? s.heap.objs.size=some {cls:=.type "tuple_iterator",data:=.fields #[.ref l,.int 0 0]}:=by rw[<-hX];exact bz _ rfl
 have nI:l≠s.heap.objs.size:=cn lS;have W:=Walks.tuple (prog:=prog) (w:=w) (A:=A.in1) (by exact hh) s.heap.objs.size l nI vs.toArray;have gS:(h1.push {cls:=.type "list",data:=.seq ([]:List Value).toArray}).get? h1.objs.size=some {cls:=.type "list",dict:=none,data:=.seq #[] 0,slots:= #[]}:=bz _ rfl;have nf:h1.objs.size∉[s.heap.objs.size,l]:=by
  rw[z1];simp only[bw,dv,or_false,not_or];exact⟨iw (jo _),iw (dw lS)⟩
 have nw:h1.objs.size∉[s.heap.objs.size]:=fun z=>nf (by simp at z⊢;exact .inl z)
 have st0:(h1.push {cls:=.type "list",data:=.seq ([]:List Value).toArray}).IsTupleIter s.heap.objs.size l 0/\(h1.push {cls:=.type "list",data:=.seq ([]:List Value).toArray}).IsTuple l vs.toArray:=by
  refine⟨⟨_,ah _ e1,rfl,rfl⟩,?_⟩;obtain⟨o,e,r⟩:=hl;exact⟨o,ah _ (k1 _ _ e),r⟩
 refine au ⟨gV gw _,?_⟩;refine gq F.entry_min_loop ?_;rw[ff gw _];refine ae (m:=seqItems? (.ref h1.objs.size)) (gn gS rfl ?_);refine ae (m:=tryCatch (pyNext (.ref s.heap.objs.size)) _) (wpAny_tryCatch (W.item 0 {s with heap:=h1.push {cls:=.type "list",data:=.seq ([]:List Value).toArray}} _ _ (by simpa using hn) st0 fun v h' tk hP st' kp=>?_));have gS':=kp h1.objs.size _ nw gS;refine ae (m:=updateSeq h1.objs.size (fun _=> #[v,v])) (wpAny_updateSeq gS' rfl ?_);rw[u5];have ne:∀{b:Addr} {o:Obj},b≠h1.objs.size->h'.get? b=some o->(h'.update h1.objs.size (Obj.mapSeq fun _=> #[v,v])).get? b=some o:=fun h q=>(jz _ _ (Ne.symm h)).trans q
 have ltS:∀{b:Addr} {o:Obj},s.heap.get? b=some o->b∉[s.heap.objs.size]/\b≠h1.objs.size:=fun e=>by
  have:=cm e;rw[z1];exact⟨by simp;exact cn this,cn (dw this)⟩
 have kq:∀b o,s.heap.get? b=some o->(h'.update h1.objs.size (Obj.mapSeq fun _=> #[v,v])).get? b=some o:=fun b o e=>ne (ltS e).2 (kp b o (ltS e).1 (ah _ (k1 b o e)))
 refine au ⟨gV gw _,GG (ok:=ok) W bt (fun i j vi vj s Q E h1 h2 h3 h4=>hcmp i j vi vj s Q E h1 (by simpa using h2) (by simpa using h3) h4) h1.objs.size nf (fun h h2 o k=>okk h h2 o fun b u hb q=>k b u (by simp;exact cn (lt_trans hb hsz)) (by rw[z1];exact cn (dw (lt_trans hb hsz))) q) _ 0 _ v _ rfl (by simp;omega) (bR _ fun b o e=>kq b o (k0 b o e)) (W.frame _ _ _ st' fun b hbf o q=>ne (fun z=>nf (by rw[<-z];exact hbf)) q) (by simpa [argBest]using hP) (ko _ gS' rfl) fun v' h2 tk2 hP' kp2=>?_⟩;exact hq v' h2 tk2 (by have h9:vs[argBest bt (vs.length - 1)]? =some v':=(by simpa using hP');exact h9) fun b o e=>kp2 b o (ltS (k0 b o e)).1 (ltS (k0 b o e)).2 (kq b o (k0 b o e))
end
section
variable {X:Cx} {k:Nat}
open Mr
def S1 (K:Frag):List V->Hp->VK->Prop:=fun xs H Q=>∃x y p q,xs=[x,y]/\bI K cY H [p,q] [x,y]/\cW 3 [p,q]=true/\Q (if w8 [p,q] 1 0=true then y else x) H
theorem afO (K:Frag) (hr:dW k X.A) (hK:X.K=K:=by rfl) (hc:X.calm=true:=by rfl):cK X (.builtin "min") (S1 K):=by
 subst hK;intro zq s σ H xs us Q I r ⟨x,y,p,q,e,rp,cmp,qq⟩;subst e;obtain⟨u,v,rfl,rx,ry⟩:=vals2 r;have rv:Vals [x,y] [u,v]:=.cons rx (.cons ry .nil);have ok:∀z∈[p,q],i4 3 z=true:=fun z hz=>by
  have:=bg.mp cmp z hz;rw[cj]at this;exact DK this.1
 refine TF (ok:=fun h=>∀b o,s.heap.get? b=some o->h.get? b=some o) (w8 [p,q]) (by exact I.ok.hd hc) (fun h' kp=>kp) (fun h h' o kk b u e=>kk b u (cm e) (o b u e)) (fun i j vi vj s' Q E bR h1 h2 hQ=>?_) fun w h' tk hv kp=>?_
 .have hL:bV s'.heap [p,q] [u,v]:=bI.lies (I.kept (t':=s.toks) bR) (n:=3) (bg.mpr ok) rp rv;obtain⟨p1,e1,l1⟩:=hL.get h1;obtain⟨p2,e2,l2⟩:=hL.get h2;have m1:=ay e1;have m2:=ay e2;refine JC (s:=s') 3 X.A.in1 (by have:=hr.un;show X.A.units+1+3<_;omega) (ok p1 m1) (ok p2 m2) l1 l2 (uI cmp m1 m2) _ _ _ _ ?_;have hQ:Q (.bool (gZ (code 3 ([p,q].getD i .bG)) (code 3 ([p,q].getD j .bG)))) s':=hQ;rw[cc,e1,cc,e2]at hQ;exact hQ
 .have hv:[u,v][if w8 [p,q] 1 0 then 1 else 0]? =some w:=hv;refine⟨if w8 [p,q] 1 0=true then y else x,H,I.kept (t':=tk) kp,?_,qq⟩
  by_cases hb:w8 [p,q] 1 0=true
  .rw[ao hb]at hv⊢
   cases hv;exact ry
  .rw[ai hb]at hv⊢
   cases hv;exact rx
end
end L2
namespace Mr
open PySem L2
section
variable {K:Frag}
noncomputable def EG:List PV->Option Bv
 |[p,q]=>bD (cW 3 [p,q]) (some (.val (if w8 [p,q] 1 0=true then q else p)))
 |_=>none
theorem E1:iA K (S1 K) EG:=by
 intro Z H vs qs b Q hp h kk;unfold EG at h;split at h
 .rename_i p q;obtain⟨c,h⟩:=aL h;cases h;cases hp with
  | cons h1 hp=>
   cases hp with
   | cons h2 hp=>
    cases hp;have pl:∀z∈[p,q],rJ 3 z=true:=fun z hz=>by
     have:=bg.mp c z hz;rw[cj]at this;exact this.1
    have rep:∀{z:PV} {v:V},rJ 3 z=true->Red K Z H z v->Rep K Z H z v:=fun{z v} hz h=>by
     cases h with
     |rep h=>exact h
     |lst _ _=>cases hz
     |aZ _ _ _=>cases hz
    have r1:=rep (pl p (by simp)) h1;have r2:=rep (pl q (by simp)) h2;refine⟨_,_,p,q,rfl,.cons (r1.aK (.less fun _ z=>z.elim)) (.cons (r2.aK (.less fun _ z=>z.elim)) .nil),c,?_⟩
    by_cases hb:w8 [p,q] 1 0=true
    .rw[ao hb]at*;exact kk _ H (aT.refl _) r2
    .rw[ai hb]at*;exact kk _ H (aT.refl _) r1
 .cases h
end
end Mr
namespace Mr
open PySem PySem.Spec L2 PyProof.Rows
variable {f:Addr} {K:Frag} {a b c:Str}
structure pN (K:Frag) (x:Str) (st:Stmt) (f:Addr):Prop where
 a:nsIn K mainGlobals x=some (some (.ref f))
 F:∃fd,Fun K x x st f fd
theorem bZ {x:Str} {st:Stmt} {oc:Value} {od an:Option Addr} {osl:Array (Option Value)} {kV doc pm cdv ct:Value} (a:nsIn K mainGlobals x=some (some (.ref f)))
  (l:K.lookup f=some ⟨oc,od,.func (fnOf x x (gT st) (fH st) (aS st) .none kV doc pm an cdv ct),osl⟩) (c:codeIn K cdv x=true) (k:keepIn K (.ref f)=true):pN K x st f:=⟨a,_,Z9 l c k⟩
section
variable {P:Program} {w:World} {K:Frag} {mg:Str->Option Value} {base h:Heap} {x:Str} {st:Stmt} {ps N:List Str} {k nl:Nat} {ks:List Kd} {fr:Bool} {g:FS}
def Bnd (x:Str) (st:Stmt) (ps:List Str):Prop:=∀(kV doc pm:Value) (an:Option Addr) (cdv ct:Value) (us:List Value),us.length=ps.length->bindArgs (fnOf x x (gT st) (fH st) (aS st) .none kV doc pm an cdv ct) ⟨us,[]⟩=pure (ps.zip us)
def Dx (K:Frag) (mg:Str->Option Value) (x:Str) (st:Stmt) (ps:List Str):Prop:=∃f fd,Def K mg x st ps f fd
theorem pN.dx (H:pN K x st f) (X:K.In h) (G:h.Ns mainGlobals mg) (b:Bnd x st ps):Dx K mg x st ps:=let⟨fd,F⟩:=H.F;⟨f,fd,F,mg_of X G H.a,F.binds b⟩
structure Cn (P:Program) (w:World) (K:Frag) (mg:Str->Option Value) (base:Heap) (x:Str) (st:Stmt) (ps:List Str) (k:Nat) (ks:List Kd) (fr:Bool) (fn:FN):Prop where
 e:∃f fd,Def K mg x st ps f fd/\t7 P w K mg base UT k f fd ps (WR K ks fr fn)
theorem cR (D:Dx K mg x st ps) (S:uQ N ps (aS st)) (hN:N.length=ks.length+nl) (hp:ks.length=ps.length)
  (hb:uQ N ps (aS st)->∀(f:Addr) (cdv:Value) (A:Around) (outer:List Env) (s:Shared) (H:Hp) (E:XK),dW k (A.deeper (envOfC x (aS st) s.heap.objs.size f cdv))->∃t,LL (J9 UT P w K mg base N x (aS st) f cdv A outer s H E).nox (fH st) t/\gA K t g):Cn P w K mg base x st ps (k+1) ks fr (pA ks nl fr g):=by
 obtain⟨f,fd,D⟩:=D;refine⟨f,fd,D,D.F.ok S (fun vs H Q E h=>?_) (fun cdv A outer s H vs Q E hr h=>?_)⟩
 .obtain⟨_,_,_,_,_,hl,_⟩:=h;exact hl.trans hp
 .obtain⟨t,h1,h2⟩:=hb S f cdv A outer s H E hr;exact⟨t,h1,aa8 h2 hN h⟩
theorem xZ {x:Str} {st:Stmt} (h:∀(kV doc pm:Value) (an:Option Addr) (cdv ct v:Value),bindArgs (fnOf x x (gT st) (fH st) (aS st) .none kV doc pm an cdv ct) ⟨[v],[]⟩=pure [(a,v)]):Bnd x st [a]:=fun _ _ _ _ _ _ us hl=>match us,hl with|[_],_=>h _ _ _ _ _ _ _
theorem xE {x:Str} {st:Stmt} (h:∀(kV doc pm:Value) (an:Option Addr) (cdv ct v1 v2:Value),bindArgs (fnOf x x (gT st) (fH st) (aS st) .none kV doc pm an cdv ct) ⟨[v1,v2],[]⟩=pure [(a,v1),(b,v2)]):Bnd x st [a,b]:=fun _ _ _ _ _ _ us hl=>match us,hl with|[_,_],_=>h _ _ _ _ _ _ _ _
theorem HN {x:Str} {st:Stmt} (h:∀(kV doc pm:Value) (an:Option Addr) (cdv ct v1 v2 v3:Value),bindArgs (fnOf x x (gT st) (fH st) (aS st) .none kV doc pm an cdv ct) ⟨[v1,v2,v3],[]⟩=pure [(a,v1),(b,v2),(c,v3)]):Bnd x st [a,b,c]:=fun _ _ _ _ _ _ us hl=>match us,hl with|[_,_,_],_=>h _ _ _ _ _ _ _ _ _
theorem ae9 {d:Str} {x:Str} {st:Stmt} (h:∀(kV doc pm:Value) (an:Option Addr) (cdv ct v1 v2 v3 v4:Value),bindArgs (fnOf x x (gT st) (fH st) (aS st) .none kV doc pm an cdv ct) ⟨[v1,v2,v3,v4],[]⟩=pure [(a,v1),(b,v2),(c,v3),(d,v4)]):Bnd x st [a,b,c,d]:=fun _ _ _ _ _ _ us hl=>match us,hl with|[_,_,_,_],_=>h _ _ _ _ _ _ _ _ _ _
end
section
variable {X:Cx} {x:Str} {st:Stmt} {ps:List Str} {j k:Nat} {ks:List Kd} {fr:Bool} {fn:FN} {e:Expr} {es:List Expr} {t:TA} {p pos:Pos}
theorem aaB (C:Cn X.prog X.w K X.mg X.base x st ps j ks fr fn) (hr:dW k X.A) (hjk:j<=k) (hg:Gl X x) (ha:PA X (e::es) t) (hK:X.K=K:=by rfl) (hdb:(x==("__debug__":Str))=false:=by decide)
  (he:starEach (e::es) X.env=(false,eval e X.env)::starEach es X.env:=by rfl) (hpl:(backTo pos (starEach es X.env)).any (·.1)=false:=by rfl):PE X (.Call (.Name x p) (e::es) [] pos) (BY (WR K ks fr fn) [] E0 t):=by
 subst hK;obtain⟨f,fd,D,G⟩:=C.e;exact af7 D G hr hjk hg ha hdb he hpl
end
theorem abT {P:Program} {w:World} {mg:Str->Option Value} {st:Stmt} {k:Nat} {fn:FN} {fa:Addr} (hm:mg "law"=some (.ref fa)) (D:Dx K mg "law" st [a]) (hb:Bnd "law" st [a])
  (C:∀base,Cn P w K mg base "law" st [a] k [.b] false fn) (hl:∀ns:List Int,ns.length<=63->fn [.lst (ns.map PV.int)]=some (.bl true,[])):
  ∃fd:FuncData,(∀(s:Shared) (v:Value),BindsTo s fd ⟨[v],[]⟩ [(a,v)])/\∀base:Heap,K.In base->base.Ns mainGlobals mg->t7 P w K mg base UT k fa fd [a] (E6 K):=by
 obtain⟨f,fd,D⟩:=D;have e1:=D.m;rw[hm]at e1;cases e1;refine⟨fd,fun s v=>?_,fun base _ _=>?_⟩
 .obtain⟨oc,od,kV,doc,pm,an,cdv,ct,osl,rfl,lk,hcd⟩:=D.F.ex;exact .of_eq (hb kV doc pm an cdv ct [v] rfl)
 .obtain⟨f',fd',D',ok⟩:=(C base).e;have e2:=D'.m;rw[hm]at e2;cases e2;obtain⟨oc,od,kV,doc,pm,an,cdv,ct,osl,h1,lk,hcd⟩:=D.F.ex;obtain⟨oc',od',kV',doc',pm',an',cdv',ct',osl',h1',lk',hcd'⟩:=D'.F.ex;rw[lk]at lk';have e3:fd=fd':=by
   have:=dq Obj.data (Option.some.inj lk');exact Data.func.inj this
  subst e3;exact ok.imp fun vs H Q E h=>WW hl h
end Mr
namespace L2
open PySem PySem.Spec PyProof.Rows
variable {t:Addr} {vs:List Value} {s:Shared} {E Q:Value->Shared->Prop}
theorem OY:typeLookup (.type "tuple") "keys"=pure none:=by rw[typeLookup_type,builtinLookup_eq_fast];kernel_rfl
theorem NF {prog:Program} {w:World} {A:Around} {s:Shared} {a:Addr} {o:Obj} {xs:Array Value} {k:Nat} {Q:Option Value->Shared->Prop}
  (hx:s.heap.get? a=some o) (hc:o.cls= .type "tuple") (hdat:o.data= .seq xs k) (hd:o.dict=none) (hA:A.handled=none)
  (h:∀h' tk,(∀b u,s.heap.get? b=some u->h'.get? b=some u)->Q none {s with heap:=h',toks:=tk}):wpAny (model prog w) A (getAttr? (.ref a) "keys") Q E s:=by
 obtain⟨c,aZ,dat,sl⟩:=o;simp only at hc hdat hd;subst hc hdat hd;obtain⟨hp,g,d,tk,os⟩:=s;have hT:∀tk',(⟨hp,g,d,tk',os⟩:Shared).TypeIs (.ref a) "tuple":=fun _=>⟨_,hx,rfl⟩
 have f1:=sub_AttributeError;have f3:=F.slot_tuple_getattribute.lookup;have f4:=F.slot_tuple_getattribute.bind (.ref a);have f5:=am_tuple_getattr_none;unfold getAttr? getAttrBy? getAttrBy
 repeat(any_goals(first|assumption|exact hT _|((with_reducible show wpAny _ _ (call (Value.builtin "tuple.__getattribute__") _ _) _ _ _);refine call_meets F.slot_tuple_getattribute (hT _) am_entry_tuple_getattribute (F.args_tuple_getattribute_2 _ _) (meets_getattribute_miss_tuple a xs k sl "keys" _ OY (by decide+kernel) (by decide)) ⟨hx,hA,fun h' tk' e hx'=>?_⟩)|wp_step))
 obtain⟨t',u',he⟩:=hx'.there;show wpAny _ _ (getattributeRaised _ _ _ _ _ _ _) _ _ _;unfold getattributeRaised
 repeat(any_goals(first|assumption|wp_step))
 exact h h' tk' hx'.keeps
theorem K5:entryFor table "dict.update.loop"=some Builtin.«dict.update.loop»:=entryFor_of_tree (by kernel_rfl)
theorem qO:plainId "dict.update.loop"=true:=by decide+kernel
section
variable {prog:Program} {w:World} {A:Around} {R:Result->Shared->Prop} {I:Addr} {fp wr:List Addr} {n:Nat} {Pz:Nat->Value->Prop} {Sz:Nat->Heap->Prop} {K:Type} [DecidableEq K] {knd:KeyKind prog w K}
def zI (knd:KeyKind prog w K) (h:Heap) (v:Value) (z:K×Value):Prop:=∃r key c dd sl,v= .ref r/\h.get? r=some {cls:=.type "tuple",dict:=dd,data:=.seq #[key,z.2] c,slots:=sl}/\knd.is z.1 key=true
theorem P7 {ok:Heap->Prop} {ps:List (K×Value)} (W:Walks prog w A.in1 I fp wr n Pz Sz) (D:Addr) (nf:D∉fp) (hn:ps.length=n) (okk:∀h h',ok h->(∀b o,b∉wr->b≠D->h.get? b=some o->h'.get? b=some o)->ok h')
  (hpair:∀(h:Heap) (j:Nat) (v:Value),ok h->Pz j v->∃z,ps[j]? =some z/\zI knd h v z):
  ∀(m i:Nat) (s:Shared) (kvs:List (K×Value)) (tk:Tok),n - i=m->i<=n->ok s.heap->Sz i s.heap->s.heap.DictOf knd D kvs->kvs.length+m<=sizeLine->
  (∀h' tk',h'.DictOf knd D ((ps.drop i).foldl (fun d z=>stored d z.1 z.2) kvs)->(∀b o,b∉wr->b≠D->s.heap.get? b=some o->h'.get? b=some o)->R (.ok (.ret .none)) {s with heap:=h',toks:=tk'})->
  codeAny (model prog w) A (.builtin "dict.update.loop" ⟨[.ref D,.ref I,.int (i:Int) tk,.none],[]⟩) R s:=by
 have nw:D∉wr:=fun h=>nf (W.sub _ h)
 intro m
 induction m with
 |zero=>
  intro i s kvs tk hm hi bR st hd hz hR;have e:i=n:=by omega
  refine gq K5 ?_;rw[ff qO _];refine ae (m:=pyNext (.ref I)) (W.done s _ _ (e▸st) fun h' tk kp=>?_);refine ae (m:=Builtin.Dict.addKeywords D []) (au (au ?_));refine hR h' tk ?_ fun b o h1 _ q=>kp b o h1 q
  rw[List.drop_of_length_le (by omega)];obtain⟨o,es,ep,ho,rest⟩:=hd;exact⟨o,es,ep,kp D o nw ho,rest⟩
 | succ m ih=>
  intro i s kvs tk hm hi bR st hd hz hR;have hlt:i<n:=by omega
  refine gq K5 ?_;rw[ff qO _];refine ae (m:=pyNext (.ref I)) (W.item i s _ _ hlt st fun v h' tk' hP st' kp=>?_);have ok':ok h':=okk _ _ bR fun b o h1 _ q=>kp b o h1 q
  obtain⟨z,hz1,r,key,c,dd,sl,rfl,hr,hk⟩:=hpair h' i v ok' hP;have hd':h'.DictOf knd D kvs:=by
   obtain⟨o,es,ep,ho,rest⟩:=hd;exact⟨o,es,ep,kp D o nw ho,rest⟩
  refine ae (gd ?_);refine ae (wpAny_tryCatch ?_);unfold Builtin.Dict.pairItems;refine ae (wpAny_typeOf (s:={s with heap:=h',toks:=tk'}) (T:="tuple") ⟨_,hr,rfl⟩ ?_);rw[ao (by decide)];refine ae (gn hr rfl (au ?_));refine gd (wpAny_dictSet_pairs (hsz:=by omega) hk hd' fun h2 hd2 hs2=>?_);have ne:∀{b:Addr} {o:Obj},b≠D->h'.get? b=some o->h2.get? b=some o:=fun hb q=>hs2.extBut _ _ hb q
  have hl:=stored_length_le kvs z.1 z.2;refine au ⟨gV qO _,?_⟩;have:=ih (i+1) {s with heap:=h2,toks:=tk'+1} (stored kvs z.1 z.2) 0 (by omega) (by omega) (okk _ _ ok' fun b o _ hb q=>ne hb q) (W.frame _ _ _ st' fun b hbf o q=>ne (fun e=>nf (by rw[<-e];exact hbf)) q) hd2 (by omega) fun h3 tk3 hd3 kp3=>?_
  .rw[show((i+1:Nat):Int)=(i:Int)+1 by omega]at this;exact this
  .refine hR h3 tk3 ?_ fun b o h1 h4 q=>kp3 b o h1 h4 (ne h4 (kp b o h1 q))
   rw[eh (by omega),foldl_cons];have:ps[i]'(by omega)=z:=by
    have e:=aj (l:=ps) (i:=i) (by omega);rw[hz1]at e;exact(Option.some.inj e).symm
   rw[this];exact hd3
theorem uE {T it:String} {ot:Obj} {Sz:Addr->Nat->Heap->Prop} {ps:List (K×Value)} (hh:A.handled=none) (eo:s.heap.get? t=some ot) (hc:ot.cls= .type T) (hT:(Value.type T !=Value.type "dict")=true)
  (hky:∀{A:Around} {E:Value->Shared->Prop} {s:Shared} {Q:Option Value->Shared->Prop},s.heap.get? t=some ot->A.handled=none->(∀h' tk,(∀b u,s.heap.get? b=some u->h'.get? b=some u)->Q none {s with heap:=h',toks:=tk})->wpAny (model prog w) A (getAttr? (.ref t) "keys") Q E s)
  (hit:∀{A:Around} {E:Value->Shared->Prop} {s:Shared} {Q:Value->Shared->Prop},s.heap.get? t=some ot->Q (.ref s.heap.objs.size) {s with heap:=s.heap.push {cls:=.type it,data:=.fields #[.ref t,.int 0 0]}}->wpAny (model prog w) A (pyIter (.ref t)) Q E s)
  (hw:∀{A:Around} (I:Addr),A.handled=none->t≠I->Walks prog w A I [I,t] [I] vs.toArray.size (fun i v=>vs.toArray[i]? =some v) (Sz I))
  (hs:∀{h:Heap} {I:Addr},h.get? I=some {cls:=.type it,data:=.fields #[.ref t,.int 0 0]}->h.get? t=some ot->Sz I 0 h) (hz:ps.length<=sizeLine)
  (hp:∀(j:Nat) (v:Value),vs[j]? =some v->∃z,ps[j]? =some z/\zI knd s.heap v z) (hl:ps.length=vs.length)
  (hq:∀h' tk,h'.DictOf knd s.heap.objs.size (ps.foldl (fun d z=>stored d z.1 z.2) [])->(∀b o,s.heap.get? b=some o->h'.get? b=some o)->Q (.ref s.heap.objs.size) {s with heap:=h',toks:=tk}):
  wpAny (model prog w) A (call (.type "dict") [.ref t]) Q E s:=by
 refine callType_codes (Q₁:=fun obj s₁=>obj= .ref s.heap.objs.size/\s₁={s with heap:=s.heap.push {cls:=.type "dict",data:=.dict #[]}}) F.kt_called_dict (F.kt_typeCall_dict_1 _) F.entry_dict_init (kt_code_dict_new _ ⟨rfl,rfl⟩) ?_;rintro obj s₁ ⟨rfl,rfl⟩;have hnew:(s.heap.push {cls:=.type "dict",data:=.dict #[]}).DictOf knd s.heap.objs.size []:=Heap.DictOf.new s.heap;refine⟨hnew.typeIs,F.args_dict_init_2 _ _,?_⟩;unfold Builtin.«dict.__init__»;refine ae ?_;unfold Builtin.Dict.selfAndRest;refine ae (wpAny_notOrdered_dict hnew.typeIs ?_);show wpAny _ _ (pure (s.heap.objs.size,[Value.ref t])) _ _ _;refine au ?_;show wpAny _ _ (Builtin.Dict.updateFrom "dict.__init__" s.heap.objs.size (.ref t) [] .none) _ _ _;unfold Builtin.Dict.updateFrom;have lt:t<s.heap.objs.size:=cm eo;have ht1:(s.heap.push {cls:=.type "dict",data:=.dict #[]}).get? t=some ot:=ah _ eo;refine ae (wpAny_typeOf (s:={s with heap:=s.heap.push {cls:=.type "dict",data:=.dict #[]}}) (T:=T) ⟨_,ht1,hc⟩ ?_);rw[ao hT];refine ae (hky (s:={s with heap:=s.heap.push {cls:=.type "dict",data:=.dict #[]}}) ht1 (by exact hh) fun h1 tk1 k1=>?_);simp only[Option.isNone_none,if_true];refine ae (wpAny_rule ?_);refine ae (hit (s:={s with heap:=h1,toks:=tk1}) (k1 _ _ ht1) ?_);refine au ⟨gV qO _,?_⟩;obtain⟨od,es,ep,hod,rest⟩:=hnew;have hD1:=k1 _ _ hod;have ltD:s.heap.objs.size<h1.objs.size:=cm hD1;have old:∀b o,s.heap.get? b=some o->b<s.heap.objs.size:=fun b o e=>cm e
 have keep:∀b o,s.heap.get? b=some o->(h1.push {cls:=.type it,data:=.fields #[.ref t,.int 0 0]}).get? b=some o:=fun b o e=>ah _ (k1 _ _ (ah _ e))
 have W:=hw (A:=A.in1.in1) h1.objs.size (by exact hh) (cn (lt_trans lt ltD));refine P7 (A:=A.in1) (knd:=knd) (ps:=ps) (ok:=fun h=>∀b o,s.heap.get? b=some o->h.get? b=some o) W s.heap.objs.size ?_ (by rw[cp];exact hl) (fun h h' o kk b u e=>kk b u ?_ ?_ (o b u e)) (fun h j v o hv=>?_) _ 0 _ [] 0 rfl (ic _) keep ?_ ⟨od,es,ep,ah _ hD1,rest⟩ ?_ fun h' tk' hd' kp=>?_
 .simp only[bw,dv,or_false,not_or];exact⟨cn ltD,iw lt⟩
 .simp only[bw,dv,or_false];exact cn (lt_trans (old b u e) ltD)
 .exact cn (old b u e)
 .obtain⟨z,h1,r,key,c,dd,sl,e,g,k⟩:=hp j v (by simpa using hv);exact⟨z,h1,r,key,c,dd,sl,e,o _ _ g,k⟩
 .exact hs (bz _ rfl) (ah _ (k1 _ _ ht1))
 .rw[cp,<-hl];simp;exact hz
 .refine⟨rfl,hq h' tk' hd' fun b o e=>kp b o ?_ (cn (old b o e)) (keep b o e)⟩;simp only[bw,dv,or_false];exact cn (lt_trans (old b o e) ltD)
theorem xC {ps:List (K×Value)} (hh:A.handled=none) (ht:IsTup s.heap t vs.toArray) (nd:∀o,s.heap.get? t=some o->o.dict=none) (hz:ps.length<=sizeLine)
  (hp:∀(j:Nat) (v:Value),vs[j]? =some v->∃z,ps[j]? =some z/\zI knd s.heap v z) (hl:ps.length=vs.length)
  (hq:∀h' tk,h'.DictOf knd s.heap.objs.size (ps.foldl (fun d z=>stored d z.1 z.2) [])->(∀b o,s.heap.get? b=some o->h'.get? b=some o)->Q (.ref s.heap.objs.size) {s with heap:=h',toks:=tk}):
  wpAny (model prog w) A (call (.type "dict") [.ref t]) Q E s:=by
 obtain⟨ot,eo,hc,c,hd⟩:=ht;exact uE (knd:=knd) (it:="tuple_iterator") hh eo hc (by decide) (fun e1 e2 q=>NF e1 hc hd (nd _ eo) e2 q) (fun e q=>jq ⟨ot,e,hc,c,hd⟩ q) (fun I h n=>Walks.tuple h I t n vs.toArray) (fun e1 e2=>⟨⟨_,e1,rfl,rfl⟩,⟨ot,e2,hc,c,hd⟩⟩) hz hp hl hq
end
end L2
namespace Mr
open PySem PySem.Spec L2
variable {H:Hp} {zq:List (Addr×Obj)} {K:Frag} {s:Shared} {σ:St} {Z:aJ}
inductive zW (K:Frag) (H:Hp):List V->List (Key×V)->Prop
 |nil:zW K H [] []
 |cons {r:Addr} {k:Key} {x:V} {vs:List V} {kvs:List (Key×V)}:rB K H r [kV k,x]->zW K H vs kvs->zW K H (.ref r::vs) ((k,x)::kvs)
def TR (K:Frag):List V->Hp->VK->Prop:=fun xs H Q=>∃(t:Addr) (ys:List V) (kvs:List (Key×V)),xs=[.ref t]/\TupAt K H t ys/\zW K H ys kvs/\kvs.length<=sizeLine/\∀p ep,H p=none->Q (.ref p) (upd H p (.dK (kvs.foldl (fun d z=>putK d z.1 z.2) []) ep))
section
variable {X:Cx}
theorem pairs_at (hK:X.K=K) (I:Inv X zq σ H s):∀{ys:List V} {kvs:List (Key×V)} {us:List Value},zW K H ys kvs->Vals ys us->∃ps:List (Key×Value),KV kvs ps/\ps.length=us.length/\∀(j:Nat) (v:Value),us[j]? =some v->∃z,ps[j]? =some z/\zI (bP X.prog X.w) s.heap v z
 |_,_,_,.nil,.nil=>⟨[],.nil,rfl,fun _ _ h=>by simp at h⟩
 | _,_,_,.cons (k:=k) (x:=x) h r,.cons rv rr=>by
  obtain⟨ps,h1,h2,h3⟩:=pairs_at hK I r rr;subst hK;obtain⟨its,v2,⟨o,eo,hc,n,hd⟩,_⟩:=I.tuple h;obtain⟨u1,u2,e,r1,r2⟩:=vals2 v2;subst e;cases rv;refine⟨(k,u2)::ps,.cons ⟨rfl,r2⟩ h1,by simp[h2],fun j v hj=>?_⟩;cases j with
  |zero=>
   simp at hj;subst hj;obtain⟨c,dd,dt,sl⟩:=o;simp only at hc hd;subst hc hd;exact⟨_,rfl,_,u1,n,dd,sl,rfl,eo,rD r1⟩
  |succ j=>
   obtain⟨z,e1,e2⟩:=h3 j v (by simpa using hj);exact⟨z,by simpa using e1,e2⟩
theorem CM:∀{kvs:List (Key×V)} {ps:List (Key×Value)} {d:List (Key×V)} {d':List (Key×Value)},KV kvs ps->KV d d'->KV (kvs.foldl (fun d z=>putK d z.1 z.2) d) (ps.foldl (fun d z=>stored d z.1 z.2) d')
 |_,_,_,_,.nil,h=>h
 |_,_,_,_,.cons (a:=x) (b:=y) h r,h'=>by
  obtain⟨k,v⟩:=x;obtain⟨k',v'⟩:=y;obtain⟨e,hv⟩:=h;have e:k=k':=e;subst e;rw[foldl_cons,foldl_cons];exact CM r (KV.put h' k hv)
theorem zS:∀(kvs d:List (Key×V)),(kvs.foldl (fun d z=>putK d z.1 z.2) d).length<=d.length+kvs.length
 |[],d=>bc _
 |z::kvs,d=>by
  have h:=zS kvs (putK d z.1 z.2);have l:(putK d z.1 z.2).length<=d.length+1:=by unfold putK;split<;>simp
  rw[foldl_cons,length_cons];omega
theorem adO {a:Addr} {xs:List V} (I:Inv X zq σ H s) (h:TupAt X.K H a xs):∀o,s.heap.get? a=some o->o.dict=none:=by
 rcases h with h|⟨o,its,n,h1,_,h2,_⟩
 .obtain⟨_,_,_,_,h⟩:=I.bR a _ h;exact h
 .intro o' e;rw[I.MA a o h1]at e;cases e;exact h2
theorem acJ (K:Frag) (hK:X.K=K:=by rfl) (hc:X.calm=true:=by rfl):cK X (.type "dict") (TR K):=by
 intro zq s σ H xs us Q I r ⟨t,ys,kvs,e,ht,hp,hz,q⟩;subst e;obtain⟨u,rfl,rx⟩:=vals1 r;cases rx;obtain⟨its,v2,tt,_⟩:=I.tuple (hK▸ht.sq);obtain⟨ps,h1,h2,h3⟩:=pairs_at hK I hp v2;refine xC (knd:=bP X.prog X.w) (ps:=ps) (by exact I.ok.hd hc) tt (adO I (hK▸ht)) (by rw[<-h1.length];exact hz) h3 h2 fun h' tk dd kp=>?_
 obtain⟨ep,da⟩:=dd.dictAt;have hb:=I.big;refine⟨.ref s.heap.objs.size,_,I.laid (t':=tk) (o:=.dK (kvs.foldl (fun d z=>putK d z.1 z.2) []) ep) kp (bc _) ⟨?_,?_,_,CM h1 .nil,da⟩,rfl,q _ ep (I.bR.fresh (bc _))⟩
 .have:=zS kvs [];rw[length_nil]at this;omega
 .exact kz.mpr (iw hb)
noncomputable def jO:List PV->Option (List (Key×PV))
 |[]=>some []
 | .tup [k,v]::ps=>bO (keyOf k) fun k=>bO (jO ps) fun r=>some ((k,v)::r)
 |_=>none
noncomputable def D1:List PV->Option Bv
 |[.tup ps]=>bO (jO ps) fun kvs=>bD (decide (kvs.length<1000000)) (some (.new (.aZ (kvs.foldl (fun d z=>eG d z.1 z.2) []))))
 |_=>none
theorem sU:∀{ps:List PV} {kps:List (Key×PV)} {vs:List V},jO ps=some kps->bI K Z H ps vs->∃kvs,zW K H vs kvs/\dE K Z H kps kvs
 |[],_,_,h,.nil=>by cases h;exact⟨[],.nil,rfl,.nil⟩
 | p::ps,kps,_,h,.cons hv hr=>by
  unfold jO at h;split at h
  .rename_i e;cases e
  .rename_i k v qs e;cases e;obtain⟨key,hk,h⟩:=aF h;obtain⟨r,hr',h⟩:=aF h;cases h;obtain⟨kvs,h1,h2⟩:=sU hr' hr;cases hv with
   | tup ht hl=>
    cases hl with
    | cons a1 hl=>
     cases hl with
     |cons a2 hl=>
      cases hl;have e1:=Red.key (.rep a1) hk;subst e1;exact⟨_,.cons ht.sq h1,h2.cons a2⟩
  .cases h
theorem x9:∀{kps d:List (Key×PV)} {kvs d':List (Key×V)},dE K Z H kps kvs->dE K Z H d d'->dE K Z H (kps.foldl (fun d z=>eG d z.1 z.2) d) (kvs.foldl (fun d z=>putK d z.1 z.2) d')
 |[],_,_,_,h,hd=>by
  rcases h.cases with⟨_,rfl⟩|⟨_,_,_,_,_,e,_⟩
  .exact hd
  .cases e
 | x::kps,_,_,_,h,hd=>by
  rcases h.cases with⟨e,_⟩|⟨k,p,v,r,s,e,rfl,hp,hr⟩
  .cases e
  .cases e;rw[foldl_cons,foldl_cons];exact x9 hr (hd.put k hp)
theorem E7:iA K (TR K) D1:=by
 intro Z H vs ps b Q hp h k;unfold D1 at h;split at h
 .obtain⟨kps,g,h⟩:=aF h;obtain⟨c,h⟩:=aL h;cases h;obtain⟨v,rfl,hv⟩:=hp.one;obtain⟨a,ys,rfl,ha,ra⟩:=hv.tup;obtain⟨kvs,h1,h2⟩:=sU g ra;have hl:kps.length=kvs.length:=by have:=dq List.length h2.1;simpa using this.symm
  refine⟨a,ys,kvs,rfl,ha,h1,?_,fun p ep hl'=>?_⟩
  .rw[<-hl];exact gx (gP c)
  .have hf:=x9 h2 (d:=[]) (d':=[]) ⟨rfl,.nil⟩;exact k _ _ (aT.upd hl') ⟨p,rfl,hl',.aZ aU hf.1 (hf.2.aK (.new (aT.upd hl') hl'))⟩
 .cases h
end
end Mr
namespace Mr
open PySem L2
variable {e:En} {f:FE}
theorem X6 {st:Nat->Bool}:xX f st e=bO (B7 f st e) fun z=>some (z.1.map fun kv=>yW kv.1,z.2):=rfl
theorem QA {st:Nat->Bool}:JH f st e=bO (B7 f st e) fun z=>some (bS z.1,z.2):=rfl
theorem OP {fa fb:FE}:qL fa fb e=bE (fa e) fun x e1=>bO (x.weak.get e1) fun p1=>match p1 with
 | .lst _=>bE (fb e1) fun y e2=>bO (x.weak.get e2) fun p=>bO (y.weak.get e2) fun q=>bO (uK p [q]) fun b=>some (b,e2)
 |_=>none:=rfl
end Mr
namespace L2
open PySem PySem.Spec PyProof.Rows PySem.W
section
variable {X:Cx}
def O9:List V->Hp->VK->Prop:=fun xs H Q=>∃(a:Addr) (kvs:List (Key×V)) (ss:List Str),xs=[.ref a]/\CB H a kvs/\kvs.map (·.1)=ss.map Sum.inr/\∀l,H l=none->Q (.ref l) (upd H l (.lst (ss.map V.str)))
theorem afG (hc:X.calm=true:=by rfl):cK X (.type "list") O9:=by
 intro zq s σ H xs us Q I r ⟨a,kvs,ss,e,ha,hk,q⟩;subst e;obtain⟨u,rfl,rx⟩:=vals1 r;cases rx;obtain⟨hz,hd,vs,rel,dd⟩:=hJ I.bR ha;obtain⟨ep,dd⟩:=dd.dictAt;have hn:ss.length=kvs.length:=by have:=dq List.length hk;simpa using this.symm
 rw[rel.keys]at hk;refine kdl_call (kdl_dict (knd:=bP X.prog X.w) (d:=a) (kvs:=vs) (ep:=ep) hd) (by exact I.ok.hd hc) dd (by rw[<-rel.len];exact hz) fun h' tk acc c kp hS hacc=>?_
 have st:=u4 (us:=acc.toList) hk (by rw[length_toList];exact hacc.1) fun j x e=>hacc.2 j x (by rw[<-getElem?_toList];exact e)
 refine⟨.ref s.heap.objs.size,_,I.laid (t':=tk) (o:=.lst (ss.map V.str)) kp (bc _) ⟨by rw[ag,hn];exact hz,_,c,iZ st,?_⟩,rfl,q _ (I.bR.fresh (bc _))⟩;rw[hS,toArray_toList]
end
end L2
namespace Mr
open PySem L2
section
variable {K:Frag}
noncomputable def EW:List PV->Option Bv
 |[.aZ kvs]=>bO (rF kvs) fun ss=>some (.new (.lst (ss.map PV.str)))
 |_=>none
theorem F1:iA K O9 EW:=by
 intro Z H vs ps b Q hp h k;unfold EW at h;split at h
 .obtain⟨ss,g,h⟩:=aF h;cases h;obtain⟨v,rfl,hv⟩:=hp.one;obtain⟨a,ys,rfl,ha,ek,ra⟩:=hv.vJ;exact⟨a,ys,ss,rfl,ha,ek.trans (yK g),fun l hl=>k _ _ (aT.upd hl) (DJ hl (bI.ofStrs ss))⟩
 .cases h
end
end Mr
namespace L2
open PySem PySem.Spec PyProof.Rows
variable {i1 i2 i3 l1 l2 l3 z:Addr} {xs ys zs:Array Value} {k:Nat} {p pos:Pos} {ta:TA} {a b c x y:Value} {Q:Value->Shared->Prop}
abbrev cM (h:Heap) (T:Addr) (a b c:Value):Prop:=h.get? T=some {cls:=.type "tuple",data:=.seq #[a,b,c]}
theorem yV (a b c:Value):checkTypeCall "zip" ⟨[a,b,c],[]⟩=pure ():=by kernel_rfl
theorem AM (a b c:Value):checkBuiltinCall "zip.__new__" ⟨[.type "zip",a,b,c],[]⟩=pure ():=by kernel_rfl
theorem rO (a b c d:Value):argsOk "object.__init__" ⟨[a,b,c,d],[]⟩:=by
 unfold argsOk;rw[signature?_of (id:="object.__init__") (n:=['_', '_', 't', 'i', 'n', 'i', '_', '_']) (o:=['t', 'c', 'e', 'j', 'b', 'o']) (by kernel_rfl) F.owner_object];kernel_rfl
section
variable {prog:Program} {w:World} {A:Around} {E:Value->Shared->Prop} {s:Shared}
theorem ab4 {T:Addr} {Q:Unit->Shared->Prop} (hT:cM s.heap T a b c)
  (h:∀h',h'.get? T=some {cls:=.type "tuple",data:=.seq ((#[a,b,c]:Array Value).setIfInBounds k x)}->Heap.SameBut T s.heap h'->Q () {s with heap:=h'}):
  wpAny (model prog w) A (updateSeq T (·.setIfInBounds k x)) Q E s:=by
 refine wpAny_updateSeq hT rfl (h _ ?_ (Heap.SameBut.update ..));rw[ko _ hT rfl];simp[Obj.mapSeq]
structure Z3 (z TI TO i1 i2 i3 l1 l2 l3:Addr):Prop where
 nd:[z,TI,TO,i1,i2,i3].Nodup
 l1:l1∉[z,TI,TO,i1,i2,i3]
 l2:l2∉[z,TI,TO,i1,i2,i3]
 l3:l3∉[z,TI,TO,i1,i2,i3]
theorem M8 {TI TO:Addr} {k:Nat} {zs:Array Value} {x:Value} (hh:A.handled=none) (D:Z3 z TI TO i1 i2 i3 l1 l2 l3)
  (hz:IsZip s.heap z TI TO .none) (hTI:cM s.heap TI (.ref i1) (.ref i2) (.ref i3)) (hTO:cM s.heap TO a b c)
  (h1:s.heap.IsListIter i1 l1 k) (h2:s.heap.IsListIter i2 l2 k) (h3:s.heap.IsListIter i3 l3 k) (hl1:s.heap.IsList l1 xs) (hl2:s.heap.IsList l2 ys) (hl3:s.heap.IsList l3 zs) (hx:xs[k]? =some x) (hy:ys[k]? =some y)
  (hQ:∀v,zs[k]? =some v->∀h',IsZip h' z TI TO (rawInt s.heap.objs.size)->cM h' TO x y v->h'.IsListIter i1 l1 (k+1)->h'.IsListIter i2 l2 (k+1)->h'.IsListIter i3 l3 (k+1)->cM h' s.heap.objs.size x y v->h'.objs.size=s.heap.objs.size+1->
   (∀c o,c≠z->c≠TO->c≠i1->c≠i2->c≠i3->s.heap.get? c=some o->h'.get? c=some o)->Q (.ref s.heap.objs.size) {s with heap:=h'})
  (hE:zs[k]? =none->∀h' e,(∀c o,c≠z->c≠TO->c≠i1->c≠i2->c≠i3->s.heap.get? c=some o->h'.get? c=some o)->(∃o,h'.get? e=some o/\o.cls= .type "StopIteration")->E (.ref e) {s with heap:=h'}):
  wpAny (model prog w) A (Builtin.«zip.__next__» ⟨[.ref z],[]⟩) (fun fin s'=>∃v,fin= .done (.ret v)/\Q v s') E s:=by
 obtain⟨nd,n1,n2,n3⟩:=D;simp only[fq,bw,dv,or_false,not_or,jh,not_false_eq_true,and_true]at nd n1 n2 n3;obtain⟨⟨zTI,zTO,zi1,zi2,zi3⟩,⟨TITO,TIi1,TIi2,TIi3⟩,⟨TOi1,TOi2,TOi3⟩,⟨i12,i13⟩,i23⟩:=nd;obtain⟨l1z,l1TI,l1TO,l1i1,l1i2,l1i3⟩:=n1;obtain⟨l2z,l2TI,l2TO,l2i1,l2i2,l2i3⟩:=n2;obtain⟨l3z,l3TI,l3TO,l3i1,l3i2,l3i3⟩:=n3;show wpAny _ _ (field (.ref z) 2>>=_) _ _ _;refine ae (jd hz rfl (x:=.bool false) rfl ?_);show wpAny _ _ (field (.ref z) 3>>=_) _ _ _;refine ae (jd hz rfl (x:=.ref TI) rfl ?_);refine ae (gn hTI rfl ?_);show wpAny _ _ (Builtin.SmallTypes.ownedTupleIsFree (.ref z)>>=_) _ _ _;refine ae ?_;unfold Builtin.SmallTypes.ownedTupleIsFree;refine ae (jd hz rfl (x:=.none) rfl (au ?_));simp only[if_true];refine ae (wpAny_rule ?_);refine ae (jd hz rfl (x:=.ref TO) rfl ?_);refine ae (wpAny_setField_rec hz (by simp) fun g1 hz1 s1=>?_);replace hz1:IsZip g1 z TI TO .ellipsis:=hz1;have hTO1:cM g1 TO a b c:=s1.extBut _ _ (Ne.symm zTO) hTO;refine ae ?_;simp only[List.zipIdx_cons,List.zipIdx_nil,forIn_cons,List.forIn_nil];refine ae (ae (wpAny_onRaise ?_));show wpAny _ _ (Builtin.SmallTypes.nextOf (.ref i1)>>=_) _ _ _;refine ae (wpAny_nextOf_list_item (h1.extBut s1.extBut (Ne.symm zi1)) (hl1.extBut s1.extBut l1z) hx fun g2 h12 s2=>au ?_);have hTO2:cM g2 TO a b c:=s2.extBut _ _ TOi1 hTO1;refine ae (gn hTO2 rfl ?_);refine ae (ab4 hTO2 fun g3 hTO3 s3=>?_);replace hTO3:cM g3 TO x b c:=hTO3;refine ae (wpAny_letGo (au ?_));refine ae (ae (wpAny_onRaise ?_));show wpAny _ _ (Builtin.SmallTypes.nextOf (.ref i2)>>=_) _ _ _;refine ae (wpAny_nextOf_list_item (((h2.extBut s1.extBut (Ne.symm zi2)).extBut s2.extBut (Ne.symm i12)).extBut s3.extBut (Ne.symm TOi2))
  (((hl2.extBut s1.extBut l2z).extBut s2.extBut l2i1).extBut s3.extBut l2TO) hy fun g4 h24 s4=>au ?_)
 have hTO4:cM g4 TO x b c:=s4.extBut _ _ TOi2 hTO3;refine ae (gn hTO4 rfl ?_);refine ae (ab4 hTO4 fun g5 hTO5 s5=>?_);replace hTO5:cM g5 TO x y c:=hTO5;refine ae (wpAny_letGo (au ?_));refine ae (ae (wpAny_onRaise ?_));show wpAny _ _ (Builtin.SmallTypes.nextOf (.ref i3)>>=_) _ _ _;have q3:=((((h3.extBut s1.extBut (Ne.symm zi3)).extBut s2.extBut (Ne.symm i13)).extBut s3.extBut (Ne.symm TOi3)).extBut s4.extBut (Ne.symm i23)).extBut s5.extBut (Ne.symm TOi3);have r3:=((((hl3.extBut s1.extBut l3z).extBut s2.extBut l3i1).extBut s3.extBut l3TO).extBut s4.extBut l3i2).extBut s5.extBut l3TO;cases hv:zs[k]? with
 |none=>
  refine ae (wpAny_nextOf_list_end hh q3 r3 hv fun g6 e s6 he=>?_);obtain⟨oe,hoe,hce⟩:=he;have hz6:IsZip g6 z TI TO .ellipsis:=s6 _ _ zi3 (s5.extBut _ _ zTO (s4.extBut _ _ zi2 (s3.extBut _ _ zTO (s2.extBut _ _ zi1 hz1))));have hez:e≠z:=fun x=>by subst x;rw[hz6]at hoe;cases hoe;simp at hce
  refine wpAny_setField_rec hz6 (by simp) fun g7 _ s7=>hE hv g7 e (fun c o c1 c2 c3 c4 c5 x=>s7.extBut _ _ c1 (s6 _ _ c5 (s5.extBut _ _ c2 (s4.extBut _ _ c4 (s3.extBut _ _ c2 (s2.extBut _ _ c3 (s1.extBut _ _ c1 x))))))) ⟨oe,s7.extBut _ _ hez hoe,hce⟩
 | some v=>
  refine ae (wpAny_nextOf_list_item q3 r3 hv fun g6 h36 s6=>au ?_);have hTO6:cM g6 TO x y c:=s6.extBut _ _ TOi3 hTO5;refine ae (gn hTO6 rfl ?_);refine ae (ab4 hTO6 fun g7 hTO7 s7=>?_);replace hTO7:cM g7 TO x y v:=hTO7;refine ae (wpAny_letGo (au (au ?_)));refine ae (gn hTO7 rfl ?_);refine ae (wpAny_newTuple ?_);have hsz:g7.objs.size=s.heap.objs.size:=by rw[s7.1,s6.1,s5.1,s4.1,s3.1,s2.1,s1.1]
  have up7:∀c o,c≠z->c≠TO->c≠i1->c≠i2->c≠i3->s.heap.get? c=some o->g7.get? c=some o:=fun c o c1 c2 c3 c4 c5 e=>
   s7.extBut _ _ c2 (s6.extBut _ _ c5 (s5.extBut _ _ c2 (s4.extBut _ _ c4 (s3.extBut _ _ c2 (s2.extBut _ _ c3 (s1.extBut _ _ c1 e))))))
  have hz7:IsZip g7 z TI TO .ellipsis:=s7.extBut _ _ zTO (s6.extBut _ _ zi3 (s5.extBut _ _ zTO (s4.extBut _ _ zi2 (s3.extBut _ _ zTO (s2.extBut _ _ zi1 hz1)))));have h17:g7.IsListIter i1 l1 (k+1):=((((h12.extBut s3.extBut (Ne.symm TOi1)).extBut s4.extBut i12).extBut s5.extBut (Ne.symm TOi1)).extBut s6.extBut i13).extBut s7.extBut (Ne.symm TOi1);have h27:g7.IsListIter i2 l2 (k+1):=((h24.extBut s5.extBut (Ne.symm TOi2)).extBut s6.extBut i23).extBut s7.extBut (Ne.symm TOi2);have h37:g7.IsListIter i3 l3 (k+1):=h36.extBut s7.extBut (Ne.symm TOi3);have hzlt:z<g7.objs.size:=cm hz7;show wpAny _ _ (Builtin.SmallTypes.ownedTupleHandOut (.ref z) (.ref g7.objs.size)>>=_) _ _ _;refine ae ?_;unfold Builtin.SmallTypes.ownedTupleHandOut;have hz8:IsZip (g7.push {cls:=.type "tuple",data:=.seq #[x,y,v]}) z TI TO .ellipsis:=ah _ hz7;refine ae (wpAny_setField_rec hz8 (by simp) fun g9 hz9 s9=>?_);replace hz9:IsZip g9 z TI TO (rawInt g7.objs.size):=hz9;refine wpAny_setField_rec hz9 (by simp) fun ga hza sa=>?_
  replace hza:IsZip ga z TI TO (rawInt g7.objs.size):=hza;have up:∀c o,c≠z->g7.get? c=some o->ga.get? c=some o:=fun c o c1 e=>sa.extBut _ _ c1 (s9.extBut _ _ c1 (ah _ e))
  have hTa:cM ga g7.objs.size x y v:=sa.extBut _ _ (iw hzlt) (s9.extBut _ _ (iw hzlt) (bz _ rfl));have hza8:ga.objs.size=g7.objs.size+1:=by rw[sa.1,s9.1,ig]
  rw[hsz]at hza hTa hza8;refine au ⟨_,rfl,?_⟩;show Q (.ref g7.objs.size) _;rw[hsz];exact hQ v hv ga hza (up _ _ (Ne.symm zTO) hTO7) (h17.at fun o e=>up _ o (Ne.symm zi1) e) (h27.at fun o e=>up _ o (Ne.symm zi2) e) (h37.at fun o e=>up _ o (Ne.symm zi3) e) hTa hza8 fun c o c1 c2 c3 c4 c5 e=>up c o c1 (up7 c o c1 c2 c3 c4 c5 e)
theorem Y5 {TI TO:Addr} {Q:Option Value->Shared->Prop} (hh:A.handled=none) (D:Z3 z TI TO i1 i2 i3 l1 l2 l3)
  (hz:IsZip s.heap z TI TO .none) (hTI:cM s.heap TI (.ref i1) (.ref i2) (.ref i3)) (hTO:cM s.heap TO a b c)
  (h1:s.heap.IsListIter i1 l1 k) (h2:s.heap.IsListIter i2 l2 k) (h3:s.heap.IsListIter i3 l3 k) (hl1:s.heap.IsList l1 xs) (hl2:s.heap.IsList l2 ys) (hl3:s.heap.IsList l3 zs) (hx:xs[k]? =some x) (hy:ys[k]? =some y)
  (hQ:∀v,zs[k]? =some v->∀h',IsZip h' z TI TO (rawInt s.heap.objs.size)->cM h' TO x y v->h'.IsListIter i1 l1 (k+1)->h'.IsListIter i2 l2 (k+1)->h'.IsListIter i3 l3 (k+1)->cM h' s.heap.objs.size x y v->h'.objs.size=s.heap.objs.size+1->
   (∀c o,c≠z->c≠TO->c≠i1->c≠i2->c≠i3->s.heap.get? c=some o->h'.get? c=some o)->Q (some (.ref s.heap.objs.size)) {s with heap:=h'})
  (hE:zs[k]? =none->∀h',(∀c o,c≠z->c≠TO->c≠i1->c≠i2->c≠i3->s.heap.get? c=some o->h'.get? c=some o)->Q none {s with heap:=h'}):wpAny (model prog w) A (pyNext (.ref z)) Q E s:=by
 have hT:s.TypeIs (.ref z) "zip":=⟨_,hz,rfl⟩;unfold pyNext;refine ae (wpAny_attempt (jj (name:=Str.ofString "__next__") hT F.slot_zip_next
  (gv F.slot_zip_next hT F.entry_zip_next (M8 hh D hz hTI hTO h1 h2 h3 hl1 hl2 hl3 hx hy (fun v hv h' a1 a2 a3 a4 a5 a6 a7 a8=>au (hQ v hv h' a1 a2 a3 a4 a5 a6 a7 a8)) fun hv h' e hk ⟨o,ho,hc⟩=>?_) (F.args_zip_next_1 _))))
 exact ae (wpAny_isInstance (T:="StopIteration") (b:=true) ⟨o,ho,hc⟩ isSubtype_stop (au (hE hv _ hk)))
noncomputable abbrev zA (h:Heap) (l1:Addr):Heap:=h.push {cls:=.type "list_iterator",data:=.fields #[.ref l1,.int 0 0]}
noncomputable abbrev zB (h:Heap) (l1 l2 l3:Addr):Heap:=zA (zA (zA h l1) l2) l3
noncomputable abbrev zC (h:Heap) (l1 l2 l3:Addr):Heap:=(zB h l1 l2 l3).push {cls:=.type "tuple",data:=.seq #[.ref h.objs.size,.ref (zA h l1).objs.size,.ref (zA (zA h l1) l2).objs.size]}
noncomputable abbrev zD (h:Heap) (l1 l2 l3:Addr):Heap:=(zC h l1 l2 l3).push {cls:=.type "tuple",data:=.seq #[.none,.none,.none]}
noncomputable abbrev zE (h:Heap) (l1 l2 l3:Addr):Heap:=(zD h l1 l2 l3).push {cls:=.type "zip",data:=.fields #[.none,.bool false,.bool false,.ref (zB h l1 l2 l3).objs.size,.ref (zC h l1 l2 l3).objs.size]}
theorem JO (l1 l2 l3:Addr) (xs ys zs:Array Value):
  Meets (Builtin.«zip.__new__» ⟨[.type "zip",.ref l1,.ref l2,.ref l3],[]⟩) (fun _ R s=>s.heap.IsList l1 xs/\s.heap.IsList l2 ys/\s.heap.IsList l3 zs/\
   R (.ok (.ret (.ref (zD s.heap l1 l2 l3).objs.size))) {s with heap:=zE s.heap l1 l2 l3}):=
 .of_wp fun prog w A R s h=>by
  obtain⟨hp,g,d,tk,os⟩:=s;obtain⟨hl1,hl2,hl3,h⟩:=h
  have hsub:=sub_zip;have hL1:Heap.IsList (Shared.heap ⟨hp,g,d,tk,os⟩) l1 xs:=hl1;have hL2:Heap.IsList (Shared.heap ⟨zA hp l1,g,d,tk,os⟩) l2 ys:=Heap.IsList.push hl2 _;have hL3:Heap.IsList (Shared.heap ⟨zA (zA hp l1) l2,g,d,tk,os⟩) l3 zs:=Heap.IsList.push (Heap.IsList.push hl3 _) _
  wp_walk using ka hL1,ka hL2,ka hL3
  exact⟨_,rfl,h⟩
theorem JW (hl1:s.heap.IsList l1 xs) (hl2:s.heap.IsList l2 ys) (hl3:s.heap.IsList l3 zs)
  (h:∀h',IsZip h' (s.heap.objs.size+5) (s.heap.objs.size+3) (s.heap.objs.size+4) .none->cM h' (s.heap.objs.size+3) (.ref (s.heap.objs.size+0)) (.ref (s.heap.objs.size+1)) (.ref (s.heap.objs.size+2))->
   cM h' (s.heap.objs.size+4) .none .none .none->h'.IsListIter (s.heap.objs.size+0) l1 0->h'.IsListIter (s.heap.objs.size+1) l2 0->h'.IsListIter (s.heap.objs.size+2) l3 0->(∀c o,s.heap.get? c=some o->h'.get? c=some o)->Q (.ref (s.heap.objs.size+5)) {s with heap:=h'}):
  wpAny (model prog w) A (call (.type "zip") [.ref l1,.ref l2,.ref l3]) Q E s:=by
 refine callType_new F.called_zip (by decide) (yV _ _ _) (AM _ _ _) (fun obj=>rO obj _ _ _) F.entry_zip_new
  (JO l1 l2 l3 xs ys zs) ⟨hl1,hl2,hl3,?_⟩
 have z1:(zA s.heap l1).objs.size=s.heap.objs.size+1:=ig ..;have z2:(zA (zA s.heap l1) l2).objs.size=s.heap.objs.size+2:=by rw[ig,z1]
 have z3:(zB s.heap l1 l2 l3).objs.size=s.heap.objs.size+3:=by rw[ig,z2]
 have z4:(zC s.heap l1 l2 l3).objs.size=s.heap.objs.size+4:=by rw[ig,z3]
 have z5:(zD s.heap l1 l2 l3).objs.size=s.heap.objs.size+5:=by rw[ig,z4]
 have P:∀{h:Heap} {b:Addr} {o:Obj} (u:Obj),h.get? b=some o->(h.push u).get? b=some o:=fun u e=>ah u e
 have g5:(zE s.heap l1 l2 l3).get? (zD s.heap l1 l2 l3).objs.size=some _:=bz _ rfl;have g4:(zE s.heap l1 l2 l3).get? (zC s.heap l1 l2 l3).objs.size=some _:=P _ (bz _ rfl);have g3:(zE s.heap l1 l2 l3).get? (zB s.heap l1 l2 l3).objs.size=some _:=P _ (P _ (bz _ rfl));have g2:(zE s.heap l1 l2 l3).get? (zA (zA s.heap l1) l2).objs.size=some _:=P _ (P _ (P _ (bz _ rfl)));have g1:(zE s.heap l1 l2 l3).get? (zA s.heap l1).objs.size=some _:=P _ (P _ (P _ (P _ (bz _ rfl))));have g0:(zE s.heap l1 l2 l3).get? s.heap.objs.size=some _:=P _ (P _ (P _ (P _ (P _ (bz _ rfl)))));show _/\_;rw[z3,z4,z5]at g5;rw[z1,z2,z3]at g3;rw[z4]at g4;rw[z1]at g1;rw[z2]at g2;rw[z5];exact⟨⟨_,g5,rfl⟩,h _ g5 g3 g4 ⟨_,g0,rfl,rfl⟩ ⟨_,g1,rfl,rfl⟩ ⟨_,g2,rfl,rfl⟩ fun c o x=>P _ (P _ (P _ (P _ (P _ (P _ x)))))⟩
end
noncomputable def ae5 (K:Frag) (a b c:Addr):It:=
  ⟨fun i H=>∃xs ys zs x y z,gE K H a xs/\gE K H b ys/\gE K H c zs/\xs[i]? =some x/\ys[i]? =some y/\zs[i]? =some z,
   fun i H v H'=>∃t,H t=none/\v= .ref t/\∀xs ys zs,gE K H a xs->gE K H b ys->gE K H c zs->∃x y z,xs[i]? =some x/\ys[i]? =some y/\zs[i]? =some z/\H'=upd H t (.tup [x,y,z]),
   fun i H=>∃xs ys zs,gE K H a xs/\gE K H b ys/\gE K H c zs/\i<xs.length/\i<ys.length/\zs.length<=i⟩
theorem YU {s:Shared} {TI TO a b c f:Addr} {itsa itsb itsc:Array Value} {i:Nat} {u v r:Value} {f0:Value} (nd:[z,TI,TO,i1,i2,i3].Nodup) (hz:IsZip s.heap z TI TO f0) (hTI:∃x y w,cM s.heap TI x y w) (hTO:cM s.heap TO u v r)
  (h1:s.heap.IsListIter i1 a i) (h2:s.heap.IsListIter i2 b i) (h3:s.heap.IsListIter i3 c i) (pa:s.heap.IsList a itsa) (pb:s.heap.IsList b itsb) (pc:s.heap.IsList c itsc):Z3 z TI TO i1 i2 i3 a b c:=by
 obtain⟨x,y,w,hTI⟩:=hTI;obtain⟨o1,e1,c1,_⟩:=h1;obtain⟨o2,e2,c2,_⟩:=h2;obtain⟨o3,e3,c3,_⟩:=h3;have key:∀(l:Addr) (its:Array Value),s.heap.IsList l its->∀(r:Addr) (o:Obj) (n:String),s.heap.get? r=some o->o.cls= .type n->n≠"list"->l≠r:=fun l its hl r o n hr cr hn zz=>by
  obtain⟨ol,el,cl,_⟩:=hl;subst zz;rw[hr]at el;cases el
  rw[cr]at cl;exact hn (Value.type.inj cl)
 have all:∀(l:Addr) (its:Array Value),s.heap.IsList l its->l∉[z,TI,TO,i1,i2,i3]:=fun l its hl hm=>by
  simp only[bw,dv,or_false]at hm;rcases hm with e|e|e|e|e|e
  .exact key l its hl z _ _ hz rfl (by decide) e
  .exact key l its hl TI _ _ hTI rfl (by decide) e
  .exact key l its hl TO _ _ hTO rfl (by decide) e
  .exact key l its hl i1 _ _ e1 c1 (by decide) e
  .exact key l its hl i2 _ _ e2 c2 (by decide) e
  .exact key l its hl i3 _ _ e3 c3 (by decide) e
 exact⟨nd,all a _ pa,all b _ pb,all c _ pc⟩
theorem N6 {P:Program} {w:World} {K:Frag} {elts:List Expr} {x1} (a b c z TI TO i1 i2 i3:Addr) (nd:[z,TI,TO,i1,i2,i3].Nodup):
  Turn P w K (.Tuple elts x1 pos) (ae5 K a b c) [z,TI,TO,i1,i2,i3] z (fun i h=>IsZip h z TI TO .none/\cM h TI (.ref i1) (.ref i2) (.ref i3)/\(∃u v r,cM h TO u v r)/\h.IsListIter i1 a i/\h.IsListIter i2 b i/\h.IsListIter i3 c i)where
 mem:=by simp
 obj:=fun i h st c hb=>by
  obtain⟨hz,hTI,⟨u,v,r,hTO⟩,⟨o1,h1,_,e1⟩,⟨o2,h2,_,e2⟩,⟨o3,h3,_,e3⟩⟩:=st;simp only[bw,dv,or_false]at hb;rcases hb with r|r|r|r|r|r
  .subst r;exact⟨_,hz,fun v z=>by cases z⟩
  .subst r;exact⟨_,hTI,fun v z=>by cases z⟩
  .subst r;exact⟨_,hTO,fun v z=>by cases z⟩
  .subst r;exact⟨o1,h1,fun v z=>by rw[e1]at z;cases z⟩
  .subst r;exact⟨o2,h2,fun v z=>by rw[e2]at z;cases z⟩
  .subst r;exact⟨o3,h3,fun v z=>by rw[e3]at z;cases z⟩
 keep:=fun i h h' st k=>by
  obtain⟨hz,hTI,⟨u,v,r,hTO⟩,h1,h2,h3⟩:=st;exact⟨k z (by simp) _ hz,k TI (by simp) _ hTI,⟨u,v,r,k TO (by simp) _ hTO⟩,h1.at fun o q=>k i1 (by simp) o q,h2.at fun o q=>k i2 (by simp) o q,h3.at fun o q=>k i3 (by simp) o q⟩
 item:=by
  intro X hP hw hK hc i zq s σ H E I hf st hg;subst hP hw hK;obtain⟨xs,ys,zs,x,y,v0,hqa,hqb,hqc,hx,hy,hv0⟩:=hg;obtain⟨itsa,rva,pa,_⟩:=I.list hqa;obtain⟨itsb,rvb,pb,_⟩:=I.list hqb;obtain⟨itsc,rvc,pc,_⟩:=I.list hqc;obtain⟨u,hu,ru⟩:=rva.get hx;obtain⟨v,hv,rv⟩:=rvb.get hy;obtain⟨r,hr,rr⟩:=rvc.get hv0;obtain⟨hz,hTI,⟨p,q,p2,hTO⟩,h1,h2,h3⟩:=st;have D:=YU (f:=0) nd hz ⟨_,_,_,hTI⟩ hTO h1 h2 h3 pa.isList pb.isList pc.isList;have lt:∀(r:Addr) (o:Obj),s.heap.get? r=some o->s.heap.objs.size≠r:=fun r o e zz=>by
   have:=cm e;rw[<-zz]at this;exact jm _ this
  have n0:s.heap.objs.size∉[z,TI,TO,i1,i2,i3]:=by
   simp only[bw,dv,or_false,not_or];exact⟨lt z _ hz,lt TI _ hTI,lt TO _ hTO,let⟨o,e,_⟩:=h1;lt i1 o e,let⟨o,e,_⟩:=h2;lt i2 o e,let⟨o,e,_⟩:=h3;lt i3 o e⟩
  have nd':=nd;simp only[fq,bw,dv,or_false,not_or,jh,not_false_eq_true,and_true]at nd';obtain⟨⟨zTI,zTO,zi1,zi2,zi3⟩,⟨TITO,TIi1,TIi2,TIi3⟩,_⟩:=nd';refine Y5 (I.ok.hd hc) D hz hTI hTO h1 h2 h3 pa.isList pb.isList pc.isList (by simpa using hu) (by simpa using hv) (fun r' hr' h' hz' hTO' h1' h2' h3' hT hsz hk=>?_) fun hn=>by simp[hr]at hn
  obtain rfl:r=r':=by simpa [hr]using hr'
  refine⟨_,rfl,wpAny_letOwnedTupleGo_zip (s:={s with heap:=h'}) hz' fun hh2 hz2 sb=>?_⟩;have hk2:∀c o,c∉[z,TI,TO,i1,i2,i3]->s.heap.get? c=some o->hh2.get? c=some o:=fun c o hb e=>by
   simp only[bw,dv,or_false,not_or]at hb;exact sb.extBut c o hb.1 (hk c o hb.1 hb.2.2.1 hb.2.2.2.1 hb.2.2.2.2.1 hb.2.2.2.2.2 e)
  have hfr:H s.heap.objs.size=none:=I.bR.fresh (bc _);have hT2:hh2.get? s.heap.objs.size=some {cls:=.type "tuple",data:=.seq #[u,v,r]}:=sb.extBut _ _ (lt z _ hz) hT;have hTI2:cM hh2 TI (.ref i1) (.ref i2) (.ref i3):=sb.extBut _ _ (Ne.symm zTI) (hk TI _ (Ne.symm zTI) TITO TIi1 TIi2 TIi3 hTI);have hTO2:cM hh2 TO u v r:=sb.extBut _ _ (Ne.symm zTO) hTO';have h12:=h1'.extBut sb.extBut (Ne.symm zi1);have h22:=h2'.extBut sb.extBut (Ne.symm zi2);have h32:=h3'.extBut sb.extBut (Ne.symm zi3);have I2:Inv X zq σ (upd H s.heap.objs.size (.tup [x,y,v0])) {s with heap:=hh2,toks:=s.toks}:=by
   refine I.un2 hk2 hf hfr n0 ⟨by show 3<=sizeLine;decide,[u,v,r],.cons ru (.cons rv (.cons rr .nil)),r6.of hT2⟩ (fun c hb o e=>?_);simp only[bw,dv,or_false]at hb;rcases hb with r|r|r|r|r|r
   .subst r;exact⟨_,hz2⟩
   .subst r;exact⟨_,hTI2⟩
   .subst r;exact⟨_,hTO2⟩
   .subst r;exact let⟨o,e,_⟩:=h12;⟨o,e⟩
   .subst r;exact let⟨o,e,_⟩:=h22;⟨o,e⟩
   .subst r;exact let⟨o,e,_⟩:=h32;⟨o,e⟩
  refine⟨.ref s.heap.objs.size,_,I2,rfl,⟨s.heap.objs.size,hfr,rfl,fun xs' ys' zs' hx' hy' hz'=>⟨x,y,v0,by rw[I.pL hx' hqa];exact hx,by rw[I.pL hy' hqb];exact hy,by rw[I.pL hz' hqc];exact hv0,rfl⟩⟩,⟨hz2,hTI2,⟨u,v,r,hTO2⟩,h12,h22,h32⟩,fun c hb=>?_⟩;have hcT:c≠s.heap.objs.size:=fun zz=>n0 (by rw[<-zz];exact hb)
  rw[aX hcT];exact(hf c hb).1
 done:=by
  intro X hP hw hK hc i zq s σ H E I hf st hg;subst hP hw hK;obtain⟨xs,ys,zs,hqa,hqb,hqc,g1,g2,g3⟩:=hg;obtain⟨itsa,rva,pa,_⟩:=I.list hqa;obtain⟨itsb,rvb,pb,_⟩:=I.list hqb;obtain⟨itsc,rvc,pc,_⟩:=I.list hqc;obtain⟨hz,hTI,⟨p,q,p2,hTO⟩,h1,h2,h3⟩:=st;have l1:=rva.length;have l2:=rvb.length;have l3:=rvc.length;have D:=YU (f:=0) nd hz ⟨_,_,_,hTI⟩ hTO h1 h2 h3 pa.isList pb.isList pc.isList;refine Y5 (I.ok.hd hc) D hz hTI hTO h1 h2 h3 pa.isList pb.isList pc.isList (x:=itsa[i]'(by omega)) (y:=itsb[i]'(by omega)) (by simp) (by simp) (fun v hv=>absurd (Array.getElem?_eq_some_iff.mp hv).1 (by simp;omega)) fun _ h' hk=>⟨rfl,I.CH (t':=s.toks) (fun c o hb e=>?_) hf⟩
  simp only[bw,dv,or_false,not_or]at hb;exact hk c o hb.1 hb.2.2.1 hb.2.2.2.1 hb.2.2.2.2.1 hb.2.2.2.2.2 e
 self:=fun _ _ _ _ _ st h=>wpAny_pyIter_zip st.1 h
section
variable {X:Cx} {elts:List Expr} {x1:Nat} {tpos:Pos}
def SY (K:Frag) (ta:TA):TI:=fun σ H R=>ta σ H fun vs H1=>∃a b c xs ys zs,vs=[.ref a,.ref b,.ref c]/\gE K H1 a xs/\gE K H1 b ys/\gE K H1 c zs/\R (ae5 K a b c) H1
theorem U0 {a b c:Expr} (hg:Gl X "zip") (hm:X.mg "zip"=none) (ha:PA X [a,b,c] ta) (hs:starEach [a,b,c] X.env=[(false,eval a X.env),(false,eval b X.env),(false,eval c X.env)]:=by rfl) (hs2:starEach [b,c] X.env=[(false,eval b X.env),(false,eval c X.env)]:=by rfl):
  PI X (.Tuple elts x1 tpos) (.Call (.Name "zip" p) [a,b,c] [] pos) (SY X.K ta):=by
 intro zq s σ H R I h;refine Call_ (tG I hg hm adF (ie (cS (ha pos zq s σ H _ I h) fun us s1 ⟨vs,H1,I1,r1,q1⟩=>?_) (by rw[hs,hs2]) (by rw[hs2];rfl)));obtain⟨l1,l2,l3,xs,ys,zs,e,hqa,hqb,hqc,q⟩:=q1;subst e;cases r1 with
 | cons rx r1=>
  cases r1 with
  | cons ry r1=>
   cases r1 with
   | cons rz r1=>
    cases r1;cases rx;cases ry;cases rz;obtain⟨itsa,rva,pa,_⟩:=I1.list hqa;obtain⟨itsb,rvb,pb,_⟩:=I1.list hqb;obtain⟨itsc,rvc,pc,_⟩:=I1.list hqc;refine JW pa.isList pb.isList pc.isList fun h' hz hTI hTO h1 h2 h3 hk=>?_
    have I2:Inv X zq σ H1 {s1 with heap:=h'}:=I1.kept (t':=s1.toks) hk;refine wpAny_pyIter_zip (s:={s1 with heap:=h'}) hz ?_;have nd:[s1.heap.objs.size+5,s1.heap.objs.size+3,s1.heap.objs.size+4,s1.heap.objs.size+0,s1.heap.objs.size+1,s1.heap.objs.size+2].Nodup:=by
     have:([5,3,4,0,1,2].map fun k=>s1.heap.objs.size+k).Nodup:=List.Pairwise.map _ (fun m n h e=>h (Nat.add_left_cancel e)) (show([5,3,4,0,1,2]:List Nat).Nodup by decide);exact this
    refine⟨s1.heap.objs.size+5,[s1.heap.objs.size+5,s1.heap.objs.size+3,s1.heap.objs.size+4,s1.heap.objs.size+0,s1.heap.objs.size+1,s1.heap.objs.size+2],_,_,H1,rfl,I2,N6 l1 l2 l3 _ _ _ _ _ _ nd,⟨hz,hTI,⟨_,_,_,hTO⟩,h1,h2,h3⟩,fun c hb=>?_,q⟩;have hc:s1.heap.objs.size<=c:=by
     simp only[bw,dv,or_false]at hb;rcases hb with r|r|r|r|r|r<;>(rw[r];exact Nat.le_add_right _ _)
    exact I1.xA hc (I1.bR.fresh hc)
theorem UG (K:Frag) {a b c:Expr} (hg:Gl X "zip") (hm:X.mg "zip"=none) (ha:PA X [a,b,c] ta) (h:X.K=K:=by rfl) (hs:starEach [a,b,c] X.env=[(false,eval a X.env),(false,eval b X.env),(false,eval c X.env)]:=by rfl) (hs2:starEach [b,c] X.env=[(false,eval b X.env),(false,eval c X.env)]:=by rfl):
  PI X (.Tuple elts x1 tpos) (.Call (.Name "zip" p) [a,b,c] [] pos) (SY K ta):=h▸U0 hg hm ha hs hs2
end
end L2
namespace Mr
open PySem L2
variable {fa:FA}
section
variable {K:Frag}
noncomputable def RY (fa:FA):FI:=fun _ e=>bE (fa e) fun bs e1=>match bs with
 |[.val (.lst ps),.val (.lst qs),.val (.lst rs)]=>bD (decide (rs.length<ps.length) && decide (rs.length<qs.length)) (some (((ps.zip qs).zip rs).map fun z=>.tup [z.1.1,z.1.2,z.2],e1))
 |_=>none
theorem VE {st:Nat->Bool} {e:En}:RY fa st e=bE (fa e) fun bs e1=>match bs with
 |[.val (.lst ps),.val (.lst qs),.val (.lst rs)]=>bD (decide (rs.length<ps.length) && decide (rs.length<qs.length)) (some (((ps.zip qs).zip rs).map fun z=>.tup [z.1.1,z.1.2,z.2],e1))
 |_=>none:=rfl
theorem PX {ta:TA} (h:vS K ta fa):w9 K (SY K ta) (RY fa):=by
 intro st O M W L σ H e e' ps R o he hf q;obtain⟨x,e1,f1,hf⟩:=aM hf;refine h O M W L σ H e e1 x _ o he f1 fun vs H1 k1 en rv=>?_
 have o1:=o.keep k1.cD;split at hf
 .rename_i ps0 qs0 rs0;obtain⟨hlen,hf⟩:=aL hf;rw[cj]at hlen;have g1:=av hlen.1;have g2:=av hlen.2;cases hf;cases rv with
  | cons h r=>
   cases r with
   | cons h' r=>
    cases r with
    | cons h'' r=>
     cases r;cases h with
     | lst ha n ra=>
      cases h' with
      | lst hb n' rb=>
       cases h'' with
       | lst hc n'' rc=>
        rename_i a xs b ys c zs;refine⟨a,b,c,xs,ys,zs,rfl,.inl ha,.inl hb,.inl hc,q _ H1 k1 en fun Wr hw _=>?_⟩;intro L' H' j1 j2 j3;have st:=vC o1 hw j1 j2 j3;have sq:∀{a:Addr} {xs:List V},Rd H1 a (.lst xs)->¬aW M L a->gE K H' a xs:=fun{a xs} ha n=>by
         have nw:¬Wr a:=fun z=>n ((hw _ z).elim (fun⟨i,w⟩=>.inl (o.wm i _ w)) .inr)
         rcases ha with h|⟨u,h⟩
         .exact .inl (.inl (j1 _ _ h nw))
         .exact .inl (.inr ⟨u,j1 _ _ h nw⟩)
        have sa:=sq ha n;have sb:=sq hb n';have sc:=sq hc n'';have l1:=ra.length;have l2:=rb.length;have l3:=rc.length;have lz:(((ps0.zip qs0).zip rs0).map fun z=>PV.tup [z.1.1,z.1.2,z.2]).length=rs0.length:=by rw[ag,length_zip,length_zip];omega
        refine⟨fun k p hp=>?_,xs,ys,zs,sa,sb,sc,by rw[lz];omega,by rw[lz];omega,by rw[lz];omega⟩;rw[aq]at hp;obtain⟨z,hz,rfl⟩:=bf.mp hp;obtain⟨c12,c3⟩:=kh.mp hz;obtain⟨c1,c2⟩:=kh.mp c12;obtain⟨v,hv,rv⟩:=ra.get c1;obtain⟨v',hv',rv'⟩:=rb.get c2;obtain⟨v3,hv3,rv3⟩:=rc.get c3;refine⟨⟨xs,ys,zs,v,v',v3,sa,sb,sc,hv,hv',hv3⟩,fun x H3 y=>?_⟩;obtain⟨t,ht,rfl,y⟩:=y;obtain⟨x1,x2,x3,h1,h2,h3,rfl⟩:=y xs ys zs sa sb sc;rw[hv]at h1;rw[hv']at h2;rw[hv3]at h3;cases h1;cases h2;cases h3;exact⟨aT.upd ht,.tup (.inl aU) (.cons ((rv.aK st).aK (.same (aT.upd ht))) (.cons ((rv'.aK st).aK (.same (aT.upd ht))) (.cons ((rv3.aK st).aK (.same (aT.upd ht))) .nil)))⟩
 .cases hf
theorem QG {i j m:Nat} {ta:TE} {fa fb:FS} (ia:Ind ta) (hm:i≠m) (ha:gA K (t9 ta (jY i)) fa) (hb:gA K (t9 (yX m) (jY j)) fb):gA K (acC i j (eI ta (eI (yX m) tN))) (aR fa fb):=by
 intro O M W L σ H e r D o he hf q;have k:=C5 ha hb O M W L σ H e r D o he hf q;refine ia _ σ _ _ _ (fun x H1 k1=>?_) k;obtain⟨v,h1,h2⟩:=k1;rw[dh hm]at h1;exact⟨v,h1,⟨_,_,rfl,h2⟩⟩
end
end Mr
namespace L2
open PySem PySem.Spec PyProof.Rows
variable {E:Value->Shared->Prop}
theorem JJ:typeLookup (.type "list") "keys"=pure none:=by rw[typeLookup_type,builtinLookup_eq_fast];kernel_rfl
theorem KS {prog:Program} {w:World} {A:Around} {s:Shared} {a:Addr} {o:Obj} {xs:Array Value} {k:Nat} {Q:Option Value->Shared->Prop}
  (hx:s.heap.get? a=some o) (hc:o.cls= .type "list") (hdat:o.data= .seq xs k) (hd:o.dict=none) (hA:A.handled=none)
  (h:∀h' tk,(∀b u,s.heap.get? b=some u->h'.get? b=some u)->Q none {s with heap:=h',toks:=tk}):wpAny (model prog w) A (getAttr? (.ref a) "keys") Q E s:=by
 obtain⟨c,aZ,dat,sl⟩:=o;simp only at hc hdat hd;subst hc hdat hd;obtain⟨hp,g,d,tk,os⟩:=s;have hT:∀tk',(⟨hp,g,d,tk',os⟩:Shared).TypeIs (.ref a) "list":=fun _=>⟨_,hx,rfl⟩
 have f1:=sub_AttributeError;have f3:=F.slot_list_getattribute.lookup;have f4:=F.slot_list_getattribute.bind (.ref a);have f5:=am_list_getattr_none;unfold getAttr? getAttrBy? getAttrBy
 repeat(any_goals(first|assumption|exact hT _|((with_reducible show wpAny _ _ (call (Value.builtin "list.__getattribute__") _ _) _ _ _);refine call_meets F.slot_list_getattribute (hT _) am_entry_list_getattribute (F.args_list_getattribute_2 _ _) (meets_getattribute_miss_list a xs k sl "keys" _ JJ (by decide+kernel) (by decide)) ⟨hx,hA,fun h' tk' e hx'=>?_⟩)|wp_step))
 obtain⟨t',u',he⟩:=hx'.there;show wpAny _ _ (getattributeRaised _ _ _ _ _ _ _) _ _ _;unfold getattributeRaised
 repeat(any_goals(first|assumption|wp_step))
 exact h h' tk' hx'.keeps
section
variable {prog:Program} {w:World} {A:Around} {R:Result->Shared->Prop} {I:Addr} {fp wr:List Addr} {n:Nat} {Pz:Nat->Value->Prop} {Sz:Nat->Heap->Prop} {K:Type} [DecidableEq K] {knd:KeyKind prog w K}
theorem u7 {s:Shared} {t:Addr} {vs:List Value} {ps:List (K×Value)} {Q:Value->Shared->Prop} (hh:A.handled=none) (ht:s.heap.IsList t vs.toArray) (nd:∀o,s.heap.get? t=some o->o.dict=none) (hz:ps.length<=sizeLine)
  (hp:∀(j:Nat) (v:Value),vs[j]? =some v->∃z,ps[j]? =some z/\zI knd s.heap v z) (hl:ps.length=vs.length)
  (hq:∀h' tk,h'.DictOf knd s.heap.objs.size (ps.foldl (fun d z=>stored d z.1 z.2) [])->(∀b o,s.heap.get? b=some o->h'.get? b=some o)->Q (.ref s.heap.objs.size) {s with heap:=h',toks:=tk}):
  wpAny (model prog w) A (call (.type "dict") [.ref t]) Q E s:=by
 obtain⟨ot,eo,hc,c,hd⟩:=ht;exact uE (knd:=knd) (it:="list_iterator") hh eo hc (by decide) (fun e1 e2 q=>KS e1 hc hd (nd _ eo) e2 q) (fun e q=>ka ⟨ot,e,hc,c,hd⟩ q) (fun I h n=>Walks.list h I t n vs.toArray) (fun e1 e2=>⟨⟨_,e1,rfl,rfl⟩,⟨ot,e2,hc,c,hd⟩⟩) hz hp hl hq
end
end L2
namespace Mr
open PySem PySem.Spec L2
def RL (K:Frag):List V->Hp->VK->Prop:=fun xs H Q=>∃(t:Addr) (ys:List V) (kvs:List (Key×V)),xs=[.ref t]/\gE K H t ys/\zW K H ys kvs/\kvs.length<=sizeLine/\∀p ep,H p=none->Q (.ref p) (upd H p (.dK (kvs.foldl (fun d z=>putK d z.1 z.2) []) ep))
section
variable {X:Cx}
theorem adA (K:Frag) (hK:X.K=K:=by rfl) (hc:X.calm=true:=by rfl):cK X (.type "dict") (RL K):=by
 intro zq s σ H xs us Q I r ⟨t,ys,kvs,e,ht,hp,hz,q⟩;subst e;obtain⟨u,rfl,rx⟩:=vals1 r;cases rx;obtain⟨its,v2,tt,_⟩:=I.list (hK▸ht);obtain⟨ps,h1,h2,h3⟩:=pairs_at hK I hp v2;refine u7 (knd:=bP X.prog X.w) (ps:=ps) (by exact I.ok.hd hc) tt.isList (fun o e=>?_) (by rw[<-h1.length];exact hz) h3 h2 fun h' tk dd kp=>?_
 .obtain⟨c,n,hx,_,hd,_⟩:=tt;rw[hx]at e;cases e;exact hd
 obtain⟨ep,da⟩:=dd.dictAt;have hb:=I.big;refine⟨.ref s.heap.objs.size,_,I.laid (t':=tk) (o:=.dK (kvs.foldl (fun d z=>putK d z.1 z.2) []) ep) kp (bc _) ⟨?_,?_,_,CM h1 .nil,da⟩,rfl,q _ ep (I.bR.fresh (bc _))⟩
 .have:=zS kvs [];rw[length_nil]at this;omega
 .exact kz.mpr (iw hb)
noncomputable def CP:List PV->Option Bv
 |[.lst ps]=>bO (jO ps) fun kvs=>bD (decide (kvs.length<1000000)) (some (.new (.aZ (kvs.foldl (fun d z=>eG d z.1 z.2) []))))
 |_=>none
theorem E2 {K:Frag}:iA K (RL K) CP:=by
 intro Z H vs ps b Q hp h k;unfold CP at h;split at h
 .obtain⟨kps,g,h⟩:=aF h;obtain⟨c,h⟩:=aL h;cases h;obtain⟨v,rfl,hv⟩:=hp.one;obtain⟨a,ys,rfl,ha,ra⟩:=hv.rA;obtain⟨kvs,h1,h2⟩:=sU g ra;have hl:kps.length=kvs.length:=by have:=dq List.length h2.1;simpa using this.symm
  refine⟨a,ys,kvs,rfl,ha.sq,h1,?_,fun p ep hl'=>?_⟩
  .rw[<-hl];exact gx (gP c)
  .have hf:=x9 h2 (d:=[]) (d':=[]) ⟨rfl,.nil⟩;exact k _ _ (aT.upd hl') ⟨p,rfl,hl',.aZ aU hf.1 (hf.2.aK (.new (aT.upd hl') hl'))⟩
 .cases h
end
section
variable {X:Cx} {x:Str} {st:Stmt} {ps:List Str} {j k i:Nat} {ks:List Kd} {fr:Bool} {fn:FN} {e:Expr} {es:List Expr} {t:TA} {p pos pos':Pos} {K:Frag} {te:TE}
theorem aV (C:Cn X.prog X.w K X.mg X.base x st ps j ks fr fn) (hr:dW k X.A) (ha:PA X (e::es) t) (hjk:j<=k:=by decide) (hg:Gl X x:=by rfl) (hK:X.K=K:=by rfl) (hdb:(x==("__debug__":Str))=false:=by decide)
  (he:starEach (e::es) X.env=(false,eval e X.env)::starEach es X.env:=by rfl) (hpl:(backTo pos (starEach es X.env)).any (·.1)=false:=by rfl):PE X (.Call (.Name x p) (e::es) [] pos) (BY (WR K ks fr fn) [] E0 t):=aaB C hr hjk hg ha hK hdb he hpl
theorem aN (hN:X.N.Nodup) (he:PE X e te) (hi:X.N[i]? =some x:=by rfl) (hx:Loc X.env.scope x:=by first|exact .inl rfl|exact .inr rfl) (hs:swapsWith e (some (.Name x pos')) pos.line X.env=pure false:=by rfl) (hf:X.fn x=true\/ X.env.scope.names.lookup x=some .local:=by first|exact .inl rfl|exact .inr rfl):PS X (.Assign [.Name x pos'] e pos) (t9 te (jY i)):=ac2 hN hi hx he hs hf
theorem bF (hN:X.N.Nodup) (hi:X.N[i]? =some x:=by rfl) (hx:Loc X.env.scope x:=by first|exact .inl rfl|exact .inr rfl) (hf:X.fn x=true\/ X.env.scope.names.lookup x=some .local:=by first|exact .inl rfl|exact .inr rfl):PG X (.Name x pos) (jY i):=bL hN hi hx hf
end
end Mr
namespace My
open PySem L2 Mr
variable {ab hs ks:Hl} {a at' b c d k m many:Int} {claimed held rows:List (Key×PV)} {F Rs:List (List Str)} {as:List Int} {ls qs:List Let} {xs:List PV} {L M N R S ns ss:List Str} {ts:List kB} {i j n:Nat} {s0 s10 s12 s13 s14 s2 s3 s4 s7:Option Sl} {o:Option Str} {p:PV} {Q:PV×List PV->Prop} {l:PySem.W.OpenLaw} {x y:Str} {E T up:Str->Option Str} {G Rn f v v':Str->PV} {N0 N1:Str->Prop} {α β:Type} {t:kB}
noncomputable section
def sZ:FS:=(cV (jE mF (aB (dZ (MO (aB (aC 2) aI)) 2 [1,2] [] (j4 2 (b8 (aP 0) (b8 (aP 1) j7))) (tH (bH (bC gNe (aC 1) (aC 2))) (bH (bC (xB true) (aC 1) (NS OI (aC 3) (mQ (bC j0 (aC 0) (fC (.int 1)))) eY)))) (aC 1)) aI)))
def tE:FS:=(aR (bW 2 (bC cX (aC 0) (fC (.int 3)))) sZ)
def yM:FS:=(aR (bW 1 (bC cX (aC 0) (fC (.int 0)))) tE)
def i5:FN:=pA [.b] 2 false yM
def mX:FS:=(wD (bH (bC (xB true) (bC cX (aC 2) (fC (.int 0))) (aC 1))) (dN 1 (bC cX (aC 2) (fC (.int 0))) (aC 2)) dF)
def oB:FS:=(aR (iG (sV (aC 0)) (aP 2) mX) (cV (KH (aC 1))))
def rR:FS:=(aR (dP 1 l7) oB)
def eM:FN:=pA [.b] 2 false rR
def sJ:FS:=(cV (VS (UX (aC 4)) (dD (aB (bC cX (aC 4) (fUn OR (fC (.int 1)))) (aB (dD (aB (fC (.str "own")) aI)) aI))) (dD (aB (fC .bG) (aB (dD (aB (fC (.str "first")) aI)) aI)))))
def sA:FS:=(aR (bW 4 (bC cX (aC 1) (aC 3))) sJ)
def sW:FS:=(cV (dD (aB (bC cX (bC cX (aC 1) (aC 6)) (bC Mr.AO (aC 7) (fC (.int 1)))) (aB (dD (aB (fC (.str "told")) (aB (aC 6) (aB (aC 7) aI)))) aI))))
def sL:FS:=(aR (aa6 (jE wO (aB (bC cX (aC 2) (aC 3)) aI)) (j4 3 (b8 (aP 5) (b8 (aP 6) (b8 (aP 7) j7))))) sW)
def rM:FS:=(aR (wD (bH (bC (xB false) (aC 3) (aC 2))) sL dF) (cV (dD (aB (fC .bG) (aB (dD (aB (fC (.str "first")) aI)) aI)))))
def rY:FS:=(aR (wD (bH (bC (xB false) (aC 3) (aC 1))) sA dF) rM)
def l9:FS:=(aR (wD (bH (bC (xB false) (aC 3) (aC 0))) (cV (dD (aB (bC cX (aC 0) (aC 3)) (aB (dD (aB (fC (.str "hand")) aI)) aI)))) dF) rY)
def cU:FN:=pA [.b,.b,.b,.b] 4 false l9
def qI:FS:=(cV (i9 (sV (aC 0)) 3 [] [] (j4 3 (b8 (aP 0) (b8 (aP 1) (b8 (aP 2) j7)))) dC (aC 0) (aC 1)))
def iL:FN:=pA [.b] 0 false qI
def pZ:FS:=(aR (dN 2 (aC 1) (fC (.bl true))) (bW 1 (BQ (aC 0) (aC 1))))
def pU:FS:=(aR (gK (tH (bH (bC (FV true) (aC 1) (fC .bG))) (bH (bC (xB true) (aC 1) (aC 2)))) pZ 1000) (cV (jE EW (aB (aC 2) aI))))
def uW:FS:=(aR (dP 2 l7) pU)
def nQ:FN:=pA [.b,.b] 1 false uW
def pX:FS:=(cV (bC cX (jE wO (aB (dZ (sV (aC 3)) 1 [2] [] (aP 0) dC (dD (aB (bC cX (aC 1) (aC 0)) (aB (aC 0) aI)))) aI)) (fC (.int 1))))
def pW:FS:=(aR (wD (UX (aC 4)) (cV (jE wO (aB (aC 4) aI))) dF) pX)
def p5:FS:=(aR (bW 4 (dZ (sV (aC 3)) 1 [2] [] (aP 0) (bH (bC (xB true) (aC 0) (aC 1))) (aC 0))) pW)
def vK:FS:=(aR (bW 3 (dZ (sV (aC 0)) 1 [1] [] (aP 0) (bH (bC (xB true) (aC 0) (aC 1))) (aC 0))) p5)
def nP:FN:=pA [.b,.b,.b] 2 false vK
def jF:FS:=(cV (jE mF (aB (bC j0 (NS OI (aC 0) (mQ (aC 2)) eY) (NS OI (aC 0) eY (mQ (aC 2)))) aI)))
def nZ:FS:=(aR (bW 2 (qL (aC 0) (aC 1))) jF)
def gX:FN:=pA [.b,.b] 1 false nZ
def mT:FS:=(cV (gF (aB (aC 3) (aB (bC qK (bC uH (bC j0 (bC j0 (bC qK (aC 2) (fC (.int 2305843009213693951))) (bC uH (bC uH (fC (.int 7919)) (aC 1)) (aC 1))) (fC (.int 3))) (fC (.int 48271))) (fC (.int 2305843009213693921))) (aB (fC (.int 0)) aI)))))
def mZ:FS:=(aR (bW 3 (VS (bH (bC gGe (aC 2) (bC w4 (fC (.int 10)) (fC (.int 18))))) (bC qK (aC 2) (bC wR (bC wR (bC wR (bC w4 (fC (.int 10)) (fC (.int 60))) (bC w4 (fC (.int 10)) (fC (.int 60)))) (bC w4 (fC (.int 10)) (fC (.int 60)))) (bC w4 (fC (.int 10)) (fC (.int 60))))) (fC (.int 0)))) mT)
def sM:FS:=(aR (bW 2 (VS (bH (bC gLt (aC 1) (jE sI (aB (aC 0) aI)))) (bC cX (aC 0) (aC 1)) (fC (.int 0)))) mZ)
def iD:FN:=pA [.b,.b] 2 true sM
def oE:FS:=(aR (D4 0 (fC (.int 0)) (bC SI (bC cX (aC 0) (fC (.int 0))) (aC 1))) (cV (aC 2)))
def oN:FS:=(aR (bW 2 (bC qK (bC cX (aC 0) (fC (.int 0))) (aC 1))) oE)
def nY:FS:=(aR (bW 3 (bC qK (bC uH (aC 3) (bC j0 (bC qK (aC 3) (fC (.int 1000003))) (bC uH (fC (.int 99991)) (bC cX (aC 0) (fC (.int 2)))))) (fC (.int 2305843009213693907)))) (cV (bC qK (bC j0 (bC SI (aC 3) (fC (.int 97))) (bC SI (aC 3) (fC (.int 1000033)))) (aC 1))))
def oD:FS:=(aR (bW 3 (bC qK (bC uH (bC j0 (bC j0 (bC cX (aC 0) (fC (.int 1))) (bC uH (bC uH (fC (.int 65537)) (bC cX (aC 0) (fC (.int 2)))) (bC cX (aC 0) (fC (.int 2))))) (fC (.int 11))) (fC (.int 48271))) (fC (.int 2305843009213693921)))) nY)
def n6:FS:=(aR (D4 0 (fC (.int 2)) (bC j0 (bC cX (aC 0) (fC (.int 2))) (fC (.int 1)))) oD)
def sO:FS:=(aR (wD (bH (bC gGt (bC cX (aC 0) (fC (.int 0))) (fC (.int 0)))) oN dF) n6)
def aO:FN:=pA [.m,.b] 2 false sO
def oU:FS:=(aR (bW 7 (dD (aB (bC cX (aC 1) (aC 3)) (aB (aC 4) (aB (aC 5) (aB (jE mF (aB (dZ (sV (aC 6)) 1 [1] [] (aP 0) dC (bC cX (aC 1) (aC 0))) aI)) aI)))))) (wD (bH (bC (xB true) (aC 7) (aC 2))) (wV 2 (aC 7)) dF))
def nK:FS:=(aR (iG (sV (aC 0)) (j4 4 (b8 (aP 3) (b8 (aP 4) (b8 (aP 5) (b8 (aP 6) j7))))) oU) (cV (jE mF (aB (jE fM (aB (aC 2) aI)) aI))))
def rN:FS:=(aR (dP 2 (gF aI)) nK)
def kG:FN:=pA [.b,.b] 6 false rN
def jH:FS:=(aR (wD (fOr (bH (bC (FV false) (aC 1) (fC .bG))) (bH (bC MH (aC 1) (aC 2)))) (cV (bC MH (aC 1) (aC 2))) dF) (bW 1 (BQ (aC 0) (aC 1))))
def oS:FS:=(aR (iG (wZ (aB (bC j0 (jE UL (aB (aC 0) aI)) (fC (.int 1))) aI)) (aP 3) jH) (cV (fC (.bl false))))
def gY:FN:=pA [.b,.b,.b] 1 false oS
def qG:FS:=(cV (dZ (wZ (aB (jE sI (aB (aC 1) aI)) aI)) 1 [1,0] [] (aP 0) (tH (bH (bC gNe (bC cX (aC 1) (aC 0)) (bC cX (aC 2) (fC (.int 0))))) (bH (bC (xB true) (bC cX (aC 1) (aC 0)) (NS OI (aC 1) (mQ (bC j0 (aC 0) (fC (.int 1)))) eY)))) (bC cX (aC 1) (aC 0))))
def vP:FS:=(aR (bW 1 (bC cX (aC 0) (fC (.int 3)))) qG)
def jV:FN:=pA [.b] 1 false vP
def gL:FS:=(wD (bH (bC (xB true) (bC cX (aC 2) (fC (.int 0))) (aC 1))) (dN 1 (bC cX (aC 2) (fC (.int 0))) (aC 2)) dF)
def gH:FS:=(aR (iG (sV (aC 0)) (aP 2) gL) (cV (KD (aC 1))))
def i7:FS:=(aR (dP 1 l7) gH)
def dO:FN:=pA [.b] 2 false i7
def qA:FS:=(cV (bC cX (jE wO (aB (dZ (sV (aC 3)) 1 [1] [] (aP 0) dC (dD (aB (bC cX (aC 1) (aC 0)) (aB (aC 0) aI)))) aI)) (fC (.int 1))))
def qF:FS:=(aR (wD (bH (bC gNe (aC 4) (gF aI))) (cV (jE wO (aB (aC 4) aI))) dF) qA)
def qC:FS:=(aR (bW 4 (dZ (sV (aC 3)) 1 [1] [] (aP 0) (bH (bC (xB true) (aC 0) (aC 1))) (aC 0))) qF)
def uX:FS:=(aR (bW 3 (dZ (sV (aC 0)) 1 [2] [] (aP 0) (bH (bC (xB true) (aC 0) (aC 1))) (aC 0))) qC)
def nX:FN:=pA [.b,.b,.b] 2 false uX
def vF:FS:=(cV (i9 (sV (bA [.b] false eM (aB (aC 0) aI))) 1 [] [] (aP 0) dC (bC cX (aC 0) (fC (.int 0))) (bC cX (aC 0) (fC (.int 1)))))
def nV:FN:=pA [.b] 0 false vF
def vE:FS:=(cV (i9 (sV (bA [.b] false eM (aB (aC 0) aI))) 1 [] [] (aP 0) dC (bC cX (aC 0) (fC (.int 0))) (bA [.b] false i5 (aB (aC 0) aI))))
def nR:FN:=pA [.b] 0 false vE
def qH:FS:=(sX 1 (S6 (xIt (bA [.b] false eM (aB (aC 0) aI))) (aP 2) (S6 (abV (aB (bA [.b] false i5 (aB (aC 2) aI)) aI)) (j4 2 (b8 (aP 3) (b8 (aP 4) j7))) (xIf (bH (bC gGt (aC 3) (fC (.int 0)))) (aa0 (aC 4) (dD (aB (bC cX (aC 2) (fC (.int 1))) (aB (bC cX (aC 2) (fC (.int 0))) (aB (aC 3) aI))))) S9))))
def iX:FN:=pA [.b] 4 false qH
def mY:FS:=(aR (wV 4 (aC 5)) (bW 5 (BQ (aC 0) (aC 5))))
def nG:FS:=(aR (dN 1 (aC 5) (aC 3)) mY)
def m4:FS:=(wD (tH (bH (bC (FV true) (aC 5) (fC .bG))) (bH (bC MH (bC cX (aC 1) (aC 5)) (aC 3)))) (wV 2 (NS OI (aC 4) (mQ (qL (aC 4) (aC 5))) eY)) dF)
def nS:FS:=(aR (gK (tH (bH (bC (FV true) (aC 5) (fC .bG))) (bH (bC (xB true) (aC 5) (aC 1)))) nG 1000) m4)
def nA:FS:=(aR (bW 5 (aC 3)) nS)
def m8:FS:=(aR (dP 4 (gF aI)) nA)
def nF:FS:=(aR (iG (xX (aC 0)) (aP 3) m8) (cV (aC 2)))
def oV:FS:=(aR (dP 2 (gF aI)) nF)
def rT:FS:=(aR (dP 1 l7) oV)
def kP:FN:=pA [.b] 5 false rT
def tL:FS:=(aR (dN 2 (bC cX (aC 3) (fC (.int 0))) (fC (.bl true))) (iG (sV (bA [.b] false i5 (aB (aC 3) aI))) (aP 4) (dN 2 (aC 4) (fC (.bl true)))))
def sS:FS:=(aR (dN 2 (aC 4) (fC (.bl true))) (wD (bH (bC (FV true) (aC 5) (fC .bG))) (dN 2 (aC 5) (fC (.bl true))) dF))
def tK:FS:=(aR (iG (sV (aC 1)) (j4 2 (b8 (aP 4) (b8 (aP 5) j7))) sS) (cV (jE mF (aB (jE fM (aB (aC 2) aI)) aI))))
def sY:FS:=(aR (iG (sV (bA [.b] false eM (aB (aC 0) aI))) (aP 3) tL) tK)
def zF:FS:=(aR (dP 2 l7) sY)
def qV:FN:=pA [.b,.b] 4 false zF
def k6:FS:=(bW 5 (bC cX (dZ (wZ (aB (bC j0 (jE sI (aB (aC 2) aI)) (fC (.int 1))) aI)) 1 [2] [] (aP 0) (bH (bC (xB true) (jE GS (aB (aC 0) aI)) (aC 1))) (jE GS (aB (aC 0) aI))) (fC (.int 0))))
def lR:FS:=(aR (wD (bH (bC (xB false) (aC 5) (aC 2))) k6 dF) (wV 2 (aC 5)))
def lV:FS:=(aR (bW 5 (fBM HC (fC (.str "")) (aB (dZ (wZ (aB (aC 4) aI)) 1 [0] [(0,1)] (aP 0) dC (bC cX (fC (.str "abcdefghijklmnopqrstuvwxyz0123456789")) (bA [.m,.b] false aO (aB (aC 1) (aB (fC (.int 36)) aI))))) aI))) lR)
def lM:FS:=(aR (bW 4 (bC cX (gF (aB (fC (.int 1)) (aB (fC (.int 1)) (aB (fC (.int 2)) (aB (fC (.int 3)) (aB (fC (.int 12)) (aB (bC j0 (fC (.int 1)) (bC qK (aC 3) (fC (.int 12)))) aI))))))) (bA [.m,.b] false aO (aB (aC 0) (aB (fC (.int 6)) aI))))) lV)
def l0:FS:=(aR (iG (wZ (aB (aC 1) aI)) (aP 3) lM) (cV (aC 2)))
def pH:FS:=(aR (dP 2 (gF aI)) l0)
def iJ:FN:=pA [.m,.b] 4 false pH
def j9:FS:=(bW 5 (bC j0 (NS OI (aC 5) eY (mQ (fC (.int 8)))) (gF (aB (bC qK (bC j0 (aC 2) (fC (.int 1))) (aC 1)) aI))))
def jK:FS:=(cV (dD (aB (aC 2) (aB (bC cX (gF (aB (aC 4) (aB (bC Mr.AO (fC (.int 99999999)) (aC 4)) aI))) (jE A5 (aB (bC MH (aC 3) (fC (.int 2))) aI))) (aB (bC cX (gF (aB (fC (.str "")) (aB (fC (.str "walls")) (aB (fC (.str "Re: walls")) aI)))) (bA [.m,.b] false aO (aB (aC 0) (aB (fC (.int 3)) aI)))) (aB (aC 5) aI))))))
def jP:FS:=(aR (wD (bH (bC MH (bA [.m,.b] false aO (aB (aC 0) (aB (fC (.int 4)) aI))) (fC (.int 0)))) j9 dF) jK)
def jB:FS:=(aR (bW 5 (dZ (wZ (aB (bC cX (gF (aB (fC (.int 0)) (aB (fC (.int 1)) (aB (fC (.int 1)) (aB (fC (.int 2)) (aB (fC (.int 3)) (aB (fC (.int 9)) aI))))))) (bA [.m,.b] false aO (aB (aC 0) (aB (fC (.int 6)) aI)))) aI)) 1 [0,1] [(0,1)] (aP 0) dC (bA [.m,.b] false aO (aB (aC 1) (aB (aC 2) aI))))) jP)
def jI:FS:=(aR (bW 4 (bA [.m,.b] false aO (aB (aC 0) (aB (bC cX (gF (aB (fC (.int 1)) (aB (fC (.int 3)) (aB (fC (.int 2)) (aB (fC (.int 100000000)) aI))))) (aC 3)) aI)))) jB)
def jQ:FS:=(aR (bW 3 (bA [.m,.b] false aO (aB (aC 0) (aB (fC (.int 4)) aI)))) jI)
def oR:FS:=(aR (bW 2 (bA [.m,.b] false aO (aB (aC 0) (aB (aC 1) aI)))) jQ)
def dS:FN:=pA [.m,.b] 4 false oR
def kX:FS:=(wD (tH (bH (bC (xB true) (aC 5) (aC 3))) (XG (bH (bA [.b,.b,.b] false gY (aB (aC 3) (aB (aC 6) (aB (aC 5) aI))))))) (dN 3 (aC 5) (aC 6)) dF)
def lB:FS:=(aR (wD (bH (bC MH (bA [.m,.b] false aO (aB (aC 0) (aB (fC (.int 3)) aI))) (fC (.int 0)))) (bW 6 (fC .bG)) dF) kX)
def lE:FS:=(aR (bW 6 (bC cX (aC 1) (bA [.m,.b] false aO (aB (aC 0) (aB (jE sI (aB (aC 1) aI)) aI))))) lB)
def lX:FS:=(aR (bW 5 (bC cX (aC 1) (bA [.m,.b] false aO (aB (aC 0) (aB (jE sI (aB (aC 1) aI)) aI))))) lE)
def lN:FS:=(aR (iG (wZ (aB (aC 2) aI)) (aP 4) lX) (cV (jE mF (aB (KA (aC 3)) aI))))
def pY:FS:=(aR (dP 3 l7) lN)
def iU:FN:=pA [.m,.b,.b] 4 false pY
def kY:FS:=(aR (bW 9 (dD (aB (bC cX (aC 5) (fC (.int 1))) (aB (bC cX (aC 5) (fC (.int 0))) (aB (aC 7) (aB (bC cX (aC 6) (bC Mr.AO (aC 7) (fC (.int 1)))) aI)))))) (dN 2 (aC 8) (jE EG (aB (S8 (aC 2) (aC 8) (aC 9)) (aB (aC 9) aI)))))
def lZ:FS:=(aR (dN 3 (aC 8) (dD (aB (fC .bG) (aB (dD (aB (fC (.str "first")) aI)) aI)))) (wD (bH (bC gGt (aC 7) (fC (.int 0)))) kY dF))
def lW:FS:=(aR (bW 6 (bA [.b] false jV (aB (aC 5) aI))) (iG (MO (aB (aC 6) aI)) (j4 2 (b8 (aP 7) (b8 (aP 8) j7))) lZ))
def lJ:FS:=(dN 3 (aC 8) (dD (aB (bC cX (aC 9) (fC (.int 3))) (aB (dD (aB (fC (.str "told")) (aB (bC cX (aC 9) (fC (.int 1))) (aB (bC cX (aC 9) (fC (.int 2))) aI)))) aI))))
def lH:FS:=(dN 3 (bC cX (aC 5) (fC (.int 0))) (VS (bH (bC gNe (aC 6) (gF aI))) (dD (aB (bC cX (aC 6) (fUn OR (fC (.int 1)))) (aB (dD (aB (fC (.str "own")) aI)) aI))) (dD (aB (fC .bG) (aB (dD (aB (fC (.str "first")) aI)) aI)))))
def l4:FS:=(aR (bW 6 (bA [.b] false jV (aB (aC 5) aI))) lH)
def k9:FS:=(wD (tH (bH (bC (FV true) (aC 10) (fC .bG))) (bH (bC (xB true) (aC 10) (aC 3)))) (dN 3 (aC 10) (dD (aB (fC .bG) (aB (dD (aB (fC (.str "first")) aI)) aI)))) dF)
def l5:FS:=(aR (dN 3 (aC 8) (dD (aB (aC 10) (aB (dD (aB (fC (.str "hand")) aI)) aI)))) k9)
def lO:FS:=(aR (iG (sV (aC 1)) (j4 2 (b8 (aP 8) (b8 (aP 10) j7))) l5) (cV (aC 3)))
def jL:FS:=(aR (iG (sV (aC 4)) (aP 5) l4) lO)
def j8:FS:=(aR (aaS 2 (iG (JH (aC 2)) (j4 2 (b8 (aP 8) (b8 (aP 9) j7))) lJ)) jL)
def jN:FS:=(aR (iG (sV (aC 4)) (aP 5) lW) j8)
def jT:FS:=(aR (bW 4 (bA [.b] false dO (aB (aC 0) aI))) jN)
def pG:FS:=(aR (aR (dP 2 l7) (dP 3 l7)) jT)
def iQ:FN:=pA [.b,.b] 9 false pG
def lI:FS:=(wV 4 (dD (aB (bC cX (aC 1) (fUn OR (fC (.int 1)))) (aB (bC cX (aC 3) (fUn OR (fC (.int 1)))) (aB (fC (.str "")) (aB (dD (aB (bC cX (aC 1) (aC 2)) aI)) aI))))))
def lU:FS:=(aR (wD (bH (bC gLt (aC 2) (bC Mr.AO (jE sI (aB (aC 1) aI)) (fC (.int 1))))) lI dF) (cV (jE mF (aB (jE fM (aB (aC 4) aI)) aI))))
def lL:FS:=(aR (dP 4 (dZ (RY (aB (aC 1) (aB (aC 3) (aB (NS OI (aC 1) (mQ (fC (.int 1))) eY) aI)))) 3 [] [] (j4 3 (b8 (aP 0) (b8 (aP 1) (b8 (aP 2) j7)))) dC (dD (aB (aC 0) (aB (aC 1) (aB (fC (.str "")) (aB (dD (aB (aC 2) aI)) aI))))))) lU)
def lY:FS:=(aR (bW 3 (dZ (sV (aC 1)) 1 [0] [(0,1)] (aP 0) dC (bA [.m,.b] false aO (aB (aC 1) (aB (fC (.int 3)) aI))))) lL)
def pS:FS:=(aR (bW 2 (bA [.m,.b] false aO (aB (aC 0) (aB (bC uH (fC (.int 2)) (jE sI (aB (aC 1) aI))) aI)))) lY)
def iT:FN:=pA [.m,.v] 3 false pS
def pE:FS:=(cV (i9 (sV (aC 2)) 1 [3,4,5] [] (aP 0) dC (aC 0) (bA [.b,.b,.b,.b] false cU (aB (aC 1) (aB (aC 2) (aB (aC 3) (aB (aC 0) aI)))))))
def qB:FS:=(aR (bW 5 (bA [.b] false iX (aB (aC 0) aI))) pE)
def qD:FS:=(aR (bW 4 (bA [.b] false nR (aB (aC 0) aI))) qB)
def vM:FS:=(aR (bW 3 (i9 (sV (aC 1)) 2 [] [] (j4 2 (b8 (aP 0) (b8 (aP 1) j7))) dC (aC 0) (aC 1))) qD)
def oY:FN:=pA [.b,.b,.b] 3 true vM
def lG:FS:=(cV (jE mF (aB (jE fM (aB (dZ (sV (aC 5)) 1 [3,4] [] (aP 0) dC (bA [.b,.b] false gX (aB (aC 0) (aB (bA [.b,.b,.b] false nP (aB (aC 0) (aB (aC 1) (aB (aC 2) aI)))) aI)))) aI)) aI)))
def k7:FS:=(aR (bW 5 (bA [.b] false kP (aB (i9 (xX (aC 2)) 1 [2] [] (aP 0) dC (aC 0) (bC cX (bC cX (aC 1) (aC 0)) (fC (.int 0)))) aI))) lG)
def lK:FS:=(aR (bW 4 (bA [.b] false nV (aB (aC 0) aI))) k7)
def pF:FS:=(aR (bW 3 (i9 (sV (aC 1)) 2 [] [] (j4 2 (b8 (aP 0) (b8 (aP 1) j7))) dC (aC 0) (fC (.bl true)))) lK)
def dJ:FN:=pA [.b,.b,.b] 3 false pF
def iH:FS:=(aR (iG (abR (aB (fC (.int 1)) (aB (jE MU (aB (jE sI (aB (aC 0) aI)) (aB (fC (.int 40)) aI))) aI))) (aP 4) (wV 3 (JQ dS (bA [.b,.b] true iD (aB (aC 0) (aB (aC 4) aI))) 2))) (cV (aC 3)))
def lD:FS:=(aR (dP 3 (dZ (wZ (aB (bA [.m,.b] false aO (aB (aC 1) (aB (fC (.int 13)) aI))) aI)) 1 [1,2] [(1,1)] (aP 0) dC (bA [.m,.b] false dS (aB (aC 1) (aB (aC 2) aI))))) iH)
def fU:FN:=pA [.b,.m,.b] 2 false lD
def oW:FS:=(aR (wV 7 (aC 8)) (bW 8 (bC cX (bC cX (aC 2) (aC 8)) (fC (.int 0)))))
def iN:FS:=(aR (dN 5 (aC 8) (aC 6)) oW)
def iK:FS:=(dN 4 (bA [.b,.b,.b] false nX (aB (NS OI (aC 7) (mQ (qL (aC 7) (aC 8))) eY) (aB (aC 3) (aB (jE D1 (aB (aC 1) aI)) aI)))) (fC .bG))
def oI:FS:=(aR (gK (tH (bH (bC (FV true) (aC 8) (fC .bG))) (bH (bC (xB true) (aC 8) (aC 5)))) iN 1000) (wD (tH (bH (bC (FV true) (aC 8) (fC .bG))) (bH (bC (xB false) (aC 8) (aC 7)))) iK dF))
def nH:FS:=(aR (aR (dP 7 (gF aI)) (bW 8 (aC 6))) oI)
def oO:FS:=(aR (iG (xX (aC 2)) (aP 6) nH) (cV (aC 4)))
def nM:FS:=(aR (iG (xX (aC 2)) (aP 6) (dN 4 (aC 6) (bC cX (bC cX (aC 2) (aC 6)) (fC (.int 0))))) oO)
def oX:FS:=(aR (aR (dP 4 l7) (dP 5 l7)) nM)
def nN:FS:=(aR (bW 3 (jE CP (aB (dZ (sV (bA [.b] false dO (aB (aC 0) aI))) 1 [] [] (aP 0) dC (dD (aB (bC cX (aC 0) (fC (.int 0))) (aB (bC cX (aC 0) (fC (.int 1))) aI)))) aI))) oX)
def sR:FS:=(aR (bW 2 (bA [.b,.b] false iQ (aB (aC 0) (aB (aC 1) aI)))) nN)
def kM:FN:=pA [.b,.b] 7 false sR
def oT:FS:=(dN 2 (bC cX (aC 4) (fC (.int 0))) (dD (aB (fC .bG) (aB (dD (aB (fC (.str "ring")) (aB (aC 4) aI))) aI))))
def oK:FS:=(cV (jE mF (aB (dZ (sV (jE fM (aB (aC 2) aI))) 1 [2] [] (aP 0) dC (dD (aB (aC 0) (aB (bC cX (bC cX (aC 1) (aC 0)) (fC (.int 0))) (aB (bC cX (bC cX (aC 1) (aC 0)) (fC (.int 1))) aI))))) aI)))
def oJ:FS:=(aR (iG (sV (aC 3)) (aP 4) oT) oK)
def nE:FS:=(aR (bW 3 (bA [.b,.b,.b] false dJ (aB (aC 0) (aB (aC 1) (aB (aC 2) aI))))) oJ)
def tM:FS:=(aR (dP 2 (bA [.b,.b,.b] true oY (aB (aC 0) (aB (aC 1) (aB (bA [.b,.b] false qV (aB (aC 0) (aB (aC 1) aI))) aI))))) nE)
def kO:FN:=pA [.b,.b] 3 false tM
def Q0:FS:=(cV (jE mF (aB (bA [.b,.b] false nQ (aB (bA [.b] false iL (aB (bA [.b,.b] false kO (aB (aC 0) (aB (aC 1) aI))) aI)) (aB (aC 2) aI))) aI)))
def z7:FN:=pA [.b,.b,.b] 0 false Q0
def gW:FS:=(aR (wV 4 (aC 5)) (bW 5 (bC cX (aC 2) (aC 5))))
def lA:FS:=(cV (QD (jE LN (aB (aC 6) (aB (fC (.ty "tuple")) aI))) (bC MH (jE DR (aB (aC 6) aI)) (aC 4))))
def gU:FS:=(aR (bW 6 (bA [.b,.b,.b] false z7 (aB (aC 0) (aB (aC 1) (aB (aC 3) aI))))) lA)
def lT:FS:=(aR (gK (bH (bC (FV true) (aC 5) (fC .bG))) gW 1000) gU)
def pV:FS:=(aR (aR (dP 4 (gF aI)) (bW 5 (aC 3))) lT)
def iV:FN:=pA [.b,.b,.b,.v] 3 false pV
def EO:FS:=(wD (XG (bH (bA [.b,.b,.b,.v] false iV (aB (aC 9) (aB (aC 11) (aB (aC 12) (aB (bC cX (aC 13) (bC qK (aC 14) (jE sI (aB (aC 13) aI)))) aI))))))) (cV (fC (.bl false))) dF)
def EK:FS:=(aR (bW 13 (jE fM (aB (aC 12) aI))) (iG (sV (NS OI (aC 5) eY (mQ (jE sI (aB (aC 13) aI))))) (aP 14) EO))
def xG:FS:=(aR (bW 12 (bA [.b,.b] false kM (aB (aC 9) (aB (aC 11) aI)))) EK)
def DN:FS:=(aR (iG (sV (gF (aB (aC 10) (aB (dD aI) (aB (aC 10) aI))))) (aP 11) xG) (cV (fC (.bl true))))
def xP:FS:=(aR (bW 10 (bA [.m,.b,.b] false iU (aB (aC 1) (aB (aC 8) (aB (aC 6) aI))))) DN)
def CS:FS:=(aR (bW 9 (VS (bH (bC MH (aC 3) (fC (.int 1)))) (bA [.m,.v] false iT (aB (aC 1) (aB (aC 8) aI))) (bA [.b,.b] false kG (aB (aC 7) (aB (aC 8) aI))))) xP)
def DP:FS:=(aR (bW 8 (bA [.m,.b] false iJ (aB (aC 1) (aB (bC cX (gF (aB (aC 2) (aB (aC 4) aI))) (aC 3)) aI)))) CS)
def EM:FS:=(aR (bW 7 (bA [.b,.m,.b] false fU (aB (aC 0) (aB (aC 1) (aB (aC 2) aI))))) DP)
def CZ:FS:=(aR (bW 6 (bA [.m,.b] false aO (aB (aC 1) (aB (fC (.int 9)) aI)))) EM)
def x8:FS:=(aR (bW 5 (dZ (wZ (aB (fC (.int 4)) aI)) 1 [1] [(1,1)] (aP 0) dC (bA [.m,.b] false aO (aB (aC 1) (aB (fC (.int 60)) aI))))) CZ)
def zL:FS:=(aR (bW 4 (bC j0 (fC (.int 2)) (bA [.m,.b] false aO (aB (aC 1) (aB (fC (.int 59)) aI))))) x8)
def yY:FS:=(aR (bW 3 (jE A5 (aB (bC MH (bA [.m,.b] false aO (aB (aC 1) (aB (fC (.int 5)) aI))) (fC (.int 0))) aI))) zL)
def yR:FS:=(aR (bW 2 (bC j0 (fC (.int 1)) (bA [.m,.b] false aO (aB (aC 1) (aB (bC cX (gF (aB (fC (.int 4)) (aB (fC (.int 12)) (aB (fC (.int 40)) aI)))) (bA [.m,.b] false aO (aB (aC 1) (aB (fC (.int 3)) aI)))) aI))))) yY)
def TV:FS:=(aR (dP 1 (bA [.b,.b] true iD (aB (aC 0) (aB (fC (.int 0)) aI)))) yR)
def DW:FN:=pA [.b] 14 false TV
def top (i:Nat):Stmt:=PySem.Challenge.pw_answertrees_k23_ways.main.body.getD i (.Pass ⟨0,0,0,0⟩)
end
noncomputable abbrev p7:Stmt:=top 1
noncomputable abbrev mU:Stmt:=top 2
noncomputable abbrev mN:Stmt:=top 3
noncomputable abbrev mE:Stmt:=top 5
noncomputable abbrev kN:Stmt:=top 6
noncomputable abbrev uD:Stmt:=top 7
noncomputable abbrev i6:Stmt:=top 8
noncomputable abbrev oG:Stmt:=top 10
noncomputable abbrev hV:Stmt:=top 11
noncomputable abbrev qM:Stmt:=top 12
noncomputable abbrev uN:Stmt:=top 14
noncomputable abbrev gQ:Stmt:=top 15
noncomputable abbrev iW:Stmt:=top 16
noncomputable abbrev eK:Stmt:=top 17
noncomputable abbrev j5:Stmt:=top 18
noncomputable abbrev LM:Stmt:=top 20
noncomputable abbrev m5:Stmt:=top 22
noncomputable abbrev mV:Stmt:=top 23
noncomputable abbrev fS:Stmt:=top 24
noncomputable abbrev gC:Stmt:=top 25
noncomputable abbrev fA:Stmt:=top 26
noncomputable abbrev jW:Stmt:=top 27
noncomputable abbrev iM:Stmt:=top 28
noncomputable abbrev kS:Stmt:=top 29
noncomputable abbrev mI:Stmt:=top 30
noncomputable abbrev fZ:Stmt:=top 31
noncomputable abbrev kH:Stmt:=top 32
noncomputable abbrev gN:Stmt:=top 33
noncomputable abbrev jZ:Stmt:=top 34
noncomputable abbrev kJ:Stmt:=top 35
noncomputable abbrev fQ:Stmt:=top 36
noncomputable abbrev F8:Stmt:=top 37
structure Txt (K:Frag) (mg:Str->Option Value):Prop where
 eO:mg "enumerate"=none
 c8:mg "tuple"=none
 pQ:mg "min"=none
 rS:mg "list"=none
 jS:mg "len"=none
 eS:mg "sorted"=none
 eA:mg "range"=none
 A2:mg "str"=none
 CD:mg "int"=none
 G6:mg "zip"=none
 uY:mg "dict"=none
 fY:mg "isinstance"=none
section
variable (P:Program) (w:World) (K:Frag) (mg:Str->Option Value) (base:Heap)
abbrev tV:Prop:=Cn P w K mg base "elders" p7 ["letter"] 1 [.b] false i5
abbrev jC:Prop:=Cn P w K mg base "standing" mU ["pack"] 1 [.b] false eM
abbrev FY:Prop:=Cn P w K mg base "choice" uD ["held","rows","claimed","name"] 1 [.b,.b,.b,.b] false cU
abbrev vT:Prop:=Cn P w K mg base "elders_in" hV ["ties"] 1 [.b] false iL
abbrev vA:Prop:=Cn P w K mg base "climbed" qM ["above","name"] 1 [.b,.b] false nQ
abbrev B5:Prop:=Cn P w K mg base "cut_one" gQ ["ring","held","days"] 1 [.b,.b,.b] false nP
abbrev uO:Prop:=Cn P w K mg base "begun_with" iW ["ring","name"] 1 [.b,.b] false gX
abbrev rW:Prop:=Cn P w K mg base "_law_hand" m5 ["_law_script","_law_k"] 1 [.b,.b] true iD
abbrev fO:Prop:=Cn P w K mg base "_law_take" mV ["_law_hand_here","_law_many"] 1 [.m,.b] false aO
abbrev yN:Prop:=Cn P w K mg base "_law_pack" jW ["_law_letters_here","_law_names_here"] 1 [.b,.b] false kG
abbrev uR:Prop:=Cn P w K mg base "_law_climbs" iM ["_law_held","_law_here","_law_name"] 1 [.b,.b,.b] false gY
abbrev B3:Prop:=Cn P w K mg base "_law_row" mI ["_law_letter_here"] 1 [.b] false jV
abbrev jM:Prop:=Cn P w K mg base "_law_standing" fZ ["_law_pack_here"] 1 [.b] false dO
abbrev A0:Prop:=Cn P w K mg base "_law_cut" gN ["_law_ring","_law_days","_law_held"] 1 [.b,.b,.b] false nX
abbrev AW:Prop:=Cn P w K mg base "days_of" mN ["pack"] 2 [.b] false nV
abbrev AY:Prop:=Cn P w K mg base "rows_of" mE ["pack"] 2 [.b] false nR
abbrev wJ:Prop:=Cn P w K mg base "claims_of" kN ["pack"] 2 [.b] false iX
abbrev yT:Prop:=Cn P w K mg base "rings_in" oG ["above"] 2 [.b] false kP
abbrev GV:Prop:=Cn P w K mg base "places" uN ["pack","marks"] 2 [.b,.b] false qV
abbrev vZ:Prop:=Cn P w K mg base "_law_names" fS ["_law_hand_here","_law_many"] 2 [.m,.b] false iJ
abbrev uA:Prop:=Cn P w K mg base "_law_letter" gC ["_law_hand_here","_law_m"] 2 [.m,.b] false dS
abbrev wN:Prop:=Cn P w K mg base "_law_marks" kS ["_law_hand_here","_law_names_here","_law_many"] 2 [.m,.b,.b] false iU
abbrev wM:Prop:=Cn P w K mg base "_law_table" kH ["_law_pack_here","_law_marks_here"] 2 [.b,.b] false iQ
abbrev wG:Prop:=Cn P w K mg base "_law_chain" fQ ["_law_hand_here","_law_names_here"] 2 [.m,.v] false iT
abbrev BH:Prop:=Cn P w K mg base "choices" i6 ["pack","marks","names"] 3 [.b,.b,.b] true oY
abbrev wI:Prop:=Cn P w K mg base "cut_rings" eK ["pack","marks","ties"] 3 [.b,.b,.b] false dJ
abbrev rG:Prop:=Cn P w K mg base "_law_letters" fA ["_law_script","_law_hand_here","_law_m"] 3 [.b,.m,.b] false fU
abbrev xY:Prop:=Cn P w K mg base "_law_ties" jZ ["_law_pack_here","_law_marks_here"] 3 [.b,.b] false kM
abbrev zT:Prop:=Cn P w K mg base "by_names" j5 ["pack","marks"] 4 [.b,.b] false kO
abbrev ZL:Prop:=Cn P w K mg base "way" LM ["pack","marks","name"] 5 [.b,.b,.b] false z7
abbrev wA:Prop:=Cn P w K mg base "_law_right" kJ ["_law_pack_here","_law_marks_here","_law_ties_here","_law_name"] 6 [.b,.b,.b,.v] false iV
abbrev afX:Prop:=Cn P w K mg base "law" F8 ["_law_script"] 7 [.b] false DW
end
section
variable {P:Program} {w:World} {K:Frag} {mg:Str->Option Value} {base:Heap}
local macro_rules | `(tactic| walk_at "r") => `(tactic| repeat' (first | with_reducible first | apply QG | apply C5 | apply WV | apply aaW | apply WQ | apply VF | apply XM | apply acN | apply RZ | apply NH | apply T7 | apply VC | apply P2 | apply OC | apply OB | apply TZ | apply W5 | apply G0 | apply abS | apply QK | apply KU | apply R9 | apply O4 | apply YA | apply abO | apply VZ | apply QT | apply QQ | apply NQ | apply YK | apply V3 | apply ZU | apply YH | apply acS | apply V9 | apply XD | apply J1 | apply T2 | apply MW | apply ac4 | apply RI | apply J5 | apply U2 | apply NG | apply XJ | apply VM | apply acM | apply M4 | apply P6 | apply KO | apply TH | apply VI | apply IU | apply UP | apply M7 | apply J2 | apply MZ | apply Q4 | apply O8 | apply NT | apply SN | apply Z2 | apply WD | apply ab1 | apply NZ | apply SK | apply P9 | apply XW | apply OF | apply PX | apply WY | apply NU | apply Q5 | apply abB | apply Y9 | apply K7 | apply YQ | apply Y2 | apply YW | apply UI | apply PF | apply MB | apply S2 | apply FK | apply F1 | apply ZD | apply JS | apply YX | apply QH | apply RQ | apply LJ | apply SV | apply ZJ | apply QI | apply HD | apply LV | apply YY | apply ZM | apply MI | apply MF | apply MR | apply GI | apply E1 | apply MV | apply E2 | apply K1 | apply E7 | apply S4 | apply G7 | first | exact Y9 | exact K7 | exact YQ | exact Y2 | exact YW | exact UI | exact PF | exact MB | exact S2 | exact FK | exact F1 | exact ZD | exact JS | exact YX | exact QH | exact RQ | exact LJ | exact SV | exact ZJ | exact QI | exact HD | exact LV | exact YY | exact ZM | exact MI | exact MF | exact MR | exact GI | exact E1 | exact MV | exact E2 | exact K1 | exact E7 | exact S4 | exact G7 | rfl | decide))
theorem ND (T:Txt K mg) (D:Dx K mg "elders" p7 ["letter"]):tV P w K mg base:=cR D (N:=["letter","own","row"]) ⟨rfl,rfl,rfl,by decide+kernel,rfl,by decide+kernel,by decide+kernel⟩ rfl rfl fun S f cdv A outer s H E hr=>
 ⟨_,(aE (aN (i:=1) S.nd (aY (dU K hr) (pv 0) aG (fun _ _=>rfl)))
   (aE (aN (i:=2) S.nd (aY (dU K hr) (pv 0) aG (fun _ _=>rfl)))
   (aH (bM (bU (AE K) (by rfl) T.c8 dM (aA (rL ["at","name","own","row"] 2 [1,2] ["letter","own","row"] (aS p7) rfl rfl rfl (C8 K rfl T.eO (aA (pv 2) aD)) (by decide+kernel) (fun _=>(fF (n:=2) K rfl (bK (bL (i:=0) (show(["at","name","own","row"]:List Str).Nodup by decide+kernel) rfl (Or.inl rfl)) (bK (bL (i:=1) (show(["at","name","own","row"]:List Str).Nodup by decide+kernel) rfl (Or.inl rfl)) fI)))) (fun _=>(m6 (PW.pt (nD (a9 (VB K hr) (pv 1) (pv 2) (cF _)) (iY (a9 (fJ K hr) (pv 1) (gB (W0 K) (pv 3) (iS (bQ (p8 K) (pv 0) aG)) i0) (by rfl))))))) (fun _=>(pv 1))) aD)))))),by unfold yM tE sZ;walk_at "r"⟩
theorem FH (T:Txt K mg) (D:Dx K mg "standing" mU ["pack"]):jC P w K mg base:=cR D (N:=["pack","first","letter"]) ⟨rfl,rfl,rfl,by decide+kernel,rfl,by decide+kernel,by decide+kernel⟩ rfl rfl fun S f cdv A outer s H E hr=>
 ⟨_,(aE (aN (i:=1) S.nd eN)
   (aE (cT cq rfl (cB K (pv 0)) (bF (i:=2) S.nd) (aH (eZ (a9 (fJ K hr) (aY (dU K hr) (pv 2) aG (fun _ _=>rfl)) (pv 1) (by rfl)) (aH (cO (eL hr) (pv 1) (aY (dU K hr) (pv 2) aG (fun _ _=>rfl)) (pv 2) rfl)) cH)))
   (aH (bM (bU ahJ (by rfl) T.c8 dM (aA (MC (pv 1)) aD)))))),by unfold rR oB mX;walk_at "r"⟩
theorem NR (T:Txt K mg) (D:Dx K mg "choice" uD ["held","rows","claimed","name"]):FY P w K mg base:=cR D (N:=["held","rows","claimed","name","row","day","one","at"]) ⟨rfl,rfl,rfl,by decide+kernel,rfl,by decide+kernel,by decide+kernel⟩ rfl rfl fun S f cdv A outer s H E hr=>
 ⟨_,(aE (eZ (a9 (inX K hr) (pv 3) (pv 0) (by rfl)) (aH (bM (bT (aA (aY (dU K hr) (pv 0) (pv 3) (fun _ _=>rfl)) (aA (bT (aA dH aD)) aD))))) cH)
   (aE (eZ (a9 (inX K hr) (pv 3) (pv 1) (by rfl)) (aE (aN (i:=4) S.nd (aY (dU K hr) (pv 1) (pv 3) (fun _ _=>rfl)))
   (aH (bM (p9 (B9 K (pv 4) (fun _=>rfl)) (bT (aA (aY (dU K hr) (pv 4) (MM D5 aG) (fun _ _=>rfl)) (aA (bT (aA dH aD)) aD))) (bT (aA eR (aA (bT (aA dH aD)) aD))))))) cH)
   (aE (eZ (a9 (inX K hr) (pv 3) (pv 2) (by rfl)) (aE (KC (bN (PQ K hr) (by rfl) T.pQ sF (aA (aY (dU K hr) (pv 2) (pv 3) (fun _ _=>rfl)) aD)) (fF (n:=3) K rfl (bK (bF (i:=5) S.nd) (bK (bF (i:=6) S.nd) (bK (bF (i:=7) S.nd) fI)))))
   (aH (bM (bT (aA (aY (dU K hr) (aY (dU K hr) (pv 1) (pv 6) (fun _ _=>rfl)) (bQ D0 (pv 7) aG) (fun _ _=>rfl)) (aA (bT (aA dH (aA (pv 6) (aA (pv 7) aD)))) aD)))))) cH)
   (aH (bM (bT (aA eR (aA (bT (aA dH aD)) aD)))))))),by unfold l9 rY rM sL sW sA sJ;walk_at "r"⟩
theorem CK (T:Txt K mg) (D:Dx K mg "elders_in" hV ["ties"]):vT P w K mg base:=cR D (N:=["ties"]) ⟨rfl,rfl,rfl,by decide+kernel,rfl,by decide+kernel,by decide+kernel⟩ rfl rfl fun S f cdv A outer s H E hr=>
 ⟨_,(aH (bM (yJ ["name","elder","reason"] 3 [] ["ties"] (aS hV) rfl rfl rfl (cB K (pv 0)) (by decide+kernel) (fun _=>(fF (n:=3) K rfl (bK (bL (i:=0) (show(["name","elder","reason"]:List Str).Nodup by decide+kernel) rfl (Or.inl rfl)) (bK (bL (i:=1) (show(["name","elder","reason"]:List Str).Nodup by decide+kernel) rfl (Or.inl rfl)) (bK (bL (i:=2) (show(["name","elder","reason"]:List Str).Nodup by decide+kernel) rfl (Or.inl rfl)) fI))))) (fun _=>cP) (fun _=>(pv 0)) (fun _=>(pv 1))))),by unfold qI;walk_at "r"⟩
theorem JT (T:Txt K mg) (D:Dx K mg "climbed" qM ["above","name"]):vA P w K mg base:=cR D (N:=["above","name","found"]) ⟨rfl,rfl,rfl,by decide+kernel,rfl,by decide+kernel,by decide+kernel⟩ rfl rfl fun S f cdv A outer s H E hr=>
 ⟨_,(aE (aN (i:=2) S.nd eN)
   (aE (tX cq (PW.pt (nD (a9 kW (pv 1) eR (cF _)) (iY (a9 (fJ K hr) (pv 1) (pv 2) (by rfl))))) (aE (cO (eL hr) (pv 2) (pv 1) tR rfl)
   (aH (aN (i:=1) S.nd (yD (eL hr) (pv 0) (pv 1) ⟨rfl,by rfl,rfl,rfl⟩)))))
   (aH (bM (bU afG (by rfl) T.rS DO (aA (pv 2) aD)))))),by unfold uW pU pZ;walk_at "r"⟩
theorem JU (T:Txt K mg) (D:Dx K mg "cut_one" gQ ["ring","held","days"]):B5 P w K mg base:=cR D (N:=["ring","held","days","free","empty"]) ⟨rfl,rfl,rfl,by decide+kernel,rfl,by decide+kernel,by decide+kernel⟩ rfl rfl fun S f cdv A outer s H E hr=>
 ⟨_,(aE (fX (i:=3) ["name","held"] 1 [1] ["ring","held","days","free","empty"] (aS gQ) rfl rfl rfl S.nd rfl rfl (cB K (pv 0)) (by decide+kernel) (fun _=>(bL (i:=0) (show(["name","held"]:List Str).Nodup by decide+kernel) rfl (Or.inl rfl))) (fun _=>(m6 (a9 (fJ K hr) (pv 0) (pv 1) (by rfl)))) (fun _=>(pv 0)))
   (aE (fX (i:=4) ["name","days"] 1 [2] ["ring","held","days","free","empty"] (aS gQ) rfl rfl rfl S.nd rfl rfl (cB K (pv 3)) (by decide+kernel) (fun _=>(bL (i:=0) (show(["name","days"]:List Str).Nodup by decide+kernel) rfl (Or.inl rfl))) (fun _=>(m6 (a9 (fJ K hr) (pv 0) (pv 1) (by rfl)))) (fun _=>(pv 0)))
   (aE (eZ (B9 K (pv 4) (fun _=>rfl)) (aH (bM (bN (PQ K hr) (by rfl) T.pQ sF (aA (pv 4) aD)))) cH)
   (aH (bM (aY (dU K hr) (bN (PQ K hr) (by rfl) T.pQ sF (aA (rL ["name","days"] 1 [2] ["ring","held","days","free","empty"] (aS gQ) rfl rfl rfl (cB K (pv 3)) (by decide+kernel) (fun _=>(bL (i:=0) (show(["name","days"]:List Str).Nodup by decide+kernel) rfl (Or.inl rfl))) (fun _=>cP) (fun _=>(bT (aA (aY (dU K hr) (pv 1) (pv 0) (fun _ _=>rfl)) (aA (pv 0) aD))))) aD)) aG (fun _ _=>rfl))))))),by unfold vK p5 pW pX;walk_at "r"⟩
theorem AF (T:Txt K mg) (D:Dx K mg "begun_with" iW ["ring","name"]):uO P w K mg base:=cR D (N:=["ring","name","at"]) ⟨rfl,rfl,rfl,by decide+kernel,rfl,by decide+kernel,by decide+kernel⟩ rfl rfl fun S f cdv A outer s H E hr=>
 ⟨_,(aE (aN (i:=2) S.nd (gO K gh slot_list_index type_list_index (vB K) (pv 0) (aA (pv 1) aD)))
   (aH (bM (bU (AE K) (by rfl) T.c8 dM (aA (bQ (p8 K) (gB (W0 K) (pv 0) (iS (pv 2)) i0) (gB (W0 K) (pv 0) i0 (iS (pv 2)))) aD))))),by unfold nZ jF;walk_at "r"⟩
theorem G5 (T:Txt K mg) (D:Dx K mg "_law_hand" m5 ["_law_script","_law_k"]):rW P w K mg base:=cR D (N:=["_law_script","_law_k","_law_cell","_law_great"]) ⟨rfl,rfl,rfl,by decide+kernel,rfl,by decide+kernel,by decide+kernel⟩ rfl rfl fun S f cdv A outer s H E hr=>
 ⟨_,(aE (aN (i:=2) S.nd (p9 (a9 ltX (pv 1) (bN (zP K) (by rfl) T.jS jU (aA (pv 0) aD)) (cF _)) (aY (dU K hr) (pv 0) (pv 1) (fun _ _=>rfl)) aG))
   (aE (aN (i:=3) S.nd (p9 (a9 aeS (pv 2) (bQ uP aG aG) (cF _)) (bQ jJ (pv 2) (bQ C9 (bQ C9 (bQ C9 (bQ uP aG aG) (bQ uP aG aG)) (bQ uP aG aG)) (bQ uP aG aG))) aG))
   (aH (bM (UY.h (agZ (abJ (ew (pv 3)) (ahP (ew (bQ jJ (bQ oF (bQ (p8 K) (bQ (p8 K) (bQ jJ (pv 2) aG) (bQ oF (bQ oF aG (pv 1)) (pv 1))) aG) aG) aG)) (ahG (ew aG) UE))))))))),by unfold sM mZ mT;walk_at "r"⟩
theorem HS (T:Txt K mg) (D:Dx K mg "_law_take" mV ["_law_hand_here","_law_many"]):fO P w K mg base:=cR D (N:=["_law_hand_here","_law_many","_law_digit","_law_blent"]) ⟨rfl,rfl,rfl,by decide+kernel,rfl,by decide+kernel,by decide+kernel⟩ rfl rfl fun S f cdv A outer s H E hr=>
 ⟨_,(aE (eZ (a9 R1 (aY (dU K hr) (pv 0) aG (fun _ _=>rfl)) aG (cF _)) (aE (aN (i:=2) S.nd (bQ jJ (aY (dU K hr) (pv 0) aG (fun _ _=>rfl)) (pv 1)))
   (aE (KC (bQ zJ (aY (dU K hr) (pv 0) aG (fun _ _=>rfl)) (pv 1)) (TK (pv 0) aG set_list))
   (aH (bM (pv 2))))) cH)
   (aE (KC (bQ (p8 K) (aY (dU K hr) (pv 0) aG (fun _ _=>rfl)) aG) (TK (pv 0) aG set_list))
   (aE (aN (i:=3) S.nd (bQ jJ (bQ oF (bQ (p8 K) (bQ (p8 K) (aY (dU K hr) (pv 0) aG (fun _ _=>rfl)) (bQ oF (bQ oF aG (aY (dU K hr) (pv 0) aG (fun _ _=>rfl))) (aY (dU K hr) (pv 0) aG (fun _ _=>rfl)))) aG) aG) aG))
   (aE (aN (i:=3) S.nd (bQ jJ (bQ oF (pv 3) (bQ (p8 K) (bQ jJ (pv 3) aG) (bQ oF aG (aY (dU K hr) (pv 0) aG (fun _ _=>rfl))))) aG))
   (aH (bM (bQ jJ (bQ (p8 K) (bQ zJ (pv 3) aG) (bQ zJ (pv 3) aG)) (pv 1)))))))),by unfold sO n6 oD nY oN oE;walk_at "r"⟩
theorem G3 (T:Txt K mg) (D:Dx K mg "_law_pack" jW ["_law_letters_here","_law_names_here"]):yN P w K mg base:=cR D (N:=["_law_letters_here","_law_names_here","_law_pack_here","_law_at","_law_day","_law_head","_law_row_here","_law_letter_here"]) ⟨rfl,rfl,rfl,by decide+kernel,rfl,by decide+kernel,by decide+kernel⟩ rfl rfl fun S f cdv A outer s H E hr=>
 ⟨_,(aE (aN (i:=2) S.nd (dG aD))
   (aE (cT cq rfl (cB K (pv 0)) (fF (n:=4) K rfl (bK (bF (i:=3) S.nd) (bK (bF (i:=4) S.nd) (bK (bF (i:=5) S.nd) (bK (bF (i:=6) S.nd) fI))))) (aE (aN (i:=7) S.nd (bT (aA (aY (dU K hr) (pv 1) (pv 3) (fun _ _=>rfl)) (aA (pv 4) (aA (pv 5) (aA (bU (AE K) (by rfl) T.c8 dM (aA (rL ["_law_n","_law_names_here"] 1 [1] ["_law_letters_here","_law_names_here","_law_pack_here","_law_at","_law_day","_law_head","_law_row_here","_law_letter_here"] (aS jW) rfl rfl rfl (cB K (pv 6)) (by decide+kernel) (fun _=>(bL (i:=0) (show(["_law_n","_law_names_here"]:List Str).Nodup by decide+kernel) rfl (Or.inl rfl))) (fun _=>cP) (fun _=>(aY (dU K hr) (pv 1) (pv 0) (fun _ _=>rfl)))) aD)) aD))))))
   (aH (eZ (a9 (fJ K hr) (pv 7) (pv 2) (by rfl)) (aH (iO (gO K gh fj fm dB (pv 2) (aA (pv 7) aD)))) cH))))
   (aH (bM (bU (AE K) (by rfl) T.c8 dM (aA (bN (BU K hr) (by rfl) T.eS gJ (aA (pv 2) aD)) aD)))))),by unfold rN nK oU;walk_at "r"⟩
theorem AR (T:Txt K mg) (D:Dx K mg "_law_climbs" iM ["_law_held","_law_here","_law_name"]):uR P w K mg base:=cR D (N:=["_law_held","_law_here","_law_name","_law_n"]) ⟨rfl,rfl,rfl,by decide+kernel,rfl,by decide+kernel,by decide+kernel⟩ rfl rfl fun S f cdv A outer s H E hr=>
 ⟨_,(aE (cT cq rfl (eX rfl T.eA (aA (bQ (p8 K) (bN (ahR K) (by rfl) T.jS jU (aA (pv 0) aD)) aG) aD)) (bF (i:=3) S.nd) (aE (eZ (PW.pt (ae7 (a9 aa3 (pv 1) eR (cF _)) (ac6 (a9 (DH K hr) (pv 1) (pv 2) (cF _))))) (aH (bM (xO (DH K hr) (pv 1) (pv 2) (cF _)))) cH)
   (aH (aN (i:=1) S.nd (yD (eL hr) (pv 0) (pv 1) ⟨rfl,by rfl,rfl,rfl⟩)))))
   (aH (bM tR))),by unfold oS jH;walk_at "r"⟩
theorem IT (T:Txt K mg) (D:Dx K mg "_law_row" mI ["_law_letter_here"]):B3 P w K mg base:=cR D (N:=["_law_letter_here","_law_row_here"]) ⟨rfl,rfl,rfl,by decide+kernel,rfl,by decide+kernel,by decide+kernel⟩ rfl rfl fun S f cdv A outer s H E hr=>
 ⟨_,(aE (aN (i:=1) S.nd (aY (dU K hr) (pv 0) aG (fun _ _=>rfl)))
   (aH (bM (rL ["_law_n","_law_row_here","_law_letter_here"] 1 [1,0] ["_law_letter_here","_law_row_here"] (aS mI) rfl rfl rfl (eX rfl T.eA (aA (bN (zP K) (by rfl) T.jS jU (aA (pv 1) aD)) aD)) (by decide+kernel) (fun _=>(bL (i:=0) (show(["_law_n","_law_row_here","_law_letter_here"]:List Str).Nodup by decide+kernel) rfl (Or.inl rfl))) (fun _=>(m6 (PW.pt (nD (a9 (VB K hr) (aY (dU K hr) (pv 1) (pv 0) (fun _ _=>rfl)) (aY (dU K hr) (pv 2) aG (fun _ _=>rfl)) (cF _)) (iY (a9 (fJ K hr) (aY (dU K hr) (pv 1) (pv 0) (fun _ _=>rfl)) (gB (W0 K) (pv 1) (iS (bQ (p8 K) (pv 0) aG)) i0) (by rfl))))))) (fun _=>(aY (dU K hr) (pv 1) (pv 0) (fun _ _=>rfl))))))),by unfold vP qG;walk_at "r"⟩
theorem wY (T:Txt K mg) (D:Dx K mg "_law_standing" fZ ["_law_pack_here"]):jM P w K mg base:=cR D (N:=["_law_pack_here","_law_found","_law_letter_here"]) ⟨rfl,rfl,rfl,by decide+kernel,rfl,by decide+kernel,by decide+kernel⟩ rfl rfl fun S f cdv A outer s H E hr=>
 ⟨_,(aE (aN (i:=1) S.nd eN)
   (aE (cT cq rfl (cB K (pv 0)) (bF (i:=2) S.nd) (aH (eZ (a9 (fJ K hr) (aY (dU K hr) (pv 2) aG (fun _ _=>rfl)) (pv 1) (by rfl)) (aH (cO (eL hr) (pv 1) (aY (dU K hr) (pv 2) aG (fun _ _=>rfl)) (pv 2) rfl)) cH)))
   (aH (bM (bU ahW (by rfl) T.rS DO (aA (MC (pv 1)) aD)))))),by unfold i7 gH gL;walk_at "r"⟩
theorem J3 (T:Txt K mg) (D:Dx K mg "_law_cut" gN ["_law_ring","_law_days","_law_held"]):A0 P w K mg base:=cR D (N:=["_law_ring","_law_days","_law_held","_law_free","_law_empty"]) ⟨rfl,rfl,rfl,by decide+kernel,rfl,by decide+kernel,by decide+kernel⟩ rfl rfl fun S f cdv A outer s H E hr=>
 ⟨_,(aE (fX (i:=3) ["_law_name","_law_held"] 1 [2] ["_law_ring","_law_days","_law_held","_law_free","_law_empty"] (aS gN) rfl rfl rfl S.nd rfl rfl (cB K (pv 0)) (by decide+kernel) (fun _=>(bL (i:=0) (show(["_law_name","_law_held"]:List Str).Nodup by decide+kernel) rfl (Or.inl rfl))) (fun _=>(m6 (a9 (fJ K hr) (pv 0) (pv 1) (by rfl)))) (fun _=>(pv 0)))
   (aE (fX (i:=4) ["_law_name","_law_days"] 1 [1] ["_law_ring","_law_days","_law_held","_law_free","_law_empty"] (aS gN) rfl rfl rfl S.nd rfl rfl (cB K (pv 3)) (by decide+kernel) (fun _=>(bL (i:=0) (show(["_law_name","_law_days"]:List Str).Nodup by decide+kernel) rfl (Or.inl rfl))) (fun _=>(m6 (a9 (fJ K hr) (pv 0) (pv 1) (by rfl)))) (fun _=>(pv 0)))
   (aE (eZ (a9 (VB K hr) (pv 4) (dG aD) (cF _)) (aH (bM (bN (PQ K hr) (by rfl) T.pQ sF (aA (pv 4) aD)))) cH)
   (aH (bM (aY (dU K hr) (bN (PQ K hr) (by rfl) T.pQ sF (aA (rL ["_law_name","_law_days"] 1 [1] ["_law_ring","_law_days","_law_held","_law_free","_law_empty"] (aS gN) rfl rfl rfl (cB K (pv 3)) (by decide+kernel) (fun _=>(bL (i:=0) (show(["_law_name","_law_days"]:List Str).Nodup by decide+kernel) rfl (Or.inl rfl))) (fun _=>cP) (fun _=>(bT (aA (aY (dU K hr) (pv 1) (pv 0) (fun _ _=>rfl)) (aA (pv 0) aD))))) aD)) aG (fun _ _=>rfl))))))),by unfold uX qC qF qA;walk_at "r"⟩
theorem KI (T:Txt K mg) (D:Dx K mg "days_of" mN ["pack"]) (G_standing:jC P w K mg base):AW P w K mg base:=cR D (N:=["pack"]) ⟨rfl,rfl,rfl,by decide+kernel,rfl,by decide+kernel,by decide+kernel⟩ rfl rfl fun S f cdv A outer s H E hr=>
 ⟨_,(aH (bM (yJ ["letter"] 1 [] ["pack"] (aS mN) rfl rfl rfl (cB K (aV G_standing hr (aA (pv 0) aD))) (by decide+kernel) (fun _=>(bL (i:=0) (show(["letter"]:List Str).Nodup by decide+kernel) rfl (Or.inl rfl))) (fun _=>cP) (fun _=>(aY (dU K hr) (pv 0) aG (fun _ _=>rfl))) (fun _=>(aY (dU K hr) (pv 0) aG (fun _ _=>rfl)))))),by unfold vF;walk_at "r"⟩
theorem J7 (T:Txt K mg) (D:Dx K mg "rows_of" mE ["pack"]) (G_elders:tV P w K mg base) (G_standing:jC P w K mg base):AY P w K mg base:=cR D (N:=["pack"]) ⟨rfl,rfl,rfl,by decide+kernel,rfl,by decide+kernel,by decide+kernel⟩ rfl rfl fun S f cdv A outer s H E hr=>
 ⟨_,(aH (bM (yJ ["letter"] 1 [] ["pack"] (aS mE) rfl rfl rfl (cB K (aV G_standing hr (aA (pv 0) aD))) (by decide+kernel) (fun _=>(bL (i:=0) (show(["letter"]:List Str).Nodup by decide+kernel) rfl (Or.inl rfl))) (fun _=>cP) (fun _=>(aY (dU K hr) (pv 0) aG (fun _ _=>rfl))) (fun _=>(aV G_elders hr (aA (pv 0) aD)))))),by unfold vE;walk_at "r"⟩
theorem DB (T:Txt K mg) (D:Dx K mg "claims_of" kN ["pack"]) (G_standing:jC P w K mg base) (G_elders:tV P w K mg base):wJ P w K mg base:=cR D (N:=["pack","found","letter","at","name"]) ⟨rfl,rfl,rfl,by decide+kernel,rfl,by decide+kernel,by decide+kernel⟩ rfl rfl fun S f cdv A outer s H E hr=>
 ⟨_,(aE (aN (i:=1) S.nd eN)
   (aE (cT cq rfl (cB K (aV G_standing hr (aA (pv 0) aD))) (bF (i:=2) S.nd) (aH (cT cq rfl (C8 K rfl T.eO (aA (aV G_elders hr (aA (pv 2) aD)) aD)) (fF (n:=2) K rfl (bK (bF (i:=3) S.nd) (bK (bF (i:=4) S.nd) fI))) (aH (eZ (a9 R1 (pv 3) aG (cF _)) (aH (iO (gO K gh fj fm dB (HW (pv 1) (pv 4) (dG aD) ⟨rfl,by rfl,rfl,rfl⟩) (aA (bT (aA (aY (dU K hr) (pv 2) aG (fun _ _=>rfl)) (aA (aY (dU K hr) (pv 2) aG (fun _ _=>rfl)) (aA (pv 3) aD)))) aD)))) cH)))))
   (aH (bM (pv 1))))),by unfold qH;walk_at "r"⟩
theorem HP (T:Txt K mg) (D:Dx K mg "rings_in" oG ["above"]) (G_climbed:vA P w K mg base):yT P w K mg base:=cR D (N:=["above","met","found","start","climbed","name"]) ⟨rfl,rfl,rfl,by decide+kernel,rfl,by decide+kernel,by decide+kernel⟩ rfl rfl fun S f cdv A outer s H E hr=>
 ⟨_,(aE (aN (i:=1) S.nd eN)
   (aE (aN (i:=2) S.nd (dG aD))
   (aE (cT cq rfl (xI (pv 0)) (bF (i:=3) S.nd) (aE (aN (i:=4) S.nd (dG aD))
   (aE (aN (i:=5) S.nd (pv 3))
   (aE (tX cq (PW.pt (nD (a9 kW (pv 5) eR (cF _)) (iY (a9 (fJ K hr) (pv 5) (pv 1) (by rfl))))) (aE (cO (eL hr) (pv 1) (pv 5) (pv 3) rfl)
   (aE (iO (gO K gh fj fm dB (pv 4) (aA (pv 5) aD)))
   (aH (aN (i:=5) S.nd (yD (eL hr) (pv 0) (pv 5) ⟨rfl,by rfl,rfl,rfl⟩))))))
   (aH (eZ (PW.pt (nD (a9 kW (pv 5) eR (cF _)) (iY (a9 (DH K hr) (aY (dU K hr) (pv 1) (pv 5) (fun _ _=>rfl)) (pv 3) (cF _))))) (aH (iO (gO K gh fj fm dB (pv 2) (aA (gB (W0 K) (pv 4) (iS (gO K gh slot_list_index type_list_index (vB K) (pv 4) (aA (pv 5) aD))) i0) aD)))) cH))))))
   (aH (bM (pv 2)))))),by unfold rT oV nF m8 nA nS m4 nG mY;walk_at "r"⟩
theorem M0 (T:Txt K mg) (D:Dx K mg "places" uN ["pack","marks"]) (G_standing:jC P w K mg base) (G_elders:tV P w K mg base):GV P w K mg base:=cR D (N:=["pack","marks","known","letter","name","elder"]) ⟨rfl,rfl,rfl,by decide+kernel,rfl,by decide+kernel,by decide+kernel⟩ rfl rfl fun S f cdv A outer s H E hr=>
 ⟨_,(aE (aN (i:=2) S.nd eN)
   (aE (cT cq rfl (cB K (aV G_standing hr (aA (pv 0) aD))) (bF (i:=3) S.nd) (aE (cO (eL hr) (pv 2) (aY (dU K hr) (pv 3) aG (fun _ _=>rfl)) tR rfl)
   (aH (cT cq rfl (cB K (aV G_elders hr (aA (pv 3) aD))) (bF (i:=4) S.nd) (aH (cO (eL hr) (pv 2) (pv 4) tR rfl))))))
   (aE (cT cq rfl (cB K (pv 1)) (fF (n:=2) K rfl (bK (bF (i:=4) S.nd) (bK (bF (i:=5) S.nd) fI))) (aE (cO (eL hr) (pv 2) (pv 4) tR rfl)
   (aH (eZ (a9 kW (pv 5) eR (cF _)) (aH (cO (eL hr) (pv 2) (pv 5) tR rfl)) cH))))
   (aH (bM (bU (AE K) (by rfl) T.c8 dM (aA (bN (BU K hr) (by rfl) T.eS gJ (aA (pv 2) aD)) aD))))))),by unfold zF sY tK sS tL;walk_at "r"⟩
theorem EB (T:Txt K mg) (D:Dx K mg "_law_names" fS ["_law_hand_here","_law_many"]) (G_law_take:fO P w K mg base):vZ P w K mg base:=cR D (N:=["_law_hand_here","_law_many","_law_found","_law_k","_law_size","_law_name"]) ⟨rfl,rfl,rfl,by decide+kernel,rfl,by decide+kernel,by decide+kernel⟩ rfl rfl fun S f cdv A outer s H E hr=>
 ⟨_,(aE (aN (i:=2) S.nd (dG aD))
   (aE (cT cq rfl (eX rfl T.eA (aA (pv 1) aD)) (bF (i:=3) S.nd) (aE (aN (i:=4) S.nd (aY (dU K hr) (dG (aA aG (aA aG (aA aG (aA aG (aA aG (aA (bQ (p8 K) aG (bQ jJ (pv 3) aG)) aD))))))) (aV G_law_take hr (aA (pv 0) (aA aG aD))) (fun _ _=>rfl)))
   (aE (aN (i:=5) S.nd (gO K PySem.F.plainAttrs_str PySem.F.slot_str_join PySem.F.type_str_join (afS K) dH (aA (rL ["_law_n","_law_hand_here"] 1 [0] ["_law_hand_here","_law_many","_law_found","_law_k","_law_size","_law_name"] (aS fS) rfl rfl rfl (eX rfl T.eA (aA (pv 4) aD)) (by decide+kernel) (fun _=>(bL (i:=0) (show(["_law_n","_law_hand_here"]:List Str).Nodup by decide+kernel) rfl (Or.inl rfl))) (fun _=>cP) (fun _=>(aY (dU K hr) dH (aV G_law_take hr (aA (pv 1) (aA aG aD))) (fun _ _=>rfl)))) aD)))
   (aE (eZ (a9 (inX K hr) (pv 5) (pv 2) (by rfl)) (aH (aN (i:=5) S.nd (aY (dU K hr) (rL ["_law_n","_law_found"] 1 [2] ["_law_hand_here","_law_many","_law_found","_law_k","_law_size","_law_name"] (aS fS) rfl rfl rfl (eX rfl T.eA (aA (bQ (p8 K) (bN (zP K) (by rfl) T.jS jU (aA (pv 2) aD)) aG) aD)) (by decide+kernel) (fun _=>(bL (i:=0) (show(["_law_n","_law_found"]:List Str).Nodup by decide+kernel) rfl (Or.inl rfl))) (fun _=>(m6 (a9 (fJ K hr) (bU uT (by rfl) T.A2 SW (aA (pv 0) aD)) (pv 1) (by rfl)))) (fun _=>(bU uT (by rfl) T.A2 SW (aA (pv 0) aD)))) aG (fun _ _=>rfl)))) cH)
   (aH (iO (gO K gh fj fm dB (pv 2) (aA (pv 5) aD))))))))
   (aH (bM (pv 2))))),by unfold pH l0 lM lV lR k6;walk_at "r"⟩
theorem AS (T:Txt K mg) (D:Dx K mg "_law_letter" gC ["_law_hand_here","_law_m"]) (G_law_take:fO P w K mg base):uA P w K mg base:=cR D (N:=["_law_hand_here","_law_m","_law_at","_law_kind","_law_day","_law_row_here"]) ⟨rfl,rfl,rfl,by decide+kernel,rfl,by decide+kernel,by decide+kernel⟩ rfl rfl fun S f cdv A outer s H E hr=>
 ⟨_,(aE (aN (i:=2) S.nd (aV G_law_take hr (aA (pv 0) (aA (pv 1) aD))))
   (aE (aN (i:=3) S.nd (aV G_law_take hr (aA (pv 0) (aA aG aD))))
   (aE (aN (i:=4) S.nd (aV G_law_take hr (aA (pv 0) (aA (aY (dU K hr) (dG (aA aG (aA aG (aA aG (aA aG aD))))) (pv 3) (fun _ _=>rfl)) aD))))
   (aE (fX (i:=5) ["_law_n","_law_hand_here","_law_m"] 1 [0,1] ["_law_hand_here","_law_m","_law_at","_law_kind","_law_day","_law_row_here"] (aS gC) rfl rfl rfl S.nd rfl rfl (eX rfl T.eA (aA (aY (dU K hr) (dG (aA aG (aA aG (aA aG (aA aG (aA aG (aA aG aD))))))) (aV G_law_take hr (aA (pv 0) (aA aG aD))) (fun _ _=>rfl)) aD)) (by decide+kernel) (fun _=>(bL (i:=0) (show(["_law_n","_law_hand_here","_law_m"]:List Str).Nodup by decide+kernel) rfl (Or.inl rfl))) (fun _=>cP) (fun _=>(aV G_law_take hr (aA (pv 1) (aA (pv 2) aD)))))
   (aE (eZ (a9 (DH K hr) (aV G_law_take hr (aA (pv 0) (aA aG aD))) aG (cF _)) (aH (aN (i:=5) S.nd (bQ (p8 K) (gB (W0 K) (pv 5) i0 (iS aG)) (dG (aA (bQ jJ (bQ (p8 K) (pv 2) aG) (pv 1)) aD))))) cH)
   (aH (bM (UY.h (ahH (abJ (ew (pv 2)) (af6 (ew (aY (dU K hr) (dG (aA (pv 4) (aA (bQ D0 aG (pv 4)) aD))) (bU BE (by rfl) T.CD UC (aA (xO (DH K hr) (pv 3) aG (cF _)) aD)) (fun _ _=>rfl))) (af6 (ew (aY (dU K hr) (dG (aA dH (aA dH (aA dH aD)))) (aV G_law_take hr (aA (pv 0) (aA aG aD))) (fun _ _=>rfl))) (abJ (ew (pv 5)) UE))))))))))))),by unfold oR jQ jI jB jP jK j9;walk_at "r"⟩
theorem CT (T:Txt K mg) (D:Dx K mg "_law_marks" kS ["_law_hand_here","_law_names_here","_law_many"]) (G_law_take:fO P w K mg base) (G_law_climbs:uR P w K mg base):wN P w K mg base:=cR D (N:=["_law_hand_here","_law_names_here","_law_many","_law_held","_law_n","_law_name","_law_elder"]) ⟨rfl,rfl,rfl,by decide+kernel,rfl,by decide+kernel,by decide+kernel⟩ rfl rfl fun S f cdv A outer s H E hr=>
 ⟨_,(aE (aN (i:=3) S.nd eN)
   (aE (cT cq rfl (eX rfl T.eA (aA (pv 2) aD)) (bF (i:=4) S.nd) (aE (aN (i:=5) S.nd (aY (dU K hr) (pv 1) (aV G_law_take hr (aA (pv 0) (aA (bN (zP K) (by rfl) T.jS jU (aA (pv 1) aD)) aD))) (fun _ _=>rfl)))
   (aE (aN (i:=6) S.nd (aY (dU K hr) (pv 1) (aV G_law_take hr (aA (pv 0) (aA (bN (zP K) (by rfl) T.jS jU (aA (pv 1) aD)) aD))) (fun _ _=>rfl)))
   (aE (eZ (a9 (DH K hr) (aV G_law_take hr (aA (pv 0) (aA aG aD))) aG (cF _)) (aH (aN (i:=6) S.nd eR)) cH)
   (aH (eZ (PW.pt (nD (a9 (fJ K hr) (pv 5) (pv 3) (by rfl)) (iY (SA (Q1 (aV G_law_climbs hr (aA (pv 3) (aA (pv 6) (aA (pv 5) aD))))))))) (aH (cO (eL hr) (pv 3) (pv 5) (pv 6) rfl)) cH))))))
   (aH (bM (bU (AE K) (by rfl) T.c8 dM (aA (bN (sortI K hr) (by rfl) T.eS gJ (aA (GY (pv 3)) aD)) aD)))))),by unfold pY lN lX lE lB kX;walk_at "r"⟩
theorem CG (T:Txt K mg) (D:Dx K mg "_law_table" kH ["_law_pack_here","_law_marks_here"]) (G_law_standing:jM P w K mg base) (G_law_row:B3 P w K mg base):wM P w K mg base:=cR D (N:=["_law_pack_here","_law_marks_here","_law_told","_law_found","_law_letters_here","_law_letter_here","_law_row_here","_law_at","_law_name","_law_claim","_law_elder"]) ⟨rfl,rfl,rfl,by decide+kernel,rfl,by decide+kernel,by decide+kernel⟩ rfl rfl fun S f cdv A outer s H E hr=>
 ⟨_,(aE (CJ (i:=2) (j:=3) rfl S.nd rfl rfl (by decide) rfl rfl (aA eN (aA eN aD)) rfl)
   (aE (aN (i:=4) S.nd (aV G_law_standing hr (aA (pv 0) aD)))
   (aE (cT cq rfl (cB K (pv 4)) (bF (i:=5) S.nd) (aE (aN (i:=6) S.nd (aV G_law_row hr (aA (pv 5) aD)))
   (aH (cT cq rfl (C8 K rfl T.eO (aA (pv 6) aD)) (fF (n:=2) K rfl (bK (bF (i:=7) S.nd) (bK (bF (i:=8) S.nd) fI))) (aE (cO (eL hr) (pv 3) (pv 8) (bT (aA eR (aA (bT (aA dH aD)) aD))) rfl)
   (aH (eZ (a9 R1 (pv 7) aG (cF _)) (aE (aN (i:=9) S.nd (bT (aA (aY (dU K hr) (pv 5) aG (fun _ _=>rfl)) (aA (aY (dU K hr) (pv 5) aG (fun _ _=>rfl)) (aA (pv 7) (aA (aY (dU K hr) (pv 6) (bQ D0 (pv 7) aG) (fun _ _=>rfl)) aD))))))
   (aH (cO (eL hr) (pv 2) (pv 8) (bN (afO K hr) (by rfl) T.pQ sF (aA (UH (eL hr) (pv 2) (pv 8) (pv 9) ⟨rfl,by rfl,rfl,rfl⟩) (aA (pv 9) aD))) rfl))) cH)))))))
   (aE (cT cq rfl (R6 (GY (pv 2))) (fF (n:=2) K rfl (bK (bF (i:=8) S.nd) (bK (bF (i:=9) S.nd) fI))) (aH (cO (eL hr) (pv 3) (pv 8) (bT (aA (aY (dU K hr) (pv 9) aG (fun _ _=>rfl)) (aA (bT (aA dH (aA (aY (dU K hr) (pv 9) aG (fun _ _=>rfl)) (aA (aY (dU K hr) (pv 9) aG (fun _ _=>rfl)) aD)))) aD))) rfl)))
   (aE (cT cq rfl (cB K (pv 4)) (bF (i:=5) S.nd) (aE (aN (i:=6) S.nd (aV G_law_row hr (aA (pv 5) aD)))
   (aH (cO (eL hr) (pv 3) (aY (dU K hr) (pv 5) aG (fun _ _=>rfl)) (p9 (a9 (VB K hr) (pv 6) (dG aD) (cF _)) (bT (aA (aY (dU K hr) (pv 6) (MM D5 aG) (fun _ _=>rfl)) (aA (bT (aA dH aD)) aD))) (bT (aA eR (aA (bT (aA dH aD)) aD)))) rfl))))
   (aE (cT cq rfl (cB K (pv 1)) (fF (n:=2) K rfl (bK (bF (i:=8) S.nd) (bK (bF (i:=10) S.nd) fI))) (aE (cO (eL hr) (pv 3) (pv 8) (bT (aA (pv 10) (aA (bT (aA dH aD)) aD))) rfl)
   (aH (eZ (PW.pt (nD (a9 kW (pv 10) eR (cF _)) (iY (a9 (fJ K hr) (pv 10) (pv 3) (by rfl))))) (aH (cO (eL hr) (pv 3) (pv 10) (bT (aA eR (aA (bT (aA dH aD)) aD))) rfl)) cH))))
   (aH (bM (pv 3))))))))),by unfold pG jT jN j8 jL lO l5 k9 l4 lH lJ lW lZ kY;walk_at "r"⟩
theorem C1 (T:Txt K mg) (D:Dx K mg "_law_chain" fQ ["_law_hand_here","_law_names_here"]) (G_law_take:fO P w K mg base):wG P w K mg base:=cR D (N:=["_law_hand_here","_law_names_here","_law_back","_law_days","_law_found"]) ⟨rfl,rfl,rfl,by decide+kernel,rfl,by decide+kernel,by decide+kernel⟩ rfl rfl fun S f cdv A outer s H E hr=>
 ⟨_,(aE (aN (i:=2) S.nd (aV G_law_take hr (aA (pv 0) (aA (bQ oF aG (bN (zP K) (by rfl) T.jS jU (aA (pv 1) aD))) aD))))
   (aE (fX (i:=3) ["_law_name","_law_hand_here"] 1 [0] ["_law_hand_here","_law_names_here","_law_back","_law_days","_law_found"] (aS fQ) rfl rfl rfl S.nd rfl rfl (cB K (pv 1)) (by decide+kernel) (fun _=>(bL (i:=0) (show(["_law_name","_law_hand_here"]:List Str).Nodup by decide+kernel) rfl (Or.inl rfl))) (fun _=>cP) (fun _=>(aV G_law_take hr (aA (pv 1) (aA aG aD)))))
   (aE (fX (i:=4) ["_law_one","_law_day","_law_more"] 3 [] ["_law_hand_here","_law_names_here","_law_back","_law_days","_law_found"] (aS fQ) rfl rfl rfl S.nd rfl rfl (UG K rfl T.G6 (aA (pv 1) (aA (pv 3) (aA (gB (W0 K) (pv 1) (iS aG) i0) aD)))) (by decide+kernel) (fun _=>(fF (n:=3) K rfl (bK (bL (i:=0) (show(["_law_one","_law_day","_law_more"]:List Str).Nodup by decide+kernel) rfl (Or.inl rfl)) (bK (bL (i:=1) (show(["_law_one","_law_day","_law_more"]:List Str).Nodup by decide+kernel) rfl (Or.inl rfl)) (bK (bL (i:=2) (show(["_law_one","_law_day","_law_more"]:List Str).Nodup by decide+kernel) rfl (Or.inl rfl)) fI))))) (fun _=>cP) (fun _=>(bT (aA (pv 0) (aA (pv 1) (aA dH (aA (bT (aA (pv 2) aD)) aD)))))))
   (aE (eZ (a9 ltX (pv 2) (bQ D0 (bN (zP K) (by rfl) T.jS jU (aA (pv 1) aD)) aG) (cF _)) (aH (iO (gO K gh fj fm dB (pv 4) (aA (bT (aA (aY (dU K hr) (pv 1) (MM D5 aG) (fun _ _=>rfl)) (aA (aY (dU K hr) (pv 3) (MM D5 aG) (fun _ _=>rfl)) (aA dH (aA (bT (aA (aY (dU K hr) (pv 1) (pv 2) (fun _ _=>rfl)) aD)) aD))))) aD)))) cH)
   (aH (bM (bU (AE K) (by rfl) T.c8 dM (aA (bN (BU K hr) (by rfl) T.eS gJ (aA (pv 4) aD)) aD)))))))),by unfold pS lY lL lU lI;walk_at "r"⟩
theorem I0 (T:Txt K mg) (D:Dx K mg "choices" i6 ["pack","marks","names"]) (G_rows_of:AY P w K mg base) (G_claims_of:wJ P w K mg base) (G_choice:FY P w K mg base):BH P w K mg base:=cR D (N:=["pack","marks","names","held","rows","claimed"]) ⟨rfl,rfl,rfl,by decide+kernel,rfl,by decide+kernel,by decide+kernel⟩ rfl rfl fun S f cdv A outer s H E hr=>
 ⟨_,(aE (aN (i:=3) S.nd (yJ ["name","elder"] 2 [] ["pack","marks","names","held","rows","claimed"] (aS i6) rfl rfl rfl (cB K (pv 1)) (by decide+kernel) (fun _=>(fF (n:=2) K rfl (bK (bL (i:=0) (show(["name","elder"]:List Str).Nodup by decide+kernel) rfl (Or.inl rfl)) (bK (bL (i:=1) (show(["name","elder"]:List Str).Nodup by decide+kernel) rfl (Or.inl rfl)) fI)))) (fun _=>cP) (fun _=>(pv 0)) (fun _=>(pv 1))))
   (aE (aN (i:=4) S.nd (aV G_rows_of hr (aA (pv 0) aD)))
   (aE (aN (i:=5) S.nd (aV G_claims_of hr (aA (pv 0) aD)))
   (aH (bM (yJ ["name","held","rows","claimed"] 1 [3,4,5] ["pack","marks","names","held","rows","claimed"] (aS i6) rfl rfl rfl (cB K (pv 2)) (by decide+kernel) (fun _=>(bL (i:=0) (show(["name","held","rows","claimed"]:List Str).Nodup by decide+kernel) rfl (Or.inl rfl))) (fun _=>cP) (fun _=>(pv 0)) (fun _=>(aV G_choice hr (aA (pv 1) (aA (pv 2) (aA (pv 3) (aA (pv 0) aD)))))))))))),by unfold vM qD qB pE;walk_at "r"⟩
theorem DZ (T:Txt K mg) (D:Dx K mg "cut_rings" eK ["pack","marks","ties"]) (G_days_of:AW P w K mg base) (G_rings_in:yT P w K mg base) (G_begun_with:uO P w K mg base) (G_cut_one:B5 P w K mg base):wI P w K mg base:=cR D (N:=["pack","marks","ties","held","days","round_about"]) ⟨rfl,rfl,rfl,by decide+kernel,rfl,by decide+kernel,by decide+kernel⟩ rfl rfl fun S f cdv A outer s H E hr=>
 ⟨_,(aE (aN (i:=3) S.nd (yJ ["name","elder"] 2 [] ["pack","marks","ties","held","days","round_about"] (aS eK) rfl rfl rfl (cB K (pv 1)) (by decide+kernel) (fun _=>(fF (n:=2) K rfl (bK (bL (i:=0) (show(["name","elder"]:List Str).Nodup by decide+kernel) rfl (Or.inl rfl)) (bK (bL (i:=1) (show(["name","elder"]:List Str).Nodup by decide+kernel) rfl (Or.inl rfl)) fI)))) (fun _=>cP) (fun _=>(pv 0)) (fun _=>tR)))
   (aE (aN (i:=4) S.nd (aV G_days_of hr (aA (pv 0) aD)))
   (aE (aN (i:=5) S.nd (aV G_rings_in hr (aA (yJ ["name","ties"] 1 [2] ["pack","marks","ties","held","days","round_about"] (aS eK) rfl rfl rfl (xI (pv 2)) (by decide+kernel) (fun _=>(bL (i:=0) (show(["name","ties"]:List Str).Nodup by decide+kernel) rfl (Or.inl rfl))) (fun _=>cP) (fun _=>(pv 0)) (fun _=>(aY (dU K hr) (aY (dU K hr) (pv 1) (pv 0) (fun _ _=>rfl)) aG (fun _ _=>rfl)))) aD)))
   (aH (bM (bU (AE K) (by rfl) T.c8 dM (aA (bN (BU K hr) (by rfl) T.eS gJ (aA (rL ["ring","held","days"] 1 [3,4] ["pack","marks","ties","held","days","round_about"] (aS eK) rfl rfl rfl (cB K (pv 5)) (by decide+kernel) (fun _=>(bL (i:=0) (show(["ring","held","days"]:List Str).Nodup by decide+kernel) rfl (Or.inl rfl))) (fun _=>cP) (fun _=>(aV G_begun_with hr (aA (pv 0) (aA (aV G_cut_one hr (aA (pv 0) (aA (pv 1) (aA (pv 2) aD)))) aD))))) aD)) aD))))))),by unfold pF lK k7 lG;walk_at "r"⟩
theorem zY (T:Txt K mg) (D:Dx K mg "_law_letters" fA ["_law_script","_law_hand_here","_law_m"]) (G_law_letter:uA P w K mg base) (G_law_take:fO P w K mg base) (G_law_hand:rW P w K mg base):rG P w K mg base:=cR D (N:=["_law_script","_law_hand_here","_law_m","_law_found","_law_k"]) ⟨rfl,rfl,rfl,by decide+kernel,rfl,by decide+kernel,by decide+kernel⟩ rfl rfl fun S f cdv A outer s H E hr=>
 ⟨_,(aE (fX (i:=3) ["_law_n","_law_hand_here","_law_m"] 1 [1,2] ["_law_script","_law_hand_here","_law_m","_law_found","_law_k"] (aS fA) rfl rfl rfl S.nd rfl rfl (eX rfl T.eA (aA (aV G_law_take hr (aA (pv 1) (aA aG aD))) aD)) (by decide+kernel) (fun _=>(bL (i:=0) (show(["_law_n","_law_hand_here","_law_m"]:List Str).Nodup by decide+kernel) rfl (Or.inl rfl))) (fun _=>cP) (fun _=>(aV G_law_letter hr (aA (pv 1) (aA (pv 2) aD)))))
   (aE (cT cq rfl (MX rfl T.eA (aA aG (aA (bN (NX rfl) (by rfl) T.pQ sF (aA (bN (zP K) (by rfl) T.jS jU (aA (pv 0) aD)) (aA aG aD))) aD))) (bF (i:=4) S.nd) (aH (iO (gO K gh fj fm dB (pv 3) (aA (aV G_law_letter hr (aA (aV G_law_hand hr (aA (pv 0) (aA (pv 4) aD))) (aA (pv 2) aD))) aD)))))
   (aH (bM (pv 3))))),by unfold lD iH;walk_at "r"⟩
theorem GF (T:Txt K mg) (D:Dx K mg "_law_ties" jZ ["_law_pack_here","_law_marks_here"]) (G_law_table:wM P w K mg base) (G_law_standing:jM P w K mg base) (G_law_cut:A0 P w K mg base):xY P w K mg base:=cR D (N:=["_law_pack_here","_law_marks_here","_law_table_here","_law_days","_law_ties_here","_law_known","_law_name","_law_path","_law_here"]) ⟨rfl,rfl,rfl,by decide+kernel,rfl,by decide+kernel,by decide+kernel⟩ rfl rfl fun S f cdv A outer s H E hr=>
 ⟨_,(aE (aN (i:=2) S.nd (aV G_law_table hr (aA (pv 0) (aA (pv 1) aD))))
   (aE (aN (i:=3) S.nd (bU (adA K) (by rfl) T.uY K4 (aA (rL ["_law_letter_here"] 1 [] ["_law_pack_here","_law_marks_here","_law_table_here","_law_days","_law_ties_here","_law_known","_law_name","_law_path","_law_here"] (aS jZ) rfl rfl rfl (cB K (aV G_law_standing hr (aA (pv 0) aD))) (by decide+kernel) (fun _=>(bL (i:=0) (show(["_law_letter_here"]:List Str).Nodup by decide+kernel) rfl (Or.inl rfl))) (fun _=>cP) (fun _=>(bT (aA (aY (dU K hr) (pv 0) aG (fun _ _=>rfl)) (aA (aY (dU K hr) (pv 0) aG (fun _ _=>rfl)) aD))))) aD)))
   (aE (CJ (i:=4) (j:=5) rfl S.nd rfl rfl (by decide) rfl rfl (aA eN (aA eN aD)) rfl)
   (aE (cT cq rfl (xI (pv 2)) (bF (i:=6) S.nd) (aH (cO (eL hr) (pv 4) (pv 6) (aY (dU K hr) (aY (dU K hr) (pv 2) (pv 6) (fun _ _=>rfl)) aG (fun _ _=>rfl)) rfl)))
   (aE (cT cq rfl (xI (pv 2)) (bF (i:=6) S.nd) (aE (CJ (i:=7) (j:=8) rfl S.nd rfl rfl (by decide) rfl rfl (aA (dG aD) (aA (pv 6) aD)) rfl)
   (aE (tX cq (PW.pt (nD (a9 kW (pv 8) eR (cF _)) (iY (a9 (fJ K hr) (pv 8) (pv 5) (by rfl))))) (aE (cO (eL hr) (pv 5) (pv 8) (pv 6) rfl)
   (aE (iO (gO K gh fj fm dB (pv 7) (aA (pv 8) aD)))
   (aH (aN (i:=8) S.nd (aY (dU K hr) (aY (dU K hr) (pv 2) (pv 8) (fun _ _=>rfl)) aG (fun _ _=>rfl)))))))
   (aH (eZ (PW.pt (nD (a9 kW (pv 8) eR (cF _)) (iY (a9 (inX K hr) (pv 8) (pv 7) (by rfl))))) (aH (cO (eL hr) (pv 4) (aV G_law_cut hr (aA (gB (W0 K) (pv 7) (iS (gO K gh slot_list_index type_list_index (vB K) (pv 7) (aA (pv 8) aD))) i0) (aA (pv 3) (aA (bU (acJ K) (by rfl) T.uY K4 (aA (pv 1) aD)) aD)))) eR rfl)) cH)))))
   (aH (bM (pv 4)))))))),by unfold sR nN oX nM oO nH oI iK iN oW;walk_at "r"⟩
theorem EZ (T:Txt K mg) (D:Dx K mg "by_names" j5 ["pack","marks"]) (G_choices:BH P w K mg base) (G_cut_rings:wI P w K mg base) (G_places:GV P w K mg base):zT P w K mg base:=cR D (N:=["pack","marks","ties","cut","ring"]) ⟨rfl,rfl,rfl,by decide+kernel,rfl,by decide+kernel,by decide+kernel⟩ rfl rfl fun S f cdv A outer s H E hr=>
 ⟨_,(aE (aN (i:=2) S.nd (aV G_choices hr (aA (pv 0) (aA (pv 1) (aA (aV G_places hr (aA (pv 0) (aA (pv 1) aD))) aD)))))
   (aE (aN (i:=3) S.nd (aV G_cut_rings hr (aA (pv 0) (aA (pv 1) (aA (pv 2) aD)))))
   (aE (cT cq rfl (cB K (pv 3)) (bF (i:=4) S.nd) (aH (cO (eL hr) (pv 2) (aY (dU K hr) (pv 4) aG (fun _ _=>rfl)) (bT (aA eR (aA (bT (aA dH (aA (pv 4) aD))) aD))) rfl)))
   (aH (bM (bU (AE K) (by rfl) T.c8 dM (aA (rL ["name","ties"] 1 [2] ["pack","marks","ties","cut","ring"] (aS j5) rfl rfl rfl (cB K (bN (BU K hr) (by rfl) T.eS gJ (aA (pv 2) aD))) (by decide+kernel) (fun _=>(bL (i:=0) (show(["name","ties"]:List Str).Nodup by decide+kernel) rfl (Or.inl rfl))) (fun _=>cP) (fun _=>(bT (aA (pv 0) (aA (aY (dU K hr) (aY (dU K hr) (pv 1) (pv 0) (fun _ _=>rfl)) aG (fun _ _=>rfl)) (aA (aY (dU K hr) (aY (dU K hr) (pv 1) (pv 0) (fun _ _=>rfl)) aG (fun _ _=>rfl)) aD)))))) aD))))))),by unfold tM nE oJ oK oT;walk_at "r"⟩
theorem adP (T:Txt K mg) (D:Dx K mg "way" LM ["pack","marks","name"]) (G_climbed:vA P w K mg base) (G_elders_in:vT P w K mg base) (G_by_names:zT P w K mg base):ZL P w K mg base:=cR D (N:=["pack","marks","name"]) ⟨rfl,rfl,rfl,by decide+kernel,rfl,by decide+kernel,by decide+kernel⟩ rfl rfl fun S f cdv A outer s H E hr=>
 ⟨_,(aH (bM (bU (AE K) (by rfl) T.c8 dM (aA (aV G_climbed hr (aA (aV G_elders_in hr (aA (aV G_by_names hr (aA (pv 0) (aA (pv 1) aD))) aD)) (aA (pv 2) aD))) aD)))),by unfold Q0;walk_at "r"⟩
theorem C7 (T:Txt K mg) (D:Dx K mg "_law_right" kJ ["_law_pack_here","_law_marks_here","_law_ties_here","_law_name"]) (G_way:ZL P w K mg base):wA P w K mg base:=cR D (N:=["_law_pack_here","_law_marks_here","_law_ties_here","_law_name","_law_due","_law_here","_law_found"]) ⟨rfl,rfl,rfl,by decide+kernel,rfl,by decide+kernel,by decide+kernel⟩ rfl rfl fun S f cdv A outer s H E hr=>
 ⟨_,(aE (CJ (i:=4) (j:=5) rfl S.nd rfl rfl (by decide) rfl rfl (aA (dG aD) (aA (pv 3) aD)) rfl)
   (aE (tX cq (a9 kW (pv 5) eR (cF _)) (aE (iO (gO K gh fj fm dB (pv 4) (aA (pv 5) aD)))
   (aH (aN (i:=5) S.nd (aY (dU K hr) (pv 2) (pv 5) (fun _ _=>rfl))))))
   (aE (aN (i:=6) S.nd (aV G_way hr (aA (pv 0) (aA (pv 1) (aA (pv 3) aD)))))
   (aH (bM (acV (bN (ah6 K) (by rfl) T.fY AG (aA (pv 6) (aA (WX (v:=.ty "tuple") rfl T.c8 dM rfl) aD))) (adI (xO (DH K hr) (bU (afM K) (by rfl) T.rS DO (aA (pv 6) aD)) (pv 4) (cF _))))))))),by unfold pV lT gU lA gW;walk_at "r"⟩
theorem ac3 (T:Txt K mg) (D:Dx K mg "law" F8 ["_law_script"]) (G_law_hand:rW P w K mg base) (G_law_take:fO P w K mg base) (G_law_letters:rG P w K mg base) (G_law_names:vZ P w K mg base) (G_law_marks:wN P w K mg base) (G_law_chain:wG P w K mg base) (G_law_pack:yN P w K mg base) (G_law_ties:xY P w K mg base) (G_law_right:wA P w K mg base):afX P w K mg base:=cR D (N:=["_law_script","_law_hand_here","_law_m","_law_chain_here","_law_size","_law_asks","_law_many","_law_letters_here","_law_names_here","_law_pack_here","_law_marks_here","_law_held","_law_ties_here","_law_known","_law_ask"]) ⟨rfl,rfl,rfl,by decide+kernel,rfl,by decide+kernel,by decide+kernel⟩ rfl rfl fun S f cdv A outer s H E hr=>
 ⟨_,(aE (aN (i:=1) S.nd (aV G_law_hand hr (aA (pv 0) (aA aG aD))))
   (aE (aN (i:=2) S.nd (bQ (p8 K) aG (aV G_law_take hr (aA (pv 1) (aA (aY (dU K hr) (dG (aA aG (aA aG (aA aG aD)))) (aV G_law_take hr (aA (pv 1) (aA aG aD))) (fun _ _=>rfl)) aD)))))
   (aE (aN (i:=3) S.nd (bU BE (by rfl) T.CD UC (aA (xO (DH K hr) (aV G_law_take hr (aA (pv 1) (aA aG aD))) aG (cF _)) aD)))
   (aE (aN (i:=4) S.nd (bQ (p8 K) aG (aV G_law_take hr (aA (pv 1) (aA aG aD)))))
   (aE (fX (i:=5) ["_law_n","_law_hand_here"] 1 [1] ["_law_script","_law_hand_here","_law_m","_law_chain_here","_law_size","_law_asks","_law_many","_law_letters_here","_law_names_here","_law_pack_here","_law_marks_here","_law_held","_law_ties_here","_law_known","_law_ask"] (aS F8) rfl rfl rfl S.nd rfl rfl (eX rfl T.eA (aA aG aD)) (by decide+kernel) (fun _=>(bL (i:=0) (show(["_law_n","_law_hand_here"]:List Str).Nodup by decide+kernel) rfl (Or.inl rfl))) (fun _=>cP) (fun _=>(aV G_law_take hr (aA (pv 1) (aA aG aD)))))
   (aE (aN (i:=6) S.nd (aV G_law_take hr (aA (pv 1) (aA aG aD))))
   (aE (aN (i:=7) S.nd (aV G_law_letters hr (aA (pv 0) (aA (pv 1) (aA (pv 2) aD)))))
   (aE (aN (i:=8) S.nd (aV G_law_names hr (aA (pv 1) (aA (aY (dU K hr) (dG (aA (pv 2) (aA (pv 4) aD))) (pv 3) (fun _ _=>rfl)) aD))))
   (aE (aN (i:=9) S.nd (p9 (a9 (DH K hr) (pv 3) aG (cF _)) (aV G_law_chain hr (aA (pv 1) (aA (pv 8) aD))) (aV G_law_pack hr (aA (pv 7) (aA (pv 8) aD)))))
   (aE (aN (i:=10) S.nd (aV G_law_marks hr (aA (pv 1) (aA (pv 8) (aA (pv 6) aD)))))
   (aE (cT cq rfl (cB K (dG (aA (pv 10) (aA (bT aD) (aA (pv 10) aD))))) (bF (i:=11) S.nd) (aE (aN (i:=12) S.nd (aV G_law_ties hr (aA (pv 9) (aA (pv 11) aD))))
   (aE (aN (i:=13) S.nd (bN (BU K hr) (by rfl) T.eS gJ (aA (pv 12) aD)))
   (aH (cT cq rfl (cB K (gB (W0 K) (pv 5) i0 (iS (bN (zP K) (by rfl) T.jS jU (aA (pv 13) aD))))) (bF (i:=14) S.nd) (aH (eZ (SA (Q1 (aV G_law_right hr (aA (pv 9) (aA (pv 11) (aA (pv 12) (aA (aY (dU K hr) (pv 13) (bQ jJ (pv 14) (bN (zP K) (by rfl) T.jS jU (aA (pv 13) aD))) (fun _ _=>rfl)) aD))))))) (aH (bM tR)) cH)))))))
   (aH (bM tR))))))))))))),by unfold TV yR yY zL x8 CZ EM DP CS xP DN xG EK EO;walk_at "r"⟩
end
namespace Rg
variable {α:Type}
noncomputable def dA (up:α->Option α):Nat->α->Option α
 |0,x=>some x
 |n+1,x=>(up x).bind (dA up n)
def A8 (up:α->Option α) (x:α):Prop:=∃n,dA up (n+1) x=some x
def Path (up:α->Option α):List α->Option α->Prop
 |[],_=>True
 |[x],e=>up x=e
 |x::y::l,e=>up x=some y/\Path up (y::l) e
structure Ring (up:α->Option α) (l:List α):Prop where
 ne:l≠[]
 nd:l.Nodup
 path:Path up l l.head?
def EA (up:α->Option α) (T:α->Prop):Prop:=∀x y,T x->up x=some y->T y
variable {up:α->Option α}
theorem iI:∀(m n:Nat) (x:α),dA up (m+n) x=(dA up m x).bind (dA up n)
 |0,n,x=>by rw[zero_add];rfl
 |m+1,n,x=>by
  rw[Nat.add_right_comm];show(up x).bind (dA up (m+n))=((up x).bind (dA up m)).bind (dA up n);cases up x with
  |none=>rfl
  |some y=>exact iI m n y
theorem EA.walk {T:α->Prop} (h:EA up T):∀(n:Nat) {x y:α},T x->dA up n x=some y->T y
 |0,_,_,hx,e=>by cases e;exact hx
 |n+1,x,y,hx,e=>by
  cases c:up x with
  |none=>rw[dA,c]at e;cases e
  |some z=>rw[dA,c]at e;exact h.walk n (h x z hx c) e
theorem MS {x:α} (h:dA up n x=some x):∀k,dA up (k*n) x=some x
 |0=>by rw[Nat.zero_mul];rfl
 |k+1=>by rw[Nat.succ_mul,iI,MS h k];exact h
theorem A8.back {x:α} (h:A8 up x) (m:Nat):∃y j,dA up m x=some y/\dA up j y=some x:=by
 obtain⟨n,h⟩:=h;have k:=MS h m;have e:m*(n+1)=m+m*n:=by rw[Nat.mul_succ,Nat.add_comm]
 rw[e,iI]at k;cases c:dA up m x with
 |none=>rw[c]at k;cases k
 |some y=>rw[c]at k;exact⟨y,_,rfl,k⟩
theorem Path.AH:∀{l:List α} {e:Option α} {i:Nat} {x:α},Path up l e->l[i]? =some x->dA up (l.length - i) x=e
 |[],_,_,_,_,h=>by simp at h
 |[a],e,0,x,p,h=>by
  cases h;show(up a).bind (dA up 0)=e;rw[show up a=e from p];cases e<;>rfl
 |[a],e,i+1,x,p,h=>by simp at h
 |a::b::l,e,0,x,p,h=>by
  cases h;show(up a).bind (dA up (b::l).length)=e;rw[p.1];exact Path.AH (l:=b::l) (i:=0) p.2 rfl
 |a::b::l,e,i+1,x,p,h=>by
  have:=Path.AH (l:=b::l) (i:=i) p.2 (by simpa using h);simpa using this
theorem Path.drop:∀{l:List α} {e:Option α} (n:Nat),Path up l e->Path up (l.drop n) e
 |_,_,0,p=>p
 |[],_,_+1,p=>p
 |[a],_,n+1,p=>by simp[Path]
 |a::b::l,e,n+1,p=>by
  rw[List.drop_succ_cons];exact Path.drop n p.2
theorem Path.snoc:∀{l:List α} {x:α} {e:Option α},Path up l (some x)->up x=e->Path up (l++[x]) e
 |[],x,e,_,h=>h
 |[a],x,e,p,h=>⟨p,h⟩
 |a::b::l,x,e,p,h=>⟨p.1,Path.snoc (l:=b::l) p.2 h⟩
theorem Path.step:∀{l:List α} {e:Option α} {x:α},Path up l e->x∈l->(∃y∈l,up x=some y)\/ up x=e
 |[],_,_,_,h=>by simp at h
 |[a],e,x,p,h=>by
  rw[bu.mp h];exact .inr p
 | a::b::l,e,x,p,h=>by
  rcases bw.mp h with rfl|h
  .exact .inl ⟨b,by simp,p.1⟩
  .rcases Path.step (l:=b::l) p.2 h with⟨y,hy,e⟩|e
   .exact .inl ⟨y,ba _ hy,e⟩
   .exact .inr e
theorem Path.no {l:List α} {e:Option α} {x:α} (p:Path up l e) (hx:x∈l) (h:∀y,e=some y->∀j,dA up j y≠some x):¬A8 up x:=fun c=>by
 obtain⟨i,hi⟩:=fu hx;obtain⟨y,j,h1,h2⟩:=c.back (l.length - i);rw[p.AH hi]at h1;exact h y h1 j h2
theorem Ring.closed {l:List α} (r:Ring up l):EA up fun x=>x∈l:=fun x y hx e=>by
 rcases r.path.step hx with⟨z,hz,e'⟩|e'
 .rw[e]at e';cases e';exact hz
 .rw[e]at e';cases l with
  |nil=>exact absurd rfl r.ne
  |cons a l=>cases e';simp
theorem Ring.turn {l:List α} (r:Ring up l) {x:α} (hx:x∈l):dA up l.length x=some x:=by
 cases l with
 |nil=>exact absurd rfl r.ne
 | cons a l=>
  obtain⟨i,hi⟩:=fu hx;have hl:i<(a::l).length:=(af.mp hi).1;have h1:=r.path.AH hi;have h0:=r.path.AH (l:=a::l) (i:=0) (x:=a) rfl;have ha:∀j,j<=(a::l).length->∀z,(a::l)[j]? =some z->dA up j a=some z:=by
   intro j
   induction j with
   |zero=>intro _ z hz;cases hz;rfl
   |succ j ih=>
    intro hj z hz;have hj':j<(a::l).length:=by omega
    have e1:=ih (by omega) _ (aj hj');rw[iI j 1,e1];have e2:=r.path.AH (aj hj');have e3:=r.path.AH hz;have hlt:j+1<(a::l).length:=(af.mp hz).1;have:Path up ((a::l).drop j) (a::l).head?:=r.path.drop j;rw[eh hj',eh hlt]at this;show(up _).bind (dA up 0)=_;rw[this.1];rw[aj hlt]at hz;cases hz;rfl
  have e2:=ha i (by omega) x hi;have e3:dA up ((a::l).length - i+i) x=some x:=by
   rw[iI,h1];exact e2
  have:(a::l).length - i+i=(a::l).length:=by omega
  rw[this]at e3;exact e3
theorem Ring.A8 {l:List α} (r:Ring up l) {x:α} (hx:x∈l):A8 up x:=by
 refine⟨l.length - 1,?_⟩;have:0<l.length:=length_pos_of_mem hx;rw[show l.length - 1+1=l.length by omega];exact r.turn hx
structure Found (up:α->Option α) (S:List α) (F:List (List α)):Prop where
 cl:EA up fun x=>x∈S
 ring:∀R∈F,Ring up R
 sub:∀R∈F,∀x∈R,x∈S
 nd:F.flatten.Nodup
 all:∀x∈S,A8 up x->x∈F.flatten
theorem Found.nil:Found up [] []:=⟨fun x y h=>by simp at h,by simp,by simp,by simp,by simp⟩
theorem Found.out {S:List α} {F:List (List α)} {l:List α} {e:Option α} (f:Found up S F) (p:Path up l e) (hd:∀x∈l,x∉S) (h:∀y,e=some y->y∈S):Found up (S++l) F where
 cl:=fun x y hx u=>by
  rcases bj.mp hx with hx|hx
  .exact dc _ (f.cl x y hx u)
  .rcases p.step hx with⟨z,hz,e'⟩|e'
   .rw[u]at e';cases e';exact bq _ hz
   .rw[u]at e';exact dc _ (h y e'.symm)
 ring:=f.ring
 sub:=fun R hR x hx=>dc _ (f.sub R hR x hx)
 nd:=f.nd
 all:=fun x hx c=>by
  rcases bj.mp hx with hx|hx
  .exact f.all x hx c
  .exact absurd c (p.no hx fun y ey j ej=>hd x hx (f.cl.walk j (h y ey) ej))
theorem Found.Y0 {S:List α} {F:List (List α)} {p r:List α} (f:Found up S F) (hr:r≠[]) (hp:Path up (p++r) r.head?) (nd:(p++r).Nodup) (hd:∀x∈p++r,x∉S):Found up (S++(p++r)) (F++[r]):=by
 obtain⟨nd1,nd2,nd3⟩:=dz.mp nd;have R:Ring up r:=⟨hr,nd2,by have:=hp.drop p.length;rwa[List.drop_left]at this⟩;refine⟨fun x y hx u=>?_,fun Q hQ=>?_,fun Q hQ x hx=>?_,?_,fun x hx c=>?_⟩
 .rcases bj.mp hx with hx|hx
  .exact dc _ (f.cl x y hx u)
  .rcases hp.step hx with⟨z,hz,e'⟩|e'
   .rw[u]at e';cases e';exact bq _ hz
   .rw[u]at e';cases r with
    |nil=>exact absurd rfl hr
    |cons a r=>cases e';exact bq _ (bq _ (by simp))
 .rcases bj.mp hQ with h|h
  .exact f.ring Q h
  .rw[bu.mp h];exact R
 .rcases bj.mp hQ with h|h
  .exact dc _ (f.sub Q h x hx)
  .rw[bu.mp h]at hx;exact bq _ (bq _ hx)
 .rw[List.flatten_append];refine dz.mpr ⟨f.nd,by simpa using nd2,fun x hx y hy e=>?_⟩;subst e;obtain⟨Q,hQ,hx⟩:=mem_flatten.mp hx;exact hd x (bq _ (by simpa using hy)) (f.sub Q hQ x hx)
 .rw[List.flatten_append];rcases bj.mp hx with hx|hx
  .exact dc _ (f.all x hx c)
  .rcases bj.mp hx with hx|hx
   .refine absurd c (Path.no (l:=p++r) hp (dc _ hx) fun y ey j ej=>?_);have hy:y∈r:=by
     cases r with
     |nil=>cases ey
     |cons a r=>cases ey;simp
    exact nd3 x hx x (R.closed.walk j hy ej) rfl
   .exact bq _ (by simpa using hx)
end Rg
namespace Rg
variable {α:Type} {up:α->Option α}
theorem sub_len [DecidableEq α]:∀{l m:List α},l.Nodup->(∀x∈l,x∈m)->l.length<=m.length
 |[],m,_,_=>ic _
 |x::l,m,hn,h=>by
  have hx:=h x bh;obtain⟨h1,h2⟩:=fq.mp hn;have:=sub_len (l:=l) (m:=m.erase x) h2 fun y hy=>(List.mem_erase_of_ne (fun(e:y=x)=>h1 (by rw[<-e];exact hy))).mpr (h y (ba _ hy))
  rw[List.length_erase_of_mem hx]at this;have h0:0<m.length:=length_pos_of_mem hx;rw[length_cons];omega
theorem rZ {y x:α} (h:dA up j y=some x):∀i,i<=j->∃z,dA up i y=some z/\dA up (j - i) z=some x:=fun i hi=>by
 have e:j=i+(j - i):=by omega
 rw[e,iI]at h;cases c:dA up i y with
 |none=>rw[c]at h;cases h
 |some z=>rw[c]at h;exact⟨z,rfl,h⟩
theorem XS {K:List α} (hK:∀z w,up z=some w->z∈K) {y x:α} (h:dA up j y=some x) {i:Nat} (hi:i<j) {z:α} (hz:dA up i y=some z):z∈K:=by
 obtain⟨z',h1,h2⟩:=rZ h i (by omega);rw[hz]at h1;cases h1;rw[show j - i=(j - i - 1)+1 by omega,dA]at h2;cases c:up z with
 |none=>rw[c]at h2;cases h2
 |some w=>exact hK z w c
theorem HL [DecidableEq α] {K:List α} (hK:∀z w,up z=some w->z∈K) {y x:α}:∀(j:Nat),dA up j y=some x->∃i,i<=K.length/\dA up i y=some x:=by
 intro j
 induction j using Nat.strongRecOn with
 | _ j ih=>
  intro h
  by_cases hj:j<=K.length
  .exact⟨j,hj,h⟩
  .have hex:∃a b,a<b/\b<j/\dA up a y=dA up b y:=by
    apply cv;intro hno;have nd:((List.range j).map fun i=>(dA up i y).getD y).Nodup:=by
     unfold List.Nodup;rw[List.pairwise_iff_getElem];intro a b ha hb hab e;rw[ag,cw]at ha hb;rw[getElem_map,getElem_map,getElem_range,getElem_range]at e;obtain⟨za,h1,_⟩:=rZ h a (by omega);obtain⟨zb,h2,_⟩:=rZ h b (by omega);rw[h1,h2]at e;exact hno ⟨a,b,hab,hb,by rw[h1,h2];exact dq some e⟩
    have:=sub_len nd (m:=K) fun z hz=>by
     obtain⟨i,hi,rfl⟩:=bp.mp hz;have hi:=mem_range.mp hi;obtain⟨zi,h1,_⟩:=rZ h i (by omega);rw[h1];exact XS hK h hi h1
    rw[ag,cw]at this;omega
   obtain⟨a,b,hab,hb,e⟩:=hex;obtain⟨zb,h1,h2⟩:=rZ h b (by omega);refine ih (a+(j - b)) (by omega) ?_;rw[iI,e,h1];exact h2
theorem F3 {up':α->Option α} {x:α} (hs:∀z,z≠x->up' z=up z) {y:α}:∀(j:Nat) {w:α},(∀i,i<j->dA up' i y≠some x)->dA up' j y=some w->dA up j y=some w:=by
 intro j
 induction j with
 |zero=>intro w _ h;exact h
 | succ j ih=>
  intro w hn h;obtain⟨z,h1,h2⟩:=rZ h j (by omega);have hz:=ih (fun i hi=>hn i (by omega)) h1;have hzx:z≠x:=fun e=>hn j (by omega) (by rw[h1,e])
  rw[show j+1 - j=1 by omega]at h2;rw[iI j 1,hz];show dA up 1 z=some w;have e2:dA up' 1 z=dA up 1 z:=by
   show(up' z).bind (dA up' 0)=(up z).bind (dA up 0);rw[hs z hzx];cases up z<;>rfl
  rw[<-e2];exact h2
theorem SD {up':α->Option α} {x:α} (hs:∀z,z≠x->up' z=up z) (hx:up x=none) (hno:∀y,¬A8 up y) (o:Option α) (ho:up' x=o) (hr:∀y,o=some y->∀j,dA up j y≠some x):∀y,¬A8 up' y:=by
 have hxn:¬A8 up' x:=fun⟨n,h⟩=>by
  rw[dA,ho]at h;cases o with
  |none=>cases h
  | some y=>
   have h:dA up' n y=some x:=h;have hex:∃m,dA up' m y=some x/\∀i,i<m->dA up' i y≠some x:=by
    clear hr ho
    induction n using Nat.strongRecOn with
    | _ n ih=>
     by_cases hc:∃i,i<n/\dA up' i y=some x
     .obtain⟨i,hi,e⟩:=hc;exact ih i hi e e
     .exact⟨n,h,fun i hi e=>hc ⟨i,hi,e⟩⟩
   obtain⟨m,h1,h2⟩:=hex;exact hr y rfl m (F3 hs m h2 h1)
 intro y hc
 by_cases hp:∃i,dA up' i y=some x
 .obtain⟨i,hi⟩:=hp;obtain⟨z,j,h1,h2⟩:=hc.back i;rw[hi]at h1;cases h1;refine hxn ?_;obtain⟨n,hn⟩:=hc;have h3:dA up' (j+(n+1)+i) x=some x:=by
   rw[iI,iI,h2];show((dA up' (n+1) y).bind (dA up' i))=some x;rw[hn];exact hi
  exact⟨j+n+i,by rw[show j+n+i+1=j+(n+1)+i by omega];exact h3⟩
 .obtain⟨n,hn⟩:=hc;exact hno y ⟨n,F3 hs (n+1) (fun i _ e=>hp ⟨i,e⟩) hn⟩
end Rg
namespace Rg
variable {α:Type} {up up':α->Option α}
inductive F2 {α β:Type} (R:α->β->Prop):List α->List β->Prop
 |nil:F2 R [] []
 |cons {a:α} {b:β} {l:List α} {m:List β}:R a b->F2 R l m->F2 R (a::l) (b::m)
theorem Path.app:∀{A B:List α} {e:Option α},B≠[]->(Path up (A++B) e↔Path up A B.head?/\Path up B e)
 |[],B,e,h=>⟨fun p=>⟨trivial,p⟩,fun p=>p.2⟩
 |[a],b::B,e,h=>⟨fun p=>⟨p.1,p.2⟩,fun p=>⟨p.1,p.2⟩⟩
 | a::c::A,B,e,h=>by
  have ih:=Path.app (A:=c::A) (B:=B) (e:=e) h;constructor
  .intro p;obtain⟨h1,h2⟩:=ih.mp p.2;exact⟨⟨p.1,h1⟩,h2⟩
  .intro p;exact⟨p.1.1,ih.mpr ⟨p.1.2,p.2⟩⟩
theorem Path.congr:∀{l:List α} {e:Option α},Path up l e->(∀x∈l,up x=up' x)->Path up' l e
 |[],_,_,_=>trivial
 |[a],e,p,h=>by
  show up' a=e;rw[<-h a (by simp)];exact p
 |a::b::l,e,p,h=>⟨by rw[<-h a (by simp)];exact p.1,Path.congr (l:=b::l) p.2 fun x hx=>h x (ba _ hx)⟩
theorem Ring.congr {l:List α} (r:Ring up l) (h:∀x∈l,up x=up' x):Ring up' l:=⟨r.ne,r.nd,r.path.congr h⟩
theorem tY {A B:List α} (h:A≠[]):(A++B).head? =A.head?:=by
 cases A with
 |nil=>exact absurd rfl h
 |cons a A=>rfl
theorem Ring.rot {l:List α} (r:Ring up l) (i:Nat) (hi:i<l.length):Ring up (l.drop i++l.take i):=by
 have hB:l.drop i≠[]:=fun e=>by have:=dq List.length e;rw[fy,length_nil]at this;omega
 refine⟨fun e=>hB (List.append_eq_nil_iff.mp e).1,?_,?_⟩
 .exact(List.perm_append_comm.nodup_iff.trans (by rw[fw])).mpr r.nd
 .by_cases hA:l.take i=[]
  .have e:=fw i l;rw[hA,nil_append]at e;rw[hA,df,e];exact r.path
  .have h:=r.path;rw[<-fw i l]at h;have h:=(Path.app hB).mp h;rw[tY hA]at h;rw[tY hB];exact(Path.app hA).mpr ⟨h.2,h.1⟩
theorem uB (l:List α) (i:Nat):(l.drop i++l.take i).Perm l:=List.perm_append_comm.trans (by rw[fw])
end Rg
namespace Rg
variable {α:Type} {up up':α->Option α}
theorem GR (n:Nat) (x:α):dA up (n+1) x=(dA up n x).bind up:=by
 rw[iI n 1];congr 1;funext y;show(up y).bind (dA up 0)=up y;cases up y<;>rfl
theorem zV (h:∀x w,up' x=some w->up x=some w):∀(n:Nat) {x y:α},dA up' n x=some y->dA up n x=some y
 |0,_,_,e=>e
 |n+1,x,y,e=>by
  cases c:up' x with
  |none=>rw[dA,c]at e;cases e
  |some w=>rw[dA,c]at e;rw[dA,h x w c];exact zV h n e
theorem acT {Rs:List (List α)} (all:∀x,A8 up x->∃R∈Rs,x∈R) (ring:∀R∈Rs,Ring up R) (hd:∀R∈Rs,∀h,R.head? =some h->up' h=none) (same:∀x w,up' x=some w->up x=some w) (y:α):¬A8 up' y:=by
 intro c;obtain⟨R,hR,hy⟩:=all y (let⟨n,h⟩:=c;⟨n,zV same _ h⟩);obtain⟨i,hi⟩:=fu hy;have g:=(ring R hR).path.AH hi;cases e:R.head? with
 |none=>rw[e]at g;exact absurd (List.head?_eq_none_iff.mp e) (ring R hR).ne
 |some h=>
  rw[e]at g;obtain⟨z,_,h1,_⟩:=c.back (R.length - i);obtain⟨w,_,h2,_⟩:=c.back (R.length - i+1);have h3:=zV same _ h1;rw[g]at h3;cases h3;rw[GR,h1]at h2;have:up' h=some w:=h2;rw[hd R hR h e]at this;cases this
end Rg
namespace Rg
variable {α:Type} {up up':α->Option α}
theorem Path.next:∀{l:List α} {e:Option α} {i:Nat} {x y:α},Path up l e->l[i]? =some x->l[i+1]? =some y->up x=some y
 |[],_,_,_,_,_,h,_=>by simp at h
 |[a],_,0,_,_,_,_,h=>by simp at h
 |[a],_,i+1,_,_,_,h,_=>by simp at h
 |a::b::l,e,0,x,y,p,h,k=>by cases h;cases k;exact p.1
 |a::b::l,e,i+1,x,y,p,h,k=>Path.next (l:=b::l) (i:=i) p.2 (by simpa using h) (by simpa using k)
theorem Path.both {l:List α} {e:Option α} {x:α} (p:Path up l e) (h0:l.head? =some x) (hs:∀i y,i<n->l[i]? =some y->up' y=up y):∀i,i<=n->i<l.length->dA up' i x=l[i]?
 |0,_,_=>by rw[<-List.head?_eq_getElem?,h0];rfl
 |i+1,hi,hl=>by
  rw[GR,Path.both p h0 hs i (by omega) (by omega),aj (by omega),aj hl];have e1:l[i]? =some l[i]:=aj (by omega);rw[bind_some,hs i _ (by omega) e1];exact p.next e1 (aj hl)
end Rg
local macro_rules | `(tactic| walk_at "w") => `(tactic| simp only [ac0, mR, mD, b9, tZ, eQ, wp_seq, wp_call, SM, VT, agR, ahT, X4, ab8, ahI, aeH, aeZ, adQ, U6, aeF, aeQ, aaJ, ZZ, VR, aaU, aeU, abA, WU, X3, aeR, N8, X9, afC, VA, abD, aeX, acZ, W3, acD, aaI, PY, V1, S3, YN, TQ, YF, adN, afQ, abX, ab5, VJ, abY, YB, G1, qZ, T1, qX, J6, List.replicate, cons_append, nil_append, rel, iE, putL, getL, OU, JR, cC, rX, Mr.resB, pO, wX, CI, KZ, Bv.weak, Bv.get, Bv.put, rd, Sl.pv, ownAt, cL, aaR, ad6, vY, ahX, ahA, ag0, agS, ag2, ahE, ahO, ag9, ahU, ahS, at0, at1, at2, at3, cX, Mr.AO, uH, SI, qK, w4, OR, j0, UQ, PL, RJ, gI, gI0, MH, gNe, xB, adD, acW, gLt, gGt, gGe, RF, FV, isNone, OI, sI, mF, DR, MU, A5, GS, LN, kdOf, UD, Z8, i4, aa4, ac7, CW, aa1, XA, W7, KR, List.getElem?_cons_zero, List.getElem?_cons_succ, List.set_cons_zero, List.set_cons_succ, List.zipIdx_cons, List.zipIdx_nil, map_cons, map_nil, all_nil, all_cons, List.contains_nil, List.contains_cons, List.any_nil, any_cons, fq, jh, dv, bw, not_false_eq_true, and_true, true_and, decide_true, decide_false, Bool.and_self, Bool.and_true, Bool.true_and, Bool.not_true, Bool.not_false, if_true, if_false, ite_true, ite_false, Option.or_some, none_or, Option.some_or, or_none, decide_eq_true_eq, lh, cj, reduceCtorEq, false_eq_true, length_cons, length_nil, Nat.reduceAdd, Nat.reduceLT, Int.reduceLT, Int.reduceLE, PV.int.injEq, PV.str.injEq, PV.bl.injEq, Option.some.injEq, O6, gj, Bool.or_false, Bool.or_true, Bool.true_or, Bool.false_or, Bool.false_and, Bool.and_false, Nat.reduceBEq, ag, cw, Int.reduceToNat, and_self, true_implies, forall_const, Int.reduceAdd, Int.reduceNeg, R4, Q2, wR, adB, keyOf, QL, getD_none, Option.getD_some, XE, XO, QS, XQ, PN, UL, K8, wO, W8, VG, afJ, U8, ae2, ad8, abF, ab3, WC, RT, N7, uK, X6, B7, F0, QA, OP, EG, EW, sZ, tE, mX, oB, sJ, sA, sW, sL, rM, rY, pZ, pU, pX, pW, p5, jF, mT, mZ, oE, oN, nY, oD, n6, oU, nK, jH, qG, gL, gH, qA, qF, qC, mY, nG, m4, nS, nA, m8, nF, oV, tL, sS, tK, sY, k6, lR, lV, lM, l0, j9, jK, jP, jB, jI, jQ, kX, lB, lE, lX, lN, kY, lZ, lW, lJ, lH, l4, k9, l5, lO, jL, j8, jN, jT, lI, lU, lL, lY, pE, qB, qD, lG, k7, lK, iH, nH, oO, nM, oX, nN, oT, oK, oJ, nE, lA, CS, DP, EM, CZ, x8, zL, yY, yR, VE])
section
open PySem L2 Mr
noncomputable abbrev hd (a b c:Int):PV:=.lst [.int a,.int b,.int c]
structure Hand (a b c:Int) (n:Nat):Prop where
 a0:0<=a
 b0:0<=b
 b1:b<2305843009213693921
 c0:0<=c
 c1:c<=n
theorem Hand.mono {m:Nat} (h:Hand a b c n) (l:n<=m):Hand a b c m:=⟨h.a0,h.b0,h.b1,h.c0,by have:=h.c1;omega⟩
theorem RP {i j:Int} (h0:0<=i) (h1:i<18446744073709551616):BZ i j=true:=decide_eq_true (.inl ⟨by omega,h1⟩)
theorem mulR {i j:Int} (h0:0<=j) (h1:j<18446744073709551616):BZ i j=true:=decide_eq_true (.inr ⟨by omega,h1⟩)
theorem cI (h:Hand a b c n) (hn:n<1000000) (m0:0<m) (m1:m<1073741824) (q:∀d a' b' c',0<=d->d<m->Hand a' b' c' (n+1)->Q (.int d,[hd a' b' c'])):Wp (aO [hd a b c,.int m]) Q:=by
 unfold aO sO;have a0:=h.a0;have b0:=h.b0;have b1:=h.b1;have c0:=h.c0;have c1:=h.c1;walk_at "w";refine⟨fun ha=>⟨m0,⟨m0,by omega⟩,q _ _ _ _ (kj _ (by omega)) (jk _ m0) ⟨Int.ediv_nonneg a0 (by omega),b0,b1,c0,by omega⟩⟩,fun ha=>⟨RP (by decide) (by decide),mulR (by omega) (by omega),mulR (by decide) (by decide),RP (by decide) (by decide),RP (kj _ (by decide)) ?_,m0,q _ _ _ _ (kj _ (by omega)) (jk _ m0) ⟨a0,b0,b1,by omega,by omega⟩⟩⟩;have:=jk ((b+65537*(c+1)*(c+1)+11)*48271) (show(0:Int)<2305843009213693921 by decide);omega
theorem eU {Q:PV->Prop} (h0:0<=k) (h1:k<(xs.length:Int)) (q:∀x∈xs,Q x):Wp (rK xs k) Q:=by
 obtain⟨c,hc,e⟩:=XT h0 h1;exact⟨c,e,q c hc⟩
noncomputable def mW:FS:=(aR (bW 3 (VS (bH (bC gGe (aC 2) (bC w4 (fC (.int 10)) (fC (.int 18))))) (bC qK (aC 2) (bC wR (bC wR (bC wR (bC w4 (fC (.int 10)) (fC (.int 60))) (bC w4 (fC (.int 10)) (fC (.int 60)))) (bC w4 (fC (.int 10)) (fC (.int 60)))) (bC w4 (fC (.int 10)) (fC (.int 60))))) (fC (.int 0))))
  (cV (gF (aB (aC 3) (aB (bC qK (bC uH (bC j0 (bC j0 (bC qK (aC 2) (fC (.int 2305843009213693951))) (bC uH (bC uH (fC (.int 7919)) (aC 1)) (aC 1))) (fC (.int 3))) (fC (.int 48271))) (fC (.int 2305843009213693921))) (aB (fC (.int 0)) aI))))))
theorem ET:sM=(aR (bW 2 (VS (bH (bC gLt (aC 1) (jE sI (aB (aC 0) aI)))) (bC cX (aC 0) (aC 1)) (fC (.int 0))))
  mW):=rfl
theorem BK {x:Int} {v0 v3:Option Sl} {Q:Out->Prop} (k0:0<=k) (k1:k<1000) (q:∀a b v0 v1 v2 v3,Hand a b 0 0->Q (.rt (.new (hd a b 0)) [v0,v1,v2,v3])):Wp (mW [v0,some (.val (.int k)),some (.val (.int x)),v3]) Q:=by
 unfold mW;walk_at "w";have r0:0<=x % 2305843009213693951:=kj _ (by decide);have r1:x % 2305843009213693951<2305843009213693951:=jk _ (by decide);have kk:0<=7919*k*k:=Int.mul_nonneg (by omega) k0;have m1:BZ 7919 k=true:=RP (by decide) (by decide);have m2:BZ (7919*k) k=true:=mulR k0 (by omega);have m3:BZ (x % 2305843009213693951+7919*k*k+3) 48271=true:=mulR (by decide) (by decide);have b0:0<=(x % 2305843009213693951+7919*k*k+3)*48271 % 2305843009213693921:=kj _ (by decide);have b1:(x % 2305843009213693951+7919*k*k+3)*48271 % 2305843009213693921<2305843009213693921:=jk _ (by decide);refine⟨by decide+kernel,fun hx=>⟨by decide+kernel,by decide+kernel,by decide+kernel,by decide+kernel,by decide+kernel,by decide+kernel,by decide+kernel,by decide+kernel,m1,m2,m3,q _ _ _ _ _ _ ⟨kj _ (by decide+kernel),b0,b1,by decide,by decide⟩⟩,fun hx=>⟨m1,m2,m3,q _ _ _ _ _ _ ⟨by decide,b0,b1,by decide,by decide⟩⟩⟩
theorem MK {ns:List Int} (k0:0<=k) (k1:k<1000) (hn:ns.length<=63) (q:∀a b,Hand a b 0 0->Q (hd a b 0,[])):Wp (iD [.lst (ns.map PV.int),.int k]) Q:=by
 unfold iD;rw[ET];walk_at "w";refine⟨fun g=>?_,fun g=>?_⟩
 .refine eU k0 (by rw[ag];exact g) fun p hp=>?_
  obtain⟨c,_,rfl⟩:=bp.mp hp;walk_at "w";refine BK k0 k1 fun a b v0 v1 v2 v3 h=>?_
  walk_at "w";exact q a b h
 .refine BK k0 k1 fun a b v0 v1 v2 v3 h=>?_
  walk_at "w";exact q a b h
end
section
open PySem L2 Mr
noncomputable def sg:Str:="abcdefghijklmnopqrstuvwxyz0123456789"
theorem atS {Z:Str} {Q:Nat->Prop} (h0:0<=d) (h:d<(Z.length:Int)) (q:∀c∈Z.cps.toList,Q c):Wp (rK Z.cps.toList d) Q:=by
 obtain⟨c,hc,e⟩:=QF h0 h;exact⟨c,e,q c hc⟩
inductive IB (sg:Str) (n:Nat) (i:Nat) (acc:List PV) (e:En):Prop
 |mk (zs:List Str) (s:Option Sl) (a b c:Int) (h1:acc=zs.map PV.str) (h2:zs.length=i) (h3:(∀z∈zs,∃k∈sg.cps.toList,z=⟨#[k]⟩)) (h4:e=[s,some (.own (hd a b c))]) (h5:Hand a b c (n+i))
theorem O3 {a b c:Int} {s:Option Sl} {Q:List PV×En->Prop} (hp:Hand a b c n) (hn:n+xs.length<1000000)
  (q:∀(zs:List Str) s' a' b' c',zs.length=xs.length->(∀z∈zs,∃k∈sg.cps.toList,z=⟨#[k]⟩)->Hand a' b' c' (n+xs.length)->Q (zs.map PV.str,[s',some (.own (hd a' b' c'))])):
  Wp (kR (aP 0) dC (bC cX (fC (.str "abcdefghijklmnopqrstuvwxyz0123456789")) (bA [.m,.b] false aO (aB (aC 1) (aB (fC (.int 36)) aI)))) xs [s,some (.own (hd a b c))]) Q:=by
 refine c9 (IB sg n) ?_ ?_ ⟨[],s,a,b,c,rfl,rfl,fun _ h=>(nomatch h),rfl,hp⟩
 .rintro i x e acc hx ⟨zs,s,a,b,c,rfl,hl',hz,rfl,hp⟩;have hi:=(af.mp hx).1;walk_at "w";refine cI hp (by omega) (by decide) (by decide) fun d a' b' c' d0 d1 hp'=>?_
  walk_at "w";refine⟨by decide+kernel,?_⟩;refine atS d0 (Int.lt_of_lt_of_le d1 (by decide+kernel)) fun k hk=>?_
  walk_at "w";exact⟨zs++[⟨#[k]⟩],_,a',b',c',by rw[cf];rfl,by rw[br,hl'];rfl,fun z hz'=>(bj.mp hz').elim (hz z) fun h=>⟨k,hk,bu.mp h⟩,rfl,hp'⟩
 .rintro acc e ⟨zs,s,a,b,c,rfl,hl',hz,rfl,hp⟩;exact q zs s a b c hl' hz hp
theorem WK {zs:List Str} (h:∀z∈zs,∃k∈sg.cps.toList,z=⟨#[k]⟩):(zs.map (·.length)).sum=zs.length:=by
 induction zs with
 |nil=>rfl
 |cons z zs ih=>
  obtain⟨k,_,rfl⟩:=h z bh;rw[map_cons,List.sum_cons,length_cons,ih fun w hw=>h w (ba _ hw)];show 1+_=_;omega
theorem e0:(Str.ofString "").length=0:=by decide+kernel
def Nm (x:Str):Prop:=1<=x.length/\x.length<=12/\∀c∈x.cps.toList,c∈sg.cps.toList
theorem X8:∀{zs:List Str},(∀z∈zs,∃k∈sg.cps.toList,z=⟨#[k]⟩)->∀c∈(Txt.join (Str.ofString "") zs).cps.toList,c∈sg.cps.toList:=by
 intro zs;rw[eq_of_beq (PyProof.Rows.join_closes (sep:=Str.ofString "") (ys:=zs) rfl)]
 induction zs with
 |nil=>intro _ c hc;cases hc
 | cons z zs ih=>
  intro h c hc;obtain⟨k,hk,rfl⟩:=h z bh;cases zs with
  |nil=>
   have:c=k:=by simpa using(show c∈[k]from hc)
   rw[this];exact hk
  | cons y ys=>
   have hc:c∈((⟨#[k]⟩:Str)++Str.ofString ""++Str.join (Str.ofString "") (y::ys)).cps.toList:=hc;rw[Str.cps_append,Str.cps_append,Array.toList_append,Array.toList_append]at hc;rcases bj.mp hc with hc|hc
   .rcases bj.mp hc with hc|hc
    .have:c=k:=by simpa using hc
     rw[this];exact hk
    .rw[show(Str.ofString "").cps.toList=[] by decide+kernel]at hc;cases hc
   .exact ih (fun w hw=>h w (ba _ hw)) c hc
theorem HR {zs:List Str} (h:∀z∈zs,∃k∈sg.cps.toList,z=⟨#[k]⟩):(Txt.join (Str.ofString "") zs).length=zs.length:=by
 rw[eq_of_beq (PyProof.Rows.join_closes (sep:=Str.ofString "") (ys:=zs) rfl)]
 induction zs with
 |nil=>decide+kernel
 | cons z zs ih=>
  obtain⟨k,hk,rfl⟩:=h z bh;have ih:=ih fun w hw=>h w (ba _ hw)
  cases zs with
  |nil=>rfl
  |cons y ys=>
   show((⟨#[k]⟩:Str)++Str.ofString ""++Str.join (Str.ofString "") (y::ys)).length=_;have e:∀a b:Str,(a++b).length=a.length+b.length:=fun a b=>by show(a++b).cps.size=_;rw[Str.cps_append,Array.size_append];rfl
   rw[e,e,ih,e0];show 1+0+(y::ys).length=(y::ys).length+1;omega
theorem WM {zs:List Str} {Q:Bv->Prop} (h:∀z∈zs,∃k∈sg.cps.toList,z=⟨#[k]⟩) (h1:1<=zs.length) (hs:zs.length<=12) (q:∀x:Str,Nm x->Q (.val (.str x))):
  Wp (HC (.str (Str.ofString "")) [.lst (zs.map PV.str)]) Q:=by
 have l1:=WK h;unfold HC;simp only[qN,mD,b9,eQ,decide_eq_true_eq,e0];refine⟨by omega,q _ ⟨?_,?_,X8 h⟩⟩
 .rw[HR h];exact h1
 .rw[HR h];exact hs
theorem dY [DecidableEq α]:∀{l m:List α},l.Nodup->(∀x∈l,x∈m)->l.length<=m.length
 |[],m,_,_=>ic _
 |x::l,m,hn,h=>by
  have hx:=h x bh;rw[fq]at hn;have:=dY (l:=l) (m:=m.erase x) hn.2 fun y hy=>(List.mem_erase_of_ne (fun e:y=x=>hn.1 (by rw[<-e];exact hy))).mpr (h y (ba _ hy))
  rw[List.length_erase_of_mem hx]at this;have:0<m.length:=length_pos_of_mem hx;rw[length_cons];omega
noncomputable abbrev sN (k:Nat):Str:=toString (0+(k:Int))
theorem TX:((List.range 64).map sN).Nodup:=by decide+kernel
theorem WB (h:ss.length<63):∃k∈List.range (ss.length+1),sN k∉ss:=by
 refine cv fun no=>?_
 have all:∀x∈(List.range (ss.length+1)).map sN,x∈ss:=fun x hx=>by
  obtain⟨k,hk,rfl⟩:=bp.mp hx;exact cv fun z=>no ⟨k,hk,z⟩
 have nd:((List.range (ss.length+1)).map sN).Nodup:=by
  have e:List.range (ss.length+1)=(List.range 64).take (ss.length+1):=by rw[List.take_range];congr 1;omega
  rw[e,map_take];exact TX.sublist (List.take_sublist _ _)
 have:=dY nd all;rw[ag,cw]at this;omega
theorem afZ:∀k∈List.range 64,Nm (sN k):=by unfold Nm;decide+kernel
end
section
open PySem L2 Mr
theorem xJ:((ss.map PV.str).any fun z=>cN z (PV.str x))=decide (x∈ss):=by
 rw[Bool.eq_iff_iff,iq,decide_eq_true_eq];constructor
 .rintro⟨p,hp,e⟩;obtain⟨y,hy,rfl⟩:=bp.mp hp;rw[CW]at e;rw[<-eq_of_beq e];exact hy
 .intro h;exact⟨.str x,bp.mpr ⟨x,h,rfl⟩,by rw[CW];exact gj x⟩
theorem A1 (h:j<64):(0+(j:Int)).natAbs.log2<1920:=by
 rw[Int.zero_add,Int.natAbs_natCast];exact Nat.lt_of_le_of_lt (Nat.log2_le_self j) (by omega)
inductive IA (n:Nat) (m:Int) (i:Nat) (e:En):Prop
 |mk (ss:List Str) (a b c:Int) (v3 v4 v5:Option Sl) (h1:ss.length=i) (h2:(∀x∈ss,Nm x)) (h3:Hand a b c (n+13*i)) (h4:e=[some (.own (hd a b c)),some (.val (.int m)),some (.loc (.lst (ss.map PV.str))),v3,v4,v5])
theorem GL {a b c:Int} (h:Hand a b c n) (m0:0<=m) (m1:m<=60) (hn:n<100000)
  (q:∀(ss:List Str) a' b' c',(ss.length:Int)=m->(∀x∈ss,Nm x)->Hand a' b' c' (n+13*60)->Q (.lst (ss.map PV.str),[hd a' b' c'])):Wp (iJ [hd a b c,.int m]) Q:=by
 unfold iJ pH;walk_at "w";refine⟨jG (by omega) (by omega),?_⟩;refine cJ (IA n m) ?_ ?_ ⟨[],a,b,c,_,_,_,rfl,fun _ h=>(nomatch h),h,rfl⟩
 .rintro i x e hx ⟨ss,a,b,c,v3,v4,v5,hl,hs,hp,rfl⟩;rw[aq]at hx;obtain⟨k,hk,rfl⟩:=bf.mp hx;have hi:=(af.mp hk).1;rw[cw]at hi;walk_at "w";refine cI hp (by omega) (by decide) (by decide) fun d a1 b1 c1 d0 d1 hp=>?_
  walk_at "w";refine eU d0 d1 fun p hp'=>?_
  obtain⟨z,rfl,z0,z1⟩:∃z:Int,p= .int z/\1<=z/\z<=12:=by
   have r0:=kj (0+(k:Int)) (show(12:Int)≠0 by decide);have r1:=jk (0+(k:Int)) (show(0:Int)<12 by decide);simp only[bw,dv,or_false]at hp';rcases hp' with rfl|rfl|rfl|rfl|rfl|rfl
   .exact⟨_,rfl,by decide,by decide⟩
   .exact⟨_,rfl,by decide,by decide⟩
   .exact⟨_,rfl,by decide,by decide⟩
   .exact⟨_,rfl,by decide,by decide⟩
   .exact⟨_,rfl,by decide,by decide⟩
   .exact⟨_,rfl,by omega,by omega⟩
  clear d0 d1 hp';walk_at "w";refine⟨jG (by omega) (by omega),by omega,?_⟩;refine O3 hp (by rw[ag,cw];omega) fun zs s' a2 b2 c2 zl hz hp=>?_
  rw[ag,cw]at zl hp;walk_at "w";refine WM hz (by omega) (by omega) fun x hx=>?_
  clear zl hz;replace hp:=hp.mono (show _<=n+13*(i+1) by omega);clear z0 z1;walk_at "w";have ok8:(ss.map PV.str).all (i4 8)=true:=bg.mpr fun p hp=>by obtain⟨y,_,rfl⟩:=bp.mp hp;rfl
  have done:∀y:Str,Nm y->IA n m (i+1) [some (Sl.own (hd a2 b2 c2)),some (Sl.val (PV.int m)),some (Sl.loc (PV.lst (ss.map PV.str++[PV.str y]))),some (Sl.val (PV.int (0+(k:Int)))),some (Sl.val (PV.int z)),some (Sl.val (PV.str y))]:=fun y hy=>
   ⟨ss++[y],a2,b2,c2,_,_,_,by rw[br,hl];rfl,fun w hw=>(bj.mp hw).elim (hs w) fun e=>by rw[bu.mp e];exact hy,hp,by rw[cf];rfl⟩
  refine⟨ok8,fun g=>⟨jG (by omega) (by omega),by omega,?_⟩,fun g=>⟨by omega,done x hx⟩⟩;rw[show((ss.length:Int)+1).toNat=ss.length+1 by omega];refine c9 (fun j acc e=>acc=(((List.range j).filter fun k=>decide (sN k∉ss)).map fun k=>PV.str (sN k))/\∃s,e=[s,some (Sl.bor (PV.lst (ss.map PV.str)))]) ?_ ?_ ⟨rfl,_,rfl⟩
  .rintro j y e acc hy ⟨rfl,s1,rfl⟩;rw[aq]at hy;obtain⟨k',hk',rfl⟩:=bf.mp hy;have hj:=(af.mp hk').1;have ej:=(af.mp hk').2;rw[cw]at hj;rw[getElem_range]at ej;subst ej;walk_at "w";refine⟨A1 (by omega),ok8,?_⟩;rw[xJ];have er:(List.range (j+1)).filter (fun k=>decide (sN k∉ss))=(List.range j).filter (fun k=>decide (sN k∉ss))++(if sN j∉ss then [j]else []):=by
    rw[List.range_succ,List.filter_append];congr 1
    by_cases hm:sN j∉ss
    .rw[ao hm];simp[hm]
    .rw[ai hm];simp at hm;simp[hm]
   by_cases hm:sN j∈ss
   .rw[show decide (Str.ofString (toString (0+(j:Int)))∈ss)=true from decide_eq_true hm];refine⟨?_,_,rfl⟩;rw[er,ai (fun z=>z hm),df]
   .rw[show decide (Str.ofString (toString (0+(j:Int)))∈ss)=false from decide_eq_false hm];refine⟨A1 (by omega),?_,_,rfl⟩;rw[er,ao hm,cf];rfl
  .rintro acc e ⟨rfl,s1,rfl⟩;rw[ag,cw];obtain⟨k0,hk0,hf⟩:=WB (ss:=ss) (by omega);have hm:k0∈(List.range (ss.length+1)).filter fun k=>decide (sN k∉ss):=jl.mpr ⟨hk0,decide_eq_true hf⟩
   have sub:∀k∈(List.range (ss.length+1)).filter fun k=>decide (sN k∉ss),Nm (sN k):=fun k hk=>by
    have:=mem_range.mp (jl.mp hk).1;exact afZ k (mem_range.mpr (by omega))
   cases ef:(List.range (ss.length+1)).filter fun k=>decide (sN k∉ss)with
   |nil=>rw[ef]at hm;cases hm
   |cons k1 r=>
    have:=sub k1 (by rw[ef];exact bh);walk_at "w";exact⟨by omega,done _ this⟩
 .rintro e ⟨ss,a,b,c,v3,v4,v5,hl,hs,hp,rfl⟩;walk_at "w";rw[ag,cw]at hl;rw[ag,cw]at hp;exact q ss a b c (by omega) hs (hp.mono (by omega))
end
section
open PySem L2 Mr
structure CU where
 at':Int
 day:Int
 head:Str
 row:List Int
noncomputable def U3 (l:CU):PV:=.tup [.int l.at',.int l.day,.str l.head,.lst (l.row.map PV.int)]
structure IOk (m:Int) (l:CU):Prop where
 a0:0<=l.at'
 a1:l.at'<m
 r:∀x∈l.row,0<=x/\x<m
 n:l.row.length<=9
inductive IC (n:Nat) (m:Int) (i:Nat) (acc:List PV) (e:En):Prop
 |mk (zs:List Int) (s:Option Sl) (a b c:Int) (h1:acc=zs.map PV.int) (h2:zs.length=i) (h3:(∀z∈zs,0<=z/\z<m)) (h4:e=[s,some (.own (hd a b c)),some (.val (.int m))]) (h5:Hand a b c (n+i))
theorem WJ {a b c:Int} {s:Option Sl} {Q:List PV×En->Prop} (hp:Hand a b c n) (m0:0<m) (m1:m<=64) (hn:n+xs.length<1000000)
  (q:∀(zs:List Int) s' a' b' c',zs.length=xs.length->(∀z∈zs,0<=z/\z<m)->Hand a' b' c' (n+xs.length)->Q (zs.map PV.int,[s',some (.own (hd a' b' c')),some (.val (.int m))])):
  Wp (kR (aP 0) dC (bA [.m,.b] false aO (aB (aC 1) (aB (aC 2) aI))) xs [s,some (.own (hd a b c)),some (.val (.int m))]) Q:=by
 refine c9 (IC n m) ?_ ?_ ⟨[],s,a,b,c,rfl,rfl,fun _ h=>(nomatch h),rfl,hp⟩
 .rintro i x e acc hx ⟨zs,s,a,b,c,rfl,hl',hz,rfl,hp⟩;have hi:=(af.mp hx).1;walk_at "w";refine cI hp (by omega) m0 (by omega) fun d a' b' c' d0 d1 hp'=>?_
  walk_at "w";exact⟨zs++[d],_,a',b',c',by rw[cf];rfl,by rw[br,hl'];rfl,fun z hz'=>(bj.mp hz').elim (hz z) fun h=>by rw[bu.mp h];exact⟨d0,d1⟩,rfl,hp'⟩
 .rintro acc e ⟨zs,s,a,b,c,rfl,hl',hz,rfl,hp⟩;exact q zs s a b c hl' hz hp
noncomputable def i8:FS:=(cV (dD (aB (aC 2) (aB (bC cX (gF (aB (aC 4) (aB (bC Mr.AO (fC (.int 99999999)) (aC 4)) aI))) (jE A5 (aB (bC MH (aC 3) (fC (.int 2))) aI))) (aB (bC cX (gF (aB (fC (.str "")) (aB (fC (.str "walls")) (aB (fC (.str "Re: walls")) aI)))) (bA [.m,.b] false aO (aB (aC 0) (aB (fC (.int 3)) aI)))) (aB (aC 5) aI))))))
theorem zK:oR=(aR (bW 2 (bA [.m,.b] false aO (aB (aC 0) (aB (aC 1) aI))))
  (aR (bW 3 (bA [.m,.b] false aO (aB (aC 0) (aB (fC (.int 4)) aI))))
  (aR (bW 4 (bA [.m,.b] false aO (aB (aC 0) (aB (bC cX (gF (aB (fC (.int 1)) (aB (fC (.int 3)) (aB (fC (.int 2)) (aB (fC (.int 100000000)) aI))))) (aC 3)) aI))))
  (aR (bW 5 (dZ (wZ (aB (bC cX (gF (aB (fC (.int 0)) (aB (fC (.int 1)) (aB (fC (.int 1)) (aB (fC (.int 2)) (aB (fC (.int 3)) (aB (fC (.int 9)) aI))))))) (bA [.m,.b] false aO (aB (aC 0) (aB (fC (.int 6)) aI)))) aI)) 1 [0,1] [(0,1)] (aP 0) dC (bA [.m,.b] false aO (aB (aC 1) (aB (aC 2) aI)))))
  (aR (wD (bH (bC MH (bA [.m,.b] false aO (aB (aC 0) (aB (fC (.int 4)) aI))) (fC (.int 0)))) (bW 5 (bC j0 (NS OI (aC 5) eY (mQ (fC (.int 8)))) (gF (aB (bC qK (bC j0 (aC 2) (fC (.int 1))) (aC 1)) aI)))) dF)
  i8))))):=rfl
theorem yB (xs:List PV) (k:Nat):DF xs none (some (k:Int))=xs.take k:=by
 unfold DF;rw[HT.HI,HT.LW,drop_zero,Nat.sub_zero]
 by_cases h:k<=xs.length
 .rw[Nat.min_eq_left h]
 .rw[Nat.min_eq_right (by omega),take_of_length_le (bc _),take_of_length_le (by omega)]
theorem mC (xs:List PV) (k:Nat):DF xs (some (k:Int)) none=xs.drop k:=by
 unfold DF;rw[HT.HI,HT.LW]
 by_cases h:k<=xs.length
 .rw[Nat.min_eq_left h,take_of_length_le (by rw[fy];exact bc _)]
 .rw[Nat.min_eq_right (by omega),List.drop_of_length_le (bc _),List.drop_of_length_le (by omega),List.take_nil]
theorem aiA (zs:List Int):DF (zs.map PV.int) none (some 8)=(zs.take 8).map PV.int:=by
 have:=yB (zs.map PV.int) 8;rw[map_take];exact this
theorem wF {kind day:Int} {zs:List Int} {Q:Out->Prop} (h:Hand a b c n) (hn:n<100100) (a0:0<=at') (a1:at'<m) (hz:∀z∈zs,0<=z/\z<m) (zl:zs.length<=9)
  (q:∀l a' b' c' v1 v2 v3 v4 v5,IOk m l->Hand a' b' c' (n+1)->Q (.rt (.val (U3 l)) [some (.own (hd a' b' c')),v1,v2,v3,v4,v5])):
  Wp (i8 [some (.own (hd a b c)),some (.val (.int m)),some (.val (.int at')),some (.val (.int kind)),some (.val (.int day)),some (.val (.lst (zs.map PV.int)))]) Q:=by
 unfold i8;walk_at "w";refine eU (by split<;>decide) (by simp only[length_cons,length_nil];split<;>decide) fun p hp'=>?_
 obtain⟨z,rfl⟩:∃z:Int,p= .int z:=by
  simp only[bw,dv,or_false]at hp';rcases hp' with rfl|rfl<;>exact⟨_,rfl⟩
 walk_at "w";refine cI h (by omega) (by decide) (by decide) fun e a6 b6 c6 e0 e1 hp=>?_
 walk_at "w";refine eU e0 e1 fun p hp'=>?_
 obtain⟨x,rfl⟩:∃z:Str,p= .str z:=by
  simp only[bw,dv,or_false]at hp';rcases hp' with rfl|rfl|rfl<;>exact⟨_,rfl⟩
 walk_at "w";exact q ⟨at',z,x,zs⟩ _ _ _ _ _ _ _ _ ⟨a0,a1,hz,zl⟩ hp
theorem CC (h:Hand a b c n) (m0:0<m) (m1:m<=64) (hn:n<100000)
  (q:∀l a' b' c',IOk m l->Hand a' b' c' (n+20)->Q (U3 l,[hd a' b' c'])):Wp (dS [hd a b c,.int m]) Q:=by
 unfold dS;rw[zK];walk_at "w";refine cI h (by omega) m0 (by omega) fun at' a1 b1 c1 at0 at1 hp=>?_
 walk_at "w";refine cI hp (by omega) (by decide) (by decide) fun kind a2 b2 c2 k0 k1 hp=>?_
 walk_at "w";refine eU k0 k1 fun p hp'=>?_
 obtain⟨z,rfl,z0,z1⟩:∃z:Int,p= .int z/\0<z/\z<=100000000:=by
  simp only[bw,dv,or_false]at hp';rcases hp' with rfl|rfl|rfl|rfl<;>exact⟨_,rfl,by decide,by decide⟩
 clear k0 k1 hp';walk_at "w";refine cI hp (by omega) z0 (by omega) fun day a3 b3 c3 dy0 dy1 hp=>?_
 clear z0 z1 dy0 dy1;walk_at "w";refine cI hp (by omega) (by decide) (by decide) fun d a4 b4 c4 d0 d1 hp=>?_
 walk_at "w";refine eU d0 d1 fun p hp'=>?_
 obtain⟨w,rfl,w0,w1⟩:∃z:Int,p= .int z/\0<=z/\z<=9:=by
  simp only[bw,dv,or_false]at hp';rcases hp' with rfl|rfl|rfl|rfl|rfl|rfl<;>exact⟨_,rfl,by decide,by decide⟩
 clear d0 d1 hp';walk_at "w";refine⟨jG (by omega) (by omega),by omega,?_⟩;refine WJ hp m0 m1 (by rw[ag,cw];omega) fun zs s' a5 b5 c5 zl hz hp=>?_
 rw[ag,cw]at zl hp;replace hp:=hp.mono (show _<=n+13 by omega);replace zl:zs.length<=9:=by omega
 clear w0 w1;walk_at "w";refine cI hp (by omega) (by decide) (by decide) fun e a6 b6 c6 e0 e1 hp=>?_
 clear e0 e1;walk_at "w";have r0:=kj (at'+1) (show m≠0 by omega);have r1:=jk (at'+1) m0;rw[aiA];have l8:(zs.take 8).length<=8:=by rw[gy];omega
 refine⟨fun _=>⟨m0,by rw[ag];omega,?_⟩,fun _=>?_⟩
 .have ee:(zs.take 8).map PV.int++[PV.int ((at'+1) % m)]=((zs.take 8)++[(at'+1) % m]).map PV.int:=by rw[cf];rfl
  rw[ee];refine wF hp (by omega) at0 at1 (fun z hz'=>?_) (by rw[br];simp;omega) fun l a' b' c' v1 v2 v3 v4 v5 hl hp=>?_
  .rcases bj.mp hz' with g|g
   .exact hz z (gi g)
   .rw[bu.mp g];exact⟨r0,r1⟩
  .walk_at "w";exact q l a' b' c' hl (hp.mono (by omega))
 .refine wF hp (by omega) at0 at1 hz (by omega) fun l a' b' c' v1 v2 v3 v4 v5 hl hp=>?_
  walk_at "w";exact q l a' b' c' hl (hp.mono (by omega))
end
section
open PySem L2 Mr
inductive IE (n:Nat) (m:Int) (i:Nat) (acc:List PV) (e:En):Prop
 |mk (zs:List CU) (s:Option Sl) (a b c:Int) (h1:acc=zs.map U3) (h2:zs.length=i) (h3:(∀z∈zs,IOk m z)) (h4:e=[s,some (.own (hd a b c)),some (.val (.int m))]) (h5:Hand a b c (n+20*i))
theorem X7 {a b c:Int} {s:Option Sl} {Q:List PV×En->Prop} (hp:Hand a b c n) (m0:0<m) (m1:m<=64) (hn:n+20*xs.length<100000)
  (q:∀(zs:List CU) s' a' b' c',zs.length=xs.length->(∀z∈zs,IOk m z)->Hand a' b' c' (n+20*xs.length)->Q (zs.map U3,[s',some (.own (hd a' b' c')),some (.val (.int m))])):
  Wp (kR (aP 0) dC (bA [.m,.b] false dS (aB (aC 1) (aB (aC 2) aI))) xs [s,some (.own (hd a b c)),some (.val (.int m))]) Q:=by
 refine c9 (IE n m) ?_ ?_ ⟨[],s,a,b,c,rfl,rfl,fun _ h=>(nomatch h),rfl,hp⟩
 .rintro i x e acc hx ⟨zs,s,a,b,c,rfl,hl',hz,rfl,hp⟩;have hi:=(af.mp hx).1;walk_at "w";refine CC hp m0 m1 (by omega) fun l a' b' c' hl hp'=>?_
  walk_at "w";exact⟨zs++[l],_,a',b',c',by rw[cf];rfl,by rw[br,hl'];rfl,fun z hz'=>(bj.mp hz').elim (hz z) fun h=>by rw[bu.mp h];exact hl,rfl,hp'.mono (by omega)⟩
 .rintro acc e ⟨zs,s,a,b,c,rfl,hl',hz,rfl,hp⟩;exact q zs s a b c hl' hz hp
inductive ID (ns:List Int) (zs:List CU) (m a2 b2 c2:Int) (i:Nat) (e:En):Prop
 |mk (ys:List CU) (v4:Option Sl) (h1:ys.length=zs.length+i) (h2:(∀z∈ys,IOk m z)) (h3:e=[some (Sl.bor (PV.lst (ns.map PV.int))),some (Sl.own (hd a2 b2 c2)),some (Sl.val (PV.int m)),some (Sl.loc (PV.lst (ys.map U3))),v4])
theorem IW {ns:List Int} (hns:ns.length<=63) (h:Hand a b c n) (m0:0<m) (m1:m<=64) (hn:n<50000)
  (q:∀(zs:List CU) a' b' c',zs.length<=51->(∀z∈zs,IOk m z)->Hand a' b' c' (n+300)->Q (.lst (zs.map U3),[hd a' b' c'])):Wp (fU [.lst (ns.map PV.int),hd a b c,.int m]) Q:=by
 unfold fU lD;walk_at "w";refine cI h (by omega) (by decide) (by decide) fun d a1 b1 c1 d0 d1 hp=>?_
 walk_at "w";refine⟨jG (by omega) (by omega),by omega,?_⟩;refine X7 hp m0 m1 (by rw[ag,cw];omega) fun zs s' a2 b2 c2 zl hz hp=>?_
 rw[ag,cw]at zl hp;replace hp:=hp.mono (show _<=n+300 by omega);replace zl:zs.length<=12:=by omega
 clear d0 d1;walk_at "w";have hm1:(if(40:Int)<(ns.length:Int)then(40:Int)else(ns.length:Int))<=40:=by split<;>omega
 have hm0:0<=(if(40:Int)<(ns.length:Int)then(40:Int)else(ns.length:Int)):=by split<;>omega
 refine⟨⟨jG (by decide) (by decide),jG (by omega) (by omega)⟩,?_⟩;generalize(if(40:Int)<(ns.length:Int)then(40:Int)else(ns.length:Int))=N at hm0 hm1;refine cJ (ID ns zs m a2 b2 c2) ?_ ?_ ⟨zs,_,rfl,hz,rfl⟩
 .rintro i x e hx ⟨ys,v4,yl,hy,rfl⟩;rw[aq]at hx;obtain⟨k,hk,rfl⟩:=bf.mp hx;have hi:=(af.mp hk).1;have ek:=(af.mp hk).2;rw[cw]at hi;rw[getElem_range]at ek;walk_at "w";refine MK (by omega) (by omega) hns fun a3 b3 hh=>?_
  walk_at "w";refine CC hh m0 m1 (by omega) fun l a' b' c' hl _=>?_
  walk_at "w";refine⟨by omega,ys++[l],_,by rw[br,yl];simp;omega,fun z hz'=>(bj.mp hz').elim (hy z) fun h=>by rw[bu.mp h];exact hl,by rw[cf];rfl⟩
 .rintro e ⟨ys,v4,yl,hy,rfl⟩;rw[ag,cw]at yl;walk_at "w";exact q ys _ _ _ (by omega) hy hp
end
section
open PySem L2 Mr
structure Let where
 name:Str
 day:Int
 head:Str
 row:List Str
 deriving DecidableEq
noncomputable def lP (l:Let):PV:=.tup [.str l.name,.int l.day,.str l.head,.tup (l.row.map PV.str)]
theorem hZ (ss:List Str) (n:Nat):(ss.map PV.str).all (i4 n)=true:=bg.mpr fun p hp=>by obtain⟨y,_,rfl⟩:=bp.mp hp;cases n<;>rfl
theorem DL (ss:List Str) (n:Nat):(ss.map PV.str).all (rJ n)=true:=bg.mpr fun p hp=>by obtain⟨y,_,rfl⟩:=bp.mp hp;cases n<;>rfl
theorem af8 (l:Let):i4 8 (lP l)=true:=by
 show([PV.str l.name,PV.int l.day,PV.str l.head,PV.tup (l.row.map PV.str)].all (i4 7))=true;simp only[all_cons,all_nil,i4,hZ,Bool.and_true]
theorem af3 (l:Let):rJ 3 (lP l)=true:=by
 show([PV.str l.name,PV.int l.day,PV.str l.head,PV.tup (l.row.map PV.str)].all (rJ 2))=true;simp only[all_cons,all_nil,rJ,DL,Bool.and_true]
theorem lF (n:Nat):∀xs ys:List Str,(eE (tO n) (xs.map PV.str) (ys.map PV.str)).isSome=true
 |[],[]=>rfl
 |[],_::_=>rfl
 |_::_,[]=>rfl
 |x::xs,y::ys=>by
  rw[map_cons,map_cons];unfold eE;split
  .exact lF n xs ys
  .cases n<;>rfl
theorem afA (l k:Let):(tO 3 (lP l) (lP k)).isSome=true:=by
 show(eE (tO 2) [PV.str l.name,PV.int l.day,PV.str l.head,PV.tup (l.row.map PV.str)] [PV.str k.name,PV.int k.day,PV.str k.head,PV.tup (k.row.map PV.str)]).isSome=true;unfold eE;split
 .unfold eE;split
  .unfold eE;split
   .unfold eE;split
    .rfl
    .exact lF 1 _ _
   .rfl
  .rfl
 .rfl
theorem RS (ls:List Let):cW 3 (ls.map lP)=true:=bg.mpr fun p hp=>by
 obtain⟨l,_,rfl⟩:=bp.mp hp;rw[cj];refine⟨af3 l,bg.mpr fun q hq=>?_⟩;obtain⟨k,_,rfl⟩:=bp.mp hq;exact afA l k
theorem PH (ls:List Let):(ls.map lP).all (pJ true)=true:=bg.mpr fun p hp=>by obtain⟨l,_,rfl⟩:=bp.mp hp;rfl
theorem HK {ps:List PV} (h:ps.Perm (ls.map lP)):∃ks:List Let,ks.Perm ls/\ps=ks.map lP:=by
 have key:∀(ps:List PV) (ls:List Let),ps.Perm (ls.map lP)->∃ks:List Let,ks.Perm ls/\ps=ks.map lP:=by
  intro ps
  induction ps with
  |nil=>intro ls h;have:=h.nil_eq;rw[List.eq_nil_of_map_eq_nil this.symm];exact⟨[],.refl _,rfl⟩
  |cons p ps ih=>
   intro ls h;obtain⟨l,hl,e⟩:=bp.mp (h.mem_iff.mp bh);subst e;have h2:(lP l::ps).Perm ((l::ls.erase l).map lP):=h.trans ((perm_cons_erase hl).map lP);obtain⟨ks,k1,k2⟩:=ih _ (h2.cons_inv);exact⟨l::ks,(k1.cons l).trans (perm_cons_erase hl).symm,by rw[k2];rfl⟩
 exact key ps ls h
theorem vG {ls:List Let} {Q:Bv->Prop} (h:ls.length<64) (q:∀ks:List Let,ks.Perm ls->(ks.map lP).Pairwise (fun a b=>o4 3 a b=true)->Q (.new (.lst (ks.map lP)))):Wp (fM [.lst (ls.map lP)]) Q:=by
 cases ls with
 |nil=>exact⟨_,rfl,by rw[show eB []=[] by unfold eB;simp];exact q [] (.refl _) .nil⟩
 | cons l ls=>
  have e1:zR [.lst ((l::ls).map lP)]=none:=rfl;have e2:sC [.lst ((l::ls).map lP)]=none:=rfl;unfold fM;rw[e1,e2,none_or,none_or];unfold zG;simp only[eQ,b9];refine⟨?_,?_⟩
  .rw[PH,RS,ag,decide_eq_true h];rfl
  .obtain⟨ks,k1,k2⟩:=HK (dI 3 ((l::ls).map lP));have:=iR 3 ((l::ls).map lP);rw[k2]at this⊢
   exact q ks k1 this
end
section
open PySem L2 Mr
inductive IG (ss:List Str) (i:Nat) (acc:List PV) (e:En):Prop
 |mk (zs:List Str) (s:Option Sl) (h1:acc=zs.map PV.str) (h2:zs.length=i) (h3:(∀z∈zs,z∈ss)) (h4:e=[s,some (Sl.bor (PV.lst (ss.map PV.str)))])
theorem PJ {rs:List Int} {s:Option Sl} {Q:List PV×En->Prop} (hm:(ss.length:Int)=m) (hr:∀x∈rs,0<=x/\x<m)
  (q:∀(zs:List Str) s',zs.length=rs.length->(∀z∈zs,z∈ss)->Q (zs.map PV.str,[s',some (Sl.bor (PV.lst (ss.map PV.str)))])):
  Wp (kR (aP 0) dC (bC cX (aC 1) (aC 0)) (rs.map PV.int) [s,some (Sl.bor (PV.lst (ss.map PV.str)))]) Q:=by
 refine c9 (IG ss) ?_ ?_ ⟨[],s,rfl,rfl,fun _ h=>(nomatch h),rfl⟩
 .rintro i x e acc hx ⟨zs,s,rfl,hl,hz,rfl⟩;rw[aq]at hx;obtain⟨k,hk,rfl⟩:=bf.mp hx;obtain⟨k0,k1⟩:=hr k (ay hk);walk_at "w";refine eU k0 (by rw[ag];omega) fun p hp=>?_
  obtain⟨y,hy,rfl⟩:=bp.mp hp;walk_at "w";exact⟨zs++[y],_,by rw[cf];rfl,by rw[br,hl];rfl,fun z hz'=>(bj.mp hz').elim (hz z) fun h=>by rw[bu.mp h];exact hy,rfl⟩
 .rintro acc e ⟨zs,s,rfl,hl,hz,rfl⟩;rw[ag]at hl;exact q zs s hl hz
inductive IF (zs:List CU) (ss:List Str) (i:Nat) (e:En):Prop
 |mk (ls:List Let) (v3 v4 v5 v6 v7:Option Sl) (h1:ls.length<=i) (h2:(∀l∈ls,l.row.length<=9/\l.name∈ss/\∀x∈l.row,x∈ss)) (h3:e=[some (Sl.bor (PV.lst (zs.map U3))),some (Sl.bor (PV.lst (ss.map PV.str))),some (Sl.loc (PV.lst (ls.map lP))),v3,v4,v5,v6,v7])
theorem V4 {zs:List CU} (hm:(ss.length:Int)=m) (hz:∀z∈zs,IOk m z) (hl:zs.length<=60)
  (q:∀ls:List Let,ls.length<=zs.length->(ls.map lP).Pairwise (fun a b=>o4 3 a b=true)->(∀l∈ls,l.row.length<=9/\l.name∈ss/\∀x∈l.row,x∈ss)->Q (.tup (ls.map lP),[])):Wp (kG [.lst (zs.map U3),.lst (ss.map PV.str)]) Q:=by
 unfold kG rN;walk_at "w";refine cJ (IF zs ss) ?_ ?_ ⟨[],_,_,_,_,_,bc _,fun _ h=>(nomatch h),rfl⟩
 .rintro i x e hx ⟨ls,v3,v4,v5,v6,v7,ll,hls,rfl⟩;rw[aq]at hx;obtain⟨z,hk,rfl⟩:=bf.mp hx;have hi:=(af.mp hk).1;have ok:=hz z (ay hk);rw[show U3 z=PV.tup [PV.int z.at',PV.int z.day,PV.str z.head,PV.lst (z.row.map PV.int)]from rfl];walk_at "w";refine eU ok.a0 (by rw[ag,hm];exact ok.a1) fun p hp=>?_
  obtain⟨y,hy,rfl⟩:=bp.mp hp;walk_at "w";have hn:=ok.n;refine⟨by omega,PJ hm ok.r fun xs s' xl hxs=>?_⟩;walk_at "w";have hnew:Let:=⟨y,z.day,z.head,xs⟩;refine⟨⟨hZ xs 6,bg.mpr fun p hp=>by obtain⟨l,_,rfl⟩:=bp.mp hp;exact af8 l⟩,fun _=>⟨by omega,ls++[⟨y,z.day,z.head,xs⟩],_,_,_,_,_,by rw[br];simp;omega,fun l hl'=>?_,by rw[cf];rfl⟩,fun _=>⟨ls,_,_,_,_,_,by omega,hls,rfl⟩⟩;rcases bj.mp hl' with g|g
  .exact hls l g
  .rw[bu.mp g];exact⟨by rw[show(Let.mk y z.day z.head xs).row=xs from rfl,xl];exact hn,hy,hxs⟩
 .rintro e ⟨ls,v3,v4,v5,v6,v7,ll,hls,rfl⟩;rw[ag]at ll;walk_at "w";refine vG (by omega) fun ks k1 k2=>?_
  walk_at "w";exact q ks (by rw[k1.length_eq];exact ll) k2 fun l h=>hls l (k1.mem_iff.mp h)
end
section
open PySem L2 Mr
noncomputable section
def oZ (acc:List Let) (l:Let):List Let:=if(acc.any fun k=>decide (k.name=l.name))=true then acc else acc++[l]
def st (qs:List Let):List Let:=qs.foldl oZ []
def NO (acc:List Let):List (Key×PV):=acc.map fun l=>(Sum.inr l.name,lP l)
end
theorem LO (acc:List Let) (x:Str):(cG (NO acc) (Sum.inr x)).isSome=acc.any fun k=>decide (k.name=x):=by
 unfold cG NO
 induction acc with
 |nil=>rfl
 | cons l acc ih=>
  rw[map_cons,find?_cons,any_cons]
  by_cases h:l.name=x
  .subst h;simp
  .have h':¬(Sum.inr l.name:Key)=Sum.inr x:=fun z=>h (Sum.inr.inj z)
   rw[decide_eq_false h',decide_eq_false h,Bool.false_or];exact ih
theorem LD {acc:List Let} {l:Let} (h:(acc.any fun k=>decide (k.name=l.name))=false):eG (NO acc) (Sum.inr l.name) (lP l)=NO (acc++[l]):=by
 unfold eG;have e:((NO acc).any fun kv=>decide (kv.1=Sum.inr l.name))=false:=by
  rw[<-h];unfold NO;rw[any_map];congr 1;funext k;simp
 rw[e,ai ax];unfold NO;rw[cf];rfl
theorem ME (qs:List Let) (i:Nat) (l:Let) (h:qs[i]? =some l):st (qs.take (i+1))=oZ (st (qs.take i)) l:=by
 unfold st;rw[take_succ,h,toList_some,foldl_append];rfl
theorem vD (qs:List Let):(st qs).length<=qs.length:=by
 have key:∀(l k:List Let),(l.foldl oZ k).length<=k.length+l.length:=by
  intro l
  induction l with
  |nil=>intro k;exact bc _
  | cons x l ih=>
   intro k;have:=ih (oZ k x);have h:(oZ k x).length<=k.length+1:=by
    unfold oZ;split
    .omega
    .rw[br];exact bc _
   rw[foldl_cons,length_cons];omega
 have:=key qs [];simpa [st]using this
theorem sG {l:Let} (h:l∈st qs):l∈qs:=by
 have key:∀(xs k:List Let),l∈xs.foldl oZ k->l∈k\/ l∈xs:=by
  intro xs
  induction xs with
  |nil=>intro k h;exact .inl h
  | cons x xs ih=>
   intro k h;rcases ih _ h with g|g
   .unfold oZ at g;split at g
    .exact .inl g
    .rcases bj.mp g with g|g
     .exact .inl g
     .exact .inr (by rw[bu.mp g];exact bh)
   .exact .inr (ba _ g)
 exact(key qs [] h).resolve_left (fun z=>nomatch z)
theorem HJ (acc:List Let):(NO acc).map (·.2)=acc.map lP:=by unfold NO;rw[iz];rfl
theorem kK {qs:List Let} (hl:qs.length<=100) (q:Q (.tup ((st qs).map lP),[])):Wp (eM [.tup (qs.map lP)]) Q:=by
 unfold eM rR;walk_at "w";refine cJ (fun i e=>∃v2,e=[some (Sl.val (PV.tup (qs.map lP))),some (Sl.loc (PV.aZ (NO (st (qs.take i))))),v2]) ?_ ?_ ⟨_,rfl⟩
 .rintro i x e hx ⟨v2,rfl⟩;rw[aq]at hx;obtain⟨l,hk,rfl⟩:=bf.mp hx;have hi:=(af.mp hk).1;have hs:=ME qs i l hk;have hlen:=vD (qs.take i);rw[gy]at hlen;rw[show lP l=PV.tup [PV.str l.name,PV.int l.day,PV.str l.head,PV.tup (l.row.map PV.str)]from rfl];walk_at "w";rw[LO];rw[hs];unfold oZ;cases g:(st (qs.take i)).any fun k=>decide (k.name=l.name)with
  |true=>exact⟨fun z=>(by cases z),fun _=>⟨_,by rw[ao rfl]⟩⟩
  |false=>
   refine⟨fun _=>⟨by unfold NO;rw[ag];omega,some (Sl.val (lP l)),?_⟩,fun z=>(by cases z)⟩;rw[ai ax];have:=LD g;rw[<-this];rfl
 .rintro e ⟨v2,rfl⟩;rw[ag,de];walk_at "w";rw[HJ];exact q
theorem tW {qs:List Let} (hl:qs.length<=100) (q:Q (.lst ((st qs).map lP),[])):Wp (dO [.tup (qs.map lP)]) Q:=by
 unfold dO i7;walk_at "w";refine cJ (fun i e=>∃v2,e=[some (Sl.val (PV.tup (qs.map lP))),some (Sl.loc (PV.aZ (NO (st (qs.take i))))),v2]) ?_ ?_ ⟨_,rfl⟩
 .rintro i x e hx ⟨v2,rfl⟩;rw[aq]at hx;obtain⟨l,hk,rfl⟩:=bf.mp hx;have hi:=(af.mp hk).1;have hs:=ME qs i l hk;have hlen:=vD (qs.take i);rw[gy]at hlen;rw[show lP l=PV.tup [PV.str l.name,PV.int l.day,PV.str l.head,PV.tup (l.row.map PV.str)]from rfl];walk_at "w";rw[LO];rw[hs];unfold oZ;cases g:(st (qs.take i)).any fun k=>decide (k.name=l.name)with
  |true=>exact⟨fun z=>(by cases z),fun _=>⟨_,by rw[ao rfl]⟩⟩
  |false=>
   refine⟨fun _=>⟨by unfold NO;rw[ag];omega,some (Sl.val (lP l)),?_⟩,fun z=>(by cases z)⟩;rw[ai ax];have:=LD g;rw[<-this];rfl
 .rintro e ⟨v2,rfl⟩;rw[ag,de];walk_at "w";rw[HJ];exact q
noncomputable def L9 (own:Str) (row:List Str) (k:Nat):List Str:=(List.range k).filterMap fun i=>(row[i]?).bind fun x=>if x≠own/\x∉row.drop (i+1)then some x else none
noncomputable def el (l:Let):List Str:=L9 l.name l.row l.row.length
theorem y4 {own:Str} {row:List Str} (h:row[i]? =some x):L9 own row (i+1)=L9 own row i++(if x≠own/\x∉row.drop (i+1)then [x]else []):=by
 unfold L9;rw[List.range_succ,List.filterMap_append];congr 1;rw[filterMap_cons,h,bind_some];split
 .rename_i e;split at e
  .cases e
  .rename_i g;rw[ai g];rfl
 .rename_i e;split at e
  .rename_i g;cases e;rw[ao g];rfl
  .cases e
theorem vN {l:Let} (hl:l.row.length<=9) (q:Q (.tup ((el l).map PV.str),[])):Wp (i5 [lP l]) Q:=by
 unfold i5 yM;rw[show lP l=PV.tup [PV.str l.name,PV.int l.day,PV.str l.head,PV.tup (l.row.map PV.str)]from rfl];walk_at "w";refine⟨by rw[ji,ag];omega,?_⟩;refine c9 (fun i acc e=>acc=(L9 l.name l.row i).map PV.str/\∃v0 v1,e=[v0,v1,some (Sl.val (PV.str l.name)),some (Sl.val (PV.tup (l.row.map PV.str)))]) ?_ ?_ ⟨rfl,_,_,rfl⟩
 .rintro i x e acc hx ⟨rfl,v0,v1,rfl⟩;rw[aq,ik,aq,Option.map_map,Option.map_map]at hx;obtain⟨y,hy,rfl⟩:=bf.mp hx;have hi:=(af.mp hy).1;have hs:=y4 (own:=l.name) hy;simp only[Function.comp_apply];walk_at "w";rw[show(((0+i:Nat):Int)+1)=((i+1:Nat):Int) by omega,mC,<-map_drop,xJ,hs];have ok8:=hZ (l.row.drop (i+1)) 8
  by_cases h1:y=l.name
  .refine⟨fun z=>absurd z (by simp[h1]),fun _=>⟨?_,_,_,rfl⟩⟩;rw[ai (fun z=>z.1 h1),df]
  .refine⟨fun _=>⟨ok8,?_⟩,fun z=>absurd z (by simp[h1])⟩
   by_cases h2:y∈l.row.drop (i+1)
   .rw[decide_eq_true h2];refine⟨?_,_,_,rfl⟩;rw[ai (fun z=>z.2 h2),df]
   .rw[decide_eq_false h2];refine⟨?_,_,_,rfl⟩;rw[ao ⟨h1,h2⟩,cf];rfl
 .rintro acc e ⟨rfl,v0,v1,rfl⟩;rw[ag,ji,ag];walk_at "w";exact q
theorem L0 {l:Let} (hl:l.row.length<=9) (q:Q (.lst ((el l).map PV.str),[])):Wp (jV [lP l]) Q:=by
 unfold jV vP;rw[show lP l=PV.tup [PV.str l.name,PV.int l.day,PV.str l.head,PV.tup (l.row.map PV.str)]from rfl];walk_at "w";refine⟨jG (by omega) (by omega),by omega,?_⟩;rw[toNat_natCast];refine c9 (fun i acc e=>acc=(L9 l.name l.row i).map PV.str/\∃v0,e=[v0,some (Sl.val (PV.tup (l.row.map PV.str))),some (Sl.val (PV.tup [PV.str l.name,PV.int l.day,PV.str l.head,PV.tup (l.row.map PV.str)]))]) ?_ ?_ ⟨rfl,_,rfl⟩
 .rintro i x e acc hx ⟨rfl,v0,rfl⟩;rw[aq]at hx;obtain⟨k,hk,rfl⟩:=bf.mp hx;have hi:=(af.mp hk).1;have ek:=(af.mp hk).2;rw[cw]at hi;rw[getElem_range]at ek;subst ek;have hy:l.row[i]? =some l.row[i]:=aj hi;have hs:=y4 (own:=l.name) hy;generalize l.row[i]=y at hy hs;have ea:rK (l.row.map PV.str) (0+(i:Int))=some (.str y):=by rw[Int.zero_add];exact iP (by rw[aq,hy];rfl)
  walk_at "w";rw[ea];walk_at "w";have ok8:=hZ (l.row.drop (i+1)) 8
  by_cases h1:y=l.name
  .refine⟨fun z=>absurd z (by simp[h1]),fun _=>⟨?_,_,rfl⟩⟩;rw[hs,ai (fun z=>z.1 h1),df]
  .refine⟨fun _=>?_,fun z=>absurd z (by simp[h1])⟩;rw[ea];walk_at "w";rw[show(0+(i:Int)+1)=((i+1:Nat):Int) by omega,mC,<-map_drop,xJ,hs];refine⟨ok8,?_⟩
   by_cases h2:y∈l.row.drop (i+1)
   .rw[decide_eq_true h2];refine⟨?_,_,rfl⟩;rw[ai (fun z=>z.2 h2),df]
   .rw[decide_eq_false h2];simp only[Bool.not_false];rw[ea];walk_at "w";refine⟨?_,_,rfl⟩;rw[ao ⟨h1,h2⟩,cf];rfl
 .rintro acc e ⟨rfl,v0,rfl⟩;rw[ag,cw];walk_at "w";exact q
end
section
open PySem L2 Mr
noncomputable def oP:Option Str->PV
 |none=>.bG
 |some x=>.str x
abbrev Hl:=List (Str×Option Str)
noncomputable def o7 (hs:Hl):List (Key×PV):=hs.map fun z=>(Sum.inr z.1,oP z.2)
theorem D3 (hs:Hl) (x:Str):(cG (o7 hs) (Sum.inr x)=none/\x∉hs.map (·.1))\/ ∃o,cG (o7 hs) (Sum.inr x)=some (oP o)/\(x,o)∈hs:=by
 unfold cG o7
 induction hs with
 |nil=>exact .inl ⟨rfl,fun h=>nomatch h⟩
 | cons z hs ih=>
  rw[map_cons,find?_cons]
  by_cases h:z.1=x
  .right;subst h;exact⟨z.2,by simp,bh⟩
  .have h':¬(Sum.inr z.1:Key)=Sum.inr x:=fun e=>h (Sum.inr.inj e)
   rw[decide_eq_false h'];rcases ih with⟨a,b⟩|⟨o,a,b⟩
   .exact .inl ⟨a,fun e=>by rcases bw.mp e with e|e;exact h e.symm;exact b e⟩
   .exact .inr ⟨o,a,ba _ b⟩
theorem CO (h:x∉hs.map (·.1)):eG (o7 hs) (Sum.inr x) (oP o)=o7 (hs++[(x,o)]):=by
 unfold eG;have e:((o7 hs).any fun kv=>decide (kv.1=Sum.inr x))=false:=by
  unfold o7;rw[any_map,jt];intro z hz;have:z.1≠x:=fun e=>h (bp.mpr ⟨z,hz,e⟩)
  simp[this]
 rw[e,ai ax];unfold o7;rw[cf];rfl
structure MOk (ss:List Str) (hs:Hl):Prop where
 nd:(hs.map (·.1)).Nodup
 nm:∀z∈hs,z.1∈ss/\∀y,z.2=some y->y∈ss
noncomputable def mP (hs:Hl):List PV:=hs.map fun z=>.tup [.str z.1,oP z.2]
theorem NV (hs:Hl):bS (o7 hs)=mP hs:=by unfold bS o7 mP;rw[iz];rfl
theorem agB (z:Str×Option Str):rJ 3 (.tup [.str z.1,oP z.2])=true:=by
 show([PV.str z.1,oP z.2].all (rJ 2))=true;cases z.2<;>rfl
theorem aaA (h:(hs.map (·.1)).Nodup):cW 3 (mP hs)=true:=bg.mpr fun p hp=>by
 obtain⟨z,hz,rfl⟩:=bp.mp hp;rw[cj];refine⟨agB z,bg.mpr fun q hq=>?_⟩;obtain⟨w,hw,rfl⟩:=bp.mp hq;show(eE (tO 2) [PV.str z.1,oP z.2] [PV.str w.1,oP w.2]).isSome=true;unfold eE;split
 .rename_i e;rw[CW]at e;have e1:z.1=w.1:=eq_of_beq e;have e2:z=w:=by
   have key:∀(l:Hl),(l.map (·.1)).Nodup->∀a∈l,∀b∈l,a.1=b.1->a=b:=by
    intro l
    induction l with
    |nil=>intro _ a ha;cases ha
    | cons c l ih=>
     intro hn a ha b hb hab;rw[map_cons,fq]at hn;rcases bw.mp ha with rfl|ha
     .rcases bw.mp hb with rfl|hb
      .rfl
      .exact absurd (bp.mpr ⟨b,hb,hab.symm⟩) hn.1
     .rcases bw.mp hb with e|hb
      .exact absurd (bp.mpr ⟨a,ha,by rw[hab,e]⟩) hn.1
      .exact ih hn.2 a ha b hb hab
   exact key hs h z hz w hw e1
  subst e2;unfold eE;rw[ao (z6 (n:=0) (by cases z.2<;>rfl))];rfl
 .rfl
theorem acE (hs:Hl):(mP hs).all (pJ true)=true:=bg.mpr fun p hp=>by obtain⟨z,_,rfl⟩:=bp.mp hp;rfl
theorem W4 {ps:List PV} (h:ps.Perm (mP hs)):∃ks:Hl,ks.Perm hs/\ps=mP ks:=by
 have key:∀(ps:List PV) (ls:Hl),ps.Perm (mP ls)->∃ks:Hl,ks.Perm ls/\ps=mP ks:=by
  intro ps
  induction ps with
  |nil=>intro ls h;have:=h.nil_eq;unfold mP at this;rw[List.eq_nil_of_map_eq_nil this.symm];exact⟨[],.refl _,rfl⟩
  |cons p ps ih=>
   intro ls h;obtain⟨l,hl,e⟩:=bp.mp (h.mem_iff.mp bh);subst e;have h2:(PV.tup [.str l.1,oP l.2]::ps).Perm (mP (l::ls.erase l)):=h.trans ((perm_cons_erase hl).map _);obtain⟨ks,k1,k2⟩:=ih _ (h2.cons_inv);exact⟨l::ks,(k1.cons l).trans (perm_cons_erase hl).symm,by rw[k2];rfl⟩
 exact key ps hs h
end
section
open PySem L2 Mr
structure kB where
 key:Str
 day:Int
 name:Str
 at':Int
noncomputable section
def tP (t:kB):PV:=.tup [.int t.day,.str t.name,.int t.at']
def trF (l:Let) (z:Str×Nat):Option kB:=if 0<z.2 then some ⟨z.1,l.day,l.name,(z.2:Int)⟩else none
def qY (l:Let) (j:Nat):List kB:=((el l).zipIdx.take j).filterMap (trF l)
def G9 (l:Let):List kB:=(el l).zipIdx.filterMap (trF l)
def kC (qs:List Let):List kB:=(st qs).flatMap G9
def pT (x:Str) (ts:List kB):List kB:=ts.filter fun t=>decide (t.key=x)
def K2 (ts:List kB):DD:=ts.foldl (fun d t=>q5 d (Sum.inr t.key) (tP t)) []
end
theorem QE (ts:List kB) (t:kB):K2 (ts++[t])=q5 (K2 ts) (Sum.inr t.key) (tP t):=by unfold K2;rw[foldl_append];rfl
theorem u9 {l:Let} {n:Str} (h:(el l)[j]? =some n):qY l (j+1)=qY l j++(if 0<j then [⟨n,l.day,l.name,(j:Int)⟩]else []):=by
 unfold qY;have e:(el l).zipIdx[j]? =some (n,j):=by rw[ik,h];simp
 rw[take_succ,e,toList_some,List.filterMap_append];congr 1;rw[filterMap_cons,show trF l (n,j)=if 0<j then some ⟨n,l.day,l.name,(j:Int)⟩else none from rfl]
 by_cases g:0<j
 .rw[ao g,ao g];rfl
 .rw[ai g,ai g];rfl
theorem y3 (l:Let):qY l (el l).length=G9 l:=by
 unfold qY G9;rw[take_of_length_le (by rw[ji];exact bc _)]
theorem zX {f:α->List β} {xs:List α} {x:α} (h:xs[i]? =some x):(xs.take (i+1)).flatMap f=(xs.take i).flatMap f++f x:=by
 rw[take_succ,h,toList_some,List.flatMap_append];simp
theorem LI {f:α->List β} {k:Nat}:∀{xs:List α},(∀x∈xs,(f x).length<=k)->(xs.flatMap f).length<=k*xs.length
 |[],_=>by simp
 |x::xs,h=>by
  have:=LI (f:=f) (k:=k) (xs:=xs) fun y hy=>h y (ba _ hy)
  have:=h x bh;rw[List.flatMap_cons,br,length_cons,Nat.mul_succ];omega
theorem Q6 (l:Let):(el l).length<=l.row.length:=by
 unfold el L9;have:=List.length_filterMap_le (fun i=>(l.row[i]?).bind fun x=>if x≠l.name/\x∉l.row.drop (i+1)then some x else none) (List.range l.row.length);rw[cw]at this;exact this
theorem F5 (l:Let) (j:Nat):(qY l j).length<=(el l).length:=by
 unfold qY;refine gf (List.length_filterMap_le _ _) ?_;rw[gy,ji];omega
theorem YI (l:Let):(G9 l).length<=(el l).length:=by rw[<-y3];exact F5 l _
noncomputable def lk (d:DD) (k:Key):List PV:=((d.find? fun kp=>decide (kp.1=k)).map (·.2)).getD []
theorem abG (d:DD) (k k':Key) (p:PV):lk (q5 d k p) k'=if k=k' then lk d k'++[p]else lk d k':=by
 unfold q5;cases c:d.any fun kp=>decide (kp.1=k)with
 | true=>
  rw[ao rfl];have key:∀d:DD,(d.map fun kp=>if kp.1=k then(kp.1,kp.2++[p])else kp).find? (fun kp=>decide (kp.1=k'))=(d.find? fun kp=>decide (kp.1=k')).map fun kp=>if kp.1=k then(kp.1,kp.2++[p])else kp:=by
   intro d
   induction d with
   |nil=>rfl
   |cons z d ih=>
    have e1:(if z.1=k then(z.1,z.2++[p])else z).1=z.1:=by split<;>rfl
    rw[map_cons,find?_cons,find?_cons,e1];cases decide (z.1=k')with
    |true=>rfl
    |false=>exact ih
  unfold lk;rw[key]
  by_cases hk:k=k'
  .subst hk;rw[ao rfl];cases f:d.find? fun kp=>decide (kp.1=k)with
   |none=>
    have:=jx.mp f;obtain⟨z,hz,e⟩:=iq.mp c;exact absurd e (by simpa using this z hz)
   |some z=>
    have hz:z.1=k:=by have:=find?_some f;simpa using this
    simp[hz]
  .rw[ai hk];cases f:d.find? fun kp=>decide (kp.1=k')with
   |none=>rfl
   |some z=>
    have hz:z.1=k':=by have:=find?_some f;simpa using this
    have:¬z.1=k:=fun e=>hk (e.symm.trans hz)
    simp[this]
 | false=>
  rw[ai ax];unfold lk;rw[find?_append]
  by_cases hk:k=k'
  .subst hk;rw[ao rfl];have f:(d.find? fun kp=>decide (kp.1=k))=none:=jx.mpr fun z hz=>by
    have:=jt.mp c z hz;simpa using this
   rw[f];simp
  .rw[ai hk];have f:([(k,[p])]:DD).find? (fun kp=>decide (kp.1=k'))=none:=by simp[hk]
   rw[f,or_none]
theorem P5 (ts:List kB) (x:Str):lk (K2 ts) (Sum.inr x)=(pT x ts).map tP:=by
 have key:∀(ts:List kB) (d:DD),lk (ts.foldl (fun d t=>q5 d (Sum.inr t.key) (tP t)) d) (Sum.inr x)=lk d (Sum.inr x)++(pT x ts).map tP:=by
  intro ts
  induction ts with
  |nil=>intro d;simp[pT]
  |cons t ts ih=>
   intro d;rw[foldl_cons,ih,abG];unfold pT
   by_cases h:t.key=x
   .rw[ao (by rw[h]),List.filter_cons_of_pos (by simpa using h),map_cons,gp];rfl
   .rw[ai (fun e=>h (Sum.inr.inj e)),List.filter_cons_of_neg (by simpa using h)]
 have:=key ts [];simpa [K2,lk]using this
theorem R8 (d:DD) (k:Key):(cG (d.map fun kp=>(kp.1,PV.lst kp.2)) k).getD (.lst [])= .lst (lk d k):=by
 unfold cG lk
 induction d with
 |nil=>rfl
 |cons z d ih=>
  rw[map_cons,find?_cons,find?_cons];cases decide (z.1=k)with
  |true=>rfl
  |false=>exact ih
theorem UZ (d:DD) (k:Key) (p:PV) {m:Nat} (h1:d.length<=m) (h2:∀kp∈d,kp.2.length<=m):(q5 d k p).length<=m+1/\∀kp∈q5 d k p,kp.2.length<=m+1:=by
 unfold q5;split
 .refine⟨by rw[ag];omega,fun kp hk=>?_⟩;obtain⟨z,hz,rfl⟩:=bp.mp hk;have:=h2 z hz;split
  .rw[br];simp only[length_cons,length_nil];omega
  .omega
 .refine⟨by rw[br];simp only[length_cons,length_nil];omega,fun kp hk=>?_⟩;rcases bj.mp hk with h|h
  .have:=h2 kp h;omega
  .rw[bu.mp h];simp
theorem VD (ts:List kB):(K2 ts).length<=ts.length/\∀kp∈K2 ts,kp.2.length<=ts.length:=by
 have key:∀(ts:List kB) (d:DD) (m:Nat),d.length<=m->(∀kp∈d,kp.2.length<=m)->(ts.foldl (fun d t=>q5 d (Sum.inr t.key) (tP t)) d).length<=m+ts.length/\∀kp∈ts.foldl (fun d t=>q5 d (Sum.inr t.key) (tP t)) d,kp.2.length<=m+ts.length:=by
  intro ts
  induction ts with
  |nil=>intro d m h1 h2;exact⟨h1,h2⟩
  |cons t ts ih=>
   intro d m h1 h2;obtain⟨g1,g2⟩:=UZ d (Sum.inr t.key) (tP t) h1 h2;have:=ih _ (m+1) g1 g2;rw[foldl_cons,length_cons];rw[show m+(ts.length+1)=m+1+ts.length by omega];exact this
 have:=key ts [] 0 (bc _) (fun _ h=>(nomatch h));rw[zero_add]at this;exact this
theorem B4 {own:Str} {row:List Str}:∀k,k<=row.length->(L9 own row k).Nodup/\∀x∈L9 own row k,∃i,i<k/\row[i]? =some x/\x∉row.drop (i+1)
 |0,_=>⟨by unfold L9;simp,fun x h=>by unfold L9 at h;simp at h⟩
 | k+1,hk=>by
  obtain⟨h1,h2⟩:=B4 (own:=own) (row:=row) k (by omega);have hx:row[k]? =some row[k]:=aj (by omega);rw[y4 hx];split
  .rename_i g;refine⟨dz.mpr ⟨h1,by simp,fun u hu v hv e=>?_⟩,fun x h=>?_⟩
   .have hv':v=row[k]:=by simpa using hv
    obtain⟨i,i1,i2,i3⟩:=h2 u hu;refine i3 ?_;rw[e,hv'];have:row[k]? =(row.drop (i+1))[k - (i+1)]?:=by rw[List.getElem?_drop];congr 1;omega
    exact ay (this.symm.trans hx)
   .rcases bj.mp h with h|h
    .obtain⟨i,i1,i2,i3⟩:=h2 x h;exact⟨i,by omega,i2,i3⟩
    .have:x=row[k]:=by simpa using h
     exact⟨k,by omega,by rw[this];exact hx,by rw[this];exact g.2⟩
  .refine⟨by rw[df];exact h1,fun x h=>?_⟩;rw[df]at h;obtain⟨i,i1,i2,i3⟩:=h2 x h;exact⟨i,by omega,i2,i3⟩
theorem FU (l:Let):(el l).Nodup:=(B4 _ (bc _)).1
end
section
open PySem L2 Mr
theorem af0 (t:kB):rJ 3 (tP t)=true:=rfl
theorem ae4 (l k:kB):(tO 3 (tP l) (tP k)).isSome=true:=by
 show(eE (tO 2) [PV.int l.day,PV.str l.name,PV.int l.at'] [PV.int k.day,PV.str k.name,PV.int k.at']).isSome=true;unfold eE;split
 .unfold eE;split
  .unfold eE;split
   .rfl
   .rfl
  .rfl
 .rfl
theorem MG (ls:List kB):cW 3 (ls.map tP)=true:=bg.mpr fun p hp=>by
 obtain⟨l,_,rfl⟩:=bp.mp hp;rw[cj];refine⟨af0 l,bg.mpr fun q hq=>?_⟩;obtain⟨k,_,rfl⟩:=bp.mp hq;exact ae4 l k
noncomputable abbrev srt (ts:List kB):List PV:=wK 3 (ts.map tP)
theorem PU (hr:∀l∈qs,l.row.length<=9) (hl:qs.length<=100) (i:Nat):(((st qs).take i).flatMap G9).length<=900:=by
 have:=LI (f:=G9) (k:=9) (xs:=(st qs).take i) fun l h=>by
  have:=hr l (sG (gi h));have:=Q6 l;have:=YI l;omega
 rw[gy]at this;have:=vD qs;omega
theorem D7 (hr:∀l∈qs,l.row.length<=9) (hl:qs.length<=100) (q:Q (.aZ ((K2 (kC qs)).map fun kp=>(kp.1,PV.lst kp.2)),[])):Wp (iX [.tup (qs.map lP)]) Q:=by
 unfold iX qH;walk_at "w";refine kK hl ?_;walk_at "w";refine GP (fun i e d=>d=K2 (((st qs).take i).flatMap G9)/\∃v2 v3 v4,e=[some (Sl.val (PV.tup (qs.map lP))),none,v2,v3,v4]) ?_ ?_ ⟨rfl,_,_,_,rfl⟩
 .rintro i p e d hx ⟨rfl,v2,v3,v4,rfl⟩;rw[aq]at hx;obtain⟨l,hk,rfl⟩:=bf.mp hx;have hrow:=hr l (sG (ay hk));have b1:=PU hr hl i;walk_at "w";refine vN (l:=l) hrow ?_;walk_at "w";refine GP (fun j e d=>d=K2 (((st qs).take i).flatMap G9++qY l j)/\∃v3 v4,e=[some (Sl.val (PV.tup (qs.map lP))),none,some (Sl.val (lP l)),v3,v4]) ?_ ?_ ⟨by rw[show qY l 0=[]from rfl,df],_,_,rfl⟩
  .rintro j p e d hx ⟨rfl,v3,v4,rfl⟩;rw[aq,ik,aq]at hx;cases hn:(el l)[j]? with
   |none=>rw[hn]at hx;cases hx
   | some n=>
    rw[hn]at hx;cases hx;have hs:=u9 hn;have b2:=F5 l j;have b3:=Q6 l;have g:=VD (((st qs).take i).flatMap G9++qY l j);rw[br]at g;rw[show lP l=PV.tup [PV.str l.name,PV.int l.day,PV.str l.head,PV.tup (l.row.map PV.str)]from rfl];walk_at "w";rw[hs,zero_add];refine⟨fun hj=>?_,fun hj=>?_⟩
    .have hj':0<j:=by omega
     refine⟨⟨by omega,bg.mpr fun kp hkp=>decide_eq_true (by have:=g.2 kp hkp;omega)⟩,?_,_,_,rfl⟩;rw[ao hj',<-gp,QE];rfl
    .have hj':¬0<j:=by omega
     refine⟨?_,_,_,rfl⟩;rw[ai hj',df]
  .rintro e d ⟨rfl,v3,v4,rfl⟩;walk_at "w";rw[ji,ag,y3,zX hk];exact⟨rfl,_,_,_,rfl⟩
 .rintro e d ⟨rfl,v2,v3,v4,rfl⟩;rw[ag,de];walk_at "w";exact q
end
section
open PySem L2 Mr
theorem pK {ks:List Str}:y∈gD ks x↔y∈ks\/ y=x:=by
 unfold gD;split
 .rename_i h;exact⟨.inl,fun z=>z.elim id fun e=>by rw[e];exact h⟩
 .rw[bj,bu]
theorem tD {xs:List Str}:y∈cQ xs↔y∈xs:=by
 have key:∀(l k:List Str),y∈l.foldl gD k↔y∈k\/ y∈l:=by
  intro l
  induction l with
  |nil=>intro k;simp
  |cons x l ih=>
   intro k;rw[foldl_cons,ih,pK,bw,or_assoc]
 have:=key xs [];simpa [cQ]using this
theorem vO (xs:List Str):(cQ xs).Nodup:=by
 have key:∀(l k:List Str),k.Nodup->(l.foldl gD k).Nodup:=by
  intro l
  induction l with
  |nil=>intro k h;exact h
  | cons x l ih=>
   intro k h;rw[foldl_cons];refine ih _ ?_;unfold gD;split
   .exact h
   .rename_i hx;refine dz.mpr ⟨h,by simp,fun u hu v hv e=>?_⟩;have:v=x:=by simpa using hv
    rw[e,this]at hu;exact hx hu
 exact key xs [] jh
theorem RG (qs:List Let):(st qs).map (·.name)=cQ (qs.map (·.name)):=by
 have key:∀(xs k:List Let),(xs.foldl oZ k).map (·.name)=(xs.map (·.name)).foldl gD (k.map (·.name)):=by
  intro xs
  induction xs with
  |nil=>intro k;rfl
  | cons x xs ih=>
   intro k;rw[foldl_cons,ih,map_cons,foldl_cons];congr 1;unfold oZ gD
   by_cases h:x.name∈k.map (·.name)
   .have:(k.any fun y=>decide (y.name=x.name))=true:=by
     obtain⟨y,hy,e⟩:=bp.mp h;exact iq.mpr ⟨y,hy,decide_eq_true e⟩
    rw[ao this,ao h]
   .have:¬(k.any fun y=>decide (y.name=x.name))=true:=fun z=>by
     obtain⟨y,hy,e⟩:=iq.mp z;exact h (bp.mpr ⟨y,hy,av e⟩)
    rw[ai this,ai h,cf];rfl
 exact key qs []
theorem HQ (qs:List Let):((st qs).map (·.name)).Nodup:=by rw[RG];exact vO _
noncomputable def N9 (ls:List Let):List (Key×PV):=ls.map fun l=>(Sum.inr l.name,PV.tup ((el l).map PV.str))
theorem U4 {l:Let} (h:l.name∉ls.map (·.name)):eG (N9 ls) (Sum.inr l.name) (PV.tup ((el l).map PV.str))=N9 (ls++[l]):=by
 unfold eG;have e:((N9 ls).any fun kv=>decide (kv.1=Sum.inr l.name))=false:=by
  unfold N9;rw[any_map,jt];intro k hk;have:k.name≠l.name:=fun z=>h (bp.mpr ⟨k,hk,z⟩)
  simp[this]
 rw[e,ai ax];unfold N9;rw[cf];rfl
theorem DS (ls:List Let) (x:Str):cG (N9 ls) (Sum.inr x)=(ls.find? fun l=>decide (l.name=x)).map fun l=>PV.tup ((el l).map PV.str):=by
 unfold cG N9
 induction ls with
 |nil=>rfl
 | cons l ls ih=>
  rw[map_cons,find?_cons,find?_cons]
  by_cases h:l.name=x
  .subst h;simp
  .have h':¬(Sum.inr l.name:Key)=Sum.inr x:=fun z=>h (Sum.inr.inj z)
   rw[decide_eq_false h',decide_eq_false h];exact ih
theorem X0 (hr:∀l∈qs,l.row.length<=9) (hl:qs.length<=100) (q:Q (.aZ (N9 (st qs)),[])):Wp (nR [.tup (qs.map lP)]) Q:=by
 unfold nR vE;walk_at "w";refine kK hl ?_;walk_at "w";have sl:=vD qs;refine⟨by omega,?_⟩;refine jX (fun i d e=>d=N9 ((st qs).take i)/\∃s,e=[s]) ?_ ?_ ⟨rfl,_,rfl⟩
 .rintro i x e d hx ⟨rfl,s,rfl⟩;rw[aq]at hx;obtain⟨l,hk,rfl⟩:=bf.mp hx;have hrow:=hr l (sG (ay hk));have ok:=vN (l:=l) (Q:=fun w=>w=(PV.tup ((el l).map PV.str),[])) hrow rfl;rw[show lP l=PV.tup [PV.str l.name,PV.int l.day,PV.str l.head,PV.tup (l.row.map PV.str)]from rfl]at ok⊢
  walk_at "w";refine ok.mono fun w hw=>?_
  subst hw;walk_at "w";refine⟨?_,_,rfl⟩;have nd:=HQ qs;have hn:l.name∉((st qs).take i).map (·.name):=fun z=>by
   obtain⟨k,hk2,e⟩:=bp.mp z;obtain⟨j,hj⟩:=List.mem_iff_getElem?.mp hk2;rw[getElem?_take]at hj;have hji:j<i:=cv fun z=>by rw[ai z]at hj;cases hj
   rw[ao hji]at hj;have e1:((st qs).map (·.name))[j]? =some l.name:=by rw[aq,hj];simp[e]
   have e2:((st qs).map (·.name))[i]? =some l.name:=by rw[aq,hk];rfl
   have hlt:j<((st qs).map (·.name)).length:=(af.mp e1).1;have:=(getElem?_inj hlt nd).mp (e1.trans e2.symm);omega
  rw[U4 hn,take_succ,hk];rfl
 .rintro d e ⟨rfl,s,rfl⟩;rw[ag,de];walk_at "w";exact q
end
section
open PySem L2 Mr
theorem F7 {v:PV} (h:cG held (Sum.inr x)=some v) (q:Q (.tup [v,.tup [.str (Str.ofString "hand")]],[])):Wp (cU [.aZ held,.aZ rows,.aZ claimed,.str x]) Q:=by
 unfold cU l9;walk_at "w";rw[h];walk_at "w";exact⟨fun _=>q,fun z=>(by cases z)⟩
noncomputable def abI (ps:List PV):PV:=match ps.getLast? with
 |some p=>.tup [p,.tup [.str (Str.ofString "own")]]
 |none=>.tup [.bG,.tup [.str (Str.ofString "first")]]
theorem xN {ps:List PV} (h:ps.getLast? =some p):rK ps (-1)=some p:=by
 have hne:ps≠[]:=fun z=>by rw[z]at h;cases h
 have hl:0<ps.length:=length_pos_iff.mpr hne;rw[List.getLast?_eq_getElem?]at h;unfold rK;have e:AD ps.length (-1)=some (ps.length - 1):=by
  unfold AD;rw[ai (by decide),ao (by omega)];congr 1;omega
 rw[e];exact h
theorem II {ps:List PV} (h:cG held (Sum.inr x)=none) (hr:cG rows (Sum.inr x)=some (.tup ps)) (q:Q (abI ps,[])):Wp (cU [.aZ held,.aZ rows,.aZ claimed,.str x]) Q:=by
 unfold cU l9;walk_at "w";rw[h,hr];refine⟨fun z=>(by cases z),fun _=>⟨fun _=>?_,fun z=>(by cases z)⟩⟩;walk_at "w";cases e:ps.getLast? with
 |none=>
  have hn:ps=[]:=ki.mp e;subst hn;exact⟨fun z=>(by cases z),fun _=>q⟩
 |some p=>
  have hn:ps.isEmpty=false:=by cases ps with|nil=>cases e|cons a r=>rfl
  unfold abI at q;rw[e]at q;refine⟨fun _=>?_,fun z=>by rw[hn]at z;cases z⟩;rw[xN e];walk_at "w";exact q
theorem E9 {one:Str} {ts r:List PV} {e:PV} (h:cG held (Sum.inr x)=none) (hr:cG rows (Sum.inr x)=none) (hc:cG claimed (Sum.inr x)=some (.lst ts)) (h0:0<ts.length) (ok:cW 3 ts=true)
  (hm:yH ts= .tup [.int d,.str one,.int at']) (ho:cG rows (Sum.inr one)=some (.tup r)) (he:rK r (at' - 1)=some e) (q:Q (.tup [e,.tup [.str (Str.ofString "told"),.str one,.int at']],[])):Wp (cU [.aZ held,.aZ rows,.aZ claimed,.str x]) Q:=by
 unfold cU l9;walk_at "w";rw[h,hr,hc];refine⟨fun z=>(by cases z),fun _=>⟨fun z=>(by cases z),fun _=>⟨fun _=>?_,fun z=>(by cases z)⟩⟩⟩;walk_at "w";rw[hm];refine⟨⟨h0,ok⟩,?_⟩;walk_at "w";rw[ho];walk_at "w";rw[he];walk_at "w";exact q
end
section
open PySem L2 Mr
theorem MQ (d:List (Key×PV)) (k k':Key) (v:PV):cG (eG d k v) k'=if k=k' then some v else cG d k':=by
 unfold eG;cases c:d.any fun kv=>decide (kv.1=k)with
 | true=>
  rw[ao rfl];have key:∀d:List (Key×PV),(d.map fun kv=>if kv.1=k then(kv.1,v)else kv).find? (fun kp=>decide (kp.1=k'))=(d.find? fun kp=>decide (kp.1=k')).map fun kv=>if kv.1=k then(kv.1,v)else kv:=by
   intro d
   induction d with
   |nil=>rfl
   |cons z d ih=>
    have e1:(if z.1=k then(z.1,v)else z).1=z.1:=by split<;>rfl
    rw[map_cons,find?_cons,find?_cons,e1];cases decide (z.1=k')with
    |true=>rfl
    |false=>exact ih
  unfold cG;rw[key]
  by_cases hk:k=k'
  .subst hk;rw[ao rfl];cases f:d.find? fun kp=>decide (kp.1=k)with
   |none=>
    have:=jx.mp f;obtain⟨z,hz,e⟩:=iq.mp c;exact absurd e (by simpa using this z hz)
   |some z=>
    have hz:z.1=k:=by have:=find?_some f;simpa using this
    simp[hz]
  .rw[ai hk];cases f:d.find? fun kp=>decide (kp.1=k')with
   |none=>rfl
   |some z=>
    have hz:z.1=k':=by have:=find?_some f;simpa using this
    have:¬z.1=k:=fun e=>hk (e.symm.trans hz)
    simp[this]
 | false=>
  rw[ai ax];unfold cG;rw[find?_append]
  by_cases hk:k=k'
  .subst hk;rw[ao rfl];have f:(d.find? fun kp=>decide (kp.1=k))=none:=jx.mpr fun z hz=>by
    have:=jt.mp c z hz;simpa using this
   rw[f];simp
  .rw[ai hk];have f:([(k,v)]:List (Key×PV)).find? (fun kp=>decide (kp.1=k'))=none:=by simp[hk]
   rw[f,or_none]
noncomputable def heldOf (ks:Hl):List (Key×PV):=ks.foldl (fun d z=>eG d (Sum.inr z.1) (oP z.2)) []
theorem EU:∀(ks:Hl) (d:List (Key×PV)),(∀z∈ks,z.1≠x)->cG (ks.foldl (fun d z=>eG d (Sum.inr z.1) (oP z.2)) d) (Sum.inr x)=cG d (Sum.inr x)
 |[],d,_=>rfl
 |z::ks,d,h=>by
  rw[foldl_cons,EU ks _ fun y hy=>h y (ba _ hy),MQ,ai fun e=>h z bh (Sum.inr.inj e)]
theorem BV (h:∀z∈ks,z.1≠x):cG (heldOf ks) (Sum.inr x)=none:=EU ks [] h
theorem LQ:∀(ks:Hl) (d:List (Key×PV)),(∀z∈ks,z.1=x->z.2=o)->(x,o)∈ks->cG (ks.foldl (fun d z=>eG d (Sum.inr z.1) (oP z.2)) d) (Sum.inr x)=some (oP o)
 | z::ks,d,h,hm=>by
  rw[foldl_cons]
  by_cases hin:(x,o)∈ks
  .exact LQ ks _ (fun y hy=>h y (ba _ hy)) hin
  .have hz:z=(x,o):=((bw.mp hm).resolve_right hin).symm;rw[EU ks _ fun y hy e=>hin (by have:=h y (ba _ hy) e;rw[<-e,<-this];exact hy),MQ,hz,ao rfl]
theorem BA (h:∀z∈ks,z.1=x->z.2=o) (hm:(x,o)∈ks):cG (heldOf ks) (Sum.inr x)=some (oP o):=LQ ks [] h hm
end
section
open PySem L2 Mr
noncomputable def iB (ab:Hl) (x:Str):Option Str:=(ab.find? fun z=>decide (z.1=x)).bind (·.2)
theorem LK (ab:Hl) (x:Str):(cG (o7 ab) (Sum.inr x)).getD .bG=oP (iB ab x):=by
 unfold cG o7 iB
 induction ab with
 |nil=>rfl
 | cons z ab ih=>
  rw[map_cons,find?_cons,find?_cons]
  by_cases h:z.1=x
  .have e1:decide ((Sum.inr z.1:Key)=Sum.inr x)=true:=decide_eq_true (by rw[h]);have e2:decide (z.1=x)=true:=decide_eq_true h;simp only[e1,e2];rfl
  .have e1:decide ((Sum.inr z.1:Key)=Sum.inr x)=false:=decide_eq_false fun e=>h (Sum.inr.inj e)
   have e2:decide (z.1=x)=false:=decide_eq_false h;simp only[e1,e2];exact ih
theorem T5 (ab:Hl):((o7 ab).map fun kv=>yW kv.1)=(ab.map (·.1)).map PV.str:=by
 unfold o7;rw[iz,iz];rfl
theorem aa9 (ab:Hl) (x:Str):(cG (o7 ab) (Sum.inr x)).isSome=decide (x∈ab.map (·.1)):=by
 rcases D3 ab x with⟨h1,h2⟩|⟨o,h1,h2⟩
 .rw[h1,decide_eq_false h2];rfl
 .rw[h1,decide_eq_true (bp.mpr ⟨_,h2,rfl⟩)];rfl
noncomputable abbrev rP (r:List Str):PV:=.lst (r.map PV.str)
noncomputable def fV (ab:Hl):List Str:=ab.map (·.1)++ab.filterMap (·.2)
theorem tJ (ab:Hl):(fV ab).length<=2*ab.length:=by
 unfold fV;rw[br,ag];have:=List.length_filterMap_le (·.2:Str×Option Str->Option Str) ab;omega
theorem aaK {ab:Hl} {x:Str} (h:iB ab x=some y):y∈fV ab:=by
 unfold iB at h;cases c:ab.find? fun z=>decide (z.1=x)with
 |none=>rw[c]at h;cases h
 |some z=>
  rw[c]at h;exact bq _ (ir.mpr ⟨z,je c,h⟩)
structure Clm (ab:Hl) (ms:Hl) (start:Str) (l:List Str) (nm:Option Str):Prop where
 path:Rg.Path (iB ab) l nm
 nil:l=[]->nm=some start
 nd:(ms.map (·.1)++l).Nodup
 sub:∀x∈l,x∈fV ab
 nms:∀x,nm=some x->x∈fV ab
 st:l≠[]->start∈l
noncomputable def rQ (ms:Hl) (start:Str) (l:List Str):Hl:=ms++l.map fun x=>(x,some start)
theorem fK (ms:Hl) (start:Str) (l:List Str):(rQ ms start l).map (·.1)=ms.map (·.1)++l:=by
 unfold rQ;rw[cf,iz];congr 1;exact map_id' _
noncomputable def D9:FS:=(gK (tH (bH (bC (FV true) (aC 5) (fC .bG))) (bH (bC (xB true) (aC 5) (aC 1)))) (aR (dN 1 (aC 5) (aC 3))
  (aR (wV 4 (aC 5))
  (bW 5 (BQ (aC 0) (aC 5))))) 1000)
noncomputable def KJ:FS:=(wD (tH (bH (bC (FV true) (aC 5) (fC .bG))) (bH (bC MH (bC cX (aC 1) (aC 5)) (aC 3)))) (wV 2 (NS OI (aC 4) (mQ (qL (aC 4) (aC 5))) eY)) dF)
theorem JY:rT=(aR (dP 1 l7)
  (aR (dP 2 (gF aI))
  (aR (iG (xX (aC 0)) (aP 3) (aR (dP 4 (gF aI))
  (aR (bW 5 (aC 3))
  (aR D9 KJ))))
  (cV (aC 2))))):=rfl
noncomputable abbrev yA (ab met:Hl) (F:List (List Str)) (start:Str) (l:List Str) (nm:Option Str):En:=
 [some (.bor (.aZ (o7 ab))),some (.loc (.aZ (o7 met))),some (.loc (.lst (F.map rP))),some (.val (.str start)),some (.loc (.lst (l.map PV.str))),some (.val (oP nm))]
noncomputable def acX (e:En):Nat:=match e[4]? with
 |some (some (Sl.loc (PV.lst ps)))=>ps.length
 |_=>0
theorem TJ {ms:Hl} {start:Str} {Q:Out->Prop} (hl:ab.length<=400) (hm:ms.length<=2*ab.length) (hms:∀x∈ms.map (·.1),x∈fV ab) (hs:start∈fV ab) (hnd:(ms.map (·.1)).Nodup)
  (q:∀l nm,Clm ab ms start l nm->(∀x,nm=some x->x∈ms.map (·.1)++l)->Q (.nx (yA ab (rQ ms start l) F start l nm))):
  Wp (D9 (yA ab ms F start [] (some start))) Q:=by
 unfold D9;have len:∀{l:List Str} {nm:Option Str},Clm ab ms start l nm->ms.length+l.length<=2*ab.length:=fun{l nm} c=>by
  have h1:=dY c.nd (m:=fV ab) fun x hx=>(bj.mp hx).elim (hms x) (c.sub x)
  rw[br,ag]at h1;have:=tJ ab;omega
 refine l6 (fun e=>∃l nm,Clm ab ms start l nm/\e=yA ab (rQ ms start l) F start l nm) (fun e=>2*ab.length+1 - acX e) ?_ ?_ ⟨[],some start,⟨trivial,fun _=>rfl,by rw[df];exact hnd,(fun _ h=>nomatch h),(fun x e=>by cases e;exact hs),fun h=>absurd rfl h⟩,by unfold rQ;rw[map_nil,df]⟩
 .rintro e ⟨l,nm,c,rfl⟩;have hle:=len c;cases nm with
  |none=>
   have eo:oP none=PV.bG:=rfl;have:=q l none c (fun _ e=>nomatch e);unfold yA at this⊢
   rw[eo]at this⊢
   walk_at "w";exact this
  | some x=>
   have eo:oP (some x)=PV.str x:=rfl;unfold yA;rw[eo];walk_at "w";rw[aa9,fK]
   by_cases hx:x∈ms.map (·.1)++l
   .rw[decide_eq_true hx];exact q l (some x) c fun y e=>by cases e;exact hx
   .rw[decide_eq_false hx];have hxl:x∉l:=fun h=>hx (bq _ h)
    have pt:eG (o7 (rQ ms start l)) (Sum.inr x) (PV.str start)=o7 (rQ ms start (l++[x])):=by
     have:=CO (hs:=rQ ms start l) (x:=x) (o:=some start) (by rw[fK];exact hx);rw[show oP (some start)=PV.str start from rfl]at this;rw[this];unfold rQ;rw[cf,gp];rfl
    have kl:(o7 (rQ ms start l)).length=ms.length+l.length:=by unfold o7 rQ;rw[ag,br,ag]
    refine⟨by rw[kl];omega,by omega,⟨l++[x],iB ab x,⟨c.path.snoc rfl,fun h=>absurd h (by simp),?_,?_,fun y e=>aaK e,fun _=>?_⟩,?_⟩,?_⟩
    .rw[<-gp];refine dz.mpr ⟨c.nd,by simp,fun u hu w hw e=>?_⟩;rw[bu.mp hw]at e;rw[e]at hu;exact hx hu
    .intro y hy;rcases bj.mp hy with hy|hy
     .exact c.sub y hy
     .rw[bu.mp hy];exact c.nms x rfl
    .by_cases h:l=[]
     .have:=c.nil h;cases this;simp
     .exact dc _ (c.st h)
    .rw[pt,LK,cf];rfl
    .show 2*ab.length+1 - (l.map PV.str++[PV.str x]).length<2*ab.length+1 - (l.map PV.str).length;rw[br,ag];simp only[length_cons,length_nil];omega
 .show 2*ab.length+1 - 0<1000;omega
theorem U7 {ms:Hl} {start:Str} {l:List Str} {nm:Option Str} {Q:Out->Prop} (c:Clm ab ms start l nm) (hn:∀x,nm=some x->x∈ms.map (·.1)++l) (hst:∀z∈ms,z.2≠some start) (hsm:∀z∈ms,∃y,z.2=some y)
  (hl:l.length<1000) (hF:F.length<1000) (f:Rg.Found (iB ab) (ms.map (·.1)) F) (q:∀G,Rg.Found (iB ab) (ms.map (·.1)++l) G->G.length<=F.length+1->Q (.nx (yA ab (rQ ms start l) G start l nm))):
  Wp (KJ (yA ab (rQ ms start l) F start l nm)) Q:=by
 unfold KJ;have dj:∀x∈l,x∉ms.map (·.1):=fun x hx h=>(dz.mp c.nd).2.2 x h x hx rfl
 cases nm with
 |none=>
  have:=q F (f.out c.path dj fun y e=>nomatch e) (by omega);have eo:oP none=PV.bG:=rfl;unfold yA at this⊢
  rw[eo]at this⊢
  walk_at "w";exact this
 | some x=>
  have eo:oP (some x)=PV.str x:=rfl;have hx:=hn x rfl;unfold yA;rw[eo];walk_at "w";rcases D3 (rQ ms start l) x with⟨_,h2⟩|⟨o,h1,h2⟩
  .rw[fK]at h2;exact absurd hx h2
  .rw[h1];rcases bj.mp h2 with h2|h2
   .obtain⟨y,hy⟩:=hsm _ h2;have hy:o=some y:=hy;have hne:y≠start:=fun e=>hst _ h2 (by rw[<-e];exact hy)
    have:=q F (f.out c.path dj fun w e=>by cases e;exact bp.mpr ⟨_,h2,rfl⟩) (by omega);unfold yA at this;rw[eo]at this;subst hy;rw[show oP (some y)=PV.str y from rfl];walk_at "w";refine⟨fun h=>absurd (eq_of_beq h) hne,fun _=>this⟩
   .obtain⟨w,hw,ew⟩:=bp.mp h2;cases ew;rw[show oP (some start)=PV.str start from rfl];walk_at "w";rw[qN];walk_at "w";refine⟨⟨hw,by omega⟩,by omega,?_⟩;have hi:l.idxOf x<l.length:=ku.mpr hw;have hh:(l.drop (l.idxOf x)).head? =some x:=by
     rw[head?_drop,aj hi,getElem_idxOf]
    have hf:=f.Y0 (p:=l.take (l.idxOf x)) (r:=l.drop (l.idxOf x)) (fun e=>by rw[e]at hh;cases hh) (by rw[hh,fw];exact c.path) (by rw[fw];exact(dz.mp c.nd).2.1) (by rw[fw];exact dj);rw[fw]at hf;have:=q _ hf (by rw[br];exact bc _);unfold yA at this;rw[eo,cf]at this;rw[mC,<-map_drop];exact this
inductive IO (ab:Hl) (i:Nat) (e:En):Prop
 |mk (ms:Hl) (F:List (List Str)) (v3 v4 v5:Option Sl) (h1:e=[some (.bor (.aZ (o7 ab))),some (.loc (.aZ (o7 ms))),some (.loc (.lst (F.map rP))),v3,v4,v5]) (h2:Rg.Found (iB ab) (ms.map (·.1)) F) (h3:F.length<=i) (h4:(ms.map (·.1)).Nodup) (h5:(∀x∈ms.map (·.1),x∈fV ab)) (h6:(∀z∈ms,∃(j:Nat) (y:Str),j<i/\z.2=some y/\(ab.map (·.1))[j]? =some y)) (h7:∀(j:Nat) (x:Str),j<i->(ab.map (·.1))[j]? =some x->x∈ms.map (·.1))
theorem F9 (hl:ab.length<=400) (hk:(ab.map (·.1)).Nodup) (q:∀(S:List Str) (F:List (List Str)),Rg.Found (iB ab) S F->(∀x∈ab.map (·.1),x∈S)->(∀x∈S,x∈fV ab)->Q (.lst (F.map rP),[])):Wp (kP [.aZ (o7 ab)]) Q:=by
 unfold kP;rw[JY];walk_at "w";rw[T5];refine cJ (IO ab) ?_ ?_ ⟨[],[],none,none,none,rfl,Rg.Found.nil,bc _,jh,(fun _ h=>nomatch h),(fun _ h=>nomatch h),fun j _ h=>absurd h (not_lt_zero _)⟩
 .rintro i p e hp ⟨ms,F,v3,v4,v5,rfl,hf,hF,hnd,hsub,hst,hdone⟩;rw[aq]at hp;obtain⟨start,hs,rfl⟩:=bf.mp hp;have hil:i<ab.length:=by have:=(af.mp hs).1;rwa[ag]at this
  have hsA:start∈fV ab:=dc _ (ay hs);have hml:ms.length<=2*ab.length:=by
   have h1:=dY hnd (m:=fV ab) hsub;rw[ag]at h1;have:=tJ ab;omega
  walk_at "w";refine TJ (F:=F) hl hml hsub hsA hnd fun l nm c hn=>?_
  have hll:l.length<=2*ab.length:=by
   have h1:=dY (dz.mp c.nd).2.1 (m:=fV ab) c.sub;have:=tJ ab;omega
  refine U7 c hn (fun z hz e=>?_) (fun z hz=>let⟨_,y,_,h,_⟩:=hst z hz;⟨y,h⟩) (by omega) (by omega) hf fun G hG hGl=>?_
  .obtain⟨j,y,hj,h1,h2⟩:=hst z hz;rw[e]at h1;cases h1;have e1:=(getElem?_inj (by rw[ag];omega) hk).mp (h2.trans hs.symm);omega
  .refine⟨rQ ms start l,G,_,_,_,rfl,by rw[fK];exact hG,by omega,by rw[fK];exact c.nd,fun x hx=>?_,fun z hz=>?_,fun j x hj hx=>?_⟩
   .rw[fK]at hx;exact(bj.mp hx).elim (hsub x) (c.sub x)
   .rcases bj.mp hz with hz|hz
    .obtain⟨j,y,h1,h2⟩:=hst z hz;exact⟨j,y,by omega,h2⟩
    .obtain⟨w,_,rfl⟩:=bp.mp hz;exact⟨i,start,by omega,rfl,hs⟩
   .rw[fK]
    by_cases hj':j=i
    .subst hj';rw[hs]at hx;cases hx
     by_cases h:l=[]
     .have h1:=hn start (by rw[c.nil h]);exact h1
     .exact bq _ (c.st h)
    .exact dc _ (hdone j x (by omega) hx)
 .rintro e ⟨ms,F,v3,v4,v5,rfl,hf,hF,hnd,hsub,hst,hdone⟩;walk_at "w";refine q _ F hf (fun x hx=>?_) hsub;obtain⟨j,hj⟩:=fu hx;have:=(af.mp hj).1;exact hdone j x (by rw[ag];exact this) hj
end
section
open PySem L2 Mr
noncomputable abbrev ZR (qs:List Let):List (Key×PV):=(K2 (kC qs)).map fun kp=>(kp.1,PV.lst kp.2)
noncomputable def dX (f:Str->PV) (ns:List Str):List (Key×PV):=ns.map fun x=>(Sum.inr x,f x)
theorem uC (h:x∉ns):eG (dX f ns) (Sum.inr x) (f x)=dX f (ns++[x]):=by
 unfold eG;have e:((dX f ns).any fun kv=>decide (kv.1=Sum.inr x))=false:=by
  unfold dX;rw[any_map,jt];intro z hz;simp only[Function.comp,decide_eq_true_eq];intro e;rw[Sum.inr.inj e]at hz;exact h hz
 rw[ai (by rw[e];exact ax)];unfold dX;rw[cf];rfl
theorem JA (hr:∀l∈qs,l.row.length<=9) (hl:qs.length<=100) (hk:ks.length<=100) (hn:ns.Nodup) (hnl:ns.length<=200)
  (hc:∀x∈ns,∀R:PV×List PV->Prop,R (f x,[])->Wp (cU [.aZ (heldOf ks),.aZ (N9 (st qs)),.aZ (ZR qs),.str x]) R) (q:Q (.aZ (dX f ns),[])):Wp (oY [.tup (qs.map lP),.tup (mP ks),.tup (ns.map PV.str)]) Q:=by
 unfold oY vM;walk_at "w";refine⟨by unfold mP;rw[ag];omega,?_⟩;refine jX (fun i d e=>d=heldOf (ks.take i)/\∃s t,e=[s,t]) ?_ ?_ ⟨rfl,_,_,rfl⟩
 .rintro i p e d hx ⟨rfl,s,t,rfl⟩;unfold mP at hx;rw[aq]at hx;obtain⟨z,hz,rfl⟩:=bf.mp hx;walk_at "w";refine⟨?_,_,_,rfl⟩;unfold heldOf;rw[take_succ,hz,toList_some,foldl_append];rfl
 .rintro d e ⟨rfl,s,t,rfl⟩;rw[show(mP ks).length=ks.length by unfold mP;rw[ag],de];walk_at "w";refine X0 hr hl ?_;walk_at "w";refine D7 hr hl ?_;walk_at "w";refine⟨by omega,?_⟩;refine jX (fun i d e=>d=dX f (ns.take i)/\∃s,e=[s,some (Sl.val (.aZ (heldOf ks))),some (Sl.val (.aZ (N9 (st qs)))),some (Sl.val (.aZ (ZR qs)))]) ?_ ?_ ⟨rfl,_,rfl⟩
  .rintro i p e d hx ⟨rfl,s,rfl⟩;rw[aq]at hx;obtain⟨x,hxe,rfl⟩:=bf.mp hx;have hi:=(af.mp hxe).1;have nx:x∉ns.take i:=fun h=>by
    obtain⟨j,hj⟩:=fu h;rw[getElem?_take]at hj;split at hj
    .have:=(getElem?_inj (by omega) hn).mp (hj.trans hxe.symm);omega
    .cases hj
   walk_at "w";refine hc x (ay hxe) _ ?_;walk_at "w";exact⟨by rw[uC nx,di,hxe];rfl,_,rfl⟩
  .rintro d e ⟨rfl,s,rfl⟩;rw[ag,de];walk_at "w";exact q
end
section
open PySem L2 Mr
structure Ch where
 e:Option Str
 r:PV
noncomputable def JD (ts:List kB):Option kB:=ts[argBest (w8 (ts.map tP)) (ts.length - 1)]?
noncomputable def wU (qs:List Let) (t:kB):Option Str:=((st qs).find? fun l=>decide (l.name=t.name)).bind fun l=>(el l)[(t.at' - 1).toNat]?
noncomputable abbrev MP:PV:=.tup [.str (Str.ofString "hand")]
noncomputable abbrev adK:PV:=.tup [.str (Str.ofString "own")]
noncomputable abbrev y6:PV:=.tup [.str (Str.ofString "first")]
noncomputable def EY (qs:List Let) (ks:Hl) (x:Str):Ch:=match ks.find? fun z=>decide (z.1=x)with
 |some z=>⟨z.2,MP⟩
 | none=>match(st qs).find? fun l=>decide (l.name=x)with
  |some l=>(match(el l).getLast? with
   |some y=>⟨some y,adK⟩
   |none=>⟨none,y6⟩)
  |none=>match JD (pT x (kC qs))with
   |some t=>⟨wU qs t,.tup [.str (Str.ofString "told"),.str t.name,.int t.at']⟩
   |none=>⟨none,y6⟩
noncomputable def AB (qs:List Let) (ks:Hl) (x:Str):PV:=.tup [oP (EY qs ks x).e,(EY qs ks x).r]
theorem DY {l:Let} (h:t∈G9 l):t.name=l.name/\t.day=l.day/\∃i:Nat,t.at'=(i:Int)/\0<i/\(el l)[i]? =some t.key:=by
 unfold G9 at h;obtain⟨z,hz,e⟩:=ir.mp h;unfold trF at e;split at e
 .rename_i h0;cases e;obtain⟨i,hi⟩:=fu hz;rw[ik]at hi;cases c:(el l)[i]? with
  |none=>rw[c]at hi;cases hi
  |some y=>
   rw[c]at hi;cases hi;exact⟨rfl,rfl,0+i,rfl,h0,by rw[zero_add];exact c⟩
 .cases e
theorem u6 (h:t∈pT x (kC qs)):t.key=x/\∃l∈st qs,t∈G9 l:=by
 unfold pT at h;obtain⟨h1,h2⟩:=jl.mp h;unfold kC at h1;obtain⟨l,hl,ht⟩:=dg.mp h1;exact⟨av h2,l,hl,ht⟩
theorem oA {l:Let} (h:l∈st qs):(st qs).find? (fun k=>decide (k.name=l.name))=some l:=by
 have nd:=HQ qs
 revert h nd
 generalize st qs=ls;intro h nd
 induction ls with
 |nil=>cases h
 | cons k ls ih=>
  rw[map_cons,fq]at nd;rw[find?_cons];rcases bw.mp h with rfl|h
  .rw[decide_eq_true rfl]
  .have hne:k.name≠l.name:=fun e=>nd.1 (bp.mpr ⟨l,h,e.symm⟩)
   rw[decide_eq_false hne];exact ih h nd.2
theorem CA (h:ts≠[]):∃t∈ts,JD ts=some t/\yH (ts.map tP)=tP t:=by
 have h0:0<ts.length:=length_pos_iff.mpr h;have hlt:argBest (w8 (ts.map tP)) (ts.length - 1)<ts.length:=by have:=m9 (w8 (ts.map tP)) (ts.length - 1);omega
 refine⟨ts[argBest (w8 (ts.map tP)) (ts.length - 1)],getElem_mem hlt,aj hlt,?_⟩;unfold yH;rw[ag,cc,aq,aj hlt];rfl
theorem Z0 (ts:List kB):∀kp∈K2 ts,kp.2≠[]:=by
 have key:∀(ts:List kB) (d:DD),(∀kp∈d,kp.2≠[])->∀kp∈ts.foldl (fun d t=>q5 d (Sum.inr t.key) (tP t)) d,kp.2≠[]:=by
  intro ts
  induction ts with
  |nil=>intro d h;exact h
  | cons t ts ih=>
   intro d h;rw[foldl_cons];refine ih _ fun kp hkp=>?_
   unfold q5 at hkp;split at hkp
   .obtain⟨k,hk,rfl⟩:=bp.mp hkp;split
    .simp
    .exact h k hk
   .rcases bj.mp hkp with h1|h1
    .exact h kp h1
    .rw[bu.mp h1];simp
 exact key ts [] (fun _ h=>nomatch h)
theorem YJ {qs:List Let} {x:Str} (h:pT x (kC qs)≠[]):cG (ZR qs) (Sum.inr x)=some (.lst ((pT x (kC qs)).map tP)):=by
 have v:=R8 (K2 (kC qs)) (Sum.inr x);rw[P5]at v;cases c:cG (ZR qs) (Sum.inr x)with
 |none=>
  rw[c]at v;have e:=PV.lst.inj v;exact absurd (List.eq_nil_of_map_eq_nil e.symm) h
 |some p=>rw[c]at v;exact dq some v
theorem X2 {qs:List Let} {x:Str} (h:pT x (kC qs)=[]):cG (ZR qs) (Sum.inr x)=none:=by
 have v:=R8 (K2 (kC qs)) (Sum.inr x);rw[P5,h]at v;cases c:cG (ZR qs) (Sum.inr x)with
 |none=>rfl
 |some p=>
  rw[c]at v;have e:p= .lst []:=v;unfold cG ZR at c;obtain⟨kv,h1,h2⟩:=bf.mp c;have h3:=je h1;obtain⟨kp,h4,rfl⟩:=bp.mp h3;rw[e]at h2;exact absurd (PV.lst.inj h2) (Z0 _ kp h4)
theorem DA (h:cG held (Sum.inr x)=none) (hr:cG rows (Sum.inr x)=none) (hc:cG claimed (Sum.inr x)=none) (q:Q (.tup [.bG,y6],[])):Wp (cU [.aZ held,.aZ rows,.aZ claimed,.str x]) Q:=by
 unfold cU l9;walk_at "w";rw[h,hr,hc];refine⟨fun z=>(by cases z),fun _=>⟨fun z=>(by cases z),fun _=>⟨fun z=>(by cases z),fun _=>?_⟩⟩⟩;exact q
theorem IS {qs:List Let} {ks:Hl} {x:Str} {R:PV×List PV->Prop} (hk:(ks.map (·.1)).Nodup) (r:R (AB qs ks x,[])):Wp (cU [.aZ (heldOf ks),.aZ (N9 (st qs)),.aZ (ZR qs),.str x]) R:=by
 unfold AB EY at r;cases e1:ks.find? fun z=>decide (z.1=x)with
 | some z=>
  rw[e1]at r;have hz:=je e1;have hzx:z.1=x:=av (by have:=find?_some e1;exact this);refine F7 (BA (o:=z.2) (fun w hw ew=>?_) (by rw[<-hzx];exact hz)) r;have key:∀(l:Hl),(l.map (·.1)).Nodup->∀a∈l,∀b∈l,a.1=b.1->a=b:=by
   intro l
   induction l with
   |nil=>intro _ a ha;cases ha
   | cons c l ih=>
    intro hn a ha b hb hab;rw[map_cons,fq]at hn;rcases bw.mp ha with rfl|ha
    .rcases bw.mp hb with rfl|hb
     .rfl
     .exact absurd (bp.mpr ⟨b,hb,hab.symm⟩) hn.1
    .rcases bw.mp hb with e|hb
     .exact absurd (bp.mpr ⟨a,ha,by rw[hab,e]⟩) hn.1
     .exact ih hn.2 a ha b hb hab
  rw[key ks hk w hw z hz (ew.trans hzx.symm)]
 | none=>
  rw[e1]at r;have hnone:∀z∈ks,z.1≠x:=fun z hz e=>by
   have:=jx.mp e1 z hz;exact this (decide_eq_true e)
  have hh:=BV hnone;cases e2:(st qs).find? fun l=>decide (l.name=x)with
  |some l=>
   rw[e2]at r;refine II (ps:=(el l).map PV.str) hh (by rw[DS,e2];rfl) ?_;unfold abI;rw[getLast?_map];dsimp only at r;cases e3:(el l).getLast? with
   |none=>rw[e3]at r;exact r
   |some y=>rw[e3]at r;exact r
  | none=>
   rw[e2]at r;have hrow:cG (N9 (st qs)) (Sum.inr x)=none:=by rw[DS,e2];rfl
   by_cases hf:pT x (kC qs)=[]
   .refine DA hh hrow (X2 hf) ?_;rw[hf]at r;exact r
   .obtain⟨t,ht,em,emP⟩:=CA hf;rw[em]at r;obtain⟨hkey,l,hl,htl⟩:=u6 ht;obtain⟨hn1,_,i,hi,hi0,hel⟩:=DY htl;have hil:i<(el l).length:=(af.mp hel).1;have hfind:(st qs).find? (fun k=>decide (k.name=t.name))=some l:=by rw[hn1];exact oA hl
    have hat:(t.at' - 1).toNat=i - 1:=by rw[hi];omega
    have hpre:(el l)[i - 1]? =some (el l)[i - 1]:=aj (by omega);have hE:wU qs t=some (el l)[i - 1]:=by unfold wU;rw[hfind,hat];exact hpre
    dsimp only at r;rw[hE]at r;refine E9 (one:=t.name) (at':=t.at') (d:=t.day) (r:=(el l).map PV.str) (e:=.str (el l)[i - 1]) hh hrow (YJ hf) (by rw[ag];exact length_pos_iff.mpr hf) (MG _) emP (by rw[DS,hfind];rfl) ?_ r;rw[hi,show((i:Int) - 1)=((i - 1:Nat):Int) by omega];refine iP ?_;rw[aq,hpre];rfl
end
section
open PySem L2 Mr
theorem mO {xs:List Str} (h:∀x∈xs,x∈ss):(cQ xs).length<=ss.length:=dY (vO xs) fun x hx=>h x (tD.mp hx)
noncomputable def kT (ks:List Str):List (Key×PV):=ks.map fun x=>(Sum.inr x,PV.bl true)
theorem pM (ks:List Str):(kT ks).length=ks.length:=by unfold kT;rw[ag]
theorem tI (ks:List Str) (x:Str):eG (kT ks) (Sum.inr x) (.bl true)=kT (gD ks x):=by
 unfold eG gD
 by_cases h:x∈ks
 .have e:((kT ks).any fun kv=>decide (kv.1=Sum.inr x))=true:=by
   unfold kT;rw[any_map,iq];exact⟨x,h,by simp⟩
  rw[e,ao rfl,ao h];unfold kT;rw[iz];refine ja fun y hy=>?_
  simp only[Function.comp_apply];split<;>rfl
 .have e:((kT ks).any fun kv=>decide (kv.1=Sum.inr x))=false:=by
   unfold kT;rw[any_map,jt];intro y hy;have:y≠x:=fun e=>h (e▸hy)
   simp[this]
  rw[e,ai ax,ai h];unfold kT;rw[cf];rfl
theorem uL:∀ks:List Str,rF (kT ks)=some ks
 |[]=>rfl
 |x::ks=>by
  show bO (rF (kT ks)) (fun ss=>some (x::ss))=_;rw[uL ks];rfl
noncomputable def xU (l:Let):List Str:=l.name::el l
noncomputable def uV (z:Str×Option Str):List Str:=z.1::z.2.toList
theorem D8 {f:α->List Str} {xs:List α} {x:α} (h:xs[i]? =some x):(xs.take (i+1)).flatMap f=(xs.take i).flatMap f++f x:=by
 rw[take_succ,h,toList_some,List.flatMap_append];simp
theorem X5 {own:Str} {row:List Str} {k:Nat} (h:x∈L9 own row k):x∈row:=by
 unfold L9 at h;obtain⟨i,_,hi⟩:=ir.mp h;cases c:row[i]? with
 |none=>rw[c]at hi;cases hi
 |some y=>
  rw[c,bind_some]at hi;split at hi
  .cases hi;exact ay c
  .cases hi
def Good (ss:List Str) (qs:List Let) (hs:Hl):Prop:=(∀l∈qs,l.row.length<=9/\l.name∈ss/\∀x∈l.row,x∈ss)/\∀z∈hs,z.1∈ss/\∀y,z.2=some y->y∈ss
theorem qJ (g:Good ss qs hs) {l:Let} (h:l∈st qs):∀x∈xU l,x∈ss:=fun x hx=>by
 obtain⟨_,h2,h3⟩:=g.1 l (sG h);rcases bw.mp hx with rfl|hx
 .exact h2
 .exact h3 x (X5 hx)
theorem DT (g:Good ss qs hs) {z:Str×Option Str} (h:z∈hs):∀x∈uV z,x∈ss:=fun x hx=>by
  obtain⟨h2,h3⟩:=g.2 z h;rcases bw.mp hx with rfl|hx
  .exact h2
  . cases e:z.2 with
    |none=>rw[e]at hx;cases hx
    | some y => rw[e]at hx;have:x=y:=by simpa using hx
                rw[this];exact h3 y e
noncomputable def iF (qs:List Let) (hs:Hl):List Str:=(st qs).flatMap xU++hs.flatMap uV
inductive IH (qs:List Let) (hs:Hl) (i:Nat) (e:En):Prop
 |mk (v3 v4 v5:Option Sl) (h1:e=[some (Sl.val (PV.tup (qs.map lP))),some (Sl.val (PV.tup (mP hs))),some (Sl.loc (PV.aZ (kT (cQ ((st qs).flatMap xU++(hs.take i).flatMap uV))))),v3,v4,v5])
inductive IJ (qs:List Let) (hs:Hl) (i:Nat) (l:Let) (v5:Option Sl) (j:Nat) (e:En):Prop
 |mk (v4:Option Sl) (h1:e=[some (Sl.val (PV.tup (qs.map lP))),some (Sl.val (PV.tup (mP hs))),some (Sl.loc (PV.aZ (kT (cQ (((st qs).take i).flatMap xU++l.name::(el l).take j))))),some (Sl.val (PV.tup [PV.str l.name,PV.int l.day,PV.str l.head,PV.tup (l.row.map PV.str)])),v4,v5])
inductive IK (qs:List Let) (hs:Hl) (i:Nat) (e:En):Prop
 |mk (v3 v4 v5:Option Sl) (h1:e=[some (Sl.val (PV.tup (qs.map lP))),some (Sl.val (PV.tup (mP hs))),some (Sl.loc (PV.aZ (kT (cQ (((st qs).take i).flatMap xU))))),v3,v4,v5])
theorem NL (g:Good ss qs hs) (hl:qs.length<=100) (h60:ss.length<=62) (q:Q (.tup ((eB (cQ (iF qs hs))).map PV.str),[])):Wp (qV [.tup (qs.map lP),.tup (mP hs)]) Q:=by
 unfold qV zF;walk_at "w";refine kK hl ?_;walk_at "w";refine cJ (IK qs hs) ?_ ?_ ⟨_,_,_,rfl⟩
 .rintro i p e hx ⟨v3,v4,v5,rfl⟩;rw[aq]at hx;obtain⟨l,hk,rfl⟩:=bf.mp hx;have hm:=ay hk;have hrow:=(g.1 l (sG hm)).1;have sub:∀k,∀x∈((st qs).take k).flatMap xU,x∈ss:=fun k x hx=>by
   obtain⟨l',h1,h2⟩:=dg.mp hx;exact qJ g (gi h1) x h2
  have b1:=mO (sub i);rw[show lP l=PV.tup [PV.str l.name,PV.int l.day,PV.str l.head,PV.tup (l.row.map PV.str)]from rfl];walk_at "w";rw[tI,pM];refine⟨by omega,vN (l:=l) hrow ?_⟩;walk_at "w";rw[<-fP];refine cJ (IJ qs hs i l v5) ?_ ?_ ⟨_,rfl⟩
  .rintro j p e hx ⟨v4,rfl⟩;rw[aq]at hx;obtain⟨x,hk2,rfl⟩:=bf.mp hx;walk_at "w";rw[tI,pM,<-fP];refine⟨?_,some (.val (.str x)),?_⟩
   .have:=mO (ss:=ss) (xs:=((st qs).take i).flatMap xU++l.name::(el l).take j) fun x hx=>by
     rcases bj.mp hx with z|z
     .exact sub i x z
     .refine qJ g hm x ?_;rcases bw.mp z with z|z
      .exact bw.mpr (.inl z)
      .exact ba _ (gi z)
    omega
   .rw[take_succ,hk2,toList_some];simp only[gp,cons_append]
  .rintro e ⟨v4,rfl⟩;rw[ag,de];have ee:((st qs).take (i+1)).flatMap xU=((st qs).take i).flatMap xU++l.name::el l:=by rw[D8 hk];rfl
   exact⟨_,_,_,by rw[ee]⟩
 .rintro e ⟨v3,v4,v5,rfl⟩;rw[ag,de];walk_at "w";refine cJ (IH qs hs) ?_ ?_ ⟨v3,v4,v5,by rw[List.take_zero,List.flatMap_nil,df]⟩
  .rintro i p e hx ⟨v3,v4,v5,rfl⟩;unfold mP at hx;rw[aq]at hx;obtain⟨z,hk,rfl⟩:=bf.mp hx;have hm:=ay hk;have sub:∀x∈(st qs).flatMap xU++(hs.take i).flatMap uV,x∈ss:=fun x hx=>by
    rcases bj.mp hx with w|w
    .obtain⟨l',h1,h2⟩:=dg.mp w;exact qJ g h1 x h2
    .obtain⟨l',h1,h2⟩:=dg.mp w;exact DT g (gi h1) x h2
   have b1:=mO sub;have hz:=(g.2 z hm).1;have b2:=mO (ss:=ss) (xs:=((st qs).flatMap xU++(hs.take i).flatMap uV)++[z.1]) fun x hx=>by
    rcases bj.mp hx with w|w
    .exact sub x w
    .rw[bu.mp w];exact hz
   have es:=D8 (f:=uV) hk;cases eo:z.2 with
   |none=>
    rw[show oP none=PV.bG from rfl];walk_at "w";rw[tI,pM,<-fP];have ee:(st qs).flatMap xU++(hs.take (i+1)).flatMap uV=(st qs).flatMap xU++(hs.take i).flatMap uV++[z.1]:=by rw[es,show uV z=[z.1] by unfold uV;rw[eo];rfl,gp]
    exact⟨by omega,_,_,_,by rw[ee]⟩
   | some y=>
    rw[show oP (some y)=PV.str y from rfl];walk_at "w";rw[tI,tI,pM,pM,<-fP,<-fP];have ee:(st qs).flatMap xU++(hs.take (i+1)).flatMap uV=(st qs).flatMap xU++(hs.take i).flatMap uV++[z.1]++[y]:=by
     rw[es,show uV z=[z.1,y] by unfold uV;rw[eo];rfl];simp only[gp,cons_append,nil_append]
    exact⟨by omega,by omega,_,_,_,by rw[ee]⟩
  .rintro e ⟨v3,v4,v5,rfl⟩;have b1:(cQ (iF qs hs)).length<=ss.length:=mO fun x hx=>by
    rcases bj.mp hx with w|w
    .obtain⟨l',h1,h2⟩:=dg.mp w;exact qJ g h1 x h2
    .obtain⟨l',h1,h2⟩:=dg.mp w;exact DT g h1 x h2
   rw[show(mP hs).length=hs.length by unfold mP;rw[ag],de];rw[show(st qs).flatMap xU++hs.flatMap uV=iF qs hs from rfl];walk_at "w";have eg:fM [.aZ (kT (cQ (iF qs hs)))]=some (.new (.lst ((eB (cQ (iF qs hs))).map PV.str))):=by
    have e1:sC [.aZ (kT (cQ (iF qs hs)))]=some (.new (.lst ((eB (cQ (iF qs hs))).map PV.str))):=by
     show bO (rF (kT (cQ (iF qs hs)))) _=_;rw[uL,qZ,decide_eq_true (show(cQ (iF qs hs)).length<64 by omega)];rfl
    unfold fM;rw[e1];rfl
   rw[eg];walk_at "w";exact q
end
section
open PySem L2 Mr
theorem yS {hs:Hl} {x:Str} (e:iB hs x=some y):x∈hs.map (·.1):=by
 unfold iB at e;cases e2:hs.find? fun z=>decide (z.1=x)with
 |none=>rw[e2]at e;cases e
 |some z=>
  have h1:=je e2;have h2:=find?_some e2;exact bp.mpr ⟨z,h1,av h2⟩
theorem BJ {ks:Hl} {o:Option Str} (hl:ks.length<=100) (q:∀b,(b=true↔∃y j,o=some y/\Rg.dA (iB ks) j y=some x)->Q (.bl b,[])):Wp (gY [.aZ (o7 ks),oP o,.str x]) Q:=by
 unfold gY oS;have kl:(o7 ks).length=ks.length:=by unfold o7;rw[ag]
 walk_at "w";refine⟨jG (by omega) (by omega),?_⟩;refine cJ (fun i e=>∃(v3:Option Sl),e=[some (Sl.bor (PV.aZ (o7 ks))),some (Sl.val (oP (o.bind (Rg.dA (iB ks) i)))),some (Sl.val (PV.str x)),v3]/\∀k,k<i->∃y,o.bind (Rg.dA (iB ks) k)=some y/\y≠x) ?_ ?_ ⟨none,by cases o<;>rfl,fun k h=>absurd h (not_lt_zero _)⟩
 .rintro i p e hx ⟨v3,rfl,hne⟩;cases e:o.bind (Rg.dA (iB ks) i)with
  | none=>
   rw[show oP none=PV.bG from rfl];walk_at "w";refine q _ ⟨fun h=>(by cases h),fun⟨y,j,h1,h2⟩=>?_⟩;exfalso;subst h1
   by_cases hj:j<i
   .obtain⟨z,h3,h4⟩:=hne j hj;rw[show(some y).bind (Rg.dA (iB ks) j)=Rg.dA (iB ks) j y from rfl,h2]at h3;cases h3;exact h4 rfl
   .obtain⟨z,h3,_⟩:=Rg.rZ h2 i (by omega);rw[show(some y).bind (Rg.dA (iB ks) i)=Rg.dA (iB ks) i y from rfl,h3]at e;cases e
  | some y=>
   rw[show oP (some y)=PV.str y from rfl];walk_at "w";refine⟨fun h=>?_,fun h=>⟨some (Sl.val p),?_,fun k hk=>?_⟩⟩
   .have hy:=eq_of_beq h;subst hy;rw[gj];refine q _ ⟨fun _=>?_,fun _=>rfl⟩;cases o with
    |none=>cases e
    |some y0=>exact⟨y0,i,rfl,e⟩
   .have nx:o.bind (Rg.dA (iB ks) (i+1))=iB ks y:=by
     cases o with
     |none=>cases e
     |some y0=>
      have e:Rg.dA (iB ks) i y0=some y:=e;show Rg.dA (iB ks) (i+1) y0=_;rw[Rg.iI i 1,e];show(iB ks y).bind (Rg.dA (iB ks) 0)=_;cases iB ks y<;>rfl
    rw[nx,LK]
   .by_cases hki:k=i
    .rw[hki];exact⟨y,e,fun z=>by rw[z,gj]at h;cases h⟩
    .exact hne k (by omega)
 .rintro e ⟨v3,rfl,hne⟩;rw[ag,cw]at hne;walk_at "w";refine q _ ⟨fun h=>(by cases h),fun⟨y,j,h1,h2⟩=>?_⟩;exfalso;subst h1;obtain⟨i,hi,h3⟩:=Rg.HL (K:=ks.map (·.1)) (fun z w h=>yS h) j h2;rw[ag]at hi;obtain⟨z,h4,h5⟩:=hne i (by omega);rw[show(some y).bind (Rg.dA (iB ks) i)=Rg.dA (iB ks) i y from rfl,h3]at h4;cases h4;exact h5 rfl
end
section
open PySem L2 Mr
def xH (hs:Hl):Prop:=∀y,¬Rg.A8 (iB hs) y
theorem xH.nil:xH []:=fun y ⟨n,h⟩=>by cases h
theorem LP {hs:Hl} (hx:x∉hs.map (·.1)) (z:Str):iB (hs++[(x,o)]) z=if z=x then o else iB hs z:=by
 unfold iB;rw[find?_append]
 by_cases h:z=x
 .subst h;rw[ao rfl];have:hs.find? (fun w=>decide (w.1=z))=none:=jx.mpr fun w hw e=>hx (bp.mpr ⟨w,hw,av e⟩)
  rw[this,find?_cons,decide_eq_true rfl];rfl
 .rw[ai h];cases c:hs.find? fun w=>decide (w.1=z)with
  |some w=>rfl
  |none=>
   rw[find?_cons,decide_eq_false (fun e=>h e.symm)];rfl
theorem xH.add {hs:Hl} (h:xH hs) {x:Str} (hx:x∉hs.map (·.1)) (hr:∀y,o=some y->∀j,Rg.dA (iB hs) j y≠some x):xH (hs++[(x,o)]):=by
 have hn:iB hs x=none:=by
  cases e:iB hs x with
  |none=>rfl
  |some y=>exact absurd (yS e) hx
 exact Rg.SD (up:=iB hs) (fun z hz=>by rw[LP hx,ai hz]) hn h o (by rw[LP hx,ao rfl]) hr
theorem qR {hs:Hl} (hn:(hs.map (·.1)).Nodup) (h:(x,o)∈hs):iB hs x=o:=by
 induction hs with
 |nil=>cases h
 | cons z hs ih=>
  rw[map_cons,fq]at hn;unfold iB;rw[find?_cons];rcases bw.mp h with e|h
  .rw[<-e,decide_eq_true rfl];rfl
  .have hne:z.1≠x:=fun e=>hn.1 (bp.mpr ⟨_,h,e.symm⟩)
   rw[decide_eq_false hne];exact ih hn.2 h
theorem P8 {hs ks:Hl} (hn:(hs.map (·.1)).Nodup) (p:ks.Perm hs):iB ks=iB hs:=by
 funext x;have hn2:(ks.map (·.1)).Nodup:=(p.map _).nodup_iff.mpr hn
 by_cases hx:x∈hs.map (·.1)
 .obtain⟨z,hz,rfl⟩:=bp.mp hx;rw[qR hn (o:=z.2) hz,qR hn2 (o:=z.2) (p.mem_iff.mpr hz)]
 .have h1:iB hs x=none:=by cases e:iB hs x with|none=>rfl|some y=>exact absurd (yS e) hx
  have h2:iB ks x=none:=by cases e:iB ks x with|none=>rfl|some y=>exact absurd ((p.map _).mem_iff.mp (yS e)) hx
  rw[h1,h2]
theorem xH.perm (h:xH hs) (hn:(hs.map (·.1)).Nodup) (p:ks.Perm hs):xH ks:=by unfold xH;rw[P8 hn p];exact h
inductive IL (ss:List Str) (n:Nat) (many:Int) (i:Nat) (e:En):Prop
 |mk (hs:Hl) (a b c:Int) (v4 v5 v6:Option Sl) (h1:hs.length<=i) (h2:(MOk ss hs/\xH hs)) (h3:Hand a b c (n+3*i)) (h4:e=[some (.own (hd a b c)),some (.bor (.lst (ss.map PV.str))),some (.val (.int many)),some (.loc (.aZ (o7 hs))),v4,v5,v6])
theorem T3 {a b c:Int} (h:Hand a b c n) (hs0:0<ss.length) (hs1:ss.length<=60) (m0:0<=many) (m1:many<=40) (hn:n<100000)
  (q:∀(hs:Hl) a' b' c',hs.length<=many.toNat->MOk ss hs->xH hs->Hand a' b' c' (n+130)->Q (.tup (mP hs),[hd a' b' c'])):Wp (iU [hd a b c,.lst (ss.map PV.str),.int many]) Q:=by
 unfold iU pY;walk_at "w";refine⟨jG (by omega) (by omega),?_⟩;refine cJ (IL ss n many) ?_ ?_ ⟨[],a,b,c,_,_,_,bc _,⟨⟨jh,fun _ h=>(nomatch h)⟩,xH.nil⟩,h,rfl⟩
 .rintro i x e hx ⟨hs,a,b,c,v4,v5,v6,hl,⟨ok,nr⟩,hp,rfl⟩;rw[aq]at hx;obtain⟨k,hk,rfl⟩:=bf.mp hx;have hi:=(af.mp hk).1;rw[cw]at hi;walk_at "w";refine cI hp (by omega) (by omega) (by omega) fun d a1 b1 c1 d0 d1 hp=>?_
  walk_at "w";refine eU d0 (by rw[ag];exact d1) fun p hp'=>?_
  obtain⟨x,hx,rfl⟩:=bp.mp hp';clear d0 d1 hp';walk_at "w";refine cI hp (by omega) (by omega) (by omega) fun d a1 b1 c1 d0 d1 hp=>?_
  walk_at "w";refine eU d0 (by rw[ag];exact d1) fun p hp'=>?_
  obtain⟨y,hy,rfl⟩:=bp.mp hp';clear d0 d1 hp';walk_at "w";refine cI hp (by omega) (by decide) (by decide) fun d a1 b1 c1 d0 d1 hp=>?_
  clear d0 d1;replace hp:=hp.mono (show _<=n+3*(i+1) by omega);walk_at "w";have aK:∀p6:PV,IL ss n many (i+1) [some (Sl.own (hd a1 b1 c1)),some (Sl.bor (PV.lst (ss.map PV.str))),some (Sl.val (PV.int many)),some (Sl.loc (PV.aZ (o7 hs))),some (Sl.val (PV.int (0+(k:Int)))),some (Sl.val (PV.str x)),some (Sl.val p6)]:=fun p6=>
   ⟨hs,a1,b1,c1,_,_,_,by omega,⟨ok,nr⟩,hp,rfl⟩
  have put:∀o:Option Str,(∀y,o=some y->y∈ss)->(¬∃y j,o=some y/\Rg.dA (iB hs) j y=some x)->(!(cG (o7 hs) (Sum.inr x)).isSome)=true->IL ss n many (i+1) [some (Sl.own (hd a1 b1 c1)),some (Sl.bor (PV.lst (ss.map PV.str))),some (Sl.val (PV.int many)),some (Sl.loc (PV.aZ (eG (o7 hs) (Sum.inr x) (oP o)))),some (Sl.val (PV.int (0+(k:Int)))),some (Sl.val (PV.str x)),some (Sl.val (oP o))]:=fun o ho hcl g=>by
   have hxn:x∉hs.map (·.1):=by
    rcases D3 hs x with⟨_,e⟩|⟨o,e,_⟩
    .exact e
    .rw[e]at g;cases g
   refine⟨hs++[(x,o)],a1,b1,c1,_,_,_,by rw[br];simp;omega,⟨⟨?_,fun z hz=>?_⟩,nr.add hxn fun y hy j hj=>hcl ⟨y,j,hy,hj⟩⟩,hp,by rw[CO hxn]⟩
   .rw[cf];refine dz.mpr ⟨ok.nd,by simp,fun u hu v hv e=>?_⟩;have:v=x:=by simpa using hv
    rw[e,this]at hu;exact hxn hu
   .rcases bj.mp hz with g|g
    .exact ok.nm z g
    .rw[bu.mp g];exact⟨hx,ho⟩
  have hkl:(o7 hs).length<1000000:=by unfold o7;rw[ag];omega
  refine⟨fun _=>⟨fun g=>BJ (o:=none) (by omega) fun b hb=>?_,fun g=>aK _⟩,fun _=>⟨fun g=>BJ (o:=some y) (by omega) fun b hb=>?_,fun g=>aK _⟩⟩
  .cases b with
   |true=>walk_at "w";exact aK _
   |false=>walk_at "w";exact⟨hkl,put none (fun y e=>by cases e) (fun h=>absurd (hb.mpr h) ax) g⟩
  .cases b with
   |true=>walk_at "w";exact aK _
   |false=>walk_at "w";exact⟨hkl,put (some y) (fun z e=>by cases e;exact hy) (fun h=>absurd (hb.mpr h) ax) g⟩
 .rintro e ⟨hs,a,b,c,v4,v5,v6,hl,⟨ok,nr⟩,hp,rfl⟩;rw[ag,cw]at hl hp;walk_at "w";rw[NV,acE,aaA ok.nd];obtain⟨ks,k1,k2⟩:=W4 (dI 3 (mP hs));rw[k2];have hk:(o7 hs).length=hs.length:=by unfold o7;rw[ag]
  walk_at "w";refine⟨by omega,q ks a b c (by rw[k1.length_eq];exact hl) ⟨(k1.map _).nodup_iff.mpr ok.nd,fun z hz=>ok.nm z (k1.mem_iff.mp hz)⟩ (nr.perm ok.nd k1) (hp.mono (by omega))⟩
end
section
open PySem L2 Mr
theorem fG (f:Str->PV) (ns:List Str) (x:Str):cG (dX f ns) (Sum.inr x)=if x∈ns then some (f x)else none:=by
 unfold cG dX
 induction ns with
 |nil=>rfl
 | cons y ns ih=>
  rw[map_cons,find?_cons]
  by_cases h:y=x
  .subst h;rw[decide_eq_true rfl,ao bh];rfl
  .rw[decide_eq_false (fun e=>h (Sum.inr.inj e))];rw[ih];have:(x∈y::ns)↔(x∈ns):=by simp[Ne.symm h]
   simp only[this]
theorem OA {g:Str->PV} (h:∀x∈ns,f x=g x):dX f ns=dX g ns:=ja fun x hx=>by rw[h x hx]
noncomputable def m7 (f:Str->PV) (x:Str) (v:PV) (y:Str):PV:=if y=x then v else f y
theorem eV (f:Str->PV) (ns:List Str) (x:Str) (v:PV):eG (dX f ns) (Sum.inr x) v=dX (m7 f x v) (gD ns x):=by
 unfold eG gD
 by_cases h:x∈ns
 .have e:((dX f ns).any fun kv=>decide (kv.1=Sum.inr x))=true:=by
   unfold dX;rw[any_map,iq];exact⟨x,h,by simp⟩
  rw[e,ao rfl,ao h];unfold dX;rw[iz];refine ja fun y hy=>?_
  simp only[Function.comp_apply,m7]
  by_cases hyx:y=x
  .subst hyx;simp
  .rw[ai (by simpa using hyx),ai hyx]
 .have e:((dX f ns).any fun kv=>decide (kv.1=Sum.inr x))=false:=by
   unfold dX;rw[any_map,jt];intro y hy;have:y≠x:=fun e=>h (e▸hy)
   simp[this]
  rw[e,ai ax,ai h];unfold dX;rw[cf];congr 1
  .refine ja fun y hy=>?_
   have:y≠x:=fun e=>h (e▸hy)
   unfold m7;rw[ai this]
  .simp[m7]
theorem fT (f:Str->PV) (ns:List Str):(dX f ns).length=ns.length:=by unfold dX;rw[ag]
theorem LU (h:ns.Nodup):(gD ns x).Nodup:=by
 unfold gD;split
 .exact h
 .rename_i hx;refine dz.mpr ⟨h,by simp,fun a ha b hb e=>?_⟩;rw[bu.mp hb]at e;exact hx (e▸ha)
theorem VP (h:x∈ns):gD ns x=ns:=by unfold gD;rw[ao h]
theorem yP (f:Str->PV) (ns:List Str):((dX f ns).map fun kv=>yW kv.1)=ns.map PV.str:=by
 unfold dX;rw[iz];rfl
theorem GA {ks:Hl} (h:x∈ks.map (·.1)) (hn:(ks.map (·.1)).Nodup):(EY qs ks x).e=iB ks x/\(EY qs ks x).r=MP:=by
 unfold EY iB;obtain⟨z,hz,rfl⟩:=bp.mp h;cases e:ks.find? fun w=>decide (w.1=z.1)with
 |none=>exact absurd (decide_eq_true rfl) (jx.mp e z hz)
 |some w=>exact⟨rfl,rfl⟩
theorem XX (h:t∈pT x (kC qs)):∃l∈st qs,∃i:Nat,t.name=l.name/\t.day=l.day/\t.at'=(i:Int)/\0<i/\(el l)[i]? =some x/\∃y,(el l)[i - 1]? =some y/\wU qs t=some y:=by
 obtain⟨hkey,l,hl,htl⟩:=u6 h;obtain⟨hn1,hd,i,hi,hi0,hel⟩:=DY htl;have hil:i<(el l).length:=(af.mp hel).1;have hfind:(st qs).find? (fun k=>decide (k.name=t.name))=some l:=by rw[hn1];exact oA hl
 have hat:(t.at' - 1).toNat=i - 1:=by rw[hi];omega
 have hpre:(el l)[i - 1]? =some (el l)[i - 1]:=aj (by omega);exact⟨l,hl,i,hn1,hd,hi,hi0,by rw[<-hkey];exact hel,_,hpre,by unfold wU;rw[hfind,hat];exact hpre⟩
theorem QY (h:JD ts=some t):t∈ts:=ay h
theorem abQ {l:Let} (h:x∈el l):x≠l.name:=by
 unfold el L9 at h;obtain⟨i,_,hi⟩:=ir.mp h;cases c:l.row[i]? with
 |none=>rw[c]at hi;cases hi
 |some y=>
  rw[c,bind_some]at hi;split at hi
  .rename_i hh;cases hi;exact hh.1
  .cases hi
theorem vQ {qs:List Let} {ks:Hl} {x:Str} (hk:(ks.map (·.1)).Nodup) (nr:xH ks) (h:(EY qs ks x).e=some y):y≠x/\y∈iF qs ks:=by
 unfold EY at h;cases e1:ks.find? fun z=>decide (z.1=x)with
 | some z=>
  rw[e1]at h;have hz:=je e1;have hzx:z.1=x:=av (by have:=find?_some e1;exact this);have h:z.2=some y:=h;refine⟨fun e=>nr x ⟨0,?_⟩,bq _ (dg.mpr ⟨z,hz,?_⟩)⟩
  .have:iB ks x=some x:=by unfold iB;rw[e1,<-e];exact h
   unfold Rg.dA;rw[this];rfl
  .unfold uV;rw[h];simp
 | none=>
  rw[e1]at h;cases e2:(st qs).find? fun l=>decide (l.name=x)with
  | some l=>
   rw[e2]at h;have hl:=je e2;have hlx:l.name=x:=av (by have:=find?_some e2;exact this);dsimp only at h;cases e3:(el l).getLast? with
   |none=>rw[e3]at h;cases h
   |some w=>
    rw[e3]at h;cases h;have hw:=List.mem_of_getLast? e3;exact⟨by rw[<-hlx];exact abQ hw,dc _ (dg.mpr ⟨l,hl,ba _ hw⟩)⟩
  | none=>
   rw[e2]at h;dsimp only at h;cases e3:JD (pT x (kC qs))with
   |none=>rw[e3]at h;cases h
   |some t=>
    rw[e3]at h;obtain⟨l,hl,i,_,_,_,hi0,hx,w,hw,he⟩:=XX (QY e3);have h:wU qs t=some y:=h;rw[he]at h;cases h;refine⟨fun e=>?_,dc _ (dg.mpr ⟨l,hl,ba _ (ay hw)⟩)⟩;rw[e]at hw;have:=(getElem?_inj (af.mp hw).1 (FU l)).mp (hw.trans hx.symm);omega
end
section
open PySem L2 Mr
noncomputable abbrev pB (qs:List Let) (ks:Hl) (x:Str):Option Str:=(EY qs ks x).e
noncomputable abbrev R5 (qs:List Let) (ks:Hl) (ns:List Str):Hl:=ns.map fun x=>(x,pB qs ks x)
theorem gR (qs:List Let) (ks:Hl) (ns:List Str):(R5 qs ks ns).map (·.1)=ns:=by rw[iz];exact map_id' _
theorem find_none {p:α->Bool} {l:List α} (h:∀a∈l,p a=false):l.find? p=none:=jx.mpr fun a ha e=>by rw[h a ha]at e;cases e
theorem xQ {l:Let} (h:t∈G9 l):t.key∈el l:=by
 obtain⟨_,_,i,_,_,hi⟩:=DY h;exact ay hi
theorem ES (h:x∉iF qs ks):EY qs ks x=⟨none,y6⟩:=by
 have h1:ks.find? (fun z=>decide (z.1=x))=none:=find_none fun z hz=>decide_eq_false fun e=>h (bq _ (dg.mpr ⟨z,hz,by unfold uV;rw[e];exact bh⟩))
 have h2:(st qs).find? (fun l=>decide (l.name=x))=none:=find_none fun z hz=>decide_eq_false fun e=>h (dc _ (dg.mpr ⟨z,hz,by unfold xU;rw[e];exact bh⟩))
 have h3:pT x (kC qs)=[]:=List.eq_nil_iff_forall_not_mem.mpr fun t ht=>by
  obtain⟨hk,l,hl,htl⟩:=u6 ht;exact h (dc _ (dg.mpr ⟨l,hl,by rw[<-hk];exact ba _ (xQ htl)⟩))
 unfold EY;rw[h1,h2,h3];rfl
theorem VY {qs:List Let} {ks:Hl} {ns:List Str} (hm:∀x,x∈ns↔x∈iF qs ks) (hn:ns.Nodup):iB (R5 qs ks ns)=pB qs ks:=by
 funext x
 by_cases h:x∈ns
 .exact qR (by rw[gR];exact hn) (bp.mpr ⟨x,h,rfl⟩)
 .have e:pB qs ks x=none:=by show(EY qs ks x).e=none;rw[ES fun z=>h ((hm x).mpr z)]
  rw[e];cases c:iB (R5 qs ks ns) x with
  |none=>rfl
  |some y=>exact absurd (by have:=yS c;rwa[gR]at this) h
noncomputable def pP (qs:List Let) (x:Str):PV:=match(st qs).find? fun l=>decide (l.name=x)with
 |some l=>.int l.day
 |none=>.bG
theorem uF {l:List α} (nd:l.Nodup) {x:α} (h:l[i]? =some x):x∉l.take i:=fun hx=>by
 obtain⟨j,hj⟩:=fu hx;rw[getElem?_take]at hj;split at hj
 .have:=(getElem?_inj (af.mp hj).1 nd).mp (hj.trans h.symm);omega
 .cases hj
theorem WA (hl:qs.length<=100) (q:Q (.aZ (dX (pP qs) ((st qs).map (·.name))),[])):Wp (nV [.tup (qs.map lP)]) Q:=by
 unfold nV vF;walk_at "w";refine kK hl ?_;walk_at "w";have:=vD qs;refine⟨by omega,?_⟩;refine jX (fun i d e=>d=dX (pP qs) (((st qs).take i).map (·.name))/\∃s,e=[s]) ?_ ?_ ⟨rfl,_,rfl⟩
 .rintro i p e d hx ⟨rfl,s,rfl⟩;rw[aq]at hx;obtain⟨l,hk,rfl⟩:=bf.mp hx;unfold lP;walk_at "w";refine⟨?_,_,rfl⟩;have hf:pP qs l.name= .int l.day:=by unfold pP;rw[oA (ay hk)]
  rw[<-hf,uC,di,hk,cf]
  .rfl
  .rw[map_take];exact uF (HQ qs) (by rw[aq,hk];rfl)
 .rintro d e ⟨rfl,s,rfl⟩;rw[ag,de];walk_at "w";exact q
structure Cut (qs:List Let) (ks:Hl) (R:List Str) (x:Str):Prop where
 mem:x∈R
 free:x∉ks.map (·.1)
 empty:∀y∈R,y∉ks.map (·.1)->y∉(st qs).map (·.name)->x∉(st qs).map (·.name)/\o4 3 (.str x) (.str y)=true
 full:(∀y∈R,y∉ks.map (·.1)->y∈(st qs).map (·.name))->∀y∈R,y∉ks.map (·.1)->o4 3 (.tup [pP qs x,.str x]) (.tup [pP qs y,.str y])=true
theorem kQ {ns:List Str} {p:Str->Bool} {fg:FG} {ft:FT} {fe:FE} {Q:List PV×En->Prop} {I:En->Prop} {e:En} (h0:I e) (hs:∀x∈ns,∀e,I e->Wp (fg (.str x) e) fun e1=>Wp (ft e1) fun z=>z.1=p x/\match z.1 with|false=>I z.2|true=>Wp (fe z.2) fun w=>Wp w.1.put fun q=>q= .str x/\I w.2) (q:∀e,I e->Q ((ns.filter p).map PV.str,e)):Wp (kR fg ft fe (ns.map PV.str) e) Q:=by
 refine c9 (fun i acc e=>acc=((ns.take i).filter p).map PV.str/\I e) ?_ ?_ ⟨rfl,h0⟩
 .rintro i x e acc hx ⟨rfl,hi⟩;rw[aq]at hx;obtain⟨y,hy,rfl⟩:=bf.mp hx;refine(hs y (ay hy) e hi).mono fun e1 h=>h.mono fun z ⟨h1,h2⟩=>?_
  obtain⟨b,e2⟩:=z;dsimp only at h1 h2⊢
  have et:(ns.take (i+1)).filter p=(ns.take i).filter p++if p y=true then [y]else []:=by
   rw[di,hy,toList_some,List.filter_append];congr 1;rw[List.filter_cons];rfl
  cases b with
  |false=>exact⟨by rw[et,<-h1,ai ax,df],h2⟩
  |true=>exact h2.mono fun w h=>h.mono fun q ⟨hq,hi⟩=>⟨by rw[et,<-h1,ao rfl,hq,cf];rfl,hi⟩
 .rintro acc e ⟨rfl,hi⟩;rw[ag,de];exact q e hi
theorem QN (ks:List Str) (x:Str):(cG (kT ks) (Sum.inr x)).isSome=decide (x∈ks):=by
 have:kT ks=dX (fun _=>.bl true) ks:=rfl;rw[this,fG]
 by_cases h:x∈ks
 .rw[ao h,decide_eq_true h];rfl
 .rw[ai h,decide_eq_false h];rfl
theorem xT (f:Str->PV) (ks:List Str) (x:Str):(cG (dX f ks) (Sum.inr x)).isSome=decide (x∈ks):=by
 rw[fG]
 by_cases h:x∈ks
 .rw[ao h,decide_eq_true h];rfl
 .rw[ai h,decide_eq_false h];rfl
theorem x6 (ns:List Str):cW 3 (ns.map PV.str)=true:=bg.mpr fun p hp=>by
 obtain⟨x,_,rfl⟩:=bp.mp hp;rw[cj];refine⟨rfl,bg.mpr fun q hq=>?_⟩;obtain⟨y,_,rfl⟩:=bp.mp hq;rfl
theorem RX (h:x∈(st qs).map (·.name)):∃d,pP qs x= .int d:=by
 obtain⟨l,hl,rfl⟩:=bp.mp h;exact⟨l.day,by unfold pP;rw[oA hl]⟩
theorem x5 (h:∀x∈ns,x∈(st qs).map (·.name)):cW 3 (ns.map fun x=>.tup [pP qs x,.str x])=true:=bg.mpr fun p hp=>by
 obtain⟨x,hx,rfl⟩:=bp.mp hp;obtain⟨d,e⟩:=RX (h x hx);rw[cj,e];refine⟨rfl,bg.mpr fun q hq=>?_⟩;obtain⟨y,hy,rfl⟩:=bp.mp hq;obtain⟨d2,e2⟩:=RX (h y hy);rw[e2];unfold tO eE;split
 .unfold eE;split
  .rfl
  .rfl
 .rfl
theorem Y3 {fr em:List Str} {z:Str} (hmf:∀x,x∈fr↔x∈R/\x∉ks.map (·.1)) (hme:∀x,x∈z::em↔x∈fr/\x∉(st qs).map (·.name)):∃x,PV.str x=yH (.str z::em.map PV.str)/\Cut qs ks R x:=by
 obtain⟨x,hx,e⟩:=bp.mp (G4 (ps:=(z::em).map PV.str) (by simp));rw[map_cons]at e;obtain⟨hxf,hxn⟩:=(hme x).mp hx;obtain⟨hxR,hxk⟩:=(hmf x).mp hxf;refine⟨x,e,hxR,hxk,fun y hy hyk hyn=>⟨hxn,?_⟩,fun h=>absurd (h x hxR hxk) hxn⟩;have:=sD (ps:=(z::em).map PV.str) (q:=.str y) (bp.mpr ⟨y,(hme y).mpr ⟨(hmf y).mpr ⟨hy,hyk⟩,hyn⟩,rfl⟩);rw[map_cons,<-e]at this;exact this
theorem Y8 {qs:List Let} {fr:List Str} (hmf:∀x,x∈fr↔x∈R/\x∉ks.map (·.1)) (hall:∀x∈fr,x∈(st qs).map (·.name)) (hf:∃x∈R,x∉ks.map (·.1)):0<fr.length/\∃x,PV.tup [pP qs x,.str x]=yH (fr.map fun x=>.tup [pP qs x,.str x])/\Cut qs ks R x:=by
 obtain⟨x0,hx0,hxk0⟩:=hf;have h0:=length_pos_of_mem ((hmf x0).mpr ⟨hx0,hxk0⟩);obtain⟨x,hx,e⟩:=bp.mp (G4 (ps:=fr.map fun x=>PV.tup [pP qs x,.str x]) (by rw[ag];exact h0));obtain⟨hxR,hxk⟩:=(hmf x).mp hx;refine⟨h0,x,e,hxR,hxk,fun y hy hyk hyn=>absurd (hall y ((hmf y).mpr ⟨hy,hyk⟩)) hyn,fun _ y hy hyk=>?_⟩;have:=sD (ps:=fr.map fun x=>PV.tup [pP qs x,.str x]) (q:=.tup [pP qs y,.str y]) (bp.mpr ⟨y,(hmf y).mpr ⟨hy,hyk⟩,rfl⟩);rw[<-e]at this;exact this
theorem aaD {hn:List Str} (hh:∀x,x∈hn↔x∈ks.map (·.1)) (hR:R.length<=100) (hf:∃x∈R,x∉ks.map (·.1)) (q:∀x,Cut qs ks R x->Q (.str x,[])):Wp (nP [.lst (R.map PV.str),.aZ (kT hn),.aZ (dX (pP qs) ((st qs).map (·.name)))]) Q:=by
 unfold nP vK;walk_at "w";refine⟨by omega,?_⟩;refine kQ (p:=fun x=>!decide (x∈hn)) (I:=fun e=>∃s,e=[s,some (Sl.bor (.aZ (kT hn)))]) ⟨_,rfl⟩ ?_ ?_
 .rintro x hx e ⟨s,rfl⟩;walk_at "w";rw[QN];refine⟨rfl,?_⟩
  by_cases h:x∈hn
  .rw[decide_eq_true h];exact⟨_,rfl⟩
  .rw[decide_eq_false h];exact⟨_,rfl⟩
 rintro e ⟨s,rfl⟩;have fl:(R.filter fun x=>!decide (x∈hn)).length<=100:=gf (length_filter_le _ _) hR;generalize hfr:(R.filter fun x=>!decide (x∈hn))=fr at fl;have hmf:∀x,x∈fr↔x∈R/\x∉ks.map (·.1):=fun x=>by
  rw[<-hfr,jl,<-hh x];simp
 walk_at "w";refine⟨by omega,?_⟩;refine kQ (p:=fun x=>!decide (x∈(st qs).map (·.name))) (I:=fun e=>∃s,e=[s,some (Sl.bor (.aZ (dX (pP qs) ((st qs).map (·.name)))))]) ⟨_,rfl⟩ ?_ ?_
 .rintro x hx e ⟨s,rfl⟩;walk_at "w";rw[xT];refine⟨rfl,?_⟩
  by_cases h:x∈(st qs).map (·.name)
  .rw[decide_eq_true h];exact⟨_,rfl⟩
  .rw[decide_eq_false h];exact⟨_,rfl⟩
 rintro e ⟨s,rfl⟩;have el:(fr.filter fun x=>!decide (x∈(st qs).map (·.name))).length<=100:=gf (length_filter_le _ _) fl;generalize hem:(fr.filter fun x=>!decide (x∈(st qs).map (·.name)))=em at el;have hme:∀x,x∈em↔x∈fr/\x∉(st qs).map (·.name):=fun x=>by
  rw[<-hem,jl];simp only[not_eq_true',lh]
 walk_at "w";cases em with
 |cons z em=>
  walk_at "w";have hc:=x6 (z::em);rw[map_cons]at hc;refine⟨fun _=>⟨⟨by simp,hc⟩,?_⟩,fun h=>(by cases h)⟩;obtain⟨x,e,cu⟩:=Y3 hmf hme;rw[<-e];exact q x cu
 | nil=>
  have hall:∀x∈fr,x∈(st qs).map (·.name):=fun x hx=>cv fun h=>by have:=(hme x).mpr ⟨hx,h⟩;cases this
  walk_at "w";refine⟨fun h=>(by cases h),fun _=>⟨by omega,?_⟩⟩;refine c9 (fun i acc e=>acc=(fr.take i).map (fun x=>.tup [pP qs x,.str x])/\∃s,e=[s,some (Sl.bor (.aZ (dX (pP qs) ((st qs).map (·.name)))))]) ?_ ?_ ⟨rfl,_,rfl⟩
  .rintro i p e acc hx ⟨rfl,s,rfl⟩;rw[aq]at hx;obtain⟨y,hy,rfl⟩:=bf.mp hx;walk_at "w";rw[fG,ao (hall y (ay hy))];walk_at "w";refine⟨by rw[di,hy,cf];rfl,_,rfl⟩
  .rintro acc e ⟨rfl,s,rfl⟩;rw[ag,de];obtain⟨h0,x,e,cu⟩:=Y8 hmf hall hf;walk_at "w";refine⟨⟨h0,x5 hall⟩,?_⟩;rw[<-e];walk_at "w";exact q x cu
theorem SO (hx:x∈R) (hR:R.length<=100) (q:Q (.tup ((R.drop (R.idxOf x)++R.take (R.idxOf x)).map PV.str),[])):Wp (gX [.lst (R.map PV.str),.str x]) Q:=by
 unfold gX nZ;walk_at "w";rw[qN];walk_at "w";refine⟨⟨hx,by omega⟩,?_⟩;rw[mC,yB,<-map_drop,<-map_take,<-cf];refine⟨?_,q⟩;rw[ag,ag,fy,gy];omega
end
section
open PySem L2 Mr
noncomputable abbrev tT (R:List Str):PV:=.tup (R.map PV.str)
theorem af4 (R:List Str):rJ 3 (tT R)=true:=DL R 2
theorem OD (Rs:List (List Str)):cW 3 (Rs.map tT)=true:=bg.mpr fun p hp=>by
 obtain⟨x,_,rfl⟩:=bp.mp hp;rw[cj];refine⟨af4 x,bg.mpr fun q hq=>?_⟩;obtain⟨y,_,rfl⟩:=bp.mp hq;exact lF 2 x y
theorem OK (h:∀R∈Rs,R≠[]):(Rs.map tT).all (pJ true)=true:=bg.mpr fun p hp=>by
 obtain⟨x,hx,rfl⟩:=bp.mp hp;cases x with
 |nil=>exact absurd rfl (h _ hx)
 |cons a x=>rfl
theorem HB {Rs:List (List Str)}:∀{ps:List PV},ps.Perm (Rs.map tT)->∃Ks:List (List Str),Ks.Perm Rs/\ps=Ks.map tT:=by
 intro ps h;generalize e:Rs.map tT=qs at h
 induction h generalizing Rs with
 |nil=>cases Rs with
  |nil=>exact⟨[],.refl _,rfl⟩
  |cons a b=>cases e
 | cons x _ ih=>cases Rs with
  |nil=>cases e
  |cons a b=>
   cases e;obtain⟨Ks,h1,h2⟩:=ih rfl;exact⟨a::Ks,h1.cons a,by rw[h2];rfl⟩
 | swap x y l=>match Rs,e with
  |a::b::c,e=>
   cases e;exact⟨b::a::c,.swap _ _ _,rfl⟩
 |trans _ _ ih1 ih2=>
  obtain⟨Ks,h1,h2⟩:=ih2 e;obtain⟨Js,h3,h4⟩:=ih1 h2.symm;exact⟨Js,h3.trans h1,h4⟩
theorem JX {Rs:List (List Str)} {Q:Bv->Prop} (h:Rs.length<64) (hne:∀R∈Rs,R≠[]) (q:∀Ks:List (List Str),Ks.Perm Rs->(Ks.map tT).Pairwise (fun a b=>o4 3 a b=true)->Q (.new (.lst (Ks.map tT)))):Wp (fM [.lst (Rs.map tT)]) Q:=by
 cases Rs with
 |nil=>exact⟨_,rfl,by rw[show eB []=[] by unfold eB;simp];exact q [] (.refl _) .nil⟩
 | cons l ls=>
  have e1:zR [.lst ((l::ls).map tT)]=none:=rfl;have e2:sC [.lst ((l::ls).map tT)]=none:=rfl;unfold fM;rw[e1,e2,none_or,none_or];unfold zG;simp only[eQ,b9];refine⟨?_,?_⟩
  .rw[OK hne,OD,ag,decide_eq_true h];rfl
  .obtain⟨ks,k1,k2⟩:=HB (dI 3 ((l::ls).map tT));have:=iR 3 ((l::ls).map tT);rw[k2]at this⊢
   exact q ks k1 this
structure U5 (qs:List Let) (ks:Hl) (ns:List Str) (Rs:List (List Str)):Prop where
 srt:(Rs.map tT).Pairwise fun a b=>o4 3 a b=true
 ring:∀R∈Rs,Rg.Ring (pB qs ks) R
 cut:∀R∈Rs,∀x,R.head? =some x->Cut qs ks R x
 nd:Rs.flatten.Nodup
 sub:∀R∈Rs,∀x∈R,x∈ns
 all:∀x∈ns,Rg.A8 (pB qs ks) x->x∈Rs.flatten
 len:Rs.length<=ns.length
theorem F4 (hk:(ks.map (·.1)).Nodup) (nr:xH ks) (r:Rg.Ring (pB qs ks) R):∃x∈R,x∉ks.map (·.1):=by
 apply cv;intro hno;have hall:∀x∈R,x∈ks.map (·.1):=fun x hx=>cv fun h=>hno ⟨x,hx,h⟩
 have r':Rg.Ring (iB ks) R:=r.congr fun x hx=>(GA (hall x hx) hk).1
 obtain⟨x,hx⟩:=List.exists_mem_of_ne_nil _ r.ne;exact nr x (r'.A8 hx)
theorem zM (h:S.Perm R) (c:Cut qs ks R x):Cut qs ks S x:=
 ⟨h.mem_iff.mpr c.mem,c.free,fun y hy=>c.empty y (h.mem_iff.mp hy),fun k y hy=>c.full (fun z hz=>k z (h.mem_iff.mpr hz)) y (h.mem_iff.mp hy)⟩
theorem agW (h:Rg.F2 (fun a b:List Str=>∃i,i<b.length/\a=b.drop i++b.take i) Rs F):(∀R∈Rs,∃S∈F,∃i,i<S.length/\R=S.drop i++S.take i)/\Rs.flatten.Perm F.flatten:=by
 induction h with
 |nil=>exact⟨fun _ h=>(nomatch h),.refl _⟩
 | cons h _ ih=>
  obtain⟨i,hi,rfl⟩:=h;refine⟨fun R hR=>?_,(Rg.uB _ i).append ih.2⟩;rcases bw.mp hR with rfl|hR
  .exact⟨_,bh,i,hi,rfl⟩
  .obtain⟨S,h1,h2⟩:=ih.1 R hR;exact⟨S,ba _ h1,h2⟩
theorem DM (hl:qs.length<=100) (hk:ks.length<=100) (hkn:(ks.map (·.1)).Nodup) (nr:xH ks) (hn:ns.Nodup) (hm:∀x,x∈ns↔x∈iF qs ks) (hnl:ns.length<=60)
  (q:∀Rs,U5 qs ks ns Rs->Q (.tup (Rs.map tT),[])):Wp (dJ [.tup (qs.map lP),.tup (mP ks),.aZ (dX (AB qs ks) ns)]) Q:=by
 unfold dJ pF;walk_at "w";refine⟨by unfold mP;rw[ag];omega,?_⟩;refine jX (fun i d e=>d=kT (cQ ((ks.take i).map (·.1)))/\∃s t,e=[s,t]) ?_ ?_ ⟨rfl,_,_,rfl⟩
 .rintro i p e d hx ⟨rfl,s,t,rfl⟩;unfold mP at hx;rw[aq]at hx;obtain⟨z,hz,rfl⟩:=bf.mp hx;walk_at "w";refine⟨?_,_,_,rfl⟩;rw[tI,<-fP,di,hz,cf];rfl
 .rintro d e ⟨rfl,s,t,rfl⟩;rw[show(mP ks).length=ks.length by unfold mP;rw[ag],de];have hh:∀x,x∈cQ (ks.map (·.1))↔x∈ks.map (·.1):=fun x=>tD
  generalize cQ (ks.map (·.1))=hn' at hh;walk_at "w";refine WA hl ?_;walk_at "w";rw[yP];refine⟨by rw[fT];omega,?_⟩;refine jX (fun i d e=>d=o7 (R5 qs ks (ns.take i))/\∃s,e=[s,some (Sl.bor (.aZ (dX (AB qs ks) ns)))]) ?_ ?_ ⟨rfl,_,rfl⟩
  .rintro i p e d hx ⟨rfl,s,rfl⟩;rw[aq]at hx;obtain⟨x,hxe,rfl⟩:=bf.mp hx;walk_at "w";rw[fG,ao (ay hxe)];unfold AB;walk_at "w";refine⟨?_,_,rfl⟩;rw[CO (by rw[gR];exact uF hn hxe),di,hxe];unfold R5;rw[cf];rfl
  .rintro d e ⟨rfl,s,rfl⟩;rw[ag,de];walk_at "w";refine F9 (by rw[ag];omega) (by rw[gR];exact hn) fun S F hF hS1 hS2=>?_
   rw[VY hm hn]at hF;rw[gR]at hS1;have sub:∀R∈F,∀x∈R,x∈ns:=fun R hR x hx=>by
    have h1:=hS2 x (hF.sub R hR x hx);unfold fV at h1;rw[gR]at h1;rcases bj.mp h1 with h1|h1
    .exact h1
    .obtain⟨z,hz,hzx⟩:=ir.mp h1;obtain⟨w,hw,rfl⟩:=bp.mp hz;exact(hm x).mpr (vQ hkn nr hzx).2
   have fl:F.flatten.length<=ns.length:=dY hF.nd fun x hx=>by
    obtain⟨R,hR,hx⟩:=mem_flatten.mp hx;exact sub R hR x hx
   have rl:∀R∈F,R.length<=100:=fun R hR=>by
    have:=dY (hF.ring R hR).nd (sub R hR);omega
   have nl:∀F:List (List Str),(∀R∈F,R≠[])->F.length<=F.flatten.length:=by
    intro F
    induction F with
    |nil=>intro _;exact bc _
    |cons R F ih=>
     intro h;have h1:=ih fun R hR=>h R (ba _ hR)
     have h2:=length_pos_iff.mpr (h R bh);rw[List.flatten_cons,br,length_cons];omega
   have hFl:=nl F fun R hR=>(hF.ring R hR).ne
   walk_at "w";refine⟨by omega,?_⟩;refine c9 (fun i acc e=>(∃Rs:List (List Str),acc=Rs.map tT/\Rg.F2 (fun a b:List Str=>∃i,i<b.length/\a=b.drop i++b.take i) Rs (F.take i)/\∀R∈Rs,∀x,R.head? =some x->Cut qs ks R x)/\∃s,e=[s,some (Sl.val (.aZ (kT hn'))),some (Sl.val (.aZ (dX (pP qs) ((st qs).map (·.name)))))]) ?_ ?_ ⟨⟨[],rfl,.nil,fun _ h=>(nomatch h)⟩,_,rfl⟩
   .rintro i p e acc hx ⟨⟨Rs,rfl,h2,hcut⟩,s,rfl⟩;rw[aq]at hx;obtain⟨R,hR,rfl⟩:=bf.mp hx;have hRF:=ay hR;walk_at "w";refine aaD (R:=R) hh (rl R hRF) (F4 hkn nr (hF.ring R hRF)) fun x hc=>?_
    walk_at "w";refine SO hc.mem (rl R hRF) ?_;walk_at "w";have hi:R.idxOf x<R.length:=ku.mpr hc.mem;refine⟨⟨Rs++[R.drop (R.idxOf x)++R.take (R.idxOf x)],(cf (f:=tT) (l₁:=Rs) (l₂:=[R.drop (R.idxOf x)++R.take (R.idxOf x)])).symm,?_,fun S hS y hy=>?_⟩,_,rfl⟩
    .rw[di,hR];have ap:∀{A B:List (List Str)},Rg.F2 (fun a b:List Str=>∃i,i<b.length/\a=b.drop i++b.take i) A B->∀{a b:List Str},(∃i,i<b.length/\a=b.drop i++b.take i)->Rg.F2 (fun a b:List Str=>∃i,i<b.length/\a=b.drop i++b.take i) (A++[a]) (B++[b]):=by
      intro A B h
      induction h with
      |nil=>intro a b h;exact .cons h .nil
      |cons h _ ih=>intro a b h';exact .cons h (ih h')
     exact ap h2 ⟨_,hi,rfl⟩
    .rcases bj.mp hS with hS|hS
     .exact hcut S hS y hy
     .rw[bu.mp hS]at hy⊢
      have hne:R.drop (R.idxOf x)≠[]:=fun e=>by have:=dq List.length e;rw[fy,length_nil]at this;omega
      rw[Rg.tY hne,head?_drop,aj hi,getElem_idxOf]at hy;cases hy;exact zM (Rg.uB R _) hc
   .rintro acc e ⟨⟨Rs,rfl,h2,hcut⟩,s,rfl⟩;rw[ag,de]at h2;obtain⟨ro,fp⟩:=agW h2;have ring:∀R∈Rs,Rg.Ring (pB qs ks) R:=fun R hR=>by
     obtain⟨S,hS,i,hi,rfl⟩:=ro R hR;exact(hF.ring S hS).rot i hi
    have rlen:Rs.length<=ns.length:=by
     have:=nl Rs fun R hR=>(ring R hR).ne
     rw[fp.length_eq]at this;omega
    walk_at "w";refine JX (by omega) (fun R hR=>(ring R hR).ne) fun Ks hK hs=>?_
    walk_at "w";have kf:Ks.flatten.Perm F.flatten:=(List.Perm.flatten hK).trans fp;refine q Ks ⟨hs,fun R hR=>ring R (hK.mem_iff.mp hR),fun R hR=>hcut R (hK.mem_iff.mp hR),kf.nodup_iff.mpr hF.nd,fun R hR x hx=>?_,fun x hx c=>kf.mem_iff.mpr (hF.all x (hS1 x hx) c),by rw[hK.length_eq];exact rlen⟩;obtain⟨S,hS,i,hi,rfl⟩:=ro R (hK.mem_iff.mp hR);exact sub S hS x ((Rg.uB S i).mem_iff.mp hx)
end
section
open PySem L2 Mr
theorem W2 {l m:List Str} (h1:l.Nodup) (h2:m.Nodup) (h:∀x,x∈l↔x∈m):l.Perm m:=(List.perm_ext_iff_of_nodup h1 h2).mpr h
noncomputable abbrev RU (R:List Str):PV:=.tup [.str (Str.ofString "ring"),tT R]
noncomputable abbrev aaZ (E:Str->Option Str) (Rn:Str->PV) (x:Str):PV:=.tup [.str x,oP (E x),Rn x]
noncomputable abbrev vU (qs:List Let) (ks:Hl):List Str:=eB (cQ (iF qs ks))
structure Cuts (qs:List Let) (ks:Hl) (Rs:List (List Str)) (E:Str->Option Str) (Rn:Str->PV):Prop where
 hd:∀R∈Rs,∀h,R.head? =some h->E h=none/\Rn h=RU R
 ot:∀x,(∀R∈Rs,R.head?≠some x)->E x=pB qs ks x/\Rn x=(EY qs ks x).r
theorem zN (qs:List Let) (ks:Hl) (x:Str):x∈vU qs ks↔x∈iF qs ks:=(fD _).mem_iff.trans tD
theorem LA (qs:List Let) (ks:Hl):(vU qs ks).Nodup:=(fD _).nodup_iff.mpr (vO _)
theorem KG (g:Good ss qs ks):∀x∈iF qs ks,x∈ss:=fun x hx=>by
 rcases bj.mp hx with w|w
 .obtain⟨l',h1,h2⟩:=dg.mp w;exact qJ g h1 x h2
 .obtain⟨l',h1,h2⟩:=dg.mp w;exact DT g h1 x h2
theorem EV (g:Good ss qs ks):(vU qs ks).length<=ss.length:=dY (LA qs ks) fun x hx=>KG g x ((zN qs ks x).mp hx)
theorem P1 (nd:Rs.flatten.Nodup) {h:Str} (hR:Rs[i]? =some R) (hS:S∈Rs.take i) (h1:R.head? =some h) (h2:S.head? =some h):False:=by
 have hi:=(af.mp hR).1;rw[<-fw i Rs,List.flatten_append]at nd;refine(dz.mp nd).2.2 h (mem_flatten.mpr ⟨S,hS,List.mem_of_head? h2⟩) h (mem_flatten.mpr ⟨R,?_,List.mem_of_head? h1⟩) rfl;refine ay (i:=0) ?_;rw[List.getElem?_drop];exact hR
theorem ae0 (g:Good ss qs ks) (hss:ss.length<=60) (hl:qs.length<=100) (hk:ks.length<=100) (hkn:(ks.map (·.1)).Nodup) (nr:xH ks):
  ∃Rs,U5 qs ks (vU qs ks) Rs/\dJ [.tup (qs.map lP),.tup (mP ks),.aZ (dX (AB qs ks) (vU qs ks))]=some (.tup (Rs.map tT),[]):=by
 have k:Wp (dJ [.tup (qs.map lP),.tup (mP ks),.aZ (dX (AB qs ks) (vU qs ks))]) fun w=>∃Rs,U5 qs ks (vU qs ks) Rs/\w=(.tup (Rs.map tT),[]):=
  DM hl hk hkn nr (LA qs ks) (zN qs ks) (gf (EV g) hss) fun Rs h=>⟨Rs,h,rfl⟩
 obtain⟨w,e,Rs,h,rfl⟩:=k;exact⟨Rs,h,e⟩
end
section
open PySem L2 Mr
theorem BP {ns:List Str} {Q:Bv->Prop} (h:ns.length<64) (q:Q (.new (.lst ((eB ns).map PV.str)))):Wp (fM [.aZ (dX f ns)]) Q:=by
 have ks:∀ns:List Str,rF (dX f ns)=some ns:=by
  intro ns
  induction ns with
  |nil=>rfl
  |cons x ns ih=>
   show bO (rF (dX f ns)) (fun ss=>some (x::ss))=_;rw[ih];rfl
 have e1:sC [.aZ (dX f ns)]=some (.new (.lst ((eB ns).map PV.str))):=by
  show bO (rF (dX f ns)) _=_;rw[ks,qZ,decide_eq_true h];rfl
 unfold fM;rw[e1];exact⟨_,rfl,q⟩
inductive IM (qs:List Let) (ks:Hl) (Rs:List (List Str)) (i:Nat) (e:En):Prop
 |mk (E:Str->Option Str) (Rn:Str->PV) (v4:Option Sl) (h1:Cuts qs ks (Rs.take i) E Rn) (h2:e=[some (Sl.val (.tup (qs.map lP))),some (Sl.val (.tup (mP ks))),some (Sl.loc (.aZ (dX (fun x=>.tup [oP (E x),Rn x]) (vU qs ks)))),some (Sl.val (.tup (Rs.map tT))),v4])
theorem FL (g:Good ss qs ks) (hss:ss.length<=60) (hl:qs.length<=100) (hk:ks.length<=100) (hkn:(ks.map (·.1)).Nodup)
  (hR:U5 qs ks (vU qs ks) Rs) (e:dJ [.tup (qs.map lP),.tup (mP ks),.aZ (dX (AB qs ks) (vU qs ks))]=some (.tup (Rs.map tT),[]))
  (q:∀E Rn,Cuts qs ks Rs E Rn->Q (.tup ((eB (vU qs ks)).map (aaZ E Rn)),[])):Wp (kO [.tup (qs.map lP),.tup (mP ks)]) Q:=by
 have nl:(eB (cQ (iF qs ks))).length<=_:=EV g;have nl2:=EV g;unfold kO tM;walk_at "w";refine NL g hl (by omega) ?_;walk_at "w";refine JA (fun l h=>(g.1 l h).1) hl hk (LA qs ks) (by omega) (fun x hx R r=>IS hkn r) ?_;walk_at "w";refine ad4 e ?_;walk_at "w";refine cJ (IM qs ks Rs) ?_ ?_
  ⟨fun x=>pB qs ks x,fun x=>(EY qs ks x).r,_,⟨fun R h=>by simp at h,fun x _=>⟨rfl,rfl⟩⟩,rfl⟩
 .rintro i p e hp ⟨E,Rn,v4,hc,rfl⟩;rw[aq]at hp;obtain⟨R,hRi,rfl⟩:=bf.mp hp;have hRm:=ay hRi;have ne:=(hR.ring R hRm).ne;cases R with
  |nil=>exact absurd rfl ne
  | cons h R=>
   have hin:h∈vU qs ks:=hR.sub _ hRm h bh;walk_at "w";rw[eV,VP hin,fT];refine⟨by omega,fun x=>if x=h then none else E x,fun x=>if x=h then RU (h::R)else Rn x,some (Sl.val (tT (h::R))),⟨fun S hS k hk=>?_,fun x hx=>?_⟩,?_⟩
   .rw[di,hRi]at hS;rcases bj.mp hS with hS|hS
    .have hne:k≠h:=fun z=>P1 hR.nd hRi hS rfl (z▸hk)
     rw[ai hne,ai hne];exact hc.hd S hS k hk
    .have:S=h::R:=by simpa using hS
     subst this;cases hk;rw[ao rfl,ao rfl];exact⟨rfl,rfl⟩
   .have hne:x≠h:=fun z=>hx (h::R) (by rw[di,hRi];simp) (by rw[z];rfl)
    rw[ai hne,ai hne];exact hc.ot x fun S hS=>hx S (by rw[di];exact dc _ hS)
   .have:(m7 (fun x=>PV.tup [oP (E x),Rn x]) h (PV.tup [PV.bG,PV.tup [PV.str (Str.ofString "ring"),tT (h::R)]]))=fun x=>PV.tup [oP (if x=h then none else E x),if x=h then RU (h::R)else Rn x]:=by
     funext x;unfold m7;split<;>rfl
    rw[<-this]
 .rintro e ⟨E,Rn,v4,hc,rfl⟩;rw[ag,de]at hc;walk_at "w";refine BP (by omega) ?_;walk_at "w";have sl:(eB (vU qs ks)).length=(vU qs ks).length:=(fD _).length_eq;refine⟨by omega,?_⟩;refine c9 (fun i acc e=>acc=((eB (vU qs ks)).take i).map (aaZ E Rn)/\∃s,e=[s,some (Sl.bor (.aZ (dX (fun x=>.tup [oP (E x),Rn x]) (vU qs ks))))]) ?_ ?_ ⟨rfl,_,rfl⟩
  .rintro i p e acc hx ⟨rfl,s,rfl⟩;rw[aq]at hx;obtain⟨y,hy,rfl⟩:=bf.mp hx;have hin:y∈vU qs ks:=(fD _).mem_iff.mp (ay hy);walk_at "w";rw[fG,ao hin];walk_at "w";rw[fG,ao hin];walk_at "w";refine⟨by rw[di,hy,cf];rfl,_,rfl⟩
  .rintro acc e ⟨rfl,s,rfl⟩;rw[ag,de];walk_at "w";exact q E Rn hc
end
section
open PySem L2 Mr
noncomputable abbrev eD (E:Str->Option Str) (ns:List Str):List (Key×PV):=dX (fun x=>oP (E x)) ns
theorem EJ (hL:L.Nodup) (hl:L.length<=100) (q:Q (.aZ (eD E L),[])):Wp (iL [.tup (L.map (aaZ E Rn))]) Q:=by
 unfold iL qI;walk_at "w";refine⟨by omega,?_⟩;refine jX (fun i d e=>d=eD E (L.take i)/\∃s t u,e=[s,t,u]) ?_ ?_ ⟨rfl,_,_,_,rfl⟩
 .rintro i p e d hx ⟨rfl,s,t,u,rfl⟩;rw[aq]at hx;obtain⟨y,hy,rfl⟩:=bf.mp hx;walk_at "w";refine⟨?_,_,_,_,rfl⟩;rw[show eG (eD E (L.take i)) (Sum.inr y) (oP (E y))=eD E (L.take i++[y])from uC (uF hL hy),di,hy];rfl
 .rintro d e ⟨rfl,s,t,u,rfl⟩;rw[ag,de];walk_at "w";exact q
theorem aaQ (E:Str->Option Str) (h:∀z,z∉L->E z=none) (x:Str):(cG (eD E L) (Sum.inr x)).getD .bG=oP (E x):=by
 rw[fG]
 by_cases hx:x∈L
 .rw[ao hx];rfl
 .rw[ai hx,h x hx];rfl
noncomputable def af2:En->Nat
 |[_,_,some (.loc (.aZ kvs))]=>kvs.length
 |_=>0
structure Clb (E:Str->Option Str) (x:Str) (l:List Str) (e:Option Str):Prop where
 path:Rg.Path E l e
 nd:l.Nodup
 hd:l.head? =some x
 back:∀y,e=some y->y∈l
theorem HV (hL:L.length<=100) (hx:x∈L) (hE:∀z,z∉L->E z=none) (hcl:∀x y,E x=some y->y∈L) (q:∀l e,Clb E x l e->(∀y∈l,y∈L)->Q (.lst (l.map PV.str),[])):Wp (nQ [.aZ (eD E L),.str x]) Q:=by
 unfold nQ uW;walk_at "w";refine l6 (fun e=>∃(l:List Str) (nm:Option Str),Rg.Path E l nm/\l.Nodup/\(l=[]->nm=some x)/\(l≠[]->l.head? =some x)/\(∀y∈l,y∈L)/\(∀y,nm=some y->y∈L)/\e=[some (Sl.bor (.aZ (eD E L))),some (Sl.val (oP nm)),some (Sl.loc (.aZ (kT l)))]) (fun e=>L.length - af2 e) ?_ ?_ ⟨[],some x,trivial,jh,fun _=>rfl,fun h=>absurd rfl h,fun _ h=>(nomatch h),fun y e=>by cases e;exact hx,rfl⟩
 .rintro e ⟨l,nm,pa,nd,h0,hh,sub,hnm,rfl⟩;have ll:=dY nd sub;cases nm with
  |none=>
   have hne:l≠[]:=fun h=>by have:=h0 h;cases this
   rw[show oP none=PV.bG from rfl];walk_at "w";rw[uL];walk_at "w";exact q l none ⟨pa,nd,hh hne,fun _ h=>(nomatch h)⟩ sub
  | some y=>
   rw[show oP (some y)=PV.str y from rfl];walk_at "w";rw[QN]
   by_cases hy:y∈l
   .rw[decide_eq_true hy];have hne:l≠[]:=fun h=>by rw[h]at hy;cases hy
    walk_at "w";rw[uL];walk_at "w";exact q l (some y) ⟨pa,nd,hh hne,fun z e=>by cases e;exact hy⟩ sub
   .rw[decide_eq_false hy];walk_at "w";have pt:eG (kT l) (Sum.inr y) (.bl true)=kT (l++[y]):=by rw[tI];unfold gD;rw[ai hy]
    have nd':(l++[y]).Nodup:=dz.mpr ⟨nd,by simp,fun a ha b hb e=>by rw[bu.mp hb]at e;exact hy (e▸ha)⟩;have sub':∀z∈l++[y],z∈L:=fun z hz=>(bj.mp hz).elim (sub z) fun h=>by rw[bu.mp h];exact hnm y rfl
    have ll':=dY nd' sub';rw[br,List.length_singleton]at ll';rw[aaQ E hE,pM,pt];refine⟨by omega,⟨l++[y],E y,pa.snoc rfl,nd',fun h=>absurd h (by simp),fun _=>?_,sub',fun z e=>hcl y z e,rfl⟩,?_⟩
    .cases l with
     |nil=>have:=h0 rfl;cases this;rfl
     |cons a l=>exact hh (by simp)
    .show L.length - (kT (l++[y])).length<L.length - (kT l).length;rw[pM,pM,br,List.length_singleton];omega
 .show L.length - 0<1000;omega
end
section
open PySem L2 Mr
theorem Cuts.in' (hc:Cuts qs ks Rs E Rn) (h:E x=some y):pB qs ks x=some y:=by
 by_cases hx:∃R∈Rs,R.head? =some x
 .obtain⟨R,hR,e⟩:=hx;rw[(hc.hd R hR x e).1]at h;cases h
 .rw[<-(hc.ot x fun R hR e=>hx ⟨R,hR,e⟩).1];exact h
theorem DX (h:x∉iF qs ks):pB qs ks x=none:=by unfold pB;rw[ES h]
theorem Cuts.no (hR:U5 qs ks (vU qs ks) Rs) (hc:Cuts qs ks Rs E Rn):∀y,¬Rg.A8 E y:=Rg.acT (up:=pB qs ks) (Rs:=Rs) (fun x c=>by
  have hx:x∈vU qs ks:=by
   refine(zN qs ks x).mpr (cv fun h=>?_);obtain⟨n,k⟩:=c;rw[Rg.dA,DX h]at k;cases k
  exact mem_flatten.mp (hR.all x hx c)) hR.ring (fun R hR h e=>(hc.hd R hR h e).1) fun _ _=>hc.in'
structure Way (qs:List Let) (ks:Hl) (x:Str) (W:List Str):Prop where
 len:W.length<=60
 sub:∀y∈W,y∈iF qs ks
 way:∃Rs E Rn,U5 qs ks (vU qs ks) Rs/\Cuts qs ks Rs E Rn/\Rg.Path E W none/\W.head? =some x
theorem aa5 (g:Good ss qs ks) (hss:ss.length<=60) (hl:qs.length<=100) (hk:ks.length<=100) (hkn:(ks.map (·.1)).Nodup) (nr:xH ks) (hx:x∈iF qs ks):
  ∃W,Way qs ks x W/\z7 [.tup (qs.map lP),.tup (mP ks),.str x]=some (.tup (W.map PV.str),[]):=by
 obtain⟨Rs,hRs,hcr⟩:=ae0 g hss hl hk hkn nr;have nl:=EV g;have k:Wp (z7 [.tup (qs.map lP),.tup (mP ks),.str x]) fun w=>∃W,Way qs ks x W/\w=(.tup (W.map PV.str),[]):=by
  unfold z7 Q0;walk_at "w";refine FL g hss hl hk hkn hRs hcr fun E Rn hc=>?_
  have Lm:∀x,x∈eB (vU qs ks)↔x∈iF qs ks:=fun x=>(fD _).mem_iff.trans (zN qs ks x)
  have Ln:(eB (vU qs ks)).Nodup:=(fD _).nodup_iff.mpr (LA qs ks);have Ll:=(fD (vU qs ks)).length_eq;generalize eB (vU qs ks)=L at Lm Ln Ll;walk_at "w";refine EJ Ln (by omega) ?_;walk_at "w";refine HV (by omega) ((Lm x).mpr hx) (fun z hz=>?_) (fun a b h=>(Lm b).mpr (vQ hkn nr (hc.in' h)).2) fun l e cb sub=>?_
  .cases c:E z with
   |none=>rfl
   |some w=>
    have:=hc.in' c;rw[DX fun h=>hz ((Lm z).mpr h)]at this;cases this
  .walk_at "w";have ll:=dY cb.nd sub;refine⟨l,⟨by omega,fun y hy=>(Lm y).mp (sub y hy),Rs,E,Rn,hRs,hc,?_,cb.hd⟩,rfl⟩;cases e with
   |none=>exact cb.path
   |some y=>
    exfalso;have hy:=cb.back y rfl;obtain⟨i,hi⟩:=fu hy;have g:=cb.path.AH hi;have hlt:=(af.mp hi).1;refine hc.no hRs y ⟨l.length - i - 1,?_⟩;rw[show l.length - i - 1+1=l.length - i by omega];exact g
 obtain⟨w,e,W,h,rfl⟩:=k;exact⟨W,h,e⟩
end
section
open PySem L2 Mr
noncomputable abbrev nU:PV:=.tup [.bG,y6]
noncomputable def c4 (t:kB) (y:Str):PV:=.tup [.int t.day,.str t.name,.int t.at',.str y]
theorem afD {t u:kB} {z:Str} (h:t.name≠u.name):gZ (code 3 (c4 t y)) (code 3 (c4 u z))=gZ (code 3 (tP t)) (code 3 (tP u)):=by
 have hn:t.name.cps.toList≠u.name.cps.toList:=fun e=>h (by cases ht:t.name;cases hu:u.name;rw[ht,hu]at e;congr 1;exact Array.toList_inj.mp e)
 have key:∀(r r':List Int),gZ (1::t.day::1::(t.name.cps.toList.map (fun c:Nat=>(c:Int)+1)++[0]++r)) (1::u.day::1::(u.name.cps.toList.map (fun c:Nat=>(c:Int)+1)++[0]++r'))=if t.day=u.day then decide (t.name.cps.toList<u.name.cps.toList)else decide (t.day<u.day):=by
  intro r r';rw[fE,ao rfl,fE]
  by_cases hd:t.day=u.day
  .rw[ao hd,ao hd,fE,ao rfl,CV,ai hn]
  .rw[ai hd,ai hd]
 have e4:∀(t:kB) (y:Str),code 3 (c4 t y)=1::t.day::1::(t.name.cps.toList.map (fun c:Nat=>(c:Int)+1)++[0]++(1::t.at'::1::(y.cps.toList.map (fun c:Nat=>(c:Int)+1)++[0]++[0]))):=fun t y=>by
  unfold c4 Mr.code;simp[Mr.code]
 have e3:∀(t:kB),code 3 (tP t)=1::t.day::1::(t.name.cps.toList.map (fun c:Nat=>(c:Int)+1)++[0]++(1::t.at'::[0])):=fun t=>by
  unfold tP Mr.code;simp[Mr.code]
 rw[e4,e4,e3,e3,key,key]
theorem SJ (t u:kB) (y z:Str):cW 3 [c4 t y,c4 u z]=true:=by
 have pl:∀(t:kB) (y:Str),rJ 3 (c4 t y)=true:=fun _ _=>rfl
 have lt:∀(t u:kB) (y z:Str),(tO 3 (c4 t y) (c4 u z)).isSome=true:=fun t u y z=>by
  unfold c4 tO eE;split
  .unfold eE;split
   .unfold eE;split
    .unfold eE;split
     .rfl
     .rfl
    .rfl
   .rfl
  .rfl
 simp only[cW,all_cons,all_nil,pl,lt,Bool.and_self]
def ZT (ts:List kB) (x:Str) (t:kB):Prop:=t∈pT x ts/\∀u∈pT x ts,o4 3 (tP t) (tP u)=true
structure TI (qs:List Let) (ts:List kB) (G:Str->PV) (M:List Str):Prop where
 nd:M.Nodup
 mem:∀x,x∈M↔pT x ts≠[]
 val:∀x∈M,∃t y,ZT ts x t/\wU qs t=some y/\G x=c4 t y
theorem yZ (x:Str) (ts:List kB) (t:kB):pT x (ts++[t])=pT x ts++if t.key=x then [t]else []:=by
 unfold pT;rw[List.filter_append];congr 1;rw[List.filter_cons]
 by_cases h:t.key=x
 .rw[decide_eq_true h,ao rfl,ao h];rfl
 .rw[decide_eq_false h,ai ax,ai h];rfl
theorem FF (p:PV):o4 3 p p=true:=by
 have:=vR (n:=3) p p;rw[Bool.or_self]at this;exact this
theorem TI.same (h:TI qs ts G M) {G':Str->PV} {M':List Str} {t:kB} {v:PV} (hy:wU qs t=some y) (hu:∀u∈pT t.key ts,u.name≠t.name)
  (hG:G'=m7 G t.key v) (hM:M'=gD M t.key) (hv:v=if t.key∈M then(if gZ (code 3 (c4 t y)) (code 3 (G t.key))=true then c4 t y else G t.key)else c4 t y):TI qs (ts++[t]) G' M':=by
 subst hG hM;refine⟨LU h.nd,fun x=>?_,fun x hx=>?_⟩
 .rw[pK,yZ,h.mem]
  by_cases e:t.key=x
  .rw[ao e];simp[e]
  .rw[ai e,df];simp[Ne.symm e]
 .by_cases e:x=t.key
  .subst e;have hx':pT t.key (ts++[t])=pT t.key ts++[t]:=by rw[yZ,ao rfl]
   have hval:m7 G t.key v t.key=v:=by unfold m7;rw[ao rfl]
   rw[hval]
   by_cases hm:t.key∈M
   .obtain⟨t0,y0,m0,e0,g0⟩:=h.val _ hm;rw[ao hm,g0,afD (hu t0 m0.1).symm]at hv
    by_cases hl:gZ (code 3 (tP t)) (code 3 (tP t0))=true
    .rw[ao hl]at hv;have hle:o4 3 (tP t) (tP t0)=true:=by
      rcases or_eq_true _ _|>.mp (vR (n:=3) (tP t) (tP t0))with h|h
      .exact h
      .unfold o4 at h;rw[hl]at h;cases h
     refine⟨t,y,⟨by rw[hx'];simp,fun u hu=>?_⟩,hy,hv⟩;rw[hx']at hu;rcases bj.mp hu with hu|hu
     .exact uZ _ _ _ hle (m0.2 u hu)
     .rw[bu.mp hu];exact FF _
    .rw[ai hl]at hv;refine⟨t0,y0,⟨by rw[hx'];exact dc _ m0.1,fun u hu=>?_⟩,e0,hv⟩;rw[hx']at hu;rcases bj.mp hu with hu|hu
     .exact m0.2 u hu
     .rw[bu.mp hu];unfold o4;rw[Bool.not_eq_true]at hl;rw[hl];rfl
   .rw[ai hm]at hv;have h0:pT t.key ts=[]:=cv fun c=>hm ((h.mem _).mpr c)
    refine⟨t,y,⟨by rw[hx'];simp,fun u hu=>?_⟩,hy,hv⟩;rw[hx',h0]at hu;rw[bu.mp hu];exact FF _
  .have hxM:x∈M:=(pK.mp hx).resolve_right e;obtain⟨t0,y0,m0,e0,g0⟩:=h.val x hxM;have hx':pT x (ts++[t])=pT x ts:=by rw[yZ,ai (Ne.symm e),df]
   refine⟨t0,y0,⟨by rw[hx'];exact m0.1,by rw[hx'];exact m0.2⟩,e0,?_⟩;unfold m7;rw[ai e];exact g0
theorem RD {qs:List Let} {x:Str} {t:kB} (h:ZT (kC qs) x t):JD (pT x (kC qs))=some t:=by
 obtain⟨t0,h0,e0,eP⟩:=CA (ts:=pT x (kC qs)) (fun e=>by have:=h.1;rw[e]at this;cases this);rw[e0];have h1:o4 3 (tP t0) (tP t)=true:=by rw[<-eP];exact sD (bp.mpr ⟨t,h.1,rfl⟩)
 have h2:=h.2 t0 h0;have:=pR (MG (pT x (kC qs))) (bp.mpr ⟨t0,h0,rfl⟩) (bp.mpr ⟨t,h.1,rfl⟩) h1 h2;have hk:=(u6 h0).1.trans (u6 h.1).1.symm;have e1:t0=t:=by
  cases t0;cases t
  simp only[tP,PV.tup.injEq,List.cons.injEq,PV.int.injEq,PV.str.injEq,and_true]at this;simp only at hk;obtain⟨a,b,c⟩:=this;subst a b c hk;rfl
 rw[e1]
noncomputable def v2 (qs:List Let) (x:Str):PV:=match JD (pT x (kC qs))with
 |some t=>.tup [oP (wU qs t),.tup [.str (Str.ofString "told"),.str t.name,.int t.at']]
 |none=>nU
noncomputable def v3 (qs:List Let) (x:Str):PV:=match(st qs).find? fun l=>decide (l.name=x)with
 | some l=>(match(el l).getLast? with
   |some y=>.tup [.str y,adK]
   |none=>nU)
 |none=>v2 qs x
theorem L6 {qs:List Let} {x:Str} (h:x∉ks.map (·.1)):AB qs ks x=v3 qs x:=by
 have h1:ks.find? (fun z=>decide (z.1=x))=none:=find_none fun z hz=>decide_eq_false fun e=>h (bp.mpr ⟨z,hz,e⟩)
 unfold AB v3 EY;rw[h1];cases(st qs).find? fun l=>decide (l.name=x)with
 |some l=>
  dsimp only;cases(el l).getLast? with
  |none=>rfl
  |some y=>rfl
 |none=>
  dsimp only;unfold v2;cases JD (pT x (kC qs))with
  |none=>rfl
  |some t=>rfl
theorem Q8 {z:Str×Option Str} (h:z∈ks) (hn:(ks.map (·.1)).Nodup):AB qs ks z.1= .tup [oP z.2,MP]:=by
 have h1:=GA (qs:=qs) (bp.mpr ⟨z,h,rfl⟩) hn;unfold AB;rw[h1.1,h1.2,qR hn (o:=z.2) h]
end
section
open PySem L2 Mr
structure FI (N0:Str->Prop) (v:Str->PV) (f:Str->PV) (N:List Str):Prop where
 nd:N.Nodup
 mem:∀x,x∈N↔N0 x
 val:∀x∈N,f x=v x
theorem FI.put (h:FI N0 v f N) (h1:∀y,N1 y↔N0 y\/ y=x) (h2:v' x=p) (h3:∀y,y≠x->v' y=v y):FI N1 v' (m7 f x p) (gD N x):=
 ⟨LU h.nd,fun y=>by rw[pK,h.mem,h1],fun y hy=>by
  unfold m7
  by_cases e:y=x
  .rw[ao e,e,h2]
  .rw[ai e,h3 y e];exact h.val y ((pK.mp hy).resolve_right e)⟩
theorem FI.of (h:FI N0 v f N) (h1:∀y,N1 y↔N0 y) (h2:∀y,N0 y->v' y=v y):FI N1 v' f N:=⟨h.nd,fun y=>by rw[h.mem,h1],fun y hy=>by rw[h2 y ((h.mem y).mp hy)];exact h.val y hy⟩
theorem FI.len (h:FI N0 v f N) (hs:∀x,N0 x->x∈ss):N.length<=ss.length:=dY h.nd fun x hx=>hs x ((h.mem x).mp hx)
theorem OH (G:Str->PV) (M:List Str):bS (dX G M)=M.map fun x=>.tup [.str x,G x]:=by unfold bS dX;rw[iz];rfl
theorem ad7 (p q:PV):w8 [p,q] 1 0=gZ (code 3 q) (code 3 p):=rfl
theorem atT {xs:List Str} (h0:0<i) (h:xs[i - 1]? =some y):rK (xs.map PV.str) ((i:Int) - 1)=some (.str y):=by
 rw[show((i:Int) - 1)=((i - 1:Nat):Int) by omega];exact iP (by rw[aq,h];rfl)
inductive TA (qs:List Let) (ks:Hl) (ts:List kB) (zs:List Str) (c d:Option Sl) (e:En):Prop
 |mk (G f:Str->PV) (M N:List Str) (u v w z:Option Sl) (A B) (ti:TI qs ts G M) (fi:FI (·∈zs) (fun _=>nU) f N) (hA:A=dX G M) (hB:B=dX f N) (h:e=[some (Sl.val (PV.tup (qs.map lP))),some (Sl.val (PV.tup (mP ks))),some (.loc (.aZ A)),some (.loc (.aZ B)),some (Sl.val (.lst ((st qs).map lP))),c,d,u,v,w,z])
inductive TB (qs:List Let) (ks:Hl) (D:PV) (Z:Str->Prop) (V:Str->PV) (e:En):Prop
 |mk (f:Str->PV) (N:List Str) (c d u v w z:Option Sl) (B) (fi:FI Z V f N) (hB:B=dX f N) (h:e=[some (Sl.val (PV.tup (qs.map lP))),some (Sl.val (PV.tup (mP ks))),some (.val D),some (.loc (.aZ B)),some (Sl.val (.lst ((st qs).map lP))),c,d,u,v,w,z])
theorem QC (g:Good ss qs ks) (hss:ss.length<=62) (hl:qs.length<=100) (hkn:(ks.map (·.1)).Nodup)
  (q:∀N,N.Nodup->(∀x,x∈N↔x∈iF qs ks)->Q (.aZ (dX (AB qs ks) N),[])):Wp (iQ [.tup (qs.map lP),.tup (mP ks)]) Q:=by
 have hel:∀l∈st qs,∀x∈el l,x∈ss:=fun l h x hx=>qJ g h x (ba _ hx)
 unfold iQ pG;walk_at "w";refine tW hl ?_;walk_at "w";refine cJ (fun i e=>∃c d,TA qs ks (((st qs).take i).flatMap G9) (((st qs).take i).flatMap el) c d e) ?_ ?_
  ⟨_,_,fun _=>.bG,fun _=>.bG,[],[],_,_,_,_,_,_,⟨jh,fun x=>⟨fun h=>(nomatch h),fun h=>absurd rfl h⟩,fun _ h=>(nomatch h)⟩,⟨jh,fun x=>Iff.rfl,fun _ h=>(nomatch h)⟩,rfl,rfl,rfl⟩
 .rintro i p e hx ⟨c,d,G,f,M,N,u,v,w,z,_,_,ti,fi,rfl,rfl,rfl⟩;rw[aq]at hx;obtain⟨l,hk,rfl⟩:=bf.mp hx;have hlm:=ay hk;have hrow:=(g.1 l (sG hlm)).1;walk_at "w";refine L0 (l:=l) hrow ?_;walk_at "w";refine cJ (fun j e=>TA qs ks (((st qs).take i).flatMap G9++qY l j) (((st qs).take i).flatMap el++(el l).take j) (some (.val (.tup [.str l.name,.int l.day,.str l.head,.tup (l.row.map PV.str)]))) (some (.val (.lst ((el l).map PV.str)))) e) ?_ ?_
   ⟨G,f,M,N,_,_,_,_,_,_,by rw[show qY l 0=[]from rfl,df];exact ti,by rw[List.take_zero,df];exact fi,rfl,rfl,rfl⟩
  .rintro j p e hx ⟨G,f,M,N,u,v,w,z,_,_,ti,fi,rfl,rfl,rfl⟩;have⟨n,hn,hp⟩:∃n,(el l)[j]? =some n/\p= .tup [.int j,.str n]:=by
    rw[aq,ik,aq]at hx;cases hn:(el l)[j]? with
    |none=>rw[hn]at hx;cases hx
    |some n=>rw[hn]at hx;cases hx;exact⟨n,rfl,by rw[zero_add]⟩
   subst hp;have Nl:=fi.len (ss:=ss) fun x hx=>by
    rcases bj.mp hx with hx|hx
    .obtain⟨k,h1,h2⟩:=dg.mp hx;exact hel k (gi h1) x h2
    .exact hel l hlm x (gi hx)
   have Ml:M.length<=ss.length:=dY ti.nd fun x hx=>by
    obtain⟨t,y,m0,_⟩:=ti.val x hx;have h1:=m0.1;unfold pT at h1;obtain⟨h1,h2⟩:=jl.mp h1;have h2:=av h2;rw[<-h2];rcases bj.mp h1 with h1|h1
    .obtain⟨k,h3,h4⟩:=dg.mp h1;exact hel k (gi h3) _ (xQ h4)
    .unfold qY at h1;obtain⟨z,h3,h4⟩:=ir.mp h1;exact hel l hlm _ (xQ (ir.mpr ⟨z,gi h3,h4⟩))
   have fi':FI (fun x=>x∈((st qs).take i).flatMap el++(el l).take (j+1)) (fun _=>nU) (m7 f n nU) (gD N n):=fi.put (fun y=>by
    rw[di,hn,toList_some,<-gp,bj,bu]) rfl fun _ _=>rfl
   walk_at "w";refine⟨by rw[fT];omega,fun hj=>?_,fun hj=>?_⟩
   .have hj':0<j:=by omega
    have hjl:j<(el l).length:=(af.mp hn).1;have hpre:(el l)[j - 1]? =some (el l)[j - 1]:=aj (by omega);simp only[atT hj' hpre];walk_at "w";generalize hy:(el l)[j - 1]=y at hpre;have ht:wU qs ⟨n,l.day,l.name,(j:Int)⟩=some y:=by
     unfold wU;rw[oA hlm];show(el l)[((j:Int) - 1).toNat]? =_;rw[show((j:Int) - 1).toNat=j - 1 by omega];exact hpre
    have hu:∀u∈pT n (((st qs).take i).flatMap G9++qY l j),u.name≠l.name:=fun u hu e=>by
     unfold pT at hu;obtain⟨h1,h2⟩:=jl.mp hu;have h2:=av h2;rcases bj.mp h1 with h1|h1
     .obtain⟨k,h3,h4⟩:=dg.mp h1;have h5:=(DY h4).1;have:=uF (HQ qs) (i:=i) (x:=l.name) (by rw[aq,hk];rfl);rw[<-map_take]at this;exact this (bp.mpr ⟨k,h3,by rw[<-e,h5]⟩)
     .unfold qY at h1;obtain⟨z,h3,h4⟩:=ir.mp h1;unfold trF at h4;split at h4
      .cases h4;obtain⟨k,hk2⟩:=fu h3;rw[getElem?_take]at hk2;split at hk2
       .rename_i hkj;rw[ik]at hk2;cases c:(el l)[k]? with
        |none=>rw[c]at hk2;cases hk2
        |some w=>
         rw[c]at hk2;cases hk2;have h2:w=n:=h2;rw[h2]at c;have:=(getElem?_inj (af.mp c).1 (FU l)).mp (c.trans hn.symm);omega
       .cases hk2
      .cases h4
    have fin:∀v:PV,v=(if n∈M then(if gZ (code 3 (c4 ⟨n,l.day,l.name,(j:Int)⟩ y)) (code 3 (G n))=true then c4 ⟨n,l.day,l.name,(j:Int)⟩ y else G n)else c4 ⟨n,l.day,l.name,(j:Int)⟩ y)->TI qs (((st qs).take i).flatMap G9++qY l (j+1)) (m7 G n v) (gD M n):=fun v hv=>by
     rw[u9 hn,ao hj',<-gp];exact ti.same (t:=⟨n,l.day,l.name,(j:Int)⟩) ht hu rfl rfl hv
    rw[fG]
    by_cases hm:n∈M
    .rw[ao hm];obtain⟨t0,y0,m0,e0,g0⟩:=ti.val _ hm;walk_at "w";rw[ad7,g0];refine⟨SJ _ ⟨n,l.day,l.name,(j:Int)⟩ _ y,?_,?_⟩
     .rw[fT];omega
     .exact⟨_,_,_,_,_,_,_,_,_,_,fin _ (by rw[ao hm,g0];rfl),fi',eV _ _ _ _,eV _ _ _ _,rfl⟩
    .rw[ai hm];walk_at "w";rw[ad7];refine⟨SJ ⟨n,l.day,l.name,(j:Int)⟩ ⟨n,l.day,l.name,(j:Int)⟩ y y,?_,?_⟩
     .rw[fT];omega
     .exact⟨_,_,_,_,_,_,_,_,_,_,fin _ (ai hm).symm,fi',by rw[eV,ite_self];rfl,eV _ _ _ _,rfl⟩
   .have hj':¬0<j:=by omega
    exact⟨_,_,_,_,_,_,_,_,_,_,by rw[u9 hn,ai hj',df];exact ti,fi',rfl,eV _ _ _ _,rfl⟩
  .rintro e ⟨G,f,M,N,u,v,w,z,_,_,ti,fi,rfl,rfl,rfl⟩;rw[ag,ji,ag]at ti fi;rw[y3]at ti;rw[de]at fi;exact⟨_,_,G,f,M,N,_,_,_,_,_,_,by rw[zX hk];exact ti,by rw[zX hk];exact fi,rfl,rfl,rfl⟩
 .rintro e ⟨c,d,G,f,M,N,u,v,w,z,_,_,ti,fi,rfl,rfl,rfl⟩;rw[ag,de]at ti fi;have ti:TI qs (kC qs) G M:=ti;walk_at "w";rw[OH];have N1:∀x,x∈(st qs).flatMap el->x∈ss:=fun x hx=>by
   obtain⟨k,h1,h2⟩:=dg.mp hx;exact hel k h1 x h2
  have MN:∀x∈M,x∈(st qs).flatMap el:=fun x hx=>by
   obtain⟨t,y,m0,_⟩:=ti.val x hx;obtain⟨hk,l,h1,h2⟩:=u6 m0.1;exact dg.mpr ⟨l,h1,by rw[<-hk];exact xQ h2⟩
  have V2:∀x∈M,∃t y,wU qs t=some y/\G x=c4 t y/\v2 qs x= .tup [.str y,.tup [.str (Str.ofString "told"),.str t.name,.int t.at']]:=fun x hx=>by
   obtain⟨t,y,m0,e0,g0⟩:=ti.val x hx;refine⟨t,y,e0,g0,?_⟩;unfold v2;rw[RD m0];dsimp only;rw[e0];rfl
  have V2n:∀x,x∉M->v2 qs x=nU:=fun x hx=>by
   have h0:pT x (kC qs)=[]:=cv fun c=>hx ((ti.mem x).mpr c)
   unfold v2;rw[h0];rfl
  refine cJ (fun i=>TB qs ks (.aZ (dX G M)) (·∈(st qs).flatMap el) fun x=>if x∈M.take i then v2 qs x else nU) ?_ ?_
   ⟨f,N,_,_,_,_,_,_,_,fi,rfl,rfl⟩
  .rintro i p e hx ⟨f,N,c,d,u,v,w,z,_,fi,rfl,rfl⟩;rw[aq]at hx;obtain⟨x,hk,rfl⟩:=bf.mp hx;have hxM:=ay hk;obtain⟨t,y,e0,g0,e2⟩:=V2 x hxM;have Nl:=fi.len N1;rw[g0,show c4 t y= .tup [.int t.day,.str t.name,.int t.at',.str y]from rfl];walk_at "w";refine⟨by rw[fT];omega,_,_,_,_,_,_,_,_,_,fi.put (x:=x) (fun z=>⟨.inl,fun h=>h.elim id fun e=>by rw[e];exact MN x hxM⟩) ?_ fun z hz=>?_,eV _ _ _ _,rfl⟩
   .rw[ao (by rw[di,hk];simp)];exact e2
   .have:z∈M.take (i+1)↔z∈M.take i:=by rw[di,hk,toList_some,bj,bu];simp[hz]
    simp only[this]
  .rintro e ⟨f,N,c,d,u,v,w,z,_,fi,rfl,rfl⟩;rw[ag,de]at fi;generalize dX G M=D;have fi:FI (fun x=>x∈(st qs).flatMap el) (v2 qs) f N:=fi.of (fun _=>Iff.rfl) fun y _=>by
    by_cases h:y∈M
    .rw[ao h]
    .rw[ai h,V2n y h]
   walk_at "w";refine cJ (fun i=>TB qs ks (.aZ D) (fun x=>x∈(st qs).flatMap el\/ x∈((st qs).map (·.name)).take i) fun x=>if x∈((st qs).map (·.name)).take i then v3 qs x else v2 qs x) ?_ ?_
    ⟨f,N,_,_,_,_,_,_,_,fi.of (fun y=>by simp) fun _ _=>by simp,rfl,rfl⟩
   .rintro i p e hx ⟨f,N,c,d,u,v,w,z,_,fi,rfl,rfl⟩;rw[aq]at hx;obtain⟨l,hk,rfl⟩:=bf.mp hx;have hlm:=ay hk;have hrow:=(g.1 l (sG hlm)).1;have hkn':((st qs).map (·.name))[i]? =some l.name:=by rw[aq,hk];rfl
    have Nl:=fi.len (ss:=ss) fun x hx=>by
     rcases hx with hx|hx
     .exact N1 x hx
     .obtain⟨k,h1,rfl⟩:=bp.mp (gi hx);exact qJ g h1 _ bh
    have fin:∀p,v3 qs l.name=p->FI (fun x=>x∈(st qs).flatMap el\/ x∈((st qs).map (·.name)).take (i+1)) (fun x=>if x∈((st qs).map (·.name)).take (i+1)then v3 qs x else v2 qs x) (m7 f l.name p) (gD N l.name):=fun p hp=>
     fi.put (x:=l.name) (fun z=>by rw[di,hkn',toList_some,bj,bu,or_assoc]) (by rw[ao (by rw[di,hkn'];simp)];exact hp) fun z hz=>by
      have:z∈((st qs).map (·.name)).take (i+1)↔z∈((st qs).map (·.name)).take i:=by rw[di,hkn',toList_some,bj,bu];simp[hz]
      simp only[this]
    walk_at "w";refine L0 (l:=l) hrow ?_;have hv:v3 qs l.name=match(el l).getLast? with
      |some y=>.tup [.str y,adK]
      |none=>nU:=by
     have h0:=oA hlm;unfold v3;cases e3:(el l).getLast? with
     |none=>simp only[h0,e3]
     |some y=>simp only[h0,e3]
    rw[show lP l=PV.tup [PV.str l.name,PV.int l.day,PV.str l.head,PV.tup (l.row.map PV.str)]from rfl];cases e3:(el l).getLast? with
    |none=>
     have e4:=ki.mp e3;rw[e3]at hv;rw[e4];walk_at "w";exact⟨by rw[fT];omega,_,_,_,_,_,_,_,_,_,fin _ hv,eV _ _ _ _,rfl⟩
    | some y=>
     rw[e3]at hv;have e5:rK ((el l).map PV.str) (-1)=some (.str y):=xN (by rw[getLast?_map,e3];rfl);have e6:∃z zs,el l=z::zs:=by
      cases h:el l with
      |nil=>rw[h]at e3;cases e3
      |cons z zs=>exact⟨z,zs,rfl⟩
     obtain⟨z,zs,e6⟩:=e6;rw[e6,map_cons]at e5⊢
     walk_at "w";rw[e5];walk_at "w";exact⟨hZ zs 8,by rw[fT];omega,_,_,_,_,_,_,_,_,_,fin _ hv,eV _ _ _ _,rfl⟩
   .rintro e ⟨f,N,c,d,u,v,w,z,_,fi,rfl,rfl⟩;have fi:FI (fun x=>x∈(st qs).flatMap xU) (v3 qs) f N:=fi.of (fun y=>by
      rw[show((st qs).map lP).length=((st qs).map (·.name)).length by rw[ag,ag],de];constructor
      .intro h;obtain⟨l,h1,h2⟩:=dg.mp h;rcases bw.mp h2 with h2|h2
       .exact .inr (bp.mpr ⟨l,h1,h2.symm⟩)
       .exact .inl (dg.mpr ⟨l,h1,h2⟩)
      .rintro(h|h)
       .obtain⟨l,h1,h2⟩:=dg.mp h;exact dg.mpr ⟨l,h1,ba _ h2⟩
       .obtain⟨l,h1,rfl⟩:=bp.mp h;exact dg.mpr ⟨l,h1,bh⟩) fun y _=>by
     rw[show((st qs).map lP).length=((st qs).map (·.name)).length by rw[ag,ag],de]
     by_cases h:y∈(st qs).map (·.name)
     .rw[ao h]
     .rw[ai h];unfold v3;rw[find_none fun z hz=>decide_eq_false fun e=>h (bp.mpr ⟨z,hz,e⟩)]
    have out:∀x,x∉(st qs).flatMap xU->v3 qs x=nU:=fun x hx=>by
     have h:=ES (qs:=qs) (ks:=[]) (x:=x) fun h=>(bj.mp h).elim hx fun z=>nomatch z
     rw[<-L6 (ks:=[]) (fun z=>nomatch z)];unfold AB;rw[h];rfl
    walk_at "w";refine cJ (fun i=>TB qs ks (.aZ D) (fun x=>x∈(st qs).flatMap xU\/ x∈(ks.take i).flatMap uV) fun x=>if x∈(ks.take i).map (·.1)then AB qs ks x else v3 qs x) ?_ ?_
     ⟨f,N,_,_,_,_,_,_,_,fi.of (fun y=>by simp) fun _ _=>by simp,rfl,rfl⟩
    .rintro i p e hx ⟨f,N,c,d,u,v,w,o,_,fi,rfl,rfl⟩;unfold mP at hx;rw[aq]at hx;obtain⟨z,hk,rfl⟩:=bf.mp hx;have hzm:=ay hk;have hin:∀x,(x∈(st qs).flatMap xU\/ x∈(ks.take i).flatMap uV)->x∈ss:=fun x hx=>by
      rcases hx with hx|hx
      .obtain⟨k,h1,h2⟩:=dg.mp hx;exact qJ g h1 x h2
      .obtain⟨k,h1,h2⟩:=dg.mp hx;exact DT g (gi h1) x h2
     have Nl:=fi.len hin;have ht:(ks.take (i+1)).map (·.1)=(ks.take i).map (·.1)++[z.1]:=by rw[di,hk,cf];rfl
     have f1:FI (fun x=>(x∈(st qs).flatMap xU\/ x∈(ks.take i).flatMap uV)\/ x=z.1) (fun x=>if x∈(ks.take (i+1)).map (·.1)then AB qs ks x else v3 qs x) (m7 f z.1 (.tup [oP z.2,MP])) (gD N z.1):=
      fi.put (fun y=>Iff.rfl) (by rw[ht,ao (by simp)];exact Q8 hzm hkn) fun y hy=>by
       have:y∈(ks.take (i+1)).map (·.1)↔y∈(ks.take i).map (·.1):=by rw[ht,bj,bu];simp[hy]
       simp only[this]
     have Nl1:=f1.len (ss:=ss) fun x hx=>hx.elim (hin x) fun e=>by rw[e];exact(g.2 z hzm).1
     have es:=D8 (f:=uV) hk;cases eo:z.2 with
     |none=>
      rw[eo]at f1;rw[show oP none=PV.bG from rfl]at f1⊢
      walk_at "w";refine⟨by rw[fT];omega,_,_,_,_,_,_,_,_,_,f1.of (fun y=>?_) fun _ _=>rfl,eV _ _ _ _,rfl⟩;rw[es,show uV z=[z.1] by unfold uV;rw[eo];rfl,bj,bu,or_assoc]
     | some y=>
      rw[eo]at f1;rw[show oP (some y)=PV.str y from rfl]at f1⊢
      walk_at "w";simp only[eV,xT];refine⟨by rw[fT];omega,?_⟩;have mem:∀w,(w∈(st qs).flatMap xU\/ w∈(ks.take (i+1)).flatMap uV)↔(((w∈(st qs).flatMap xU\/ w∈(ks.take i).flatMap uV)\/ w=z.1)\/ w=y):=fun w=>by
       rw[es,show uV z=[z.1,y] by unfold uV;rw[eo];rfl,bj];simp[or_assoc]
      by_cases hy:y∈gD N z.1
      .rw[decide_eq_true hy];refine⟨fun h=>(by cases h),fun _=>⟨_,_,_,_,_,_,_,_,_,f1.of (fun w=>?_) fun _ _=>rfl,rfl,rfl⟩⟩;rw[mem];exact⟨fun h=>h.elim id fun e=>by rw[e];exact(f1.mem y).mp hy,.inl⟩
      .rw[decide_eq_false hy];refine⟨fun _=>?_,fun h=>(by cases h)⟩;refine⟨by rw[fT];omega,_,_,_,_,_,_,_,_,_,f1.put mem ?_ fun _ _=>rfl,rfl,rfl⟩;have hy':=fun h=>hy ((f1.mem y).mpr h)
       rw[ai fun h=>hy' ?_]
       .exact out y fun h=>hy' (.inl (.inl h))
       .rw[ht]at h;rcases bj.mp h with h|h
        .obtain⟨w,h1,h2⟩:=bp.mp h;exact .inl (.inr (dg.mpr ⟨w,h1,by unfold uV;rw[h2];exact bh⟩))
        .exact .inr (bu.mp h)
    .rintro e ⟨f,N,c,d,u,v,w,z,_,fi,rfl,rfl⟩;rw[show(mP ks).length=ks.length by unfold mP;rw[ag],de]at fi;walk_at "w";rw[OA (g:=AB qs ks) fun x hx=>?_]
     .exact q N fi.nd fun x=>by rw[fi.mem];unfold iF;rw[bj]
     .rw[fi.val x hx]
      by_cases h:x∈ks.map (·.1)
      .rw[ao h]
      .rw[ai h,L6 h]
end
section
open PySem L2 Mr
theorem AX:∀ks:Hl,jO (mP ks)=some (ks.map fun z=>((Sum.inr z.1:Key),oP z.2))
 |[]=>rfl
 |z::ks=>by
  show bO (some (Sum.inr z.1:Key)) (fun k=>bO (jO (mP ks)) fun r=>some ((k,oP z.2)::r))=_;rw[qZ,AX ks];rfl
theorem YL (h:ks.length<=100):D1 [.tup (mP ks)]=some (.new (.aZ (heldOf ks))):=by
 show bO (jO (mP ks)) _=_;rw[AX,qZ,ag,decide_eq_true (by omega)];show some (Bv.new (.aZ _))=_;rw[List.foldl_map];rfl
noncomputable def SS (l:Let):PV:=.tup [.str l.name,.int l.day]
theorem v8:∀ls:List Let,jO (ls.map SS)=some (ls.map fun l=>((Sum.inr l.name:Key),PV.int l.day))
 |[]=>rfl
 |l::ls=>by
  show bO (some (Sum.inr l.name:Key)) (fun k=>bO (jO (ls.map SS)) fun r=>some ((k,PV.int l.day)::r))=_;rw[qZ,v8 ls];rfl
theorem B8 (qs:List Let):∀(ls acc:List Let),acc++ls=st qs->(ls.map fun l=>((Sum.inr l.name:Key),PV.int l.day)).foldl (fun d z=>eG d z.1 z.2) (dX (pP qs) (acc.map (·.name)))=dX (pP qs) ((st qs).map (·.name))
 |[],acc,h=>by rw[df]at h;rw[h];rfl
 |l::ls,acc,h=>by
  rw[map_cons,foldl_cons];have hm:l∈st qs:=by rw[<-h];exact bq _ (.head _)
  have nd:=HQ qs;rw[<-h,cf]at nd;have hn:l.name∉acc.map (·.name):=fun hh=>(dz.mp nd).2.2 _ hh _ (by simp) rfl
  have e:PV.int l.day=pP qs l.name:=by unfold pP;rw[oA hm]
  have:=uC (f:=pP qs) hn;dsimp only;rw[e,this];have ih:=B8 qs ls (acc++[l]) (by rw[gp];exact h);rw[cf]at ih;exact ih
theorem NI (h:qs.length<=100) (h':(st qs).length<=100):CP [.lst ((st qs).map SS)]=some (.new (.aZ (dX (pP qs) ((st qs).map (·.name))))):=by
 show bO (jO ((st qs).map SS)) _=_;rw[v8,qZ,ag,decide_eq_true (by omega)];show some (Bv.new (.aZ _))=_;have:=B8 qs (st qs) [] rfl;rw[show dX (pP qs) (([]:List Let).map (·.name))=[]from rfl]at this;rw[this]
theorem U9 (hk:(ks.map (·.1)).Nodup) (x:Str):(cG (heldOf ks) (Sum.inr x)).isSome=decide (x∈ks.map (·.1)):=by
 by_cases h:x∈ks.map (·.1)
 .obtain⟨⟨y,o⟩,hm,e⟩:=bp.mp h;dsimp only at e;subst e;rw[BA (o:=o) (fun z hz e=>?_) hm,decide_eq_true h]
  .rfl
  .obtain⟨y',o'⟩:=z;dsimp only at e;subst e;exact(qR hk hz).symm.trans (qR hk hm)
 .rw[BV fun z hz e=>h (bp.mpr ⟨z,hz,e⟩),decide_eq_false h];rfl
theorem W6 (hk:(ks.map (·.1)).Nodup) (hR:R.length<=100) (hf:∃x∈R,x∉ks.map (·.1)) (q:∀x,Cut qs ks R x->Q (.str x,[])):Wp (nX [.lst (R.map PV.str),.aZ (dX (pP qs) ((st qs).map (·.name))),.aZ (heldOf ks)]) Q:=by
 unfold nX uX;walk_at "w";refine⟨by omega,?_⟩;refine kQ (p:=fun x=>!decide (x∈ks.map (·.1))) (I:=fun e=>∃s,e=[s,some (Sl.bor (.aZ (heldOf ks)))]) ⟨_,rfl⟩ ?_ ?_
 .rintro x hx e ⟨s,rfl⟩;walk_at "w";rw[U9 hk];refine⟨rfl,?_⟩
  by_cases h:x∈ks.map (·.1)
  .rw[decide_eq_true h];exact⟨_,rfl⟩
  .rw[decide_eq_false h];exact⟨_,rfl⟩
 rintro e ⟨s,rfl⟩;have fl:(R.filter fun x=>!decide (x∈ks.map (·.1))).length<=100:=gf (length_filter_le _ _) hR;generalize hfr:(R.filter fun x=>!decide (x∈ks.map (·.1)))=fr at fl;have hmf:∀x,x∈fr↔x∈R/\x∉ks.map (·.1):=fun x=>by
  rw[<-hfr,jl];simp only[not_eq_true',lh]
 walk_at "w";refine⟨by omega,?_⟩;refine kQ (p:=fun x=>!decide (x∈(st qs).map (·.name))) (I:=fun e=>∃s,e=[s,some (Sl.bor (.aZ (dX (pP qs) ((st qs).map (·.name)))))]) ⟨_,rfl⟩ ?_ ?_
 .rintro x hx e ⟨s,rfl⟩;walk_at "w";rw[xT];refine⟨rfl,?_⟩
  by_cases h:x∈(st qs).map (·.name)
  .rw[decide_eq_true h];exact⟨_,rfl⟩
  .rw[decide_eq_false h];exact⟨_,rfl⟩
 rintro e ⟨s,rfl⟩;have el:(fr.filter fun x=>!decide (x∈(st qs).map (·.name))).length<=100:=gf (length_filter_le _ _) fl;generalize hem:(fr.filter fun x=>!decide (x∈(st qs).map (·.name)))=em at el;have hme:∀x,x∈em↔x∈fr/\x∉(st qs).map (·.name):=fun x=>by
  rw[<-hem,jl];simp only[not_eq_true',lh]
 cases em with
 |cons z em=>
  walk_at "w";have hc:=x6 (z::em);rw[map_cons]at hc;refine⟨hZ em 8,⟨by omega,hc⟩,?_⟩;obtain⟨x,e,cu⟩:=Y3 hmf hme;rw[<-e];exact q x cu
 | nil=>
  have hall:∀x∈fr,x∈(st qs).map (·.name):=fun x hx=>cv fun h=>by have:=(hme x).mpr ⟨hx,h⟩;cases this
  walk_at "w";refine⟨by omega,?_⟩;refine c9 (fun i acc e=>acc=(fr.take i).map (fun x=>.tup [pP qs x,.str x])/\∃s,e=[s,some (Sl.bor (.aZ (dX (pP qs) ((st qs).map (·.name)))))]) ?_ ?_ ⟨rfl,_,rfl⟩
  .rintro i p e acc hx ⟨rfl,s,rfl⟩;rw[aq]at hx;obtain⟨y,hy,rfl⟩:=bf.mp hx;walk_at "w";rw[fG,ao (hall y (ay hy))];walk_at "w";refine⟨by rw[di,hy,cf];rfl,_,rfl⟩
  .rintro acc e ⟨rfl,s,rfl⟩;rw[ag,de];obtain⟨h0,x,e,cu⟩:=Y8 hmf hall hf;walk_at "w";refine⟨⟨h0,x5 hall⟩,?_⟩;rw[<-e];walk_at "w";exact q x cu
end
section
open PySem L2 Mr
theorem Cut.uniq (cx:Cut qs ks R x) (cy:Cut qs ks R y):x=y:=by
 by_cases h:∃z∈R,z∉ks.map (·.1)/\z∉(st qs).map (·.name)
 .obtain⟨z,hz,h1,h2⟩:=h;have a:=(cx.empty y cy.mem cy.free (cy.empty z hz h1 h2).1).2;have b:=(cy.empty x cx.mem cx.free (cx.empty z hz h1 h2).1).2;exact PV.str.inj (pR (n:=3) (x6 [x,y]) (p:=.str x) (q:=.str y) (by simp) (by simp) a b)
 .have all:∀z∈R,z∉ks.map (·.1)->z∈(st qs).map (·.name):=fun z hz h1=>cv fun h2=>h ⟨z,hz,h1,h2⟩
  have a:=cx.full all y cy.mem cy.free;have b:=cy.full all x cx.mem cx.free;have e:=pR (n:=3) (x5 (qs:=qs) (ns:=[x,y]) fun z hz=>by
   rcases bw.mp hz with rfl|hz
   .exact all _ cx.mem cx.free
   .rw[bu.mp hz];exact all _ cy.mem cy.free) (p:=.tup [pP qs x,.str x]) (q:=.tup [pP qs y,.str y]) (by simp) (by simp) a b
  have e:=PV.tup.inj e;simp only[List.cons.injEq,PV.str.injEq,and_true]at e;exact e.2
theorem IX {A:List Str} (a:Rg.Ring up A) (hx:x∈A) (hy:y∈A):∃k,Rg.dA up k x=some y:=by
 obtain⟨i,hi⟩:=fu hx;have il:=(af.mp hi).1;have r:=a.rot i il;have hd:(A.drop i++A.take i).head? =some x:=by
  rw[Rg.tY (by intro e;have:=dq List.length e;simp at this;omega),head?_drop];exact hi
 obtain⟨k,hk⟩:=fu ((Rg.uB A i).mem_iff.mpr hy);exact⟨k,(r.path.both (up':=up) (n:=k) hd (fun _ _ _ _=>rfl) k (bc _) (af.mp hk).1).trans hk⟩
theorem BB {A B:List Str} (a:Rg.Ring up A) (b:Rg.Ring up B) (ha:x∈A) (hb:x∈B):A.Perm B:=by
 have sub:∀{A B:List Str} {x:Str},Rg.Ring up A->Rg.Ring up B->x∈A->x∈B->∀y∈A,y∈B:=fun{A B x} a b h1 h2 y hy=>by
  obtain⟨k,hk⟩:=IX a h1 hy;exact b.closed.walk k h2 hk
 exact W2 a.nd b.nd fun y=>⟨sub a b ha hb y,sub b a hb ha y⟩
def TC (qs:List Let) (ks:Hl) (F:List (List Str)) (T:Str->Option Str):Prop:=∀x,(∀R∈F,Cut qs ks R x->T x=none)/\((∀R∈F,¬Cut qs ks R x)->T x=pB qs ks x)
theorem TC.is (t:TC qs ks F T) (f:Rg.Found (pB qs ks) S F) (hS:∀x,Rg.A8 (pB qs ks) x->x∈S) (hN:∀x,Rg.A8 (pB qs ks) x->x∈ns) (g:U5 qs ks ns Rs) (c:Cuts qs ks Rs E Rn) (x:Str):T x=E x:=by
 by_cases h:∃R∈Rs,R.head? =some x
 .obtain⟨R,hR,e⟩:=h;rw[(c.hd R hR x e).1];have hx:x∈R:=List.mem_of_mem_head? e;have cy:=(g.ring R hR).A8 hx;obtain⟨R',hR',hx'⟩:=mem_flatten.mp (f.all x (hS x cy) cy);exact(t x).1 R' hR' (zM (BB (f.ring R' hR') (g.ring R hR) hx' hx) (g.cut R hR x e))
 .rw[(c.ot x fun R hR e=>h ⟨R,hR,e⟩).1];refine(t x).2 fun R hR cu=>?_
  have cy:=(f.ring R hR).A8 cu.mem;obtain⟨R',hR',hx'⟩:=mem_flatten.mp (g.all x (hN x cy) cy);obtain⟨u,hu⟩:∃u,R'.head? =some u:=by
   cases R' with
   |nil=>exact absurd rfl (g.ring _ hR').ne
   |cons u _=>exact⟨u,rfl⟩
  have e:=cu.uniq (zM (BB (f.ring R hR) (g.ring R' hR') cu.mem hx') (g.cut R' hR' u hu));exact h ⟨R',hR',by rw[e];exact hu⟩
end
section
open PySem L2 Mr
structure Cl (up:Str->Option Str) (N M:List Str) (start:Str) (l:List Str) (nm:Option Str):Prop where
 path:Rg.Path up l nm
 nil:l=[]->nm=some start
 nd:(M++l).Nodup
 sub:∀x∈l,x∈N
 nms:∀x,nm=some x->x∈N
 st:l≠[]->start∈l
noncomputable def acA:FS:=gK (tH (bH (bC (FV true) (aC 8) (fC .bG))) (bH (bC (xB true) (aC 8) (aC 5)))) iN 1000
noncomputable def aa7:FS:=wD (tH (bH (bC (FV true) (aC 8) (fC .bG))) (bH (bC (xB false) (aC 8) (aC 7)))) iK dF
theorem ah5:oI=aR acA aa7:=rfl
noncomputable abbrev GD (T:Str->Option Str) (N:List Str):PV:=.aZ (dX (fun x=>oP (T x)) N)
noncomputable abbrev zO (qs:List Let) (ks:Hl) (N:List Str) (T:Str->Option Str) (G:Str->PV) (M:List Str) (start:Str) (l:List Str) (nm:Option Str):En:=
 [some (.val (.tup (qs.map lP))),some (.val (.tup (mP ks))),some (.val (.aZ (dX (AB qs ks) N))),some (.val (.aZ (dX (pP qs) ((st qs).map (·.name))))),some (.loc (GD T N)),some (.loc (.aZ (dX G M))),some (.val (.str start)),some (.loc (.lst (l.map PV.str))),some (.val (oP nm))]
noncomputable def afR (e:En):Nat:=match e[7]? with
 |some (some (Sl.loc (PV.lst ps)))=>ps.length
 |_=>0
theorem QX (h:x∉ns):gD ns x=ns++[x]:=by unfold gD;rw[ai h]
theorem PK (h:x∈ns):gD ns x=ns:=by unfold gD;rw[ao h]
theorem OZ {start:Str} {Q:Out->Prop} (hl:N.length<=400) (hM:∀x∈M,x∈N) (hs:start∈N) (hnd:M.Nodup) (hup:∀x y,pB qs ks x=some y->y∈N)
  (q:∀l nm G',Cl (pB qs ks) N M start l nm->(∀x,nm=some x->x∈M++l)->Q (.nx (zO qs ks N T G' (M++l) start l nm))):
  Wp (acA (zO qs ks N T G M start [] (some start))) Q:=by
 unfold acA;have len:∀{l:List Str} {nm:Option Str},Cl (pB qs ks) N M start l nm->M.length+l.length<=N.length:=fun{l nm} c=>by
  have h1:=dY c.nd (m:=N) fun x hx=>(bj.mp hx).elim (hM x) (c.sub x)
  rw[br]at h1;exact h1
 refine l6 (fun e=>∃l nm G',Cl (pB qs ks) N M start l nm/\e=zO qs ks N T G' (M++l) start l nm) (fun e=>N.length+1 - afR e) ?_ ?_ ⟨[],some start,G,⟨trivial,fun _=>rfl,by rw[df];exact hnd,(fun _ h=>nomatch h),(fun x e=>by cases e;exact hs),fun h=>absurd rfl h⟩,by rw[df]⟩
 .rintro e ⟨l,nm,G',c,rfl⟩;have hle:=len c;cases nm with
  |none=>
   have eo:oP none=PV.bG:=rfl;have:=q l none G' c (fun _ e=>nomatch e);unfold zO at this⊢
   rw[eo]at this⊢
   walk_at "w";exact this
  | some x=>
   have eo:oP (some x)=PV.str x:=rfl;have hxN:=c.nms x rfl;unfold zO;rw[eo];walk_at "w";rw[xT]
   by_cases hx:x∈M++l
   .rw[decide_eq_true hx];exact q l (some x) G' c fun y e=>by cases e;exact hx
   .rw[decide_eq_false hx];have hxl:x∉l:=fun h=>hx (bq _ h)
    unfold iN oW;walk_at "w";rw[eV,QX hx,fG,ao hxN];rw[show AB qs ks x= .tup [oP (pB qs ks x),(EY qs ks x).r]from rfl];walk_at "w";have kl:(dX G' (M++l)).length=M.length+l.length:=by unfold dX;rw[ag,br]
    refine⟨by rw[kl];omega,by omega,⟨l++[x],pB qs ks x,m7 G' x (PV.str start),⟨c.path.snoc rfl,fun h=>absurd h (by simp),?_,?_,fun y e=>hup x y e,fun _=>?_⟩,?_⟩,?_⟩
    .rw[<-gp];refine dz.mpr ⟨c.nd,by simp,fun u hu w hw e=>?_⟩;rw[bu.mp hw]at e;rw[e]at hu;exact hx hu
    .intro y hy;rcases bj.mp hy with hy|hy
     .exact c.sub y hy
     .rw[bu.mp hy];exact hxN
    .by_cases h:l=[]
     .have:=c.nil h;cases this;simp
     .exact dc _ (c.st h)
    .rw[cf,gp];rfl
    .show N.length+1 - (l.map PV.str++[PV.str x]).length<N.length+1 - (l.map PV.str).length;rw[br,ag];simp only[length_cons,length_nil];omega
 .show N.length+1 - 0<1000;omega
theorem QB {start:Str} {l:List Str} {nm:Option Str} {Q:Out->Prop} (hl:N.length<=100) (hk:(ks.map (·.1)).Nodup) (hkl:ks.length<=100) (nr:xH ks)
  (c:Cl (pB qs ks) N M start l nm) (hn:∀x,nm=some x->x∈M++l) (f:Rg.Found (pB qs ks) M F) (t:TC qs ks F T)
  (q:∀F' T',Rg.Found (pB qs ks) (M++l) F'->TC qs ks F' T'->Q (.nx (zO qs ks N T' G (M++l) start l nm))):
  Wp (aa7 (zO qs ks N T G (M++l) start l nm)) Q:=by
 unfold aa7;have dj:∀x∈l,x∉M:=fun x hx h=>(dz.mp c.nd).2.2 x h x hx rfl
 have ll:l.length<=N.length:=dY (dz.mp c.nd).2.1 c.sub;cases nm with
 |none=>
  have:=q F T (f.out c.path dj fun y e=>nomatch e) t;have eo:oP none=PV.bG:=rfl;unfold zO at this⊢
  rw[eo]at this⊢
  walk_at "w";exact this
 | some x=>
  have eo:oP (some x)=PV.str x:=rfl;have hx:=hn x rfl;unfold zO;rw[eo];walk_at "w";rw[xJ];refine⟨hZ l 8,fun h=>?_,fun h=>?_⟩
  .have hw:=av h;have hi:l.idxOf x<l.length:=ku.mpr hw;have hh:(l.drop (l.idxOf x)).head? =some x:=by
    rw[head?_drop,aj hi,getElem_idxOf]
   have hf:=f.Y0 (p:=l.take (l.idxOf x)) (r:=l.drop (l.idxOf x)) (fun e=>by rw[e]at hh;cases hh) (by rw[hh,fw];exact c.path) (by rw[fw];exact(dz.mp c.nd).2.1) (by rw[fw];exact dj);rw[fw]at hf;have hr:Rg.Ring (pB qs ks) (l.drop (l.idxOf x)):=hf.ring _ (bq _ (.head _));unfold iK;walk_at "w";rw[qN];walk_at "w";rw[YL hkl];walk_at "w";refine⟨⟨hw,by omega⟩,?_⟩;rw[mC,<-map_drop];refine W6 hk (by rw[fy];omega) (F4 hk nr hr) fun y cu=>?_
   have hy:y∈N:=c.sub y (List.mem_of_mem_drop cu.mem);have kl:(dX (fun x=>oP (T x)) N).length=N.length:=by unfold dX;rw[ag]
   have:=q (F++[l.drop (l.idxOf x)]) (fun z=>if z=y then none else T z) hf fun z=>by
    refine⟨fun R hR cz=>?_,fun no=>?_⟩
    .dsimp only
     by_cases e:z=y
     .rw[ao e]
     .rw[ai e];rcases bj.mp hR with hR|hR
      .exact(t z).1 R hR cz
      .rw[bu.mp hR]at cz;exact absurd (cz.uniq cu) e
    .have e:z≠y:=fun e=>no _ (bq _ (.head _)) (e▸cu)
     dsimp only;rw[ai e];exact(t z).2 fun R hR=>no R (dc _ hR)
   have eu:m7 (fun x=>oP (T x)) y PV.bG=fun z=>oP (if z=y then none else T z):=by
    funext z;unfold m7
    by_cases e:z=y
    .rw[ao e,ao e];rfl
    .rw[ai e,ai e]
   unfold zO at this;rw[eo]at this;walk_at "w";rw[eV,PK hy,eu];exact⟨by rw[kl];omega,this⟩
  .have hM:x∈M:=(bj.mp hx).elim id fun h'=>absurd h' (fz h)
   have:=q F T (f.out c.path dj fun w e=>by cases e;exact hM) t;unfold zO at this;rw[eo]at this;exact this
end
section
open PySem L2 Mr
inductive IN (qs:List Let) (ks:Hl) (N:List Str) (i:Nat) (e:En):Prop
 |mk (F:List (List Str)) (T:Str->Option Str) (G:Str->PV) (M:List Str) (s6 s7 s8:Option Sl) (h1:e=[some (.val (.tup (qs.map lP))),some (.val (.tup (mP ks))),some (.val (.aZ (dX (AB qs ks) N))),some (.val (.aZ (dX (pP qs) ((st qs).map (·.name))))),some (.loc (GD T N)),some (.loc (.aZ (dX G M))),s6,s7,s8]) (h2:Rg.Found (pB qs ks) M F) (h3:TC qs ks F T) (h4:M.Nodup) (h5:(∀x∈M,x∈N)) (h6:∀j x,j<i->N[j]? =some x->x∈M)
theorem XZ (g:Good ss qs ks) (hss:ss.length<=62) (hl:qs.length<=100) (hk:ks.length<=100) (hkn:(ks.map (·.1)).Nodup) (nr:xH ks)
  (q:∀N T,N.Nodup->(∀x,x∈N↔x∈iF qs ks)->(∀Rs E Rn,U5 qs ks (vU qs ks) Rs->Cuts qs ks Rs E Rn->∀x,T x=E x)->Q (GD T N,[])):Wp (kM [.tup (qs.map lP),.tup (mP ks)]) Q:=by
 unfold kM sR;walk_at "w";refine QC g hss hl hkn fun N nd mem=>?_
 have Nl:N.length<=62:=gf (dY nd fun x hx=>KG g x ((mem x).mp hx)) hss;walk_at "w";refine tW hl ?_;have sl:(st qs).length<=100:=gf (vD qs) hl;walk_at "w";refine⟨by omega,?_⟩;refine c9 (fun i acc e=>acc=((st qs).take i).map SS/\∃s,e=[s]) ?_ ?_ ⟨rfl,_,rfl⟩
 .rintro i p e acc hx ⟨rfl,s,rfl⟩;rw[aq]at hx;obtain⟨y,hy,rfl⟩:=bf.mp hx;unfold lP;walk_at "w";refine⟨by rw[di,hy,cf];rfl,_,rfl⟩
 rintro acc e ⟨rfl,s,rfl⟩;rw[ag,de];walk_at "w";rw[NI hl sl];walk_at "w";rw[yP];have hup:∀x y,pB qs ks x=some y->y∈N:=fun x y h=>(mem y).mpr (vQ hkn nr h).2
 refine cJ (fun i e=>∃s6,e=[some (.val (.tup (qs.map lP))),some (.val (.tup (mP ks))),some (.val (.aZ (dX (AB qs ks) N))),some (.val (.aZ (dX (pP qs) ((st qs).map (·.name))))),some (.loc (.aZ (dX (fun x=>oP (pB qs ks x)) (N.take i)))),some (.loc (.aZ [])),s6,none,none]) ?_ ?_ ⟨_,rfl⟩
 .rintro i p e hx ⟨s6,rfl⟩;rw[aq]at hx;obtain⟨y,hy,rfl⟩:=bf.mp hx;walk_at "w";rw[fG,ao (ay hy),show AB qs ks y= .tup [oP (pB qs ks y),(EY qs ks y).r]from rfl];walk_at "w";have kl:(dX (fun x=>oP (pB qs ks x)) (N.take i)).length<=N.length:=by unfold dX;rw[ag,gy];omega
  refine⟨by omega,some (.val (.str y)),?_⟩;have:=uC (f:=fun x=>oP (pB qs ks x)) (uF nd hy);rw[this,di,hy];rfl
 rintro e ⟨s6,rfl⟩;rw[ag,de];walk_at "w";rw[yP];refine cJ (IN qs ks N) ?_ ?_ ⟨[],pB qs ks,fun _=>.bG,[],_,_,_,rfl,Rg.Found.nil,fun x=>⟨fun _ h=>(nomatch h),fun _=>rfl⟩,jh,fun _ h=>(nomatch h),fun j _ h=>absurd h (not_lt_zero _)⟩
 .rintro i p e hx ⟨F,T,G,M,s6,s7,s8,rfl,hf,t,hM,sub,done⟩;rw[aq]at hx;obtain⟨start,hs,rfl⟩:=bf.mp hx;have hsN:=ay hs;walk_at "w";rw[ah5];walk_at "w";refine OZ (T:=T) (G:=G) (M:=M) (by omega) sub hsN hM hup fun l nm G' c hn=>?_
  refine QB (F:=F) (by omega) hkn hk nr c hn hf t fun F' T' hf' t'=>?_
  refine⟨F',T',G',M++l,_,_,_,rfl,hf',t',c.nd,fun x hx=>(bj.mp hx).elim (sub x) (c.sub x),fun j x hj hx=>?_⟩
  by_cases hj':j=i
  .have hx':=(hj'▸hx:N[i]? =some x);obtain rfl:start=x:=Option.some.inj (hs.symm.trans hx')
   by_cases h:l=[]
   .exact hn start (by rw[c.nil h])
   .exact bq _ (c.st h)
  .exact dc _ (done j x (by omega) hx)
 .rintro e ⟨F,T,G,M,s6,s7,s8,rfl,hf,t,hM,sub,done⟩;walk_at "w";have cyN:∀x,Rg.A8 (pB qs ks) x->x∈N:=fun x c=>by
   obtain⟨y,_,h1,h2⟩:=c.back 1;refine cv fun h=>?_
   have hu:pB qs ks x=none:=DX fun h'=>h ((mem x).mpr h')
   rw[Rg.dA,hu]at h1;cases h1
  refine q N T nd mem fun Rs E Rn hR hc=>t.is hf (fun x c=>?_) (fun x c=>(zN qs ks x).mpr ((mem x).mp (cyN x c))) hR hc
  obtain⟨j,hj⟩:=fu (cyN x c);exact done j x (by rw[ag];exact(af.mp hj).1) hj
end
section
open PySem L2 Mr
theorem YG {up:Str->Option Str} {l:List Str} {i:Nat} {y:Str} (p:Rg.Path up l none) (h:l[i]? =some y):up y=l[i+1]?:=by
 have hi:=(af.mp h).1
 by_cases h2:i+1<l.length
 .obtain⟨z,hz⟩:∃z,l[i+1]? =some z:=⟨_,aj h2⟩;rw[hz];exact p.next h hz
 .rw[List.getElem?_eq_none (by omega)];have g:=p.AH h;rw[show l.length - i=0+1 by omega]at g;cases e:up y with
  |none=>rfl
  |some z=>rw[Rg.dA,e]at g;cases g
theorem XI (ns:List Str):dR (ns.map PV.str) (ns.map PV.str)=true:=vI (n:=1) (fun h=>z6 h) (DL ns 1)
noncomputable def T6:FS:=gK (bH (bC (FV true) (aC 5) (fC .bG))) gW 1000
theorem ahL:lT=aR T6 gU:=rfl
noncomputable def ab0 (e:En):Nat:=match e[4]? with
 |some (some (Sl.loc (PV.lst ps)))=>ps.length
 |_=>0
theorem ab9 {m x:PV} {W:List Str} {x0:Str} {Q:Out->Prop} (hW:W.length<=60) (sub:∀y∈W,y∈N) (pt:Rg.Path T W none) (h0:W.head? =some x0)
  (q:Q (.nx [some (.val p),some (.val m),some (.bor (GD T N)),some (.val x),some (.loc (.lst (W.map PV.str))),some (.val .bG),none])):
  Wp (T6 [some (.val p),some (.val m),some (.bor (GD T N)),some (.val x),some (.loc (.lst [])),some (.val (.str x0)),none]) Q:=by
 unfold T6;refine l6 (fun e=>∃i,i<=W.length/\e=[some (.val p),some (.val m),some (.bor (GD T N)),some (.val x),some (.loc (.lst ((W.take i).map PV.str))),some (.val (oP W[i]?)),none]) (fun e=>W.length+1 - ab0 e) ?_ ?_ ⟨0,ic _,by rw[<-List.head?_eq_getElem?,h0];rfl⟩
 .rintro e ⟨i,hi,rfl⟩;cases hy:W[i]? with
  |none=>
   have:W.length<=i:=List.getElem?_eq_none_iff.mp hy;rw[take_of_length_le this,show oP none=PV.bG from rfl];walk_at "w";exact q
  | some y=>
   have hlt:=(af.mp hy).1;rw[show oP (some y)=PV.str y from rfl];walk_at "w";unfold gW;walk_at "w";rw[fG,ao (sub y (ay hy))];walk_at "w";refine⟨?_,⟨i+1,by omega,?_⟩,?_⟩
   .rw[gy];omega
   .rw[YG pt hy,di,hy,cf];rfl
   .show W.length+1 - ((W.take i).map PV.str++[PV.str y]).length<W.length+1 - ((W.take i).map PV.str).length;rw[br,ag,gy];simp only[length_cons,length_nil];omega
 .show W.length+1 - 0<1000;omega
theorem PB {x:Str} (g:Good ss qs ks) (hss:ss.length<=60) (hl:qs.length<=100) (hk:ks.length<=100) (hkn:(ks.map (·.1)).Nodup) (nr:xH ks)
  (mem:∀x,x∈N↔x∈iF qs ks) (hT:∀Rs E Rn,U5 qs ks (vU qs ks) Rs->Cuts qs ks Rs E Rn->∀x,T x=E x) (hx:x∈N) (q:Q (.bl true,[])):Wp (iV [.tup (qs.map lP),.tup (mP ks),GD T N,.str x]) Q:=by
 obtain⟨W,⟨wl,ws,Rs,E,Rn,hR,hc,wp,wh⟩,ew⟩:=aa5 g hss hl hk hkn nr ((mem x).mp hx);have pt:Rg.Path T W none:=wp.congr fun z _=>(hT Rs E Rn hR hc z).symm
 unfold iV pV;walk_at "w";rw[ahL];walk_at "w";refine ab9 (N:=N) wl (fun y hy=>(mem y).mpr (ws y hy)) pt wh ?_;unfold gU;walk_at "w";rw[ew];walk_at "w";exact⟨hZ W 8,by rw[XI];exact q⟩
end
section
open PySem L2 Mr
def LOk (ss:List Str) (l:Let):Prop:=l.row.length<=9/\l.name∈ss/\∀x∈l.row,x∈ss
inductive IP (ss:List Str) (i:Nat) (acc:List PV) (e:En):Prop
 |mk (ls:List Let) (s t u:Option Sl) (h1:acc=ls.map lP) (h2:ls.length=i) (h3:(∀l∈ls,LOk ss l)) (h4:e=[s,t,u])
inductive IQ (n:Nat) (i:Nat) (acc:List PV) (e:En):Prop
 |mk (ds:List Int) (s:Option Sl) (a b c:Int) (h1:acc=ds.map PV.int) (h2:ds.length=i) (h3:Hand a b c (n+1+i)) (h4:e=[s,some (Sl.own (hd a b c))])
theorem SQ {ss:List Str} {a b c:Int} (h:Hand a b c n) (h0:2<=ss.length) (h1:ss.length<=60) (hn:n<100000)
  (q:∀(qs:List Let) a' b' c',qs.length<=60->(∀l∈qs,LOk ss l)->Hand a' b' c' (n+100)->Q (.tup (qs.map lP),[hd a' b' c'])):Wp (iT [hd a b c,.lst (ss.map PV.str)]) Q:=by
 unfold iT pS;walk_at "w";refine⟨RP (by decide) (by decide),?_⟩;refine cI h (by omega) (by omega) (by omega) fun d a1 b1 c1 d0 d1 hp=>?_
 walk_at "w";refine⟨by omega,?_⟩;refine c9 (IQ n) ?_ ?_ ⟨[],_,_,_,_,rfl,rfl,hp,rfl⟩
 .rintro i p e acc hx ⟨ds,s,a,b,c,rfl,dl,hp,rfl⟩;have hi:i<ss.length:=by have:=(af.mp hx).1;rwa[ag]at this
  walk_at "w";refine cI hp (by omega) (by decide) (by decide) fun d' a2 b2 c2 _ _ hp=>?_
  walk_at "w";exact⟨ds++[d'],_,_,_,_,by rw[cf];rfl,by rw[br,dl];rfl,hp.mono (by omega),rfl⟩
 rintro acc e ⟨ds,s,a,b,c,rfl,dl,hp,rfl⟩;rw[ag]at dl;walk_at "w";have cd:=mC (ss.map PV.str) 1;rw[show((1:Nat):Int)=1 from rfl,<-map_drop]at cd;rw[cd];have zl:(((ss.map PV.str).zip (ds.map PV.int)).zip ((ss.drop 1).map PV.str)).length=ss.length - 1:=by
  rw[length_zip,length_zip,ag,ag,ag,fy];omega
 refine⟨⟨by rw[ag,fy];omega,by rw[ag,fy];omega⟩,by omega,?_⟩;refine c9 (IP ss) ?_ ?_ ⟨[],_,_,_,rfl,rfl,fun _ h=>(nomatch h),rfl⟩
 .rintro i p e acc hx ⟨ls,s,t,u,rfl,ll,hls,rfl⟩;rw[aq]at hx;obtain⟨z,hz,rfl⟩:=bf.mp hx;obtain⟨c12,c3⟩:=kh.mp hz;obtain⟨c1,c2⟩:=kh.mp c12;rw[aq]at c1 c2 c3;obtain⟨x,hx1,e1⟩:=bf.mp c1;obtain⟨dd,hx2,e2⟩:=bf.mp c2;obtain⟨y,hx3,e3⟩:=bf.mp c3;rw[<-e1,<-e2,<-e3];walk_at "w";refine⟨ls++[⟨x,dd,"",[y]⟩],_,_,_,by rw[cf];rfl,by rw[br,ll];rfl,fun l hl'=>?_,rfl⟩;rcases bj.mp hl' with g|g
  .exact hls l g
  .rw[bu.mp g];refine⟨by simp,ay hx1,fun w hw=>?_⟩;rw[bu.mp hw];exact List.mem_of_mem_drop (ay hx3)
 rintro acc e ⟨ls,s,t,u,rfl,ll,hls,rfl⟩;rw[ag,zl]at ll;rw[ag]at hp;walk_at "w";refine⟨fun hlt=>?_,fun _=>?_⟩
 .obtain⟨x,hx⟩:∃x,ss.getLast? =some x:=by
   cases e:ss.getLast? with
   |none=>rw[ki]at e;rw[e]at h0;simp at h0
   |some x=>exact⟨x,rfl⟩
  obtain⟨dd,hd'⟩:∃x,ds.getLast? =some x:=by
   cases e:ds.getLast? with
   |none=>rw[ki]at e;rw[e]at dl;simp at dl;omega
   |some x=>exact⟨x,rfl⟩
  have e1:rK (ss.map PV.str) (-1)=some (.str x):=xN (by rw[getLast?_map,hx];rfl);have e2:rK (ds.map PV.int) (-1)=some (.int dd):=xN (by rw[getLast?_map,hd'];rfl);rw[e1];walk_at "w";rw[e2];walk_at "w";refine eU d0 (by rw[ag];omega) fun p hp'=>?_
  obtain⟨y,hy,rfl⟩:=bp.mp hp';walk_at "w";refine⟨by omega,?_⟩;rw[show ls.map lP++[PV.tup [.str x,.int dd,.str (Str.ofString ""),.tup [.str y]]]=(ls++[(⟨x,dd,"",[y]⟩:Let)]).map lP by rw[cf];rfl];have hnew:∀l∈ls++[(⟨x,dd,"",[y]⟩:Let)],LOk ss l:=fun l hl'=>by
   rcases bj.mp hl' with g|g
   .exact hls l g
   .rw[bu.mp g];refine⟨by simp,List.mem_of_getLast? hx,fun w hw=>?_⟩;rw[bu.mp hw];exact hy
  refine vG (by rw[br];simp;omega) fun ks k1 k2=>?_
  walk_at "w";exact q ks a b c (by rw[k1.length_eq,br];simp;omega) (fun l h=>hnew l (k1.mem_iff.mp h)) (hp.mono (by omega))
 .refine vG (by omega) fun ks k1 k2=>?_
  walk_at "w";exact q ks a b c (by rw[k1.length_eq];omega) (fun l h=>hls l (k1.mem_iff.mp h)) (hp.mono (by omega))
end
section
open PySem L2 Mr
inductive IR (n:Nat) (i:Nat) (acc:List PV) (e:En):Prop
 |mk (ds:List Int) (s:Option Sl) (a b c:Int) (h1:acc=ds.map PV.int) (h2:ds.length=i) (h3:(∀z∈ds,0<=z)) (h4:Hand a b c (n+i)) (h5:e=[s,some (Sl.own (hd a b c))])
theorem WT {a b c:Int} {k:Nat} {Q:List PV×En->Prop} (h:Hand a b c n) (hn:n<100000) (hk:k<=10)
  (q:∀(as:List Int) s a' b' c',as.length=k->(∀z∈as,0<=z)->Hand a' b' c' (n+k)->Q (as.map PV.int,[s,some (Sl.own (hd a' b' c'))])) (hx:xs.length=k):
  Wp (kR (aP 0) dC (bA [Kd.m,Kd.b] false aO (aB (aC 1) (aB (fC (PV.int 60)) aI))) xs [none,some (Sl.own (hd a b c))]) Q:=by
 refine c9 (IR n) ?_ ?_ ⟨[],_,_,_,_,rfl,rfl,fun _ h=>(nomatch h),h,rfl⟩
 .rintro i p e acc hx' ⟨ds,s,a,b,c,rfl,dl,d0,hp,rfl⟩;have hi:i<xs.length:=(af.mp hx').1;walk_at "w";refine cI hp (by omega) (by decide) (by decide) fun d' a2 b2 c2 h0 _ hp=>?_
  walk_at "w";refine⟨ds++[d'],_,_,_,_,by rw[cf];rfl,by rw[br,dl];rfl,fun z hz=>?_,hp.mono (by omega),rfl⟩;rcases bj.mp hz with g|g
  .exact d0 z g
  .rw[bu.mp g];exact h0
 .rintro acc e ⟨ds,s,a,b,c,rfl,dl,d0,hp,rfl⟩;exact q ds s a b c (by omega) d0 (hx▸hp)
theorem acO {s1 s6 s8:Option Sl} {Q:Out->Prop} (g:Good ss qs ks) (hss:ss.length<=60) (hl:qs.length<=100) (hk:ks.length<=100) (hkn:(ks.map (·.1)).Nodup) (nr:xH ks) (ha:as.length<=10) (h0:∀z∈as,0<=z)
  (q:∀v12 v13 v14,Q (.nx [s0,s1,s2,s3,s4,some (.val (.lst (as.map PV.int))),s6,s7,s8,some (.val (.tup (qs.map lP))),s10,some (.val (.tup (mP ks))),v12,v13,v14])):
  Wp (xG [s0,s1,s2,s3,s4,some (.val (.lst (as.map PV.int))),s6,s7,s8,some (.val (.tup (qs.map lP))),s10,some (.val (.tup (mP ks))),s12,s13,s14]) Q:=by
 unfold xG;walk_at "w";refine XZ g (by omega) hl hk hkn nr fun N T nd mem hT=>?_
 have Nl:N.length<=60:=gf (dY nd fun x hx=>KG g x ((mem x).mp hx)) hss;unfold EK EO;walk_at "w";refine BP (by omega) ?_;have kl:=(fD N).length_eq;have km:∀x,x∈eB N↔x∈N:=fun x=>(fD N).mem_iff
 generalize eB N=L at kl km;walk_at "w";rw[yB,<-map_take];refine cJ (fun i e=>∃v14,e=[s0,s1,s2,s3,s4,some (.val (.lst (as.map PV.int))),s6,s7,s8,some (.val (.tup (qs.map lP))),s10,some (.val (.tup (mP ks))),some (.val (GD T N)),some (.val (.lst (L.map PV.str))),v14]) ?_ ?_ ⟨_,rfl⟩
 .rintro i p e hx ⟨v14,rfl⟩;rw[aq]at hx;obtain⟨z,hz,rfl⟩:=bf.mp hx;have z0:0<=z:=h0 z (gi (ay hz));have Lp:0<L.length:=by
   have:=(af.mp hz).1;rw[gy]at this;omega
  walk_at "w";refine⟨by omega,?_⟩;refine eU (kj _ (by omega)) (by rw[ag];exact jk _ (by omega)) fun p hp=>?_
  obtain⟨x,hx',rfl⟩:=bp.mp hp;walk_at "w";refine PB g hss hl hk hkn nr mem hT ((km x).mp hx') ?_;walk_at "w";exact⟨_,rfl⟩
 .rintro e ⟨v14,rfl⟩;exact q _ _ _
theorem LX {ss:List Str} {qs:List Let} {s11:Option Sl} {Q:Out->Prop} (h0:0<ss.length) (hss:ss.length<=60) (hq:∀l∈qs,LOk ss l) (hl:qs.length<=60) (hp:Hand a b c n) (hn:n<100000) (m0:0<=many) (m1:many<9) (ha:as.length<=10) (az:∀z∈as,0<=z)
  (q:∀e,Q (.rt (.val (.bl true)) e)):
  Wp (xP [s0,some (.loc (hd a b c)),s2,s3,s4,some (.val (.lst (as.map PV.int))),some (.val (.int many)),s7,some (.val (.lst (ss.map PV.str))),some (.val (.tup (qs.map lP))),s10,s11,s12,s13,s14]) Q:=by
 unfold xP;walk_at "w";refine T3 hp (by omega) (by omega) m0 (by omega) (by omega) fun hs a11 b11 c11 hl' mok nr hp=>?_
 walk_at "w";unfold DN;walk_at "w";refine cJ (fun i e=>∃v11 v12 v13 v14,e=[s0,some (.loc (hd a11 b11 c11)),s2,s3,s4,some (.val (.lst (as.map PV.int))),some (.val (.int many)),s7,some (.val (.lst (ss.map PV.str))),some (.val (.tup (qs.map lP))),some (.val (.tup (mP hs))),v11,v12,v13,v14]) ?_ ?_ ⟨_,_,_,_,rfl⟩
 .rintro i p e hx ⟨v11,v12,v13,v14,rfl⟩;obtain⟨ks,rfl,g,kl,kn,kr⟩:∃ks:Hl,p= .tup (mP ks)/\Good ss qs ks/\ks.length<=100/\(ks.map (·.1)).Nodup/\xH ks:=by
   have hm:=ay hx;have A:∃ks:Hl,PV.tup (mP hs)= .tup (mP ks)/\Good ss qs ks/\ks.length<=100/\(ks.map (·.1)).Nodup/\xH ks:=⟨hs,rfl,⟨hq,mok.nm⟩,by omega,mok.nd,nr⟩;simp only[bw,dv,or_false]at hm;rcases hm with rfl|rfl|rfl
   .exact A
   .exact⟨[],rfl,⟨hq,fun _ h=>(nomatch h)⟩,by simp,jh,xH.nil⟩
   .exact A
  walk_at "w";exact acO g hss (by omega) kl kn kr ha az fun v12 v13 v14=>⟨_,v12,v13,v14,rfl⟩
 .rintro e ⟨v11,v12,v13,v14,rfl⟩;walk_at "w";exact q _
theorem acL {ns:List Int} (hn:ns.length<=63):Wp (DW [.lst (ns.map PV.int)]) fun w=>w=(.bl true,[]):=by
 unfold DW TV;walk_at "w";refine MK (by decide) (by decide) hn fun a b h=>?_
 walk_at "w";refine cI h (by decide) (by decide) (by decide) fun d a1 b1 c1 d0 d1 hp=>?_
 walk_at "w";refine eU d0 d1 fun p hp'=>?_
 obtain⟨z,rfl,z0,z1⟩:∃z:Int,p= .int z/\0<z/\z<=40:=by
  simp only[bw,dv,or_false]at hp';rcases hp' with rfl|rfl|rfl<;>exact⟨_,rfl,by decide,by decide⟩
 walk_at "w";refine cI hp (by decide) z0 (by omega) fun e' a2 b2 c2 e0 e1 hp=>?_
 walk_at "w";refine cI hp (by decide) (by decide) (by decide) fun ch a3 b3 c3 _ _ hp=>?_
 walk_at "w";refine cI hp (by decide) (by decide) (by decide) fun sz a4 b4 c4 s0 s1 hp=>?_
 walk_at "w";refine⟨jG (by decide) (by decide),?_⟩;refine WT (k:=4) hp (by decide) (by decide) (fun as s a5 b5 c5 al az hp=>?_) (by rw[ag,cw]);walk_at "w";refine cI hp (by decide) (by decide) (by decide) fun many a6 b6 c6 m0 m1 hp=>?_
 walk_at "w";refine IW hn hp (by omega) (by omega) (by decide) fun zs a7 b7 c7 zl hz hp=>?_
 walk_at "w"
 by_cases hc:ch=0
 .subst hc;walk_at "w";refine GL hp (by omega) (by omega) (by omega) fun ss a10 b10 c10 sl hss hp=>?_
  walk_at "w";refine SQ hp (by omega) (by omega) (by omega) fun qs a11 b11 c11 ql hq hp=>?_
  walk_at "w";refine LX (by omega) (by omega) hq ql hp (by omega) m0 m1 (by omega) az fun e=>?_
  walk_at "w"
 .have hb:(ch==0)=false:=by simpa using hc
  rw[hb];walk_at "w";refine GL hp (by omega) (by omega) (by omega) fun ss a10 b10 c10 sl hss hp=>?_
  walk_at "w";refine⟨fun h=>absurd h (by decide),fun _=>?_⟩;refine V4 (m:=1+e') sl hz (by omega) fun qs ll _ hq=>?_
  walk_at "w";refine LX (by omega) (by omega) hq (by omega) hp (by omega) m0 m1 (by omega) az fun e=>?_
  walk_at "w"
theorem RO:∀ns:List Int,ns.length<=63->DW [.lst (ns.map PV.int)]=some (.bl true,[]):=fun ns hn=>(acL hn).eq
end
theorem all_mk {w:World} {K:Frag} {h:Heap} {mg:Str->Option Value} {fa f0 f1 f2 f3 f4 f5 f6 f7 f8 f9 f10 f11 f12 f13 f14 f15 f16 f17 f18 f19 f20 f21 f22 f23 f24 f25 f26 f27 f28 f29 f30 f31:Addr} (X:K.In h) (G:h.Ns mainGlobals mg) (hfa:mg "law"=some (.ref fa))
  (h0:pN K "elders" p7 f0)
  (h1:pN K "standing" mU f1)
  (h2:pN K "days_of" mN f2)
  (h3:pN K "rows_of" mE f3)
  (h4:pN K "claims_of" kN f4)
  (h5:pN K "choice" uD f5)
  (h6:pN K "choices" i6 f6)
  (h7:pN K "rings_in" oG f7)
  (h8:pN K "elders_in" hV f8)
  (h9:pN K "climbed" qM f9)
  (h10:pN K "places" uN f10)
  (h11:pN K "cut_one" gQ f11)
  (h12:pN K "begun_with" iW f12)
  (h13:pN K "cut_rings" eK f13)
  (h14:pN K "by_names" j5 f14)
  (h15:pN K "way" LM f15)
  (h16:pN K "_law_hand" m5 f16)
  (h17:pN K "_law_take" mV f17)
  (h18:pN K "_law_names" fS f18)
  (h19:pN K "_law_letter" gC f19)
  (h20:pN K "_law_letters" fA f20)
  (h21:pN K "_law_pack" jW f21)
  (h22:pN K "_law_climbs" iM f22)
  (h23:pN K "_law_marks" kS f23)
  (h24:pN K "_law_row" mI f24)
  (h25:pN K "_law_standing" fZ f25)
  (h26:pN K "_law_table" kH f26)
  (h27:pN K "_law_cut" gN f27)
  (h28:pN K "_law_ties" jZ f28)
  (h29:pN K "_law_right" kJ f29)
  (h30:pN K "_law_chain" fQ f30)
  (h31:pN K "law" F8 f31)
  (eO:nsIn K mainGlobals "enumerate"=some none)
  (c8:nsIn K mainGlobals "tuple"=some none)
  (pQ:nsIn K mainGlobals "min"=some none)
  (rS:nsIn K mainGlobals "list"=some none)
  (jS:nsIn K mainGlobals "len"=some none)
  (eS:nsIn K mainGlobals "sorted"=some none)
  (eA:nsIn K mainGlobals "range"=some none)
  (A2:nsIn K mainGlobals "str"=some none)
  (CD:nsIn K mainGlobals "int"=some none)
  (G6:nsIn K mainGlobals "zip"=some none)
  (uY:nsIn K mainGlobals "dict"=some none)
  (fY:nsIn K mainGlobals "isinstance"=some none)
  :∃fd:FuncData,(∀(s:Shared) (v:Value),BindsTo s fd ⟨[v],[]⟩ [("_law_script",v)])/\∀base:Heap,K.In base->base.Ns mainGlobals mg->t7 l.prog w K mg base UT 7 fa fd ["_law_script"] (E6 K):=by
 have T:Txt K mg:=⟨jf X G eO,jf X G c8,jf X G pQ,jf X G rS,jf X G jS,jf X G eS,jf X G eA,jf X G A2,jf X G CD,jf X G G6,jf X G uY,jf X G fY⟩;have d0:Dx K mg "elders" p7 ["letter"]:=h0.dx X G (xZ fun _ _ _ _ _ _ _=>rfl);have d1:Dx K mg "standing" mU ["pack"]:=h1.dx X G (xZ fun _ _ _ _ _ _ _=>rfl);have d2:Dx K mg "days_of" mN ["pack"]:=h2.dx X G (xZ fun _ _ _ _ _ _ _=>rfl);have d3:Dx K mg "rows_of" mE ["pack"]:=h3.dx X G (xZ fun _ _ _ _ _ _ _=>rfl);have d4:Dx K mg "claims_of" kN ["pack"]:=h4.dx X G (xZ fun _ _ _ _ _ _ _=>rfl);have d5:Dx K mg "choice" uD ["held","rows","claimed","name"]:=h5.dx X G (ae9 fun _ _ _ _ _ _ _ _ _ _=>rfl);have d6:Dx K mg "choices" i6 ["pack","marks","names"]:=h6.dx X G (HN fun _ _ _ _ _ _ _ _ _=>rfl);have d7:Dx K mg "rings_in" oG ["above"]:=h7.dx X G (xZ fun _ _ _ _ _ _ _=>rfl);have d8:Dx K mg "elders_in" hV ["ties"]:=h8.dx X G (xZ fun _ _ _ _ _ _ _=>rfl);have d9:Dx K mg "climbed" qM ["above","name"]:=h9.dx X G (xE fun _ _ _ _ _ _ _ _=>rfl);have d10:Dx K mg "places" uN ["pack","marks"]:=h10.dx X G (xE fun _ _ _ _ _ _ _ _=>rfl);have d11:Dx K mg "cut_one" gQ ["ring","held","days"]:=h11.dx X G (HN fun _ _ _ _ _ _ _ _ _=>rfl);have d12:Dx K mg "begun_with" iW ["ring","name"]:=h12.dx X G (xE fun _ _ _ _ _ _ _ _=>rfl);have d13:Dx K mg "cut_rings" eK ["pack","marks","ties"]:=h13.dx X G (HN fun _ _ _ _ _ _ _ _ _=>rfl);have d14:Dx K mg "by_names" j5 ["pack","marks"]:=h14.dx X G (xE fun _ _ _ _ _ _ _ _=>rfl);have d15:Dx K mg "way" LM ["pack","marks","name"]:=h15.dx X G (HN fun _ _ _ _ _ _ _ _ _=>rfl);have d16:Dx K mg "_law_hand" m5 ["_law_script","_law_k"]:=h16.dx X G (xE fun _ _ _ _ _ _ _ _=>rfl);have d17:Dx K mg "_law_take" mV ["_law_hand_here","_law_many"]:=h17.dx X G (xE fun _ _ _ _ _ _ _ _=>rfl);have d18:Dx K mg "_law_names" fS ["_law_hand_here","_law_many"]:=h18.dx X G (xE fun _ _ _ _ _ _ _ _=>rfl);have d19:Dx K mg "_law_letter" gC ["_law_hand_here","_law_m"]:=h19.dx X G (xE fun _ _ _ _ _ _ _ _=>rfl);have d20:Dx K mg "_law_letters" fA ["_law_script","_law_hand_here","_law_m"]:=h20.dx X G (HN fun _ _ _ _ _ _ _ _ _=>rfl);have d21:Dx K mg "_law_pack" jW ["_law_letters_here","_law_names_here"]:=h21.dx X G (xE fun _ _ _ _ _ _ _ _=>rfl);have d22:Dx K mg "_law_climbs" iM ["_law_held","_law_here","_law_name"]:=h22.dx X G (HN fun _ _ _ _ _ _ _ _ _=>rfl);have d23:Dx K mg "_law_marks" kS ["_law_hand_here","_law_names_here","_law_many"]:=h23.dx X G (HN fun _ _ _ _ _ _ _ _ _=>rfl);have d24:Dx K mg "_law_row" mI ["_law_letter_here"]:=h24.dx X G (xZ fun _ _ _ _ _ _ _=>rfl);have d25:Dx K mg "_law_standing" fZ ["_law_pack_here"]:=h25.dx X G (xZ fun _ _ _ _ _ _ _=>rfl);have d26:Dx K mg "_law_table" kH ["_law_pack_here","_law_marks_here"]:=h26.dx X G (xE fun _ _ _ _ _ _ _ _=>rfl);have d27:Dx K mg "_law_cut" gN ["_law_ring","_law_days","_law_held"]:=h27.dx X G (HN fun _ _ _ _ _ _ _ _ _=>rfl);have d28:Dx K mg "_law_ties" jZ ["_law_pack_here","_law_marks_here"]:=h28.dx X G (xE fun _ _ _ _ _ _ _ _=>rfl);have d29:Dx K mg "_law_right" kJ ["_law_pack_here","_law_marks_here","_law_ties_here","_law_name"]:=h29.dx X G (ae9 fun _ _ _ _ _ _ _ _ _ _=>rfl);have d30:Dx K mg "_law_chain" fQ ["_law_hand_here","_law_names_here"]:=h30.dx X G (xE fun _ _ _ _ _ _ _ _=>rfl);have d31:Dx K mg "law" F8 ["_law_script"]:=h31.dx X G (xZ fun _ _ _ _ _ _ _=>rfl);refine abT hfa d31 (xZ fun _ _ _ _ _ _ _=>rfl) (fun base=>?_) RO;have G_elders:=ND (P:=l.prog) (w:=w) (base:=base) T d0;have G_standing:=FH (P:=l.prog) (w:=w) (base:=base) T d1;have G_choice:=NR (P:=l.prog) (w:=w) (base:=base) T d5;have G_elders_in:=CK (P:=l.prog) (w:=w) (base:=base) T d8;have G_climbed:=JT (P:=l.prog) (w:=w) (base:=base) T d9;have G_cut_one:=JU (P:=l.prog) (w:=w) (base:=base) T d11;have G_begun_with:=AF (P:=l.prog) (w:=w) (base:=base) T d12;have G_law_hand:=G5 (P:=l.prog) (w:=w) (base:=base) T d16;have G_law_take:=HS (P:=l.prog) (w:=w) (base:=base) T d17;have G_law_pack:=G3 (P:=l.prog) (w:=w) (base:=base) T d21;have G_law_climbs:=AR (P:=l.prog) (w:=w) (base:=base) T d22;have G_law_row:=IT (P:=l.prog) (w:=w) (base:=base) T d24;have G_law_standing:=wY (P:=l.prog) (w:=w) (base:=base) T d25;have G_law_cut:=J3 (P:=l.prog) (w:=w) (base:=base) T d27;have G_days_of:=KI (P:=l.prog) (w:=w) (base:=base) T d2 G_standing;have G_rows_of:=J7 (P:=l.prog) (w:=w) (base:=base) T d3 G_elders G_standing;have G_claims_of:=DB (P:=l.prog) (w:=w) (base:=base) T d4 G_standing G_elders;have G_rings_in:=HP (P:=l.prog) (w:=w) (base:=base) T d7 G_climbed;have G_places:=M0 (P:=l.prog) (w:=w) (base:=base) T d10 G_standing G_elders;have G_law_names:=EB (P:=l.prog) (w:=w) (base:=base) T d18 G_law_take;have G_law_letter:=AS (P:=l.prog) (w:=w) (base:=base) T d19 G_law_take;have G_law_marks:=CT (P:=l.prog) (w:=w) (base:=base) T d23 G_law_take G_law_climbs;have G_law_table:=CG (P:=l.prog) (w:=w) (base:=base) T d26 G_law_standing G_law_row;have G_law_chain:=C1 (P:=l.prog) (w:=w) (base:=base) T d30 G_law_take;have G_choices:=I0 (P:=l.prog) (w:=w) (base:=base) T d6 G_rows_of G_claims_of G_choice;have G_cut_rings:=DZ (P:=l.prog) (w:=w) (base:=base) T d13 G_days_of G_rings_in G_begun_with G_cut_one;have G_law_letters:=zY (P:=l.prog) (w:=w) (base:=base) T d20 G_law_letter G_law_take G_law_hand;have G_law_ties:=GF (P:=l.prog) (w:=w) (base:=base) T d28 G_law_table G_law_standing G_law_cut;have G_by_names:=EZ (P:=l.prog) (w:=w) (base:=base) T d14 G_choices G_cut_rings G_places;have G_way:=adP (P:=l.prog) (w:=w) (base:=base) T d15 G_climbed G_elders_in G_by_names;have G_law_right:=C7 (P:=l.prog) (w:=w) (base:=base) T d29 G_way;exact ac3 T d31 G_law_hand G_law_take G_law_letters G_law_names G_law_marks G_law_chain G_law_pack G_law_ties G_law_right
theorem walk {q:Program} {loose:List Str} {XP:(Str->Option Value)->Heap->Prop} {YP:World->Heap->Prop} {d:DefRec} {K:Params->Frag} (hn:l.most=some 63) (hdf:d.params.defaults=[])
  (hY:∀(w:World) (h:Heap),YP w h->(K w.params).In h)
  (F:∀(w:World) (mg:Str->Option Value) (fa:Addr) (h:Heap),(K w.params).In h->h.Ns mainGlobals mg->mg d.name=some (.ref fa)->
   ∃fd:FuncData,(∀(s:Shared) (u:Value),BindsTo s fd ⟨[u],[]⟩ [("_law_script",u)])/\∀base:Heap,(K w.params).In base->base.Ns mainGlobals mg->t7 l.prog w (K w.params) mg base UT 7 fa fd ["_law_script"] (E6 (K w.params))):
  PySem.W.WalkO q loose XP YP l.row.toRowW d [] (fun f vs=>PySem.call f vs):=
 L2.WO (n:=63) (k:=7) (x:="_law_script") (CX:=fun _=>UT) (sp:=fun w=>E6 (K w.params)) hn (by decide) hdf ⟨rfl,by decide,by decide⟩ hY F (fun _ _ a ns hl _ hS=>⟨a,ns,rfl,hS,hl,fun _=>rfl⟩) fun _ _ _ _ _ z=>z
end My
namespace PySem.W.Fast
def tw17874008305441129697:=()
def tw14256817780957019255:=()
def tw17328238123900959278:=()
def tw6650023921503444526:=()
def tw5669450621461753739:=()
def tw3806493479211784803:=()
def tw1735945831868220654:=()
def tw15088235942129122608:=()
def tw18438395968072370341:=()
def tw14536744744744391122:=()
def tw16024526449659395656:=()
def tw16550644741437291562:=()
def tw15604132245931437031:=()
def tw7191773547349209741:=()
def tw9400362122362185272:=()
def tw7118149363148737962:=()
def tw6662089848524918914:=()
def tw3489254245238958465:=()
def tw4165906657195006532:=()
def tw838051986926686998:=()
def tw11055727580139599150:=()
def tw3383059320816690037:=()
def tw8162779431129607317:=()
def tw16009461134288927785:=()
def tw11702301698991186809:=()
def tw829899226205217590:=()
def tw4582709576340853529:=()
def tw14809465782865075480:=()
def tw10585914694181804792:=()
def tw11764405473451024194:=()
def tw9450518434108700119:=()
def tw8465277160009498399:=()
def tw5422332511068227567:=()
def tw7172681784970451025:=()
def tw10043659289369509133:=()
def tw13175646738838699691:=()
def tw7980673779794920821:=()
def tw12815276461286504929:=()
def tw13417051590987693941:=()
def tw10680789093277207118:=()
def tw10674857078362627684:=()
def tw7083817349414066145:=()
def tw11097530459178269240:=()
def tw618509287403879956:=()
def tw12558673634241717028:=()
def tw7334059159819939321:=()
def tw6821789774719406270:=()
def tw5006236160430848967:=()
def tw8886195838863065426:=()
def tw5202669068846307736:=()
def tw15105531409183978967:=()
def tw1202025601186769901:=()
def tw6348779725240882288:=()
def tw2976637089488974232:=()
def tw14911050016550633029:=()
def tw5576041894968848237:=()
def tw6074880014599954410:=()
def tw14067913332308450311:=()
def tw12467063591237932761:=()
def tw4196486155885440864:=()
def tw1559260485251285849:=()
def tw11728036622734429977:=()
def tw16562208553766340200:=()
def tw14023493158184708854:=()
def tw14732712834626373630:=()
def tw5779559347762322531:=()
def tw17481707281431146931:=()
def tw4999467395482981314:=()
def tw4648780550426544075:=()
def tw7544507573594300272:=()
def tw4026119971563607214:=()
def tw9756716118525885692:=()
def tw1167264420869821227:=()
def tw6219307688048430289:=()
def tw4045391886219047341:=()
def tw11696850540247821865:=()
def tw10409784196561773854:=()
def tw2419012153435017702:=()
def tw8219801831924631463:=()
def tw10134729900415076601:=()
def tw1534793008796314508:=()
def tw2132877568653882531:=()
def tw8326677887759164433:=()
def tw16984541734987684153:=()
end PySem.W.Fast
open PySem PySem.W PyProof.Rows
set_option maxRecDepth 100000 in
set_option maxHeartbeats 0 in
theorem PySem.Challenge.cw_answertrees_k23_ways_holds : PySem.Challenge.rw_answertrees_k23_ways.Holds := by
 w_on;o_law;k_head;(case hw=>w_witness2)
 k_fill
 refine My.walk (l:=PySem.Challenge.rw_answertrees_k23_ways) rfl rfl (fun w h Y=>PySem.W.kIn_of Y) ?F
 case F=>
  intro w mg fa h KX G hmg
  refine' My.all_mk KX G hmg ?h0 ?h1 ?h2 ?h3 ?h4 ?h5 ?h6 ?h7 ?h8 ?h9 ?h10 ?h11 ?h12 ?h13 ?h14 ?h15 ?h16 ?h17 ?h18 ?h19 ?h20 ?h21 ?h22 ?h23 ?h24 ?h25 ?h26 ?h27 ?h28 ?h29 ?h30 ?h31 ?eO ?c8 ?pQ ?rS ?jS ?eS ?eA ?A2 ?CD ?G6 ?uY ?fY
  (case h0=>refine' Mr.bZ ?a ?l ?c ?k;(case a=>k_is);(case l=>k_is);(case c=>k_is);(case k=>k_is))
  (case h1=>refine' Mr.bZ ?a ?l ?c ?k;(case a=>k_is);(case l=>k_is);(case c=>k_is);(case k=>k_is))
  (case h2=>refine' Mr.bZ ?a ?l ?c ?k;(case a=>k_is);(case l=>k_is);(case c=>k_is);(case k=>k_is))
  (case h3=>refine' Mr.bZ ?a ?l ?c ?k;(case a=>k_is);(case l=>k_is);(case c=>k_is);(case k=>k_is))
  (case h4=>refine' Mr.bZ ?a ?l ?c ?k;(case a=>k_is);(case l=>k_is);(case c=>k_is);(case k=>k_is))
  (case h5=>refine' Mr.bZ ?a ?l ?c ?k;(case a=>k_is);(case l=>k_is);(case c=>k_is);(case k=>k_is))
  (case h6=>refine' Mr.bZ ?a ?l ?c ?k;(case a=>k_is);(case l=>k_is);(case c=>k_is);(case k=>k_is))
  (case h7=>refine' Mr.bZ ?a ?l ?c ?k;(case a=>k_is);(case l=>k_is);(case c=>k_is);(case k=>k_is))
  (case h8=>refine' Mr.bZ ?a ?l ?c ?k;(case a=>k_is);(case l=>k_is);(case c=>k_is);(case k=>k_is))
  (case h9=>refine' Mr.bZ ?a ?l ?c ?k;(case a=>k_is);(case l=>k_is);(case c=>k_is);(case k=>k_is))
  (case h10=>refine' Mr.bZ ?a ?l ?c ?k;(case a=>k_is);(case l=>k_is);(case c=>k_is);(case k=>k_is))
  (case h11=>refine' Mr.bZ ?a ?l ?c ?k;(case a=>k_is);(case l=>k_is);(case c=>k_is);(case k=>k_is))
  (case h12=>refine' Mr.bZ ?a ?l ?c ?k;(case a=>k_is);(case l=>k_is);(case c=>k_is);(case k=>k_is))
  (case h13=>refine' Mr.bZ ?a ?l ?c ?k;(case a=>k_is);(case l=>k_is);(case c=>k_is);(case k=>k_is))
  (case h14=>refine' Mr.bZ ?a ?l ?c ?k;(case a=>k_is);(case l=>k_is);(case c=>k_is);(case k=>k_is))
  (case h15=>refine' Mr.bZ ?a ?l ?c ?k;(case a=>k_is);(case l=>k_is);(case c=>k_is);(case k=>k_is))
  (case h16=>refine' Mr.bZ ?a ?l ?c ?k;(case a=>k_is);(case l=>k_is);(case c=>k_is);(case k=>k_is))
  (case h17=>refine' Mr.bZ ?a ?l ?c ?k;(case a=>k_is);(case l=>k_is);(case c=>k_is);(case k=>k_is))
  (case h18=>refine' Mr.bZ ?a ?l ?c ?k;(case a=>k_is);(case l=>k_is);(case c=>k_is);(case k=>k_is))
  (case h19=>refine' Mr.bZ ?a ?l ?c ?k;(case a=>k_is);(case l=>k_is);(case c=>k_is);(case k=>k_is))
  (case h20=>refine' Mr.bZ ?a ?l ?c ?k;(case a=>k_is);(case l=>k_is);(case c=>k_is);(case k=>k_is))
  (case h21=>refine' Mr.bZ ?a ?l ?c ?k;(case a=>k_is);(case l=>k_is);(case c=>k_is);(case k=>k_is))
  (case h22=>refine' Mr.bZ ?a ?l ?c ?k;(case a=>k_is);(case l=>k_is);(case c=>k_is);(case k=>k_is))
  (case h23=>refine' Mr.bZ ?a ?l ?c ?k;(case a=>k_is);(case l=>k_is);(case c=>k_is);(case k=>k_is))
  (case h24=>refine' Mr.bZ ?a ?l ?c ?k;(case a=>k_is);(case l=>k_is);(case c=>k_is);(case k=>k_is))
  (case h25=>refine' Mr.bZ ?a ?l ?c ?k;(case a=>k_is);(case l=>k_is);(case c=>k_is);(case k=>k_is))
  (case h26=>refine' Mr.bZ ?a ?l ?c ?k;(case a=>k_is);(case l=>k_is);(case c=>k_is);(case k=>k_is))
  (case h27=>refine' Mr.bZ ?a ?l ?c ?k;(case a=>k_is);(case l=>k_is);(case c=>k_is);(case k=>k_is))
  (case h28=>refine' Mr.bZ ?a ?l ?c ?k;(case a=>k_is);(case l=>k_is);(case c=>k_is);(case k=>k_is))
  (case h29=>refine' Mr.bZ ?a ?l ?c ?k;(case a=>k_is);(case l=>k_is);(case c=>k_is);(case k=>k_is))
  (case h30=>refine' Mr.bZ ?a ?l ?c ?k;(case a=>k_is);(case l=>k_is);(case c=>k_is);(case k=>k_is))
  (case h31=>refine' Mr.bZ ?a ?l ?c ?k;(case a=>k_is);(case l=>k_is);(case c=>k_is);(case k=>k_is))
  (case eO=>k_is)
  (case c8=>k_is)
  (case pQ=>k_is)
  (case rS=>k_is)
  (case jS=>k_is)
  (case eS=>k_is)
  (case eA=>k_is)
  (case A2=>k_is)
  (case CD=>k_is)
  (case G6=>k_is)
  (case uY=>k_is)
  (case fY=>k_is)
#print axioms PySem.Challenge.cw_answertrees_k23_ways_holds
