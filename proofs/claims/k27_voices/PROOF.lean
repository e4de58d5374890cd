import PyProof.Rows.All
import Wide.All
import OpenK.AllK
import Wide.FinOn
import Lean
import PyProof.EqAt
import PyProof.EqKinds
import PyProof.TupleCall
import PySem.Challenge.RW_answertrees_k27_voices
import KE.KSortKey
open List (mem_filter mem_range filterMap_cons mem_cons_self mem_cons_of_mem mem_cons mem_append mem_append_left mem_filterMap mem_append_right size_toArray append_nil nodup_cons of_mem_zip length_take getElem?_append_right getElem?_append_left getElem?_map take_sublist mem_of_getElem? length_append length_map length_replicate length_drop all_cons any_cons map_nil map_cons lookup_cons forIn_cons all_eq_true getElem_mem length_cons length_filter_le length_range map_append take_of_length_le take_length find?_cons cons_append length_nil nodup_nil ext_getElem getElem?_eq_getElem getD_eq_getElem?_getD not_lt pairwise_cons append_assoc getElem?_eq_none ext_getElem? not_mem_nil lt_irrefl pairwise_iff_getElem mem_singleton mem_map drop_eq_getElem_cons foldl_cons getElem?_of_mem length_pos_of_mem nodup_append mem_flatten map_map map_congr_left take_succ map_take any_eq_true length_zip map_fst_zip getElem_zip map_drop filter_cons nodup_range getElem?_cons_succ mem_of_mem_take find?_eq_none nil_append pairwise_map map_singleton getElem?_cons_zero set_cons_zero set_cons_succ mem_nil_iff filter_eq_self)
open Nat (lt_of_lt_of_le ne_of_lt le_trans le_of_lt ne_of_gt le_refl zero_le le_of_not_lt lt_of_le_of_lt le_succ lt_succ_self lt_succ_of_lt lt_trans le_add_right min_self mod_lt not_lt_zero mul_succ zero_add add_comm le_of_lt_succ succ_pos)
open Bool (and_eq_true false_eq_true not_eq_true')
open Option (isSome_iff_exists getD_none map_some isSome_map map_eq_some_iff)
open Array (length_toList perm_iff_toList_perm getD_eq_getD_getElem? getElem?_toList toList_push forIn_toList)
open Int (toNat_natCast emod_nonneg emod_lt_of_pos)
open PySem.Heap (get?_push_size lt_size get?_push_of_some get?_update_self get?_update_other size_push)
open PySem.W (fnOf Frag view LeftO xlAt recOk methodObj keepIn codeIn nsIn mg_of mg_none_of xl_of)
open PySem.F (slot_dict_get entry_dict_get plainAttrs_dict type_dict_get slot_list_index plainAttrs_list)
set_option compiler.extract_closed false
set_option Elab.async false
set_option linter.all false
set_option maxRecDepth 100000
namespace L2
open PySem PySem.Spec PyProof.Rows
noncomputable def aN (s:Stmt):Arguments:=match s with
 | .FunctionDef _ a _ _ _ _ _ _ _ _=>a
 |_=>{posonlyargs:=[],args:=[],vararg:=none,kwonlyargs:=[],kw_defaults:=[],kwarg:=none,defaults:=[]}
noncomputable def aM (s:Stmt):List Stmt:=match s with
 | .FunctionDef _ _ b _ _ _ _ _ _ _=>b
 |_=>[]
noncomputable def aC (s:Stmt):Scope:=match s with
 | .FunctionDef _ _ _ _ _ _ sc _ _ _=>sc
 |_=>{kind:=.function,names:=[],isGenerator:=false,isCoroutine:=false}
end L2
namespace My
set_option maxHeartbeats 0
open PySem PySem.W L2
abbrev RJ:Program:=PySem.Challenge.pw_answertrees_k27_voices
noncomputable abbrev IT (i:Nat):Stmt:=RJ.main.body.getD i (.Pass ⟨0,0,0,0⟩)
noncomputable abbrev oX (i:Nat) (n m:Str) (t:Tok) (c:Addr):Obj:=⟨.type "function",none,.func (fnOf n n (aN (IT i)) (aM (IT i)) (aC (IT i)) .none .none .none (.str m t) none (.ref c) .none), #[]⟩
noncomputable abbrev j4 (P:Params) (n:Str) (t:Tok) (v:Value):DictEntry:=⟨PyData.keyHash P n,.str n t,v⟩
noncomputable def RZ:Params->Frag:=fun P=>
 (nat_lit 3,⟨(.type "dict"),none,.dict #[j4 P "__name__" 165 (.str "law_answertrees_k27_voices" 331),j4 P "__doc__" 166 .none,j4 P "__package__" 167 .none,j4 P "__loader__" 168 (.builtin "__main__.__loader__#opaque"),j4 P "__spec__" 169 .none,j4 P "__annotations__" 170 (.ref 6),j4 P "__builtins__" 171 (.ref 4),j4 P "__file__" 173 (.str "/claim/cut.py" 172),j4 P "__cached__" 174 .none,j4 P "rings_in" 200 (.ref 21),j4 P "elders_in" 206 (.ref 26),j4 P "roots_in" 219 (.ref 33),j4 P "elders" 227 (.ref 38),j4 P "standing" 236 (.ref 45),j4 P "days_of" 242 (.ref 50),j4 P "rows_of" 250 (.ref 55),j4 P "claims_of" 261 (.ref 62),j4 P "choice" 275 (.ref 69),j4 P "choices" 281 (.ref 74),j4 P "places" 295 (.ref 81),j4 P "cut_one" 301 (.ref 86),j4 P "begun_with" 310 (.ref 93),j4 P "cut_rings" 316 (.ref 98),j4 P "by_names" 322 (.ref 103),j4 P "voices" 330 (.ref 108),j4 P "_law_start" 343 (.ref 115),j4 P "_law_take" 353 (.ref 122),j4 P "_law_name" 359 (.ref 127),j4 P "_law_pool" 370 (.ref 134),j4 P "_law_of" 378 (.ref 141),j4 P "_law_leads" 387 (.ref 148),j4 P "_law_marks" 400 (.ref 155),j4 P "_law_pack" 406 (.ref 160),j4 P "_law_due" 412 (.ref 165),j4 P "law" 425 (.ref 172)] 35, #[]⟩)::
 (nat_lit 20,⟨(.type "code"),none,.fields #[.str "rings_in" 189,.str "rings_in" 190,.str "/claim/cut.py" 191,.int 2 0,.int 1 0,.int 0 0,.int 0 0,.int 3 0,.ref 15,.bool true,.int 181 0,.ref 16,.none,.ref 17,.ref 18,.ref 19,.int 198 0,.int 2 0,.str "/claim/cut.py" 199], #[]⟩)::
 (nat_lit 21,oX 1 "rings_in" "answertrees.climbs" 187 20)::
 (nat_lit 25,⟨(.type "code"),none,.fields #[.str "elders_in" 201,.str "elders_in" 202,.str "/claim/cut.py" 203,.int 15 0,.int 1 0,.int 0 0,.int 0 0,.int 3 0,.ref 22,.bool true,.int 181 0,.ref 23,.none,.none,.none,.ref 24,.int 204 0,.int 15 0,.str "/claim/cut.py" 205], #[]⟩)::
 (nat_lit 26,oX 2 "elders_in" "answertrees.climbs" 187 25)::
 (nat_lit 32,⟨(.type "code"),none,.fields #[.str "roots_in" 207,.str "roots_in" 208,.str "/claim/cut.py" 209,.int 17 0,.int 1 0,.int 0 0,.int 0 0,.int 3 0,.ref 27,.bool true,.int 181 0,.ref 28,.none,.ref 29,.ref 30,.ref 31,.int 217 0,.int 17 0,.str "/claim/cut.py" 218], #[]⟩)::
 (nat_lit 33,oX 3 "roots_in" "answertrees.climbs" 187 32)::
 (nat_lit 37,⟨(.type "code"),none,.fields #[.str "elders" 222,.str "elders" 223,.str "/claim/cut.py" 224,.int 31 0,.int 1 0,.int 0 0,.int 0 0,.int 3 0,.ref 34,.bool true,.int 181 0,.ref 35,.none,.none,.none,.ref 36,.int 225 0,.int 31 0,.str "/claim/cut.py" 226], #[]⟩)::
 (nat_lit 38,oX 5 "elders" "answertrees.elders" 220 37)::
 (nat_lit 44,⟨(.type "code"),none,.fields #[.str "standing" 228,.str "standing" 229,.str "/claim/cut.py" 230,.int 35 0,.int 1 0,.int 0 0,.int 0 0,.int 3 0,.ref 39,.bool true,.int 181 0,.ref 40,.none,.ref 41,.ref 42,.ref 43,.int 234 0,.int 35 0,.str "/claim/cut.py" 235], #[]⟩)::
 (nat_lit 45,oX 6 "standing" "answertrees.elders" 220 44)::
 (nat_lit 49,⟨(.type "code"),none,.fields #[.str "days_of" 237,.str "days_of" 238,.str "/claim/cut.py" 239,.int 41 0,.int 1 0,.int 0 0,.int 0 0,.int 3 0,.ref 46,.bool true,.int 181 0,.ref 47,.none,.none,.none,.ref 48,.int 240 0,.int 41 0,.str "/claim/cut.py" 241], #[]⟩)::
 (nat_lit 50,oX 7 "days_of" "answertrees.elders" 220 49)::
 (nat_lit 54,⟨(.type "code"),none,.fields #[.str "rows_of" 245,.str "rows_of" 246,.str "/claim/cut.py" 247,.int 44 0,.int 1 0,.int 0 0,.int 0 0,.int 3 0,.ref 51,.bool true,.int 181 0,.ref 52,.none,.none,.none,.ref 53,.int 248 0,.int 44 0,.str "/claim/cut.py" 249], #[]⟩)::
 (nat_lit 55,oX 9 "rows_of" "answertrees.claims" 243 54)::
 (nat_lit 61,⟨(.type "code"),none,.fields #[.str "claims_of" 251,.str "claims_of" 252,.str "/claim/cut.py" 253,.int 46 0,.int 1 0,.int 0 0,.int 0 0,.int 3 0,.ref 56,.bool true,.int 181 0,.ref 57,.none,.ref 58,.ref 59,.ref 60,.int 259 0,.int 46 0,.str "/claim/cut.py" 260], #[]⟩)::
 (nat_lit 62,oX 10 "claims_of" "answertrees.claims" 243 61)::
 (nat_lit 68,⟨(.type "code"),none,.fields #[.str "choice" 262,.str "choice" 263,.str "/claim/cut.py" 264,.int 53 0,.int 4 0,.int 0 0,.int 0 0,.int 3 0,.ref 63,.bool true,.int 181 0,.ref 64,.none,.ref 65,.ref 66,.ref 67,.int 273 0,.int 53 0,.str "/claim/cut.py" 274], #[]⟩)::
 (nat_lit 69,oX 11 "choice" "answertrees.claims" 243 68)::
 (nat_lit 73,⟨(.type "code"),none,.fields #[.str "choices" 276,.str "choices" 277,.str "/claim/cut.py" 278,.int 63 0,.int 3 0,.int 0 0,.int 0 0,.int 3 0,.ref 70,.bool true,.int 181 0,.ref 71,.none,.none,.none,.ref 72,.int 279 0,.int 63 0,.str "/claim/cut.py" 280], #[]⟩)::
 (nat_lit 74,oX 12 "choices" "answertrees.claims" 243 73)::
 (nat_lit 80,⟨(.type "code"),none,.fields #[.str "places" 284,.str "places" 285,.str "/claim/cut.py" 286,.int 69 0,.int 2 0,.int 0 0,.int 0 0,.int 3 0,.ref 75,.bool true,.int 181 0,.ref 76,.none,.ref 77,.ref 78,.ref 79,.int 293 0,.int 69 0,.str "/claim/cut.py" 294], #[]⟩)::
 (nat_lit 81,oX 14 "places" "answertrees.rings" 282 80)::
 (nat_lit 85,⟨(.type "code"),none,.fields #[.str "cut_one" 296,.str "cut_one" 297,.str "/claim/cut.py" 298,.int 80 0,.int 3 0,.int 0 0,.int 0 0,.int 3 0,.ref 82,.bool true,.int 181 0,.ref 83,.none,.none,.none,.ref 84,.int 299 0,.int 80 0,.str "/claim/cut.py" 300], #[]⟩)::
 (nat_lit 86,oX 15 "cut_one" "answertrees.rings" 282 85)::
 (nat_lit 92,⟨(.type "code"),none,.fields #[.str "begun_with" 302,.str "begun_with" 303,.str "/claim/cut.py" 304,.int 86 0,.int 2 0,.int 0 0,.int 0 0,.int 3 0,.ref 87,.bool true,.int 181 0,.ref 88,.none,.ref 89,.ref 90,.ref 91,.int 308 0,.int 86 0,.str "/claim/cut.py" 309], #[]⟩)::
 (nat_lit 93,oX 16 "begun_with" "answertrees.rings" 282 92)::
 (nat_lit 97,⟨(.type "code"),none,.fields #[.str "cut_rings" 311,.str "cut_rings" 312,.str "/claim/cut.py" 313,.int 89 0,.int 3 0,.int 0 0,.int 0 0,.int 3 0,.ref 94,.bool true,.int 181 0,.ref 95,.none,.none,.none,.ref 96,.int 314 0,.int 89 0,.str "/claim/cut.py" 315], #[]⟩)::
 (nat_lit 98,oX 17 "cut_rings" "answertrees.rings" 282 97)::
 (nat_lit 102,⟨(.type "code"),none,.fields #[.str "by_names" 317,.str "by_names" 318,.str "/claim/cut.py" 319,.int 94 0,.int 2 0,.int 0 0,.int 0 0,.int 3 0,.ref 99,.bool true,.int 181 0,.ref 100,.none,.none,.none,.ref 101,.int 320 0,.int 94 0,.str "/claim/cut.py" 321], #[]⟩)::
 (nat_lit 103,oX 18 "by_names" "answertrees.rings" 282 102)::
 (nat_lit 107,⟨(.type "code"),none,.fields #[.str "voices" 325,.str "voices" 326,.str "/claim/cut.py" 327,.int 101 0,.int 2 0,.int 0 0,.int 0 0,.int 3 0,.ref 104,.bool true,.int 181 0,.ref 105,.none,.none,.none,.ref 106,.int 328 0,.int 101 0,.str "/claim/cut.py" 329], #[]⟩)::
 (nat_lit 108,oX 20 "voices" "answertrees.voices" 323 107)::
 (nat_lit 114,⟨(.type "code"),none,.fields #[.str "_law_start" 333,.str "_law_start" 334,.str "/claim/cut.py" 335,.int 111 0,.int 1 0,.int 0 0,.int 0 0,.int 3 0,.ref 109,.bool true,.int 181 0,.ref 110,.none,.ref 111,.ref 112,.ref 113,.int 341 0,.int 111 0,.str "/claim/cut.py" 342], #[]⟩)::
 (nat_lit 115,oX 22 "_law_start" "law_answertrees_k27_voices" 331 114)::
 (nat_lit 121,⟨(.type "code"),none,.fields #[.str "_law_take" 344,.str "_law_take" 345,.str "/claim/cut.py" 346,.int 118 0,.int 2 0,.int 0 0,.int 0 0,.int 3 0,.ref 116,.bool true,.int 181 0,.ref 117,.none,.ref 118,.ref 119,.ref 120,.int 351 0,.int 118 0,.str "/claim/cut.py" 352], #[]⟩)::
 (nat_lit 122,oX 23 "_law_take" "law_answertrees_k27_voices" 331 121)::
 (nat_lit 126,⟨(.type "code"),none,.fields #[.str "_law_name" 354,.str "_law_name" 355,.str "/claim/cut.py" 356,.int 127 0,.int 1 0,.int 0 0,.int 0 0,.int 3 0,.ref 123,.bool true,.int 181 0,.ref 124,.none,.none,.none,.ref 125,.int 357 0,.int 127 0,.str "/claim/cut.py" 358], #[]⟩)::
 (nat_lit 127,oX 24 "_law_name" "law_answertrees_k27_voices" 331 126)::
 (nat_lit 133,⟨(.type "code"),none,.fields #[.str "_law_pool" 360,.str "_law_pool" 361,.str "/claim/cut.py" 362,.int 133 0,.int 2 0,.int 0 0,.int 0 0,.int 3 0,.ref 128,.bool true,.int 181 0,.ref 129,.none,.ref 130,.ref 131,.ref 132,.int 368 0,.int 133 0,.str "/claim/cut.py" 369], #[]⟩)::
 (nat_lit 134,oX 25 "_law_pool" "law_answertrees_k27_voices" 331 133)::
 (nat_lit 140,⟨(.type "code"),none,.fields #[.str "_law_of" 371,.str "_law_of" 372,.str "/claim/cut.py" 373,.int 140 0,.int 2 0,.int 0 0,.int 0 0,.int 3 0,.ref 135,.bool true,.int 181 0,.ref 136,.none,.ref 137,.ref 138,.ref 139,.int 376 0,.int 140 0,.str "/claim/cut.py" 377], #[]⟩)::
 (nat_lit 141,oX 26 "_law_of" "law_answertrees_k27_voices" 331 140)::
 (nat_lit 147,⟨(.type "code"),none,.fields #[.str "_law_leads" 379,.str "_law_leads" 380,.str "/claim/cut.py" 381,.int 142 0,.int 3 0,.int 0 0,.int 0 0,.int 3 0,.ref 142,.bool true,.int 181 0,.ref 143,.none,.ref 144,.ref 145,.ref 146,.int 385 0,.int 142 0,.str "/claim/cut.py" 386], #[]⟩)::
 (nat_lit 148,oX 27 "_law_leads" "law_answertrees_k27_voices" 331 147)::
 (nat_lit 154,⟨(.type "code"),none,.fields #[.str "_law_marks" 388,.str "_law_marks" 389,.str "/claim/cut.py" 390,.int 146 0,.int 3 0,.int 0 0,.int 0 0,.int 3 0,.ref 149,.bool true,.int 181 0,.ref 150,.none,.ref 151,.ref 152,.ref 153,.int 398 0,.int 146 0,.str "/claim/cut.py" 399], #[]⟩)::
 (nat_lit 155,oX 28 "_law_marks" "law_answertrees_k27_voices" 331 154)::
 (nat_lit 159,⟨(.type "code"),none,.fields #[.str "_law_pack" 401,.str "_law_pack" 402,.str "/claim/cut.py" 403,.int 155 0,.int 2 0,.int 0 0,.int 0 0,.int 3 0,.ref 156,.bool true,.int 181 0,.ref 157,.none,.none,.none,.ref 158,.int 404 0,.int 155 0,.str "/claim/cut.py" 405], #[]⟩)::
 (nat_lit 160,oX 29 "_law_pack" "law_answertrees_k27_voices" 331 159)::
 (nat_lit 164,⟨(.type "code"),none,.fields #[.str "_law_due" 407,.str "_law_due" 408,.str "/claim/cut.py" 409,.int 162 0,.int 2 0,.int 0 0,.int 0 0,.int 3 0,.ref 161,.bool true,.int 181 0,.ref 162,.none,.none,.none,.ref 163,.int 410 0,.int 162 0,.str "/claim/cut.py" 411], #[]⟩)::
 (nat_lit 165,oX 30 "_law_due" "law_answertrees_k27_voices" 331 164)::
 (nat_lit 171,⟨(.type "code"),none,.fields #[.str "law" 413,.str "law" 414,.str "/claim/cut.py" 415,.int 175 0,.int 1 0,.int 0 0,.int 0 0,.int 3 0,.ref 166,.bool true,.int 181 0,.ref 167,.none,.ref 168,.ref 169,.ref 170,.int 423 0,.int 175 0,.str "/claim/cut.py" 424], #[]⟩)::
 (nat_lit 172,oX 31 "law" "law_answertrees_k27_voices" 331 171)::[]
noncomputable abbrev R7:List Addr:=[3,20,21,25,26,32,33,37,38,44,45,49,50,54,55,61,62,68,69,73,74,80,81,85,86,92,93,97,98,102,103,107,108,114,115,121,122,126,127,133,134,140,141,147,148,154,155,159,160,164,165,171,172]
noncomputable def QS:Program:=view RJ [1,2,3,5,6,7,9,10,11,12,14,15,16,17,18,20,22,23,24,25,26,27,28,29,30,31]
noncomputable abbrev RU:Nat:=1784
theorem R5:LeftO RJ QS [] (fun s=>xlAt QS [] s && recOk [] s) (fun s=>R7.map s.heap.get?) (fun w=>(RZ w.params).map fun p=>some p.2) RU:=by
 intro w;rw[PySem.W.Fast.te4187177175401517315,PySem.W.Fast.te5923862056798008813,PySem.W.Fast.te14364793385576792824]
 kernel_rfl
theorem R8:PySem.Challenge.rw_answertrees_k27_voices.wellSaid=true:=by
 rw[PySem.W.Fast.te9446332074065402090]
 kernel_rfl
end My
namespace L2
open PySem PySem.Spec PyProof.Rows
variable {a b it:Addr} {A:Around} {g':Array GenState} {CX:CW} {op:CmpOp} {X:Cx} {d':Drawn} {D:Ends} {c e l tg:Expr} {base h:Heap} {H:Hp} {lo:Int} {g:Int->Int->Int} {pins:List (Addr×Obj)} {ch fp:List Addr} {es:List Expr} {body:List Stmt} {N ps:List Str} {xs:List V} {us:List Value} {M:Model} {i j k n t':Nat} {o:Obj} {pos:Pos} {K:Frag} {r:R2} {scope:Scope} {s:Shared} {σ:St} {qual x:Str} {kindOf:Str->Option NameKind} {mg:Str->Option Value} {ta:TA} {te tl:TE} {tb:TS} {tc:TT} {α κ:Type} {y:V} {u v:Value} {E Q:Value->Shared->Prop} {f:Value->Value->Sem Value} {w:World}
abbrev Key:=Sum Int Str
noncomputable def eN:Key->Value->Bool
 | .inl k,v=>Value.isInt k v
 | .inr x,v=>Value.isStrOf x v
noncomputable def QC (w:World):Key->Int
 | .inl k=>hashInt k
 | .inr x=>hashStr w x
theorem aV:∀{k:Key} {v:Value},eN k v=true->(∃i t,k=Sum.inl i/\v=Value.int i t)\/ (∃x t,k=Sum.inr x/\v=Value.str x t)
 | .inl i,v,h=>by
  obtain⟨t,e⟩:=Value.isInt_shape (k:=i) (v:=v) h;exact .inl ⟨i,t,rfl,e⟩
 | .inr x,v,h=>by
  obtain⟨t,e⟩:=Value.isStrOf_shape (x:=x) (v:=v) h;exact .inr ⟨x,t,rfl,e⟩
theorem CP (i:Int) (t:Tok):eN (.inl i) (.int i t)=true:=by simp[eN,Value.isInt]
theorem DA (x:Str) (t:Tok):eN (.inr x) (.str x t)=true:=by simp[eN,Value.isStrOf]
theorem MA (a b:Int):decide ((Sum.inl a:Key)=Sum.inl b)=(a==b):=by
 by_cases e:a=b
 .subst e;simp
 .have h:¬(Sum.inl a:Key)=Sum.inl b:=fun q=>e (Sum.inl.inj q)
  rw[decide_eq_false h];exact(beq_eq_false_iff_ne.mpr e).symm
theorem NC (a b:Str):decide ((Sum.inr a:Key)=Sum.inr b)=decide (a=b):=by
 by_cases e:a=b
 .subst e;simp
 .have h:¬(Sum.inr a:Key)=Sum.inr b:=fun q=>e (Sum.inr.inj q)
  rw[decide_eq_false h,decide_eq_false e]
theorem NG (a:Int) (b:Str):decide ((Sum.inl a:Key)=Sum.inr b)=false:=decide_eq_false (fun q=>nomatch q)
theorem N0 (a:Str) (b:Int):decide ((Sum.inr a:Key)=Sum.inl b)=false:=decide_eq_false (fun q=>nomatch q)
noncomputable def aX (prog:Program) (w:World):PySem.KeyKind prog w Key where
 is:=eN
 hash:=QC w
 inj:=fun v a b ha hb=>by
  rcases aV ha with⟨i,t,rfl,rfl⟩|⟨x,t,rfl,rfl⟩
  .rcases aV hb with⟨j,u,rfl,e⟩|⟨y,u,rfl,e⟩
   .injection e with e1 _;rw[e1]
   .exact nomatch e
  .rcases aV hb with⟨j,u,rfl,e⟩|⟨y,u,rfl,e⟩
   .exact nomatch e
   .injection e with e1 _;rw[e1]
 byValue:=fun k v h=>by
  rcases aV h with⟨i,t,rfl,rfl⟩|⟨x,t,rfl,rfl⟩<;>rfl
 pyHash:=fun hv h=>by
  rcases aV hv with⟨i,t,rfl,rfl⟩|⟨x,t,rfl,rfl⟩
  .exact wpAny_pyHash_int h
  .exact wpAny_pyHash_str h
 eqBool:=fun hu hv h=>by
  rcases aV hu with⟨i,t,rfl,rfl⟩|⟨x,t,rfl,rfl⟩
  .rcases aV hv with⟨j,u,rfl,rfl⟩|⟨y,u,rfl,rfl⟩
   .rw[MA]at h;exact wpAny_eqBool_int h
   .rw[NG]at h;exact SeqAt.EqAt.int_str i t y u _ _ _ _ h
  .rcases aV hv with⟨j,u,rfl,rfl⟩|⟨y,u,rfl,rfl⟩
   .rw[N0]at h;exact SeqAt.EqAt.str_int x t j u _ _ _ _ h
   .rw[NC]at h;exact wpAny_eqBool_str h
 «strs»:=fun k x t v h=>by
  rcases aV h with⟨i,u,rfl,e⟩|⟨y,u,rfl,e⟩
  .exact nomatch e
  .injection e with e1 _
   subst e1;cases v<;>rfl
theorem xD (prog:Program) (w:World) (i:Int) (t:Tok):(aX prog w).is (.inl i) (.int i t)=true:=CP i t
theorem w5 (prog:Program) (w:World) (x:Str) (t:Tok):(aX prog w).is (.inr x) (.str x t)=true:=DA x t
inductive V where
 |aU|bl (b:Bool)|int (i:Int)|str (x:Str)|DJ (b:Array UInt8)|RB (b:UInt64)|ref (a:Addr)|ty (n:String)
 deriving DecidableEq
def RelV:V->Value->Prop
 | .aU,u=>u=Value.none
 | .bl b,u=>u=Value.bool b
 | .int i,u=>∃t,u=Value.int i t
 | .str x,u=>∃t,u=Value.str x t
 | .DJ b,u=>∃t,u=Value.bytes b t
 | .RB b,u=>∃t,u=Value.float b t
 | .ref a,u=>u=Value.ref a
 | .ty n,u=>u=Value.type n
abbrev Vals:List V->List Value->Prop:=Paired RelV
theorem Vals.length (r:Vals xs us):xs.length=us.length:=Paired.length r
theorem Vals.get:∀{xs:List V} {us:List Value} {i:Nat} {x:V},Vals xs us->xs[i]? =some x->∃u,us[i]? =some u/\RelV x u
 |_,_,_,_,.nil,e=>by simp at e
 |_,_,0,_,.cons r _,e=>by simp at e;subst e;exact⟨_,rfl,r⟩
 |_,_,i+1,x,.cons _ t,e=>by
  obtain⟨u,h1,h2⟩:=Vals.get (i:=i) (x:=x) t (by simpa using e);exact⟨u,by simpa using h1,h2⟩
theorem Vals.set {x:V} (r:RelV x u):∀{xs:List V} {us:List Value} (i:Nat),Vals xs us->Vals (xs.set i x) (us.set i u)
 |_,_,_,.nil=>.nil
 |_,_,0,.cons _ t=>.cons r t
 |_,_,i+1,.cons q t=>.cons q (Vals.set r i t)
theorem Vals.append:∀{xs ys:List V} {us ws:List Value},Vals xs us->Vals ys ws->Vals (xs++ys) (us++ws)
 |_,_,_,_,.nil,s=>s
 |_,_,_,_,.cons r t,s=>.cons r (Vals.append t s)
theorem Vals.take:∀{xs:List V} {us:List Value} (n:Nat),Vals xs us->Vals (xs.take n) (us.take n)
 |_,_,0,_=>.nil
 |_,_,_+1,.nil=>.nil
 |_,_,n+1,.cons r t=>.cons r (Vals.take n t)
theorem Vals.drop:∀{xs:List V} {us:List Value} (n:Nat),Vals xs us->Vals (xs.drop n) (us.drop n)
 |_,_,0,r=>r
 |_,_,_+1,.nil=>.nil
 |_,_,n+1,.cons _ t=>Vals.drop n t
def o9:Option V->Option Value->Prop
 |some v,some u=>RelV v u
 |none,none=>True
 |_,_=>False
def KV:List (κ×V)->List (κ×Value)->Prop:=Paired fun(p:κ×V) (q:κ×Value)=>p.1=q.1/\RelV p.2 q.2
noncomputable def kV:Key->V
 | .inl i=>.int i
 | .inr x=>.str x
inductive HO where
 |lst (xs:List V)
 |tup (xs:List V)
 |dK (kvs:List (Key×V)) (ep:Nat)|dT (kvs:List (List Key×V))
 |set (S:Int->Bool) (n:Nat)
 |ins (C dx:Addr) (fs:List (Str×V))
 |own (x:Addr)
 |xd (fs:List (Str×V))
 |met (f x:Addr)
 |Q3 (lo hi:Int)
 |HL (o:Obj) (u:HO)
 |L9 (ps:Array Value)
 |ext (φ:Heap->Prop)
abbrev Hp:=Addr->Option HO
noncomputable def upd (H:Hp) (a:Addr) (o:HO):Hp:=fun b=>if b=a then some o else H b
theorem aB {o:HO}:upd H a o a=some o:=by unfold upd;rw[if_pos rfl]
theorem aH {o:HO} (h:b≠a):upd H a o b=H b:=by unfold upd;rw[if_neg h]
theorem yJ {o u:HO} (h:H a=some o) (h':H b=some u) (d:o≠u):a≠b:=by
 intro e;subst e;rw[h]at h';exact d (Option.some.inj h')
theorem aF {o:HO} (h:H a=some o) (h':H b=none):a≠b:=by
 intro e;subst e;rw[h]at h';cases h'
def nX (h:Heap) (a:Addr) (items:Array Value):Prop:=IsTup h a items/\∀o,h.get? a=some o->o.dict=none
theorem nX.new (h:Heap) (items:Array Value):nX (h.push {cls:=.type "tuple",data:=.seq items}) h.objs.size items:=⟨IsTup.new _ _,fun o e=>by rw[get?_push_size _ rfl]at e;cases e;rfl⟩
theorem nX.of {items:Array Value} {sl:Array (Option Value)} (e:h.get? a=some {cls:=.type "tuple",dict:=none,data:=.seq items n,slots:=sl}):nX h a items:=⟨⟨_,e,rfl,_,rfl⟩,fun o q=>by rw[e]at q;cases q;rfl⟩
section
variable (P:Program) (w:World)
def cV (H:Hp) (h:Heap) (a:Addr):HO->Prop
 | .lst xs=>xs.length<=sizeLine/\∃(its:List Value) (n:Nat),Vals xs its/\h.get? a=some {cls:=.type "list",data:=.seq its.toArray n}
 | .tup xs=>xs.length<=sizeLine/\∃its:List Value,Vals xs its/\nX h a its.toArray
 | .dK kvs ep=>kvs.length<=sizeLine/\(a==sysModules)=false/\∃vs,KV kvs vs/\h.DictAt (aX P w) a vs ep
 | .dT kvs=>kvs.length<=sizeLine/\(a==sysModules)=false/\∃xs:List (List Key×Addr×Value),
   Paired (fun(p:List Key×V) (q:List Key×Addr×Value)=>p.1=q.1/\H q.2.1=some (.tup (p.1.map kV))/\RelV p.2 q.2.2) kvs xs/\
   ∃o es ep,h.get? a=some o/\o.ExactDict/\o.data= .dict es ep/\es.toList=xs.map (entryOfKey (tupleKind (aX P w)))/\(xs.map (·.1)).Nodup
 | .set S n=>h.SetOf (intKind P w) a S n
 | .ins C dx fs=>H dx=some (.own a)/\fs.length<=1000/\dx≠a/\h.get? a=some (PySem.W.instObj C dx)/\
   ∃mA,h.Ns1 dx mA/\(∀f,o9 (fs.lookup f) (mA f))/\PySem.Within mA (fs.map (·.1))
 | .own _=>∃o,h.get? a=some o
 | .xd fs=>∃mA,h.Ns1 a mA/\∀f,o9 (fs.lookup f) (mA f)
 | .Q3 lo hi=>∃t u v,h.get? a=some {cls:=.type "range",data:=.fields #[.int lo t,.int hi u,.int 1 v]}
 | .HL o u=>h.get? a=some o/\cV H h a u
 | .L9 ps=>h.get? a=some {cls:=.none,data:=.fields ps}
 | .met f x=>h.get? a=some (methodObj (.ref f) (.ref x))
 | .ext φ=>φ h/\(∃o,h.get? a=some o)/\∀h1 h2:Heap,φ h1->(∀o,h1.get? a=some o->h2.get? a=some o)->φ h2
def jE (H:Hp) (h:Heap):Prop:=∀a o,H a=some o->cV P w H h a o
end
section
variable {P:Program} {w:World} {H H':Hp} {h h':Heap} {a:Addr} {o:HO}
theorem cV.lt (x:cV P w H h a o):a<h.objs.size:=by
 cases o with
 |lst xs=>obtain⟨_,_,_,_,e⟩:=x;exact lt_size e
 |tup xs=>obtain⟨_,_,_,p⟩:=x;exact p.1.lt
 |dK kvs ep=>obtain⟨_,_,_,_,o,_,e,_⟩:=x;exact lt_size e
 |dT kvs=>obtain⟨_,_,_,_,o,_,_,e,_⟩:=x;exact lt_size e
 |set S n=>obtain⟨o,_,_,_,e,_⟩:=x;exact lt_size e
 |ins C dx fs=>obtain⟨_,_,_,e,_⟩:=x;exact lt_size e
 |own y=>obtain⟨_,e⟩:=x;exact lt_size e
 |xd fs=>obtain⟨_,⟨_,_,_,e,_⟩,_⟩:=x;exact lt_size e
 |Q3 lo hi=>obtain⟨_,_,_,e⟩:=x;exact lt_size e
 |HL ob u=>obtain⟨e,_⟩:=x;exact lt_size e
 |L9 ps=>exact lt_size (show h.get? a=some _ from x)
 |met f y=>exact lt_size (show h.get? a=some _ from x)
 |ext φ=>obtain⟨_,⟨_,e⟩,_⟩:=x;exact lt_size e
theorem Paired.dP {β:Type} {F G:α->β->Prop}:∀{l₁:List α} {l₂:List β},Paired F l₁ l₂->(∀a b,F a b->G a b)->Paired G l₁ l₂
 |_,_,.nil,_=>.nil
 |_,_,.cons r t,f=>.cons (f _ _ r) (Paired.dP t f)
theorem cV.mW (x:cV P w H h a o) (k:∀b u,(b=a\/ H b=some (.own a))->h.get? b=some u->h'.get? b=some u)
  (ho:∀b,H b=some (.own a)->H' b=some (.own a)) (ht:∀b xs,H b=some (.tup xs)->H' b=some (.tup xs)):cV P w H' h' a o:=by
 induction o with
 |lst xs=>obtain⟨z,its,n,r,e⟩:=x;exact⟨z,its,n,r,k _ _ (.inl rfl) e⟩
 |tup xs=>obtain⟨z,its,r,⟨ob,e,c⟩,nd⟩:=x;exact⟨z,its,r,⟨ob,k _ _ (.inl rfl) e,c⟩,fun o' e'=>by rw[k _ _ (.inl rfl) e]at e';cases e';exact nd _ e⟩
 |dK kvs ep=>obtain⟨z,y,vs,r,ob,es,e,c⟩:=x;exact⟨z,y,vs,r,ob,es,k _ _ (.inl rfl) e,c⟩
 |dT kvs=>
  obtain⟨z,y,xs,r,ob,es,ep,e,c⟩:=x;exact⟨z,y,xs,Paired.dP r fun p q z=>⟨z.1,ht _ _ z.2.1,z.2.2⟩,ob,es,ep,k _ _ (.inl rfl) e,c⟩
 |set S n=>obtain⟨ob,es,ep,t,e,c⟩:=x;exact⟨ob,es,ep,t,k _ _ (.inl rfl) e,c⟩
 |ins C dx fs=>
  obtain⟨d,z,ne,e,mA,⟨od,es,ep,e2,c⟩,r⟩:=x;exact⟨ho _ d,z,ne,k _ _ (.inl rfl) e,mA,⟨od,es,ep,k _ _ (.inr d) e2,c⟩,r⟩
 |own y=>obtain⟨ob,e⟩:=x;exact⟨ob,k _ _ (.inl rfl) e⟩
 |xd fs=>obtain⟨mA,⟨od,es,ep,e,c⟩,r⟩:=x;exact⟨mA,⟨od,es,ep,k _ _ (.inl rfl) e,c⟩,r⟩
 |Q3 lo hi=>obtain⟨t,u,v,e⟩:=x;exact⟨t,u,v,k _ _ (.inl rfl) e⟩
 |HL ob u ih=>obtain⟨e,q⟩:=x;exact⟨k _ _ (.inl rfl) e,ih q⟩
 |L9 ps=>
  have e:h.get? a=some {cls:=.none,data:=.fields ps}:=x;show h'.get? a=some {cls:=.none,data:=.fields ps};exact k a _ (.inl rfl) e
 |met f y=>
  have e:h.get? a=some (methodObj (.ref f) (.ref y)):=x;show h'.get? a=some (methodObj (.ref f) (.ref y));exact k a _ (.inl rfl) e
 |ext φ=>obtain⟨p,⟨o,e⟩,st⟩:=x;exact⟨st _ _ p fun o q=>k _ _ (.inl rfl) q,⟨o,k _ _ (.inl rfl) e⟩,st⟩
theorem jE.lt (x:jE P w H h) (e:H a=some o):a<h.objs.size:=(x a o e).lt
theorem jE.fresh (x:jE P w H h) (e:h.objs.size<=a):H a=none:=by
 cases q:H a with
 |none=>rfl
 |some u=>exact absurd (lt_of_lt_of_le (x.lt q) e) (Nat.lt_irrefl _)
theorem jE.kept (x:jE P w H h) (k:∀b u,h.get? b=some u->h'.get? b=some u):jE P w H h':=fun a o e=>
 (x a o e).mW (fun b u _ q=>k b u q) (fun _ q=>q) fun _ _ q=>q
theorem jE.laid (x:jE P w H h) (k:∀b u,h.get? b=some u->h'.get? b=some u) (hp:h.objs.size<=a) (new:cV P w (upd H a o) h' a o):jE P w (upd H a o) h':=fun b u e=>by
 have hn:=x.fresh hp
 by_cases hb:b=a
 .subst hb;rw[aB]at e;cases e;exact new
 .rw[aH hb]at e;exact(x b u e).mW (fun c v _ q=>k c v q) (fun c q=>by rw[aH (aF q hn)];exact q) fun c xs q=>by rw[aH (aF q hn)];exact q
end
def Rd (H:Hp) (a:Addr) (u:HO):Prop:=H a=some u\/ ∃o,H a=some (.HL o u)
theorem Rd.ok {P:Program} {a:Addr} {u:HO} (r:Rd H a u) (x:jE P w H h):cV P w H h a u:=by
 rcases r with r|⟨o,r⟩
 .exact x a u r
 .obtain⟨_,q⟩:=x a _ r;exact q
def OB:Option HO->Prop
 |some (.lst _)=>True
 |some (.dK _ _)=>True
 |some (.dT _)=>True
 |some (.set _ _)=>True
 |some (.ins _ _ _)=>True
 |some (.ext _)=>True
 |_=>False
section
variable {P:Program} {w:World} {H:Hp} {h h':Heap} {x e:Addr} {o':HO}
theorem jE.write (ok:jE P w H h) (mu:OB (H x)) (he:e=x\/ H e=some (.own x)) (k:∀b u,b≠e->h.get? b=some u->h'.get? b=some u) (heo:∃u,h'.get? e=some u)
  (new:cV P w (upd H x o') h' x o'):jE P w (upd H x o') h':=fun b u q=>by
 have nown:∀c y,H c=some (.own y)->c≠x:=fun c y r z=>by subst z;rw[r]at mu;exact mu
 have ntup:∀c xs,H c=some (.tup xs)->c≠x:=fun c xs r z=>by subst z;rw[r]at mu;exact mu
 by_cases hb:b=x
 .subst hb;rw[aB]at q;cases q;exact new
 .rw[aH hb]at q
  by_cases hbe:b=e
  .have q':H b=some (.own x):=by
    rcases he with z|z
    .exact absurd (hbe.trans z) hb
    .rw[hbe];exact z
   rw[q]at q';cases q'
   obtain⟨v,hv⟩:=heo;exact⟨v,by rw[hbe];exact hv⟩
  .refine(ok b u q).mW (fun c v hc r=>k c v ?_ r) (fun c r=>by rw[aH (nown c b r)];exact r) fun c xs r=>by rw[aH (ntup c xs r)];exact r
   rcases hc with rfl|hc
   .exact hbe
   .rintro rfl;rcases he with z|z
    .exact nown c b hc z
    .rw[hc]at z;cases z;exact hb rfl
end
structure Un (fs ex:List Addr) (H H':Hp) (h h':Heap):Prop where
 keep:∀b o,h.get? b=some o->H b=none->b∉fs->b∉ex->h'.get? b=some o
 slot:∀b o,h.get? b=some o->H b=none->b∈fs->b∉ex->∃sl,h'.get? b=some {o with slots:=sl}
 free:∀b o,h.get? b=some o->H b=none->b∉ex->H' b=none
 there:∀b o,h.get? b=some o->b∉ex->∃o',h'.get? b=some o'
 rZ:∀b xs,H b=some (.tup xs)->H' b=some (.tup xs)
 pV:∀b o u,H b=some (.HL o u)->H' b=some (.HL o u)
 rS:∀b ps,H b=some (.L9 ps)->∃more,H' b=some (.L9 (ps++more))
section
variable {fs fs' ex ex':List Addr} {H H1 H2:Hp} {h h1 h2 h':Heap} {a x e:Addr} {o:HO}
theorem Un.any (u:Un fs ex H H1 h h1) {ob:Obj} (q:h.get? b=some ob) (n:H b=none) (hx:b∉ex):∃sl,h1.get? b=some {ob with slots:=sl}:=by
 by_cases hb:b∈fs
 .exact u.slot b ob q n hb hx
 .exact⟨ob.slots,u.keep b ob q n hb hx⟩
theorem Un.kept (k:∀b u,h.get? b=some u->h'.get? b=some u):Un fs ex H H h h':=
 ⟨fun b ob q _ _ _=>k b ob q,fun b ob q _ _ _=>⟨ob.slots,k b ob q⟩,fun _ _ _ n _=>n,fun b ob q _=>⟨ob,k b ob q⟩,fun _ _ q=>q,fun _ _ _ q=>q,fun _ ps q=>⟨#[],by rw[q];simp⟩⟩
theorem Un.refl:Un fs ex H H h h:=Un.kept fun _ _ q=>q
theorem Un.laid (k:∀b u,h.get? b=some u->h'.get? b=some u) (hp:h.objs.size<=a) (hn:H a=none):Un fs ex H (upd H a o) h h' where
 keep:=fun b u q _ _ _=>k b u q
 slot:=fun b u q _ _ _=>⟨u.slots,k b u q⟩
 free:=fun b u q n _=>by rw[aH (ne_of_lt (lt_of_lt_of_le (lt_size q) hp))];exact n
 there:=fun b u q _=>⟨u,k b u q⟩
 rZ:=fun b xs q=>by rw[aH (aF q hn)];exact q
 pV:=fun b u xs q=>by rw[aH (aF q hn)];exact q
 rS:=fun b ps q=>⟨#[],by rw[aH (aF q hn),q];simp⟩
theorem Un.write (mu:OB (H x)) (he:e=x\/ H e=some (.own x)) (k:∀b u,b≠e->h.get? b=some u->h'.get? b=some u) (heo:∃u,h'.get? e=some u):Un fs ex H (upd H x o) h h':=by
 have hx:∀b,H b=none->b≠x:=fun b n z=>by subst z;rw[n]at mu;exact mu
 have hb:∀b,H b=none->b≠e:=fun b n z=>by
  subst z;rcases he with r|r
  .exact hx b n r
  .rw[n]at r;cases r
 have hm:∀b u,H b=some u->¬OB (some u)->b≠x:=fun b u q nm z=>by subst z;rw[q]at mu;exact nm mu
 refine⟨fun b u q n _ _=>k b u (hb b n) q,fun b u q n _ _=>⟨u.slots,k b u (hb b n) q⟩,fun b u q n _=>by rw[aH (hx b n)];exact n,fun b u q _=>?_,
  fun b xs q=>by rw[aH (hm b _ q fun z=>z)];exact q,fun b u xs q=>by rw[aH (hm b _ q fun z=>z)];exact q,fun b ps q=>⟨#[],by rw[aH (hm b _ q fun z=>z),q];simp⟩⟩
 by_cases hbe:b=e
 .subst hbe;exact heo
 .exact⟨u,k b u hbe q⟩
end
noncomputable def QT (h:Heap) (H:Hp):List Addr:=(List.range h.objs.size).filter fun a=>(H a).isSome
noncomputable def vX (h:Heap) (H:Hp):Heap:=PySem.W.hideAll h (QT h H)
theorem DP (h:Heap) (H:Hp):(vX h H).objs.size=h.objs.size:=PySem.W.hideAll_size _ _
theorem EB (e:h.get? b=some o) (n:H b=none):(vX h H).get? b=some o:=
 PySem.W.hideAll_get _ e fun hm=>by
  have q:(H b).isSome=true:=(mem_filter.mp hm).2;rw[n]at q;simp at q
theorem KR {H:Hp} {b:Addr} (e:(vX h H).get? b=some o):h.get? b=some o/\H b=none:=by
 have e':h.get? b=some o:=PySem.W.of_hideAll (QT h H) e;refine⟨e',?_⟩;cases q:H b with
 |none=>rfl
 |some x=>
  have hm:b∈QT h H:=mem_filter.mpr ⟨mem_range.mpr (lt_size e'),by simp[q]⟩;have z:(vX h H).get? b=none:=PySem.W.hideAll_none (QT h H) hm;rw[z]at e;cases e
structure Mod (K:Frag) (mg:Str->Option Value) (base:Heap):Prop where
 RO:K.In base
 glob:base.Ns mainGlobals mg
 blt:∃mb,base.Ns builtinsNs mb/\∀x:Str,x≠"__name__"->mb x=bootBuiltins x
 nolimit:base.NoLimit
structure Cx where
 prog:Program
 w:World
 K:Frag
 mg:Str->Option Value
 base:Heap
 A:Around
 N:List Str
 gE:Shared
 GX:Hp
 env:Env
 outer:List Env
 stack:List Env
 ex:List Addr
 fn:Str->Bool
 calm:Bool
 pn:List (Addr×Obj)
 xe:Value->Shared->Prop
noncomputable def DF (l:List Env):List Addr:=l.filterMap (·.frame)
noncomputable abbrev Cx.fs (X:Cx):List Addr:=DF X.outer
def RL (sc:Scope) (x:Str):Prop:=sc.names.lookup x=some .local\/ sc.names.lookup x=some .cell\/ sc.names.lookup x=some .free
def Loc (sc:Scope) (x:Str):Prop:=sc.names.lookup x=some .local\/ sc.names.lookup x=some .cell
def Look (env:Env) (h:Heap) (m:Str->Option Value) (x:Str) (u:Value):Prop:=
 (env.kindOf x=some .local/\m x=some u)\/ ((env.kindOf x=some .cell\/ env.kindOf x=some .free)/\∃c,env.cells.lookup x=some c/\h.IsCell c (some u))
structure Cx.Ok (X:Cx):Prop where
 mod:Mod X.K X.mg X.base
 kind:X.env.scope.kind= .function
 glob:X.env.globals=mainGlobals
 blt:X.env.builtins=builtinsNs
 above:X.gE.heap.objs.size<=X.env.locals
 inj:∀x y c,X.env.cells.lookup x=some c->X.env.cells.lookup y=some c->x=y
 has:∀x,(X.env.kindOf x=some .cell\/ X.env.kindOf x=some .free)->∃c,X.env.cells.lookup x=some c
 OI:∀x c,X.fn x=true->X.env.cells.lookup x=some c->X.gE.heap.objs.size<=c
 hd:X.calm=true->X.A.handled=none
 frames:X.A.frames=some X.stack
 QE:X.stack=X.outer\/ (X.stack=X.env::X.outer/\X.env.frame=some X.env.locals)
 Q5:∀b∈X.ex,b≠X.env.locals/\∀x c,X.env.cells.lookup x=some c->c≠b
 bs:∀b o,X.base.get? b=some o->X.gE.heap.get? b=some o/\X.GX b=none
 KH:X.base.objs.size<=X.gE.heap.objs.size
 C1:∀b o,X.base.get? b=some o->b∉X.ex
 wL:∀b∈X.ex,b∉X.fs
 pA:X.gE.heap.FunFrames X.base X.outer
 N3:∀b∈X.fs,X.GX b=none
structure Inv (X:Cx) (pins:List (Addr×Obj)) (σ:List (Option V)) (H:Hp) (s:Shared):Prop where
 ok:X.Ok
 os:s.os=X.gE.os
 bare:AllBare s.gens
 base:Un X.fs X.ex X.GX H X.gE.heap s.heap
 loc:∃m,s.heap.Ns X.env.locals m/\∀(i:Nat) (x:Str) (v:V),X.N[i]? =some x->σ[i]? =some (some v)->RL X.env.scope x->∃u,RelV v u/\Look X.env s.heap m x u
 cell:∀x c,X.env.cells.lookup x=some c->∃v,s.heap.IsCell c v
 free:H X.env.locals=none
 jR:∀x c,X.env.cells.lookup x=some c->H c=none
 pin:∀p∈X.pn++pins,s.heap.get? p.1=some p.2/\H p.1=none/\p.1≠X.env.locals/\p.1∉X.fs/\∀v,p.2.data≠ .cell v
 aW:jE X.prog X.w H s.heap
 len:σ.length=X.N.length
section
variable {X:Cx} {pins:List (Addr×Obj)} {σ:List (Option V)} {H H':Hp} {s:Shared} {h':Heap}
theorem Cx.Ok.RD (ok:X.Ok) (e:X.base.get? b=some o):b∉X.fs:=fun hb=>by
 have:=(ok.pA.mem hb).1;rw[e]at this;cases this
theorem Inv.bs (I:Inv X pins σ H s):∀b o,X.base.get? b=some o->s.heap.get? b=some o/\H b=none:=fun b o e=>
 ⟨I.base.keep b o (I.ok.bs b o e).1 (I.ok.bs b o e).2 (I.ok.RD e) (I.ok.C1 b o e),I.base.free b o (I.ok.bs b o e).1 (I.ok.bs b o e).2 (I.ok.C1 b o e)⟩
theorem Inv.bk (I:Inv X pins σ H s):∀b o,X.base.get? b=some o->s.heap.get? b=some o:=fun b o e=>(I.bs b o e).1
theorem Inv.mod (I:Inv X pins σ H s):Mod X.K X.mg X.base:=I.ok.mod
theorem Inv.OC (I:Inv X pins σ H s):X.K.In s.heap:=I.ok.mod.RO.keeps I.bk
theorem Inv.lt (I:Inv X pins σ H s):X.env.locals<s.heap.objs.size:=let⟨_,hn,_⟩:=I.loc;hn.lt
theorem Inv.sz (I:Inv X pins σ H s):X.gE.heap.objs.size<=s.heap.objs.size:=le_trans I.ok.above (le_of_lt I.lt)
theorem Inv.P7 (I:Inv X pins σ H s) (h:s.heap.objs.size<=a):a∉X.fs:=fun hb=>by
 obtain⟨_,o,ho,_⟩:=I.ok.pA.mem hb;exact absurd (lt_of_lt_of_le (lt_size ho) (le_trans I.sz h)) (Nat.lt_irrefl _)
theorem Inv.NO (I:Inv X pins σ H s):∀x c,X.env.cells.lookup x=some c->c≠X.env.locals:=fun x c e z=>by
 obtain⟨v,o,ho,hd⟩:=I.cell x c e;obtain⟨m,⟨o',es,ep,ho',hd',_⟩,_⟩:=I.loc;rw[z,ho']at ho;cases ho;rw[hd']at hd;cases hd
theorem Inv.pA (I:Inv X pins σ H s):s.heap.FunFrames X.base X.outer:=by
 have all:∀(l:List Env),(∀b∈DF l,b∈X.fs)->X.gE.heap.FunFrames X.base l->s.heap.FunFrames X.base l:=by
  intro l
  induction l with
  |nil=>intro _ _;trivial
  |cons env r ih=>
   intro hs hl;obtain⟨hk,⟨L,o,hf,hn,ho,hd⟩,hr⟩:=hl;have hL:L∈X.fs:=hs L (by unfold DF;rw[filterMap_cons,hf];exact mem_cons_self);obtain⟨sl,e⟩:=I.base.slot L o ho (I.ok.N3 L hL) hL fun z=>I.ok.wL L z hL
   exact⟨hk,⟨L,_,hf,hn,e,hd⟩,ih (fun b hb=>hs b (by unfold DF;rw[filterMap_cons,hf];exact mem_cons_of_mem _ hb)) hr⟩
 exact all X.outer (fun _ hb=>hb) I.ok.pA
theorem Inv.stack (I:Inv X pins σ H s):s.heap.FunFrames X.base X.stack:=by
 rcases I.ok.QE with e|⟨e,hf⟩
 .rw[e];exact I.pA
 .rw[e];obtain⟨m,hn,_⟩:=I.loc;refine .cons (by rw[I.ok.kind];decide) hf hn ?_ I.pA;exact Heap.get?_none_of_le (le_trans I.ok.KH I.ok.above)
theorem Inv.zW (I:Inv X pins σ H s):∀b∈DF X.stack,b∈X.env.locals::X.fs:=fun b hb=>by
 rcases I.ok.QE with e|⟨e,hf⟩
 .rw[e]at hb;exact mem_cons_of_mem _ hb
 .rw[e]at hb;unfold DF at hb;rw[filterMap_cons,hf]at hb;exact hb
theorem Inv.AH (I:Inv X pins σ H s):∀b∈DF X.stack,H b=none:=fun b hb=>by
 rcases mem_cons.mp (I.zW b hb)with e|hb
 .rw[e];exact I.free
 .obtain⟨_,o,ho,_⟩:=I.ok.pA.mem hb;exact I.base.free b o ho (I.ok.N3 b hb) fun z=>I.ok.wL b z hb
theorem Inv.step (I:Inv X pins σ H s)
  (hch:∀b∈ch,(b∈X.ex\/ X.gE.heap.objs.size<=b)/\b≠X.env.locals/\(∀x c,X.env.cells.lookup x=some c->c≠b)/\∀p∈X.pn++pins,p.1≠b)
  (keep:∀b o,b≠X.env.locals->b∉X.fs->b∉ch->s.heap.get? b=some o->H b=none->h'.get? b=some o)
  (slot:∀b o,b≠X.env.locals->b∈X.fs->b∉ch->s.heap.get? b=some o->H b=none->∃sl,h'.get? b=some {o with slots:=sl}) (free:∀b o,b∉ch->s.heap.get? b=some o->H b=none->H' b=none)
  (there:∀b o,b∉ch->s.heap.get? b=some o->∃o',h'.get? b=some o')
  (rZ:∀b xs,H b=some (.tup xs)->H' b=some (.tup xs)) (pV:∀b o u,H b=some (.HL o u)->H' b=some (.HL o u)) (rS:∀b ps,H b=some (.L9 ps)->∃more,H' b=some (.L9 (ps++more)))
  (ns:∀m,s.heap.Ns X.env.locals m->h'.Ns X.env.locals m) (aW:jE X.prog X.w H' h') (hg:AllBare g'):
  Inv X pins σ H' {s with heap:=h',gens:=g',drawn:=d',toks:=t'}:=by
 have neL:∀b o,X.gE.heap.get? b=some o->b≠X.env.locals:=fun b o e=>ne_of_lt (lt_of_lt_of_le (lt_size e) I.ok.above)
 have neC:∀b o,X.gE.heap.get? b=some o->b∉X.ex->b∉ch:=fun b o e hx hb=>by
  rcases(hch b hb).1 with z|z
  .exact hx z
  .exact absurd (lt_of_lt_of_le (lt_size e) z) (Nat.lt_irrefl _)
 have cellK:∀x c,X.env.cells.lookup x=some c->∀v,s.heap.IsCell c v->h'.IsCell c v:=fun x c e v ⟨o,ho,hd⟩=>by
  have nch:c∉ch:=fun z=>(hch c z).2.2.1 x c e rfl
  by_cases hc:c∈X.fs
  .obtain⟨sl,q⟩:=slot c o (I.NO x c e) hc nch ho (I.jR x c e);exact⟨_,q,hd⟩
  .exact⟨o,keep c o (I.NO x c e) hc nch ho (I.jR x c e),hd⟩
 refine⟨I.ok,I.os,hg,⟨fun b o e n hb hx=>?_,fun b o e n hb hx=>?_,fun b o e n hx=>?_,fun b o e hx=>?_,fun b xs e=>rZ b xs (I.base.rZ b xs e),fun b o xs e=>pV b o xs (I.base.pV b o xs e),fun b ps e=>?_⟩,?_,fun x c e=>?_,?_,fun x c e=>?_,fun p hp=>?_,aW,I.len⟩
 .exact keep b o (neL b o e) hb (neC b o e hx) (I.base.keep b o e n hb hx) (I.base.free b o e n hx)
 .obtain⟨sl,e1⟩:=I.base.slot b o e n hb hx;obtain⟨sl',e2⟩:=slot b _ (neL b o e) hb (neC b o e hx) e1 (I.base.free b o e n hx);exact⟨sl',e2⟩
 .obtain⟨o',e1⟩:=I.base.there b o e hx;exact free b o' (neC b o e hx) e1 (I.base.free b o e n hx)
 .obtain⟨o',e1⟩:=I.base.there b o e hx;exact there b o' (neC b o e hx) e1
 .obtain⟨m1,e1⟩:=I.base.rS b ps e;obtain⟨m2,e2⟩:=rS b _ e1;exact⟨m1++m2,by rw[e2,Array.append_assoc]⟩
 .obtain⟨m,hn,hl⟩:=I.loc;refine⟨m,ns m hn,fun i x v e1 e2 e3=>?_⟩;obtain⟨u,r,l⟩:=hl i x v e1 e2 e3;refine⟨u,r,?_⟩;rcases l with l|⟨k,c,e,z⟩
  .exact .inl l
  .exact .inr ⟨k,c,e,cellK x c e _ z⟩
 .obtain⟨v,z⟩:=I.cell x c e;exact⟨v,cellK x c e v z⟩
 .obtain⟨m,⟨o,_,_,ho,_⟩,_⟩:=I.loc;exact free _ o (fun z=>(hch _ z).2.1 rfl) ho I.free
 .obtain⟨v,o,ho,hd⟩:=I.cell x c e;exact free c o (fun z=>(hch c z).2.2.1 x c e rfl) ho (I.jR x c e)
 .obtain⟨e,n,ne,nf,d⟩:=I.pin p hp;have nch:p.1∉ch:=fun z=>(hch p.1 z).2.2.2 p hp rfl
  exact⟨keep p.1 p.2 ne nf nch e n,free p.1 p.2 nch e n,ne,nf,d⟩
theorem Inv.un (I:Inv X pins σ H s) (u:Un X.fs [] H H' s.heap h') (aW:jE X.prog X.w H' h'):Inv X pins σ H' {s with heap:=h',toks:=t'}:=by
 obtain⟨m,⟨o,es,ep,ho,r⟩,_⟩:=id I.loc;obtain⟨sl,hL⟩:=u.any ho I.free (by simp);exact I.step (g':=s.gens) (d':=s.drawn) (ch:=[]) (fun _ z=>nomatch z) (fun b o _ hb _ e n=>u.keep b o e n hb (by simp)) (fun b o _ hb _ e n=>u.slot b o e n hb (by simp)) (fun b o _ e n=>u.free b o e n (by simp)) (fun b o _ e=>u.there b o e (by simp)) u.rZ u.pV u.rS (fun m' hm=>by
  obtain⟨o',es',ep',ho',r'⟩:=hm;rw[ho]at ho';cases ho'
  exact⟨_,es',ep',hL,r'⟩) aW I.bare
theorem Inv.call (I:Inv X pins σ H s) (u:Un (DF X.stack) ch H H' s.heap h') (aW:jE X.prog X.w H' h') (hg:AllBare g')
  (hch:∀b∈ch,(b∈X.ex\/ X.gE.heap.objs.size<=b)/\b≠X.env.locals/\(∀x c,X.env.cells.lookup x=some c->c≠b)/\∀p∈X.pn++pins,p.1≠b):
  Inv X pins σ H' {s with heap:=h',gens:=g',drawn:=d',toks:=t'}:=by
 obtain⟨m,⟨o,es,ep,ho,r⟩,_⟩:=id I.loc;obtain⟨sl,hL⟩:=u.any ho I.free fun z=>(hch _ z).2.1 rfl
 exact I.step (ch:=ch) hch (fun b o hL hb hc e n=>u.keep b o e n (fun z=>(mem_cons.mp (I.zW b z)).elim hL hb) hc) (fun b o _ _ hc e n=>u.any e n hc) (fun b o hc e n=>u.free b o e n hc) (fun b o hc e=>u.there b o e hc) u.rZ u.pV u.rS (fun m' hm=>by
  obtain⟨o',es',ep',ho',r'⟩:=hm;rw[ho]at ho';cases ho'
  exact⟨_,es',ep',hL,r'⟩) aW hg
theorem Inv.turned (I:Inv X pins σ H s) (k:∀b o,b≠it->s.heap.get? b=some o->h'.get? b=some o) (hn:H it=none) (hL:it≠X.env.locals)
  (h1:it∈X.ex\/ X.gE.heap.objs.size<=it) (h2:∀x c,X.env.cells.lookup x=some c->c≠it) (h3:∀p∈X.pn++pins,p.1≠it):Inv X pins σ H {s with heap:=h',toks:=t'}:=by
 have nit:∀b u,H b=some u->b≠it:=fun b u e z=>by rw[z,hn]at e;cases e
 refine I.step (g':=s.gens) (d':=s.drawn) (ch:=[it]) (fun b hb=>?_) (fun b o _ _ hc e _=>k b o (fun z=>hc (by simp[z])) e) (fun b o _ _ hc e _=>⟨o.slots,k b o (fun z=>hc (by simp[z])) e⟩) (fun _ _ _ _ n=>n)
  (fun b o hc e=>⟨o,k b o (fun z=>hc (by simp[z])) e⟩) (fun _ _ e=>e) (fun _ _ _ e=>e) (fun b ps e=>⟨#[],by rw[e];simp⟩) (fun m hm=>?_) (fun b u e=>?_) I.bare
 .have e:b=it:=by simpa using hb
  subst e;exact⟨h1,hL,h2,h3⟩
 .obtain⟨o,es,ep,ho,r⟩:=hm;exact⟨o,es,ep,k _ o (Ne.symm hL) ho,r⟩
 .refine(I.aW b u e).mW (fun c v hc q=>k c v ?_ q) (fun _ q=>q) fun _ _ q=>q
  rcases hc with z|z
  .rw[z];exact nit b u e
  .exact nit c _ z
theorem Inv.tok (I:Inv X pins σ H s) (t:Nat):Inv X pins σ H {s with toks:=t}:=I.un (h':=s.heap) (t':=t) Un.refl I.aW
theorem Inv.kept (I:Inv X pins σ H s) (k:∀b u,s.heap.get? b=some u->h'.get? b=some u):Inv X pins σ H {s with heap:=h',toks:=t'}:=I.un (Un.kept k) (I.aW.kept k)
theorem Inv.laid {o:HO} (I:Inv X pins σ H s) (k:∀b u,s.heap.get? b=some u->h'.get? b=some u) (hp:s.heap.objs.size<=a) (new:cV X.prog X.w (upd H a o) h' a o):
  Inv X pins σ (upd H a o) {s with heap:=h',toks:=t'}:=I.un (Un.laid k hp (I.aW.fresh hp)) (I.aW.laid k hp new)
theorem Inv.write {x e:Addr} {o:HO} (I:Inv X pins σ H s) (mu:OB (H x)) (he:e=x\/ H e=some (.own x)) (k:∀b u,b≠e->s.heap.get? b=some u->h'.get? b=some u) (heo:∃u,h'.get? e=some u)
  (new:cV X.prog X.w (upd H x o) h' x o):Inv X pins σ (upd H x o) {s with heap:=h',toks:=t'}:=I.un (Un.write mu he k heo) (I.aW.write mu he k heo new)
theorem Inv.pL {pins':List (Addr×Obj)} (I:Inv X pins σ H s) (h:∀p∈pins',s.heap.get? p.1=some p.2/\H p.1=none/\p.1≠X.env.locals/\p.1∉X.fs/\∀v,p.2.data≠ .cell v):Inv X pins' σ H s:=
 ⟨I.ok,I.os,I.bare,I.base,I.loc,I.cell,I.free,I.jR,fun p hp=>(mem_append.mp hp).elim (fun z=>I.pin p (mem_append_left _ z)) (h p),I.aW,I.len⟩
theorem xZ (hN:N.Nodup) (a:N[i]? =some x) (b:N[j]? =some x):i=j:=by
 obtain⟨h1,e1⟩:=List.getElem?_eq_some_iff.mp a;obtain⟨h2,e2⟩:=List.getElem?_eq_some_iff.mp b;exact(List.getElem_inj hN).mp (e1.trans e2.symm)
theorem DS {x:Str} {v:V} {Q:Unit->Shared->Prop} (I:Inv X pins σ H s) (hN:X.N.Nodup) (hi:X.N[i]? =some x) (hx:Loc X.env.scope x) (r:RelV v u)
  (h:∀s',Inv X pins (σ.set i (some v)) H s'->(∃a,Heap.SameBut a s.heap s'.heap/\(a=X.env.locals\/ X.env.cells.lookup x=some a))->Q () s') (hf:X.fn x=true\/ X.env.scope.names.lookup x=some .local:=by first|exact .inl rfl|exact .inr rfl|assumption):wpAny M A (storeName X.env x u) Q E s:=by
 obtain⟨m,hn,hl⟩:=id I.loc;have hcls:(X.env.scope.kind== .class||(X.env.scope.kind== .module && X.env.locals !=X.env.globals))=false:=by rw[I.ok.kind];rfl
 have hiσ:i<σ.length:=by rw[I.len];exact(List.getElem?_eq_some_iff.mp hi).1
 have NO:=I.NO;have tracked:∀{a:Addr} {h':Heap},(∃o,s.heap.get? a=some o/\H a=none)->Heap.SameBut a s.heap h'->jE X.prog X.w H h':=fun{a h'} ha hs b ob e=>by
  obtain⟨_,_,hfree⟩:=ha;refine(I.aW b ob e).mW (fun c w' hc q=>(hs.2 c ?_).trans q) (fun _ q=>q) fun _ _ q=>q
  rintro rfl;rcases hc with rfl|hc
  .rw[hfree]at e;cases e
  .rw[hfree]at hc;cases hc
 rcases hx with hk|hk
 .refine wpAny_storeName_local hk hn (fun h' hn' hs=>?_) hcls;obtain⟨oL,_,_,hoL,_⟩:=id hn;refine h _ ⟨I.ok,I.os,I.bare,⟨fun b o e n hb hx=>?_,fun b o e n hb hx=>?_,I.base.free,fun b o e hx=>?_,I.base.rZ,I.base.pV,I.base.rS⟩,⟨_,hn',fun j y v' e1 e2 e3=>?_⟩,fun y c e=>?_,I.free,I.jR,fun p hp=>?_,tracked ⟨oL,hoL,I.free⟩ hs,by simpa using I.len⟩ ⟨_,hs,.inl rfl⟩
  .exact(hs.2 b (ne_of_lt (lt_of_lt_of_le (lt_size e) I.ok.above))).trans (I.base.keep b o e n hb hx)
  .obtain⟨sl,e1⟩:=I.base.slot b o e n hb hx;exact⟨sl,(hs.2 b (ne_of_lt (lt_of_lt_of_le (lt_size e) I.ok.above))).trans e1⟩
  .obtain⟨o',e1⟩:=I.base.there b o e hx;exact⟨o',(hs.2 b (ne_of_lt (lt_of_lt_of_le (lt_size e) I.ok.above))).trans e1⟩
  .by_cases hj:j=i
   .subst hj;rw[hi]at e1;cases e1
    rw[List.getElem?_set_self hiσ]at e2;cases e2;exact⟨u,r,.inl ⟨hk,by simp⟩⟩
   .rw[List.getElem?_set_ne (Ne.symm hj)]at e2;obtain⟨u',r',q⟩:=hl j y v' e1 e2 e3;refine⟨u',r',?_⟩;rcases q with⟨k,e⟩|⟨k,c,e,z⟩
    .refine .inl ⟨k,?_⟩;have:y≠x:=fun e=>hj (xZ hN e1 (e▸hi))
     simp[this,e]
    .exact .inr ⟨k,c,e,z.sameBut hs (NO y c e)⟩
  .obtain⟨w',z⟩:=I.cell y c e;exact⟨w',z.sameBut hs (NO y c e)⟩
  .obtain⟨e,n,ne,nf,d⟩:=I.pin p hp;exact⟨(hs.2 p.1 ne).trans e,n,ne,nf,d⟩
 .have hfn:X.fn x=true:=by
   rcases hf with z|z
   .exact z
   .rw[z]at hk;cases hk
  obtain⟨c,hc⟩:=I.ok.has x (.inl hk);obtain⟨w',z⟩:=I.cell x c hc;refine wpAny_storeName_cell I.ok.kind hk hc z (fun h' hc' hs=>?_);obtain⟨oc,hoc,hocd⟩:=id z;refine h {s with heap:=h'} ⟨I.ok,I.os,I.bare,⟨fun b o e n hb hx=>?_,fun b o e n hb hx=>?_,I.base.free,fun b o e hx=>?_,I.base.rZ,I.base.pV,I.base.rS⟩,⟨m,hn.sameBut hs (Ne.symm (NO x c hc)),fun j y v' e1 e2 e3=>?_⟩,fun y c' e=>?_,I.free,I.jR,fun p hp=>?_,tracked ⟨oc,hoc,I.jR x c hc⟩ hs,by simpa using I.len⟩ ⟨c,hs,.inr hc⟩
  .exact(hs.2 b (ne_of_lt (lt_of_lt_of_le (lt_size e) (I.ok.OI x c hfn hc)))).trans (I.base.keep b o e n hb hx)
  .obtain⟨sl,e1⟩:=I.base.slot b o e n hb hx;exact⟨sl,(hs.2 b (ne_of_lt (lt_of_lt_of_le (lt_size e) (I.ok.OI x c hfn hc)))).trans e1⟩
  .obtain⟨o',e1⟩:=I.base.there b o e hx;exact⟨o',(hs.2 b (ne_of_lt (lt_of_lt_of_le (lt_size e) (I.ok.OI x c hfn hc)))).trans e1⟩
  .by_cases hj:j=i
   .subst hj;rw[hi]at e1;cases e1
    rw[List.getElem?_set_self hiσ]at e2;cases e2;exact⟨u,r,.inr ⟨.inl hk,c,hc,hc'⟩⟩
   .rw[List.getElem?_set_ne (Ne.symm hj)]at e2;obtain⟨u',r',q⟩:=hl j y v' e1 e2 e3;refine⟨u',r',?_⟩;rcases q with q|⟨k,c',e,z'⟩
    .exact .inl q
    .refine .inr ⟨k,c',e,z'.sameBut hs ?_⟩;rintro rfl;exact hj (xZ hN e1 (I.ok.inj _ _ _ e hc▸hi))
  .by_cases hcc:c'=c
   .subst hcc;exact⟨_,hc'⟩
   .obtain⟨w2,z2⟩:=I.cell y c' e;exact⟨w2,z2.sameBut hs hcc⟩
  .obtain⟨e,n,ne,nf,d⟩:=I.pin p hp;refine⟨(hs.2 p.1 ?_).trans e,n,ne,nf,d⟩;intro q;rw[q,hoc]at e;have q':oc=p.2:=Option.some.inj e;exact d w' (by rw[<-q'];exact hocd)
theorem jL {v:V} {Q:Unit->Shared->Prop} (I:Inv X pins σ H s) (hN:X.N.Nodup) (hi:X.N[i]? =some x) (hx:Loc X.env.scope x) (r:RelV v u)
  (h:∀s',Inv X pins (σ.set i (some v)) H s'->Q () s') (hf:X.fn x=true\/ X.env.scope.names.lookup x=some .local:=by first|exact .inl rfl|exact .inr rfl|assumption):wpAny M A (storeName X.env x u) Q E s:=
 DS I hN hi hx r (fun s' I' _=>h s' I') hf
theorem Inv.FL {s':Shared} (I:Inv X pins σ H s) (ho:s'.os=s.os) (u:Un (DF X.stack) ch H H' s.heap s'.heap) (aW:jE X.prog X.w H' s'.heap) (hg:AllBare s'.gens)
  (hch:∀b∈ch,(b∈X.ex\/ X.gE.heap.objs.size<=b)/\b≠X.env.locals/\(∀x c,X.env.cells.lookup x=some c->c≠b)/\∀p∈X.pn++pins,p.1≠b):Inv X pins σ H' s':=by
 obtain⟨h',g',d',t',o'⟩:=s';have e:o'=s.os:=ho;subst e;exact I.call (g':=g') (t':=t') (d':=d') u aW hg hch
end
abbrev XK:=Value->Option Addr->Hp->Prop
abbrev St:=List (Option V)
abbrev VK:=V->Hp->Prop
abbrev TE:=St->Hp->VK->Prop
abbrev TT:=St->Hp->(Bool->Hp->Prop)->Prop
abbrev TA:=St->Hp->(List V->Hp->Prop)->Prop
structure Ends where
 nx:St->Hp->Prop
 rt:VK
 bk:St->Hp->Prop:=fun _ _=>False
 ct:St->Hp->Prop:=fun _ _=>False
abbrev TS:=Ends->St->Hp->Prop
def EP (X:Cx) (pins:List (Addr×Obj)) (σ:St) (Q:VK) (u:Value) (s':Shared):Prop:=∃v H',Inv X pins σ H' s'/\RelV v u/\Q v H'
def TP (X:Cx) (pins:List (Addr×Obj)) (σ:St) (Q:Bool->Hp->Prop) (b:Bool) (s':Shared):Prop:=∃H',Inv X pins σ H' s'/\Q b H'
def AP (X:Cx) (pins:List (Addr×Obj)) (σ:St) (Q:List V->Hp->Prop) (us:List Value) (s':Shared):Prop:=∃vs H',Inv X pins σ H' s'/\Vals vs us/\Q vs H'
def SP (X:Cx) (pins:List (Addr×Obj)) (D:Ends) (f:Flow) (s':Shared):Prop:=
 match f with
 | .next=>∃σ' H',Inv X pins σ' H' s'/\D.nx σ' H'
 | .brk=>∃σ' H',Inv X pins σ' H' s'/\D.bk σ' H'
 | .cont=>∃σ' H',Inv X pins σ' H' s'/\D.ct σ' H'
 | .ret u=>∃v σ' H',Inv X pins σ' H' s'/\RelV v u/\D.rt v H'
def PE (X:Cx) (e:Expr) (t:TE):Prop:=
 ∀(pins:List (Addr×Obj)) (s:Shared) (σ:St) (H:Hp) (Q:VK),Inv X pins σ H s->t σ H Q->wpAny (model X.prog X.w) X.A (eval e X.env) (EP X pins σ Q) X.xe s
def PT (X:Cx) (e:Expr) (t:TT):Prop:=
 ∀(pins:List (Addr×Obj)) (s:Shared) (σ:St) (H:Hp) (Q:Bool->Hp->Prop),Inv X pins σ H s->t σ H Q->wpAny (model X.prog X.w) X.A (isTrue e X.env (eval e X.env)) (TP X pins σ Q) X.xe s
def PW (X:Cx) (e:Expr) (t:TT):Prop:=
 ∀(whole:Sem Value) (pins:List (Addr×Obj)) (s:Shared) (σ:St) (H:Hp) (Q:Bool->Hp->Prop),Inv X pins σ H s->t σ H Q->wpAny (model X.prog X.w) X.A (isTrue e X.env whole) (TP X pins σ Q) X.xe s
theorem PW.pt {t:TT} (h:PW X e t):PT X e t:=h _
def PA (X:Cx) (es:List Expr) (t:TA):Prop:=
 ∀(pos:Pos) (pins:List (Addr×Obj)) (s:Shared) (σ:St) (H:Hp) (Q:List V->Hp->Prop),Inv X pins σ H s->t σ H Q->wpAny (model X.prog X.w) X.A (spliced (backTo pos (starEach es X.env))) (AP X pins σ Q) X.xe s
def PS (X:Cx) (st:Stmt) (t:TS):Prop:=
 ∀(pins:List (Addr×Obj)) (s:Shared) (σ:St) (H:Hp) (D:Ends),Inv X pins σ H s->t D σ H->wpAny (model X.prog X.w) X.A (exec st X.env) (SP X pins D) X.xe s
def zG (X:Cx) (st:List Stmt) (t:TS):Prop:=
 ∀(pins:List (Addr×Obj)) (s:Shared) (σ:St) (H:Hp) (D:Ends),Inv X pins σ H s->t D σ H->wpAny (model X.prog X.w) X.A (execs st X.env) (SP X pins D) X.xe s
theorem cG {t:Sem α} {Q Q':α->Shared->Prop} (h:wpAny M A t Q E s) (hQ:∀a s,Q a s->Q' a s):wpAny M A t Q' E s:=wpAny_mono h hQ fun _ _ x=>x
section
variable {X:Cx}
def fI (i:Nat):TE:=fun σ H Q=>∃v,σ[i]? =some (some v)/\Q v H
def tC (v:V):TE:=fun _ H Q=>Q v H
theorem L0 {i:Nat} {x:Str} (hN:X.N[i]? =some x) (hv:RL X.env.scope x) (hd:(x==("__debug__":Str))=false:=by decide) (hcd:(x==("__classdict__":Str))=false:=by decide):PE X (.Name x pos) (fI i):=by
 intro pins s σ H Q I h;obtain⟨v,e,h⟩:=h;obtain⟨m,hn,hl⟩:=I.loc;obtain⟨u,r,l⟩:=hl i x v hN e hv;have fin:EP X pins σ Q u s:=⟨v,H,I,r,h⟩;rcases l with⟨hk,hm⟩|⟨hk,c,hc,hcell⟩
 .exact wpAny_Name (wpAny_loadName_local I.ok.kind hk hn hm fin) hd
 .rcases hk with hk|hk
  .exact wpAny_Name (wpAny_loadName_cell I.ok.kind hk hc hcell fin) hd
  .exact wpAny_Name (wpAny_loadName_free I.ok.kind hk hc hcell fin hcd) hd
theorem aJ {i j pos}:PE X (.Constant (.int i) j pos) (tC (.int i)):=fun _ _ _ H _ I h=>wpAny_Constant_int ⟨.int i,H,I.tok _,⟨_,rfl⟩,h⟩
theorem pX {b j pos}:PE X (.Constant (.bool b) j pos) (tC (.bl b)):=fun _ _ _ H _ I h=>Constant_bool ⟨.bl b,H,I,rfl,h⟩
theorem g5 {j pos}:PE X (.Constant .none j pos) (tC .aU):=fun _ _ _ H _ I h=>Constant_none ⟨.aU,H,I,rfl,h⟩
theorem bP {x j pos}:PE X (.Constant (.str x) j pos) (tC (.str x)):=fun _ _ _ H _ I h=>Calls.Constant_str ⟨.str x,H,I.tok _,⟨_,rfl⟩,h⟩
def Gl (X:Cx) (x:Str):Prop:=X.env.kindOf x=some .globalImplicit
theorem JI (I:Inv X pins σ H s) (hg:Gl X x) (hm:X.mg x=some u) (h:Q u s)
  (hd:(x==("__debug__":Str))=false:=by decide):wpAny (model X.prog X.w) X.A (eval (.Name x pos) X.env) Q E s:=
 Calls.Name_function_global I.ok.kind hg (Calls.loadGlobal_global (by rw[I.ok.glob];exact I.mod.glob.keeps I.bk) hm h) hd
theorem vN (I:Inv X pins σ H s) (hg:Gl X x) (hm:X.mg x=none) (hv:bootBuiltins x=some u) (h:Q u s)
  (hn:x≠"__name__":=by decide) (hd:(x==("__debug__":Str))=false:=by decide):wpAny (model X.prog X.w) X.A (eval (.Name x pos) X.env) Q E s:=by
 obtain⟨mb,h1,h2⟩:=I.mod.blt;exact Calls.Name_function_global I.ok.kind hg (Calls.loadGlobal_builtin (by rw[I.ok.glob];exact I.mod.glob.keeps I.bk) hm (by rw[I.ok.blt];exact h1.keeps I.bk) ((h2 x hn).trans hv) h) hd
variable {a b:Expr} {ta tb:TE} {pos:Pos}
def tB (t:TE):TT:=fun σ H Q=>t σ H fun x H1=>∃c,x= .bl c/\Q c H1
theorem MM {t:TE} (h:PE X e t) (he:∀whole,isTrue e X.env whole=(do let v<-whole;standAt e.pos;holding [v] (truthy v)):=by intro _;rfl):PT X e (tB t):=by
 intro pins s σ H Q I hw;refine isTrue_plain (cG (h pins s σ H _ I hw) fun v s1 ⟨x,H1,I1,r1,q1⟩=>?_) (he _);obtain⟨d,rfl,q⟩:=q1;cases r1;exact wpAny_truthy_bool ⟨H1,I1,q⟩
variable {tA tB':TT} {rest:List Expr}
def pR (t u:TT):TT:=fun σ H Q=>t σ H fun c H1=>if c=true then u σ H1 Q else Q false H1
def HV (t u:TT):TT:=fun σ H Q=>t σ H fun c H1=>if c=true then Q true H1 else u σ H1 Q
def rX (t:TT):TT:=fun σ H Q=>t σ H fun c H1=>Q (!c) H1
theorem kC (ha:PT X a tA):PW X (.BoolOp .And [a] pos) tA:=by
 intro wh pins s σ H Q I h;refine isTrue_and (cG (ha pins s σ H Q I h) fun c s1 e=>?_);cases c with
 |true=>exact isTrue_and_nil e
 |false=>exact e
theorem ME (ha:PT X a tA):PW X (.BoolOp .Or [a] pos) tA:=by
 intro wh pins s σ H Q I h;refine isTrue_or (cG (ha pins s σ H Q I h) fun c s1 e=>?_);cases c with
 |false=>exact isTrue_or_nil e
 |true=>exact e
theorem n5 (ha:PT X a tA) (hb:PW X (.BoolOp .And (b::rest) pos) tB'):PW X (.BoolOp .And (a::b::rest) pos) (pR tA tB'):=by
 intro wh pins s σ H Q I h;refine isTrue_and (cG (ha pins s σ H _ I h) fun c s1 ⟨H1,I1,q1⟩=>?_);cases c with
 |true=>exact hb wh pins s1 σ H1 Q I1 q1
 |false=>exact⟨H1,I1,q1⟩
theorem PR (ha:PT X a tA) (hb:PW X (.BoolOp .Or (b::rest) pos) tB'):PW X (.BoolOp .Or (a::b::rest) pos) (HV tA tB'):=by
 intro wh pins s σ H Q I h;refine isTrue_or (cG (ha pins s σ H _ I h) fun c s1 ⟨H1,I1,q1⟩=>?_);cases c with
 |true=>exact⟨H1,I1,q1⟩
 |false=>exact hb wh pins s1 σ H1 Q I1 q1
theorem N4 (ha:PT X a tA):PT X (.UnaryOp .Not a pos) (rX tA):=by
 intro pins s σ H Q I h;exact isTrue_not (ha pins s σ H (fun c H1=>Q (!c) H1) I h)
def HM (t:TT) (ta tb:TE):TE:=fun σ H Q=>t σ H fun c H1=>if c=true then ta σ H1 Q else tb σ H1 Q
theorem yI (hc:PT X c tA) (ha:PE X a ta) (hb:PE X b tb):PE X (.IfExp c a b pos) (HM tA ta tb):=by
 intro pins s σ H Q I h;refine wpAny_IfExp (cG (hc pins s σ H _ I h) fun d s1 ⟨H1,I1,q1⟩=>?_);cases d with
 |true=>exact ha pins s1 σ H1 Q I1 q1
 |false=>exact hb pins s1 σ H1 Q I1 q1
end
def bM (K:Frag) (H:Hp) (a:Addr) (xs:List V):Prop:=
 Rd H a (.lst xs)\/
  ∃(o:Obj) (its:Array Value) (n:Nat),K.lookup a=some o/\o.cls= .type "list"/\o.dict=none/\o.data= .seq its n/\its.size<=sizeLine/\Vals xs its.toList
def bO (K:Frag) (H:Hp) (a:Addr) (xs:List V):Prop:=
 Rd H a (.tup xs)\/
  ∃(o:Obj) (its:Array Value) (n:Nat),K.lookup a=some o/\o.cls= .type "tuple"/\o.data= .seq its n/\its.size<=sizeLine/\Vals xs its.toList
noncomputable def RQ:Value->Option V
 | .none=>some .aU
 | .bool b=>some (.bl b)
 | .int i _=>some (.int i)
 | .str x _=>some (.str x)
 | .bytes b _=>some (.DJ b)
 | .float b _=>some (.RB b)
 | .ref a=>some (.ref a)
 | .type n=>some (.ty n)
 |_=>none
theorem RelV.abs {x:V} (r:RelV x u):RQ u=some x:=by
 cases x with
 |aU=>cases r;rfl
 |bl _=>cases r;rfl
 |int _=>obtain⟨t,rfl⟩:=r;rfl
 |str _=>obtain⟨t,rfl⟩:=r;rfl
 |DJ _=>obtain⟨t,rfl⟩:=r;rfl
 |RB _=>obtain⟨t,rfl⟩:=r;rfl
 |ref _=>cases r;rfl
 |ty _=>cases r;rfl
theorem RelV.inj {x:V} (r:RelV x u) (q:RelV y u):x=y:=Option.some.inj (r.abs.symm.trans q.abs)
theorem Vals.inj:∀{xs ys:List V} {us:List Value},Vals xs us->Vals ys us->xs=ys
 |_,_,_,.nil,.nil=>rfl
 |_,_,_,.cons r t,.cons r' t'=>by rw[r.inj r',Vals.inj t t']
section
variable {X:Cx} {pins:List (Addr×Obj)} {σ:St} {H:Hp} {s:Shared} {a:Addr} {xs ys:List V}
theorem bM.of (h:H a=some (.lst xs)):bM K H a xs:=.inl (.inl h)
theorem bO.of (h:H a=some (.tup xs)):bO K H a xs:=.inl (.inl h)
theorem Inv.list (I:Inv X pins σ H s) (h:bM X.K H a xs):∃its:List Value,Vals xs its/\PlainL s.heap a its.toArray/\xs.length<=sizeLine:=by
 rcases h with h|⟨o,its,n,hk,hc,hd,hs,hz,r⟩
 .obtain⟨z,its,n,r,e⟩:=h.ok I.aW;exact⟨its,r,⟨_,n,e,rfl,rfl,rfl⟩,z⟩
 .refine⟨its.toList,r,⟨o,n,I.OC a o hk,hc,hd,by simpa using hs⟩,?_⟩;have e:=r.length;simp only[length_toList]at e;omega
theorem Inv.tuple (I:Inv X pins σ H s) (h:bO X.K H a xs):∃its:List Value,Vals xs its/\IsTup s.heap a its.toArray/\xs.length<=sizeLine:=by
 rcases h with h|⟨o,its,n,hk,hc,hs,hz,r⟩
 .obtain⟨z,its,r,p⟩:=h.ok I.aW;exact⟨its,r,p.1,z⟩
 .refine⟨its.toList,r,⟨o,I.OC a o hk,hc,n,by simpa using hs⟩,?_⟩;have e:=r.length;simp only[length_toList]at e;omega
theorem Inv.wG (I:Inv X pins σ H s) (h:bM X.K H a xs) (h':bM X.K H a ys):xs=ys:=by
 obtain⟨its,r,⟨o,n,e,_,_,d⟩,_⟩:=I.list h;obtain⟨its',r',⟨o',n',e',_,_,d'⟩,_⟩:=I.list h';rw[e]at e';cases e'
 rw[d]at d';injection d' with d1 _
 have:its=its':=by simpa using congrArg Array.toList d1
 subst this;exact r.inj r'
theorem Inv.tQ (I:Inv X pins σ H s) (h:bO X.K H a xs) (h':bO X.K H a ys):xs=ys:=by
 obtain⟨its,r,⟨o,e,_,n,d⟩,_⟩:=I.tuple h;obtain⟨its',r',⟨o',e',_,n',d'⟩,_⟩:=I.tuple h';rw[e]at e';cases e'
 rw[d]at d';injection d' with d1 _
 have:its=its':=by simpa using congrArg Array.toList d1
 subst this;exact r.inj r'
end
noncomputable abbrev Cx.rV (X:Cx) (E:Value->Shared->Prop):Cx:={X with xe:=E}
noncomputable abbrev Cx.QK (X:Cx):Cx:=X.rV fun _ _=>False
theorem Cx.Ok.rV (ok:X.Ok) (E:Value->Shared->Prop):(X.rV E).Ok:=
 ⟨ok.mod,ok.kind,ok.glob,ok.blt,ok.above,ok.inj,ok.has,ok.OI,ok.hd,ok.frames,ok.QE,ok.Q5,ok.bs,ok.KH,ok.C1,ok.wL,ok.pA,ok.N3⟩
theorem Cx.Ok.kA (ok:(X.rV E).Ok):X.Ok:=
 ⟨ok.mod,ok.kind,ok.glob,ok.blt,ok.above,ok.inj,ok.has,ok.OI,ok.hd,ok.frames,ok.QE,ok.Q5,ok.bs,ok.KH,ok.C1,ok.wL,ok.pA,ok.N3⟩
section
variable {X:Cx} {pins:List (Addr×Obj)} {σ:St} {H:Hp} {s:Shared} {E:Value->Shared->Prop}
theorem Inv.rV (I:Inv X pins σ H s) (E:Value->Shared->Prop):Inv (X.rV E) pins σ H s:=⟨I.ok.rV E,I.os,I.bare,I.base,I.loc,I.cell,I.free,I.jR,I.pin,I.aW,I.len⟩
theorem Inv.kA (I:Inv (X.rV E) pins σ H s):Inv X pins σ H s:=⟨I.ok.kA,I.os,I.bare,I.base,I.loc,I.cell,I.free,I.jR,I.pin,I.aW,I.len⟩
theorem SP.kA {f:Flow} {s':Shared} (h:SP (X.rV E) pins D f s'):SP X pins D f s':=by
 cases f with
 |next=>obtain⟨σ',H',I,q⟩:=h;exact⟨σ',H',I.kA,q⟩
 |brk=>obtain⟨σ',H',I,q⟩:=h;exact⟨σ',H',I.kA,q⟩
 |cont=>obtain⟨σ',H',I,q⟩:=h;exact⟨σ',H',I.kA,q⟩
 |ret u=>obtain⟨v,σ',H',I,r,q⟩:=h;exact⟨v,σ',H',I.kA,r,q⟩
theorem zG.QK {st:List Stmt} {t:TS} (h:zG X.QK st t):zG X st t:=fun pins s σ H D I hw=>
 wpAny_mono (h pins s σ H D (I.rV _) hw) (fun _ _ q=>q.kA) fun _ _ z=>False.elim z
end
section
variable {X:Cx} {st:Stmt} {rest:List Stmt} {t u:TS} {e:Expr} {te:TE} {pos:Pos}
def jU:TS:=fun D σ H=>D.nx σ H
def vB (t u:TS):TS:=fun D σ H=>t {D with nx:=u D} σ H
theorem cU:zG X [] jU:=fun _ _ σ H _ I h=>wpAny_execs_nil ⟨σ,H,I,h⟩
theorem aD (h1:PS X st t) (h2:zG X rest u):zG X (st::rest) (vB t u):=by
 intro pins s σ H D I h;refine wpAny_execs_cons (cG (h1 pins s σ H {D with nx:=u D} I h) fun f s1 q=>?_);cases f with
 |next=>
  obtain⟨σ',H',I',q⟩:=q;exact h2 pins s1 σ' H' D I' q
 |ret v=>exact q
 |brk=>exact q
 |cont=>exact q
theorem aK (h1:PS X st t):zG X [st] t:=by
 intro pins s σ H D I h;refine wpAny_execs_cons (cG (h1 pins s σ H D I h) fun f s1 q=>?_);cases f with
 |next=>exact wpAny_execs_nil q
 |ret v=>exact q
 |brk=>exact q
 |cont=>exact q
theorem Inv.quiet (I:Inv X pins σ H s):interactive X.env=false:=by simp[interactive,I.ok.kind]
def jV (te:TE):TS:=fun D σ H=>te σ H fun _ H1=>D.nx σ H1
theorem gP (he:PE X e te) (hs:swapsWith e none pos.line X.env=pure false:=by rfl):PS X (.Expr e pos) (jV te):=by
 intro pins s σ H D I h;exact wpAny_Expr_any (cG (he pins s σ H _ I h) fun v s1 ⟨x,H1,I1,r1,q1⟩=>⟨σ,H1,I1,q1⟩) I.quiet hs
def r6 (te:TE):TS:=fun D σ H=>te σ H D.rt
theorem bF (he:PE X e te):PS X (.Return (some e) pos) (r6 te):=by
 intro pins s σ H D I h;exact wpAny_Return_some (cG (he pins s σ H _ I h) fun v s1 ⟨x,H1,I1,r1,q1⟩=>⟨x,σ,H1,I1,r1,q1⟩)
def qF (c:TT) (t u:TS):TS:=fun D σ H=>c σ H fun b H1=>if b=true then t D σ H1 else u D σ H1
theorem fU {a b:List Stmt} (hc:PT X c tc) (ha:zG X a t) (hb:zG X b u):PS X (.If c a b pos) (qF tc t u):=by
 intro pins s σ H D I h;refine wpAny_If (cG (hc pins s σ H _ I h) fun d s1 ⟨H1,I1,q1⟩=>?_);cases d with
 |true=>exact ha pins s1 σ H1 D I1 q1
 |false=>exact hb pins s1 σ H1 D I1 q1
end
abbrev TG:=V->St->Hp->(St->Hp->Prop)->Prop
abbrev KY:=List V->St->Hp->(St->Hp->Prop)->Prop
def PG (X:Cx) (target:Expr) (t:TG):Prop:=
 ∀(pins:List (Addr×Obj)) (s:Shared) (σ:St) (H:Hp) (v:V) (u:Value) (Q:St->Hp->Prop),Inv X pins σ H s->RelV v u->t v σ H Q->
  wpAny (model X.prog X.w) X.A (assign target X.env u) (fun _ s'=>∃σ' H',Inv X pins σ' H' s'/\Q σ' H') X.xe s
def O6 (X:Cx) (ts:List Expr) (t:KY):Prop:=
 ∀(pins:List (Addr×Obj)) (s:Shared) (σ:St) (H:Hp) (vs:List V) (us:List Value) (Q:St->Hp->Prop),Inv X pins σ H s->Vals vs us->t vs σ H Q->
  wpAny (model X.prog X.w) X.A (assignInOrder ((assignEach ts X.env).map (·.2)) us) (fun _ s'=>∃σ' H',Inv X pins σ' H' s'/\Q σ' H') X.xe s
abbrev M3:=V->V->V->Hp->(Hp->Prop)->Prop
def PH (X:Cx) (t:M3):Prop:=
 ∀(pins:List (Addr×Obj)) (s:Shared) (σ:St) (H:Hp) (o i v:V) (ov iv u:Value) (Q:Hp->Prop),Inv X pins σ H s->RelV o ov->RelV i iv->RelV v u->t o i v H Q->
  wpAny (model X.prog X.w) X.A (setItem ov iv u) (fun _ s'=>∃H',Inv X pins σ H' s'/\Q H') X.xe s
section
variable {X:Cx} {pos:Pos}
def fP (i:Nat):TG:=fun v σ H Q=>Q (σ.set i (some v)) H
theorem aO (hN:X.N.Nodup) (hi:X.N[i]? =some x) (hx:Loc X.env.scope x) (hf:X.fn x=true\/ X.env.scope.names.lookup x=some .local:=by first|exact .inl rfl|exact .inr rfl|assumption):PG X (.Name x pos) (fP i):=by
 intro pins s σ H v u Q I r h;exact wpAny_assign_Name (jL I hN hi hx r (fun s' I'=>⟨_,H,I',h⟩) hf)
def rO:KY:=fun vs σ H Q=>vs=[]/\Q σ H
def kZ (t:TG) (u:KY):KY:=fun vs σ H Q=>∃v r,vs=v::r/\t v σ H fun σ' H'=>u r σ' H' Q
theorem eW:O6 X [] rO:=by
 intro pins s σ H vs us Q I r h;obtain⟨e,h⟩:=h;subst e;cases r;exact assignInOrder_nil ⟨σ,H,I,h⟩
theorem aY {t:TG} {u:KY} (h1:PG X e t) (h2:O6 X es u)
  (hs:(assignEach (e::es) X.env).map (·.2)=assign e X.env::(assignEach es X.env).map (·.2):=by rfl):O6 X (e::es) (kZ t u):=by
 intro pins s σ H vs us Q I r h;obtain⟨v,vr,e1,h⟩:=h;subst e1;cases r with
 |cons r rr=>
  rw[hs];refine assignInOrder_cons (cG (h1 pins s σ H _ _ _ I r h) fun _ s1 ⟨σ1,H1,I1,q1⟩=>?_);exact h2 pins s1 σ1 H1 _ _ Q I1 rr q1
def qN (K:Frag) (n:Nat) (t:KY):TG:=fun v σ H Q=>∃a xs,v= .ref a/\bO K H a xs/\xs.length=n/\t xs σ H Q
theorem M9 {t:KY} (hc:X.calm=true) (h:O6 X es t)
  (hn:(assignEach es X.env).length=n:=by rfl) (hst:(assignEach es X.env).findIdx? (·.1)=none:=by rfl):PG X (.Tuple es k pos) (qN X.K n t):=by
 intro pins s σ H v u Q I r hw;obtain⟨a,xs,e1,hq,hl,hw⟩:=hw;subst e1;cases r;obtain⟨its,rv,ht,hz⟩:=I.tuple hq;refine assign_Tuple_tuple (I.ok.hd hc) ht (by simp[hn,<-hl,rv.length]) hst fun h' hx=>?_
 have I1:Inv X pins σ H {s with heap:=h'}:=I.kept (t':=s.toks) fun b o e=>hx b o (ne_of_lt (lt_size e)) e
 exact h pins _ σ H xs _ Q I1 (by simpa using rv) hw
def rL (to ti:TE) (t:M3):TG:=fun v σ H Q=>to σ H fun o H1=>ti σ H1 fun i H2=>t o i v H2 fun H3=>Q σ H3
theorem HE {o i:Expr} {to ti:TE} {t:M3} (ho:PE X o to) (hi:PE X i ti) (hs:PH X t)
  (ha:∀v,assign (.Subscript o i pos) X.env v=(do
   let ov<-holding [v] (eval o X.env)
   let iv<-holding [v,ov] (eval i X.env)
   standAt pos
   holding [v,ov,iv] (setItem ov iv v)
   release [v,ov,iv] []):=by intro _;rfl):PG X (.Subscript o i pos) (rL to ti t):=by
 intro pins s σ H v u Q I r h;rw[ha];refine wpAny_bind (wpAny_holding (cG (ho pins s σ H _ I h) fun ov s1 ⟨x,H1,I1,r1,q1⟩=>?_));refine wpAny_bind (wpAny_holding (cG (hi pins s1 σ H1 _ I1 q1) fun iv s2 ⟨y,H2,I2,r2,q2⟩=>?_));refine wpAny_bind (wpAny_standAt (wpAny_bind (wpAny_holding (cG (hs pins s2 σ H2 x y v ov iv u _ I2 r1 r2 r q2) fun _ s3 ⟨H3,I3,q3⟩=>?_))));exact wpAny_release ⟨σ,H3,I3,q3⟩
def kL (te:TE) (g:TG):TS:=fun D σ H=>te σ H fun x H1=>g x σ H1 D.nx
theorem vD {g:TG} (he:PE X e te) (hg:PG X tg g) (hs:swapsWithSole [tg] e pos.line X.env=pure false:=by rfl) (hw:swappedStores [tg] e X.env=pure none:=by rfl)
  (h1:(assignEach [tg] X.env).map (·.2)=[assign tg X.env]:=by rfl):PS X (.Assign [tg] e pos) (kL te g):=by
 intro pins s σ H D I h;refine wpAny_Assign_stores (cG (he pins s σ H _ I h) fun v s1 ⟨x,H1,I1,r1,q1⟩=>?_) hs hw;rw[h1];exact cG (hg pins s1 σ H1 x v _ I1 r1 q1) fun _ s2 q=>q
theorem aQ {pos':Pos} (hN:X.N.Nodup) (hi:X.N[i]? =some x) (hx:Loc X.env.scope x) (he:PE X e te) (hs:swapsWith e (some (.Name x pos')) pos.line X.env=pure false:=by rfl) (hf:X.fn x=true\/ X.env.scope.names.lookup x=some .local:=by first|exact .inl rfl|exact .inr rfl|assumption):
  PS X (.Assign [.Name x pos'] e pos) (kL te (fP i)):=by
 intro pins s σ H D I h;refine wpAny_Assign_Name (cG (he pins s σ H _ I h) fun v s1 ⟨y,H1,I1,r1,q1⟩=>?_) hs;exact jL I1 hN hi hx r1 (fun s2 I2=>⟨_,H1,I2,q1⟩) hf
def rQ (i j:Nat) (ta:TA):TS:=fun D σ H=>ta σ H fun vs H1=>∃v w,vs=[v,w]/\D.nx ((σ.set i (some v)).set j (some w)) H1
theorem MK {y:Str} {a b:Expr} {px py pt:Pos} {kt k2 pt2} (hc:X.calm=true) (hN:X.N.Nodup) (hi:X.N[i]? =some x) (hj:X.N[j]? =some y) (hij:i≠j)
  (hx:X.env.scope.names.lookup x=some .local) (hy:X.env.scope.names.lookup y=some .local) (ha:PA X [a,b] ta)
  (hw:swappedStores [.Tuple [.Name x px,.Name y py] kt pt] (.Tuple [a,b] k2 pt2) X.env=pure (some [x,y]))
  (hs:swapsWithSole [.Tuple [.Name x px,.Name y py] kt pt] (.Tuple [a,b] k2 pt2) pos.line X.env=pure false:=by rfl):
  PS X (.Assign [.Tuple [.Name x px,.Name y py] kt pt] (.Tuple [a,b] k2 pt2) pos) (rQ i j ta):=by
 intro pins s σ H D I h;rw[exec_Assign_arm];refine wpAny_bind (wpAny_standAt ?_);rw[hs];refine wpAny_bind (wpAny_pure ?_);rw[if_neg (by decide)];refine wpAny_bind (Tuple_ (cG (ha _ pins s σ H _ I h) fun us s1 ⟨vs,H1,I1,r1,q1⟩=>?_));obtain⟨v,w,e1,q1⟩:=q1;subst e1;obtain⟨u1,u2,rfl,rv,nF⟩:∃u1 u2,us=[u1,u2]/\RelV v u1/\RelV w u2:=by
  cases r1 with
  | cons p q=>
   cases q with
   |cons p' q'=>
    cases q';exact⟨_,_,rfl,p,p'⟩
 refine wpAny_newObj_type ?_ (by show 2<=sizeLine;decide);have I2:Inv X pins σ H1 {s1 with heap:=s1.heap.push {cls:=.type "tuple",data:=.seq [u1,u2].toArray}}:=I1.kept (t':=s1.toks) fun b o e=>get?_push_of_some _ e
 rw[hw];refine wpAny_bind (wpAny_pure ?_);show wpAny (model X.prog X.w) X.A (do rule "assign.swapped-stores";let items<-unpackItems (.ref s1.heap.objs.size) 2 none;assignInOrder [fun v=>bindName X.env y v,fun v=>bindName X.env x v] items.reverse;pure Flow.next) _ _ _;refine wpAny_bind (wpAny_rule (wpAny_bind (unpackItems_tuple (items:= #[u1,u2]) (I.ok.hd hc) (IsTup.new s1.heap _) fun h' hx'=>?_)));have I3:=I2.kept (h':=h') (t':=s1.toks) fun b o e=>hx' b o (ne_of_lt (lt_size e)) e
 show wpAny _ _ (assignInOrder [fun v=>bindName X.env y v,fun v=>bindName X.env x v] [u2,u1]>>=fun _=>pure Flow.next) _ _ _;refine wpAny_bind (assignInOrder_cons (wpAny_bindName (jL I3 hN hj (.inl hy) nF (fun s2 I4=>?_) (.inr hy))));refine assignInOrder_cons (wpAny_bindName (jL I4 hN hi (.inl hx) rv (fun s3 I5=>assignInOrder_nil (wpAny_pure ?_)) (.inr hx)));rw[List.set_comm _ _ (Ne.symm hij)]at I5;exact⟨_,H1,I5,q1⟩
end
section
variable {X:Cx} {pos:Pos}
def zK (c:TT) (tb:TS):TS:=fun D σ H=>∃W:Nat->St->Hp->Prop,(∃m,W m σ H)/\∀m σ H,W m σ H->
 c σ H fun b H1=>if b=true then∃N:St->Hp->Prop,(∀σ' H',N σ' H'->∃m',m'<m/\W m' σ' H')/\tb {D with nx:=N,ct:=N,bk:=D.nx} σ H1 else D.nx σ H1
theorem qX (hp:PassesOwn (model X.prog X.w) X.A X.env X.xe) (hc:PT X c tc) (hb:zG X body tb):PS X (.While c body [] pos) (zK tc tb):=by
 intro pins s σ H D I h;obtain⟨W,⟨m0,w0⟩,turn⟩:=h;refine wpAny_While (codeAny_whileLoop (fun n s'=>∃σ' H',Inv X pins σ' H' s'/\W n σ' H') ?_ m0 ⟨σ,H,I,w0⟩);rintro n s1 ⟨σ1,H1,I1,w1⟩;refine wpAny_passesOwn hp (cG (hc pins s1 σ1 H1 _ I1 (turn n σ1 H1 w1)) fun b s2 ⟨H2,I2,q2⟩=>?_);cases b with
 | true=>
  obtain⟨N,hN,q2⟩:=q2;rw[if_pos rfl];refine wpAny_passesOwn hp (cG (hb pins s2 σ1 H2 _ I2 q2) fun f s3 q3=>?_);cases f with
  |next=>
   obtain⟨σ3,H3,I3,n3⟩:=q3;obtain⟨m',hm,w3⟩:=hN σ3 H3 n3;exact⟨m',hm,σ3,H3,I3,w3⟩
  |cont=>
   obtain⟨σ3,H3,I3,n3⟩:=q3;obtain⟨m',hm,w3⟩:=hN σ3 H3 n3;exact⟨m',hm,σ3,H3,I3,w3⟩
  |brk=>exact q3
  |ret v=>exact q3
 |false=>
  rw[if_neg Bool.false_ne_true];exact wpAny_execs_nil ⟨σ1,H2,I2,q2⟩
end
structure It where
 go:Nat->Hp->Prop
 yR:Nat->Hp->V->Hp->Prop
 stop:Nat->Hp->Prop
def mG (X:Cx) (pins:List (Addr×Obj)) (H:Hp) (b:Addr):Prop:=
 H b=none/\b≠X.env.locals/\b∉X.fs/\(b∈X.ex\/ X.gE.heap.objs.size<=b)/\(∀x c,X.env.cells.lookup x=some c->c≠b)/\∀p∈X.pn++pins,p.1≠b
theorem Inv.uR {H':Hp} (I:Inv X pins σ H s) (hb:s.heap.objs.size<=b) (hn:H' b=none):mG X pins H' b:=by
 refine⟨hn,ne_of_gt (lt_of_lt_of_le I.lt hb),I.P7 hb,.inr (le_trans I.sz hb),fun x c e z=>?_,fun p hp z=>?_⟩
 .obtain⟨v,q⟩:=I.cell x c e;exact absurd (lt_of_lt_of_le q.lt (by rw[z];exact hb)) (Nat.lt_irrefl _)
 .exact absurd (lt_of_lt_of_le (lt_size (I.pin p hp).1) (by rw[z];exact hb)) (Nat.lt_irrefl _)
structure Turn (P:Program) (w:World) (K:Frag) (tg:Expr) (J:It) (fp:List Addr) (it:Addr) (tn:Nat->Heap->Prop):Prop where
 mem:it∈fp
 obj:∀i h,tn i h->∀b∈fp,∃o,h.get? b=some o/\∀v,o.data≠ .cell v
 keep:∀i h h',tn i h->(∀b∈fp,∀o,h.get? b=some o->h'.get? b=some o)->tn i h'
 item:∀(X:Cx),X.prog=P->X.w=w->X.K=K->X.calm=true->∀(i:Nat) (pins:List (Addr×Obj)) (s:Shared) (σ:St) (H:Hp) (E:Value->Shared->Prop),Inv X pins σ H s->(∀b∈fp,mG X pins H b)->tn i s.heap->J.go i H->
  wpAny (model P w) X.A (pyNext (.ref it)) (fun r s1=>∃u,r=some u/\
   wpAny (model P w) X.A (letOwnedTupleGo tg (.ref it) u) (fun _ s2=>∃x H',Inv X pins σ H' s2/\RelV x u/\J.yR i H x H'/\tn (i+1) s2.heap/\∀b∈fp,H' b=none) E s1) E s
 done:∀(X:Cx),X.prog=P->X.w=w->X.K=K->X.calm=true->∀(i:Nat) (pins:List (Addr×Obj)) (s:Shared) (σ:St) (H:Hp) (E:Value->Shared->Prop),Inv X pins σ H s->(∀b∈fp,mG X pins H b)->tn i s.heap->J.stop i H->
  wpAny (model P w) X.A (pyNext (.ref it)) (fun r s1=>r=none/\Inv X pins σ H s1) E s
 self:∀(A:Around) (i:Nat) (s:Shared) (Q:Value->Shared->Prop) (E:Value->Shared->Prop),tn i s.heap->Q (.ref it) s->wpAny (model P w) A (pyIter (.ref it)) Q E s
abbrev TI:=St->Hp->(It->Hp->Prop)->Prop
def RV (X:Cx) (pins:List (Addr×Obj)) (σ:St) (tg:Expr) (R:It->Hp->Prop) (itv:Value) (s2:Shared):Prop:=
 ∃(it:Addr) (fp:List Addr) (tn:Nat->Heap->Prop) (J:It) (H':Hp),itv= .ref it/\Inv X pins σ H' s2/\Turn X.prog X.w X.K tg J fp it tn/\tn 0 s2.heap/\(∀b∈fp,mG X pins H' b)/\R J H'
def PI (X:Cx) (tg iter:Expr) (wi:TI):Prop:=
 ∀(pins:List (Addr×Obj)) (s:Shared) (σ:St) (H:Hp) (R:It->Hp->Prop),Inv X pins σ H s->wi σ H R->
  wpAny (model X.prog X.w) X.A (eval iter X.env) (fun v s1=>wpAny (model X.prog X.w) X.A (pyIter v) (RV X pins σ tg R) X.xe s1) X.xe s
theorem BH {tg:Expr} {u:Value} {n:String} {vs:Array Value} {Q:Unit->Shared->Prop} (ho:s.heap.get? it=some o) (hc:o.cls= .type n) (hd:o.data= .fields vs)
    (hn:["enumerate","zip","dict_itemiterator","dict_reverseitemiterator","odict_iterator","itertools.zip_longest","itertools.pairwise"].contains n=false) (hQ:Q () s):wpAny M A (letOwnedTupleGo tg (.ref it) u) Q E s:=by
  unfold letOwnedTupleGo;cases tg<;>first
    |exact wpAny_pure hQ
    |(cases u<;>first
        |exact wpAny_pure hQ
        | (refine wpAny_bind (wpAny_load ho ?_)
           rw[hc,hd];show wpAny M A (if(["enumerate","zip","dict_itemiterator","dict_reverseitemiterator","odict_iterator","itertools.zip_longest","itertools.pairwise"].contains n && vs[0]? ==some (rawInt _))=true then _ else _) Q E s;rw[if_neg (by intro h;rw[hn,Bool.false_and]at h;cases h)];exact wpAny_pure hQ))
noncomputable def LC (K:Frag) (a:Addr):It:=
 ⟨fun i H=>∃xs x,bM K H a xs/\xs[i]? =some x,fun i H x H'=>H'=H/\∀xs,bM K H a xs->xs[i]? =some x,fun i H=>∃xs,bM K H a xs/\xs.length<=i⟩
noncomputable def J0 (K:Frag) (a:Addr):It:=
 ⟨fun i H=>∃xs x,bO K H a xs/\xs[i]? =some x,fun i H x H'=>H'=H/\∀xs,bO K H a xs->xs[i]? =some x,fun i H=>∃xs,bO K H a xs/\xs.length<=i⟩
noncomputable def JD (lo:Int) (n:Nat):It:=⟨fun i _=>i<n,fun i H x H'=>H'=H/\x= .int (lo+i),fun i _=>n<=i⟩
theorem C8 {P:Program} (a it:Addr):Turn P w K tg (LC K a) [it] it (fun i h=>h.IsListIter it a i)where
 mem:=by simp
 obj:=fun i h st b hb=>by
  have e:b=it:=by simpa using hb
  subst e;obtain⟨o,e,c,d⟩:=st;exact⟨o,e,fun v z=>by rw[d]at z;cases z⟩
 keep:=fun i h h' st k=>st.at fun o e=>k it (by simp) o e
 item:=by
  intro X hP hw hK hc i pins s σ H E I hf st hg;subst hP hw hK;obtain⟨xs,x,hq,hx⟩:=hg;obtain⟨its,rv,p,hz⟩:=I.list hq;obtain⟨u,hu,ru⟩:=rv.get hx;obtain⟨f0,f1,f2,f3,f4,f5⟩:=hf it (by simp);refine wpAny_pyNext_list_item st p.isList (x:=u) (by simpa using hu) fun h' st' sb=>?_
  have I1:Inv X pins σ H {s with heap:=h'}:=I.turned (t':=s.toks) (fun b o hb e=>(sb.2 b hb).trans e) f0 f1 f3 f4 f5;obtain⟨o,e,c,d⟩:=id st';exact⟨u,rfl,BH (s:={s with heap:=h'}) e c d (by decide) ⟨x,H,I1,ru,⟨rfl,fun ys hy=>by rw[I.wG hy hq];exact hx⟩,st',fun b hb=>(hf b hb).1⟩⟩
 done:=by
  intro X hP hw hK hc i pins s σ H E I hf st hg;subst hP hw hK;obtain⟨xs,hq,hx⟩:=hg;obtain⟨its,rv,p,hz⟩:=I.list hq;obtain⟨f0,f1,f2,f3,f4,f5⟩:=hf it (by simp);have hl:=rv.length;exact wpAny_pyNext_list_end (I.ok.hd hc) st p.isList (by simp;omega) fun h' eb=>⟨rfl,I.turned (t':=s.toks) (fun b o hb e=>eb b o hb e) f0 f1 f3 f4 f5⟩
 self:=fun _ _ _ _ _ st h=>wpAny_pyIter_listiter st h
theorem z8 {P:Program} (a it:Addr):Turn P w K tg (J0 K a) [it] it (fun i h=>h.IsTupleIter it a i)where
 mem:=by simp
 obj:=fun i h st b hb=>by
  have e:b=it:=by simpa using hb
  subst e;obtain⟨o,e,c,d⟩:=st;exact⟨o,e,fun v z=>by rw[d]at z;cases z⟩
 keep:=fun i h h' st k=>st.at fun o e=>k it (by simp) o e
 item:=by
  intro X hP hw hK hc i pins s σ H E I hf st hg;subst hP hw hK;obtain⟨xs,x,hq,hx⟩:=hg;obtain⟨its,rv,p,hz⟩:=I.tuple hq;obtain⟨u,hu,ru⟩:=rv.get hx;obtain⟨f0,f1,f2,f3,f4,f5⟩:=hf it (by simp);refine wpAny_pyNext_tuple_item st (show s.heap.IsTuple a its.toArray from p) (x:=u) (by simpa using hu) fun h' st' sb=>?_
  have I1:Inv X pins σ H {s with heap:=h'}:=I.turned (t':=s.toks) (fun b o hb e=>(sb.2 b hb).trans e) f0 f1 f3 f4 f5;obtain⟨o,e,c,d⟩:=id st';exact⟨u,rfl,BH (s:={s with heap:=h'}) e c d (by decide) ⟨x,H,I1,ru,⟨rfl,fun ys hy=>by rw[I.tQ hy hq];exact hx⟩,st',fun b hb=>(hf b hb).1⟩⟩
 done:=by
  intro X hP hw hK hc i pins s σ H E I hf st hg;subst hP hw hK;obtain⟨xs,hq,hx⟩:=hg;obtain⟨its,rv,p,hz⟩:=I.tuple hq;obtain⟨f0,f1,f2,f3,f4,f5⟩:=hf it (by simp);have hl:=rv.length;exact wpAny_pyNext_tuple_end (I.ok.hd hc) st (show s.heap.IsTuple a its.toArray from p) (by simp;omega) fun h' eb=>⟨rfl,I.turned (t':=s.toks) (fun b o hb e=>eb b o hb e) f0 f1 f3 f4 f5⟩
 self:=fun _ _ _ _ _ st h=>wpAny_pyIter_tupleiter st h
theorem zC {P:Program} (it:Addr) (lo:Int) (n:Nat):Turn P w K tg (JD lo n) [it] it (fun i h=>IsRangeIter h it (lo+(i:Nat)*1) ((n:Int) - (i:Nat)) 1)where
 mem:=by simp
 obj:=fun i h st b hb=>by
  have e:b=it:=by simpa using hb
  subst e;exact⟨_,st,fun v z=>by
   have z':Data.fields _=Data.cell v:=z;cases z'⟩
 keep:=fun i h h' st k=>k it (by simp) _ st
 item:=by
  intro X hP hw hK hc i pins s σ H E I hf st hg;subst hP hw hK;obtain⟨f0,f1,f2,f3,f4,f5⟩:=hf it (by simp);have W:=Walks.range (prog:=X.prog) (w:=X.w) (I.ok.hd hc) it lo 1 n;refine W.item i s _ _ hg st fun v h' tk hv st' kk=>?_
  obtain⟨t,rfl⟩:=hv;have I1:Inv X pins σ H {s with heap:=h',toks:=tk}:=I.turned (fun b o hb e=>kk b o (by simpa using hb) e) f0 f1 f3 f4 f5;refine⟨_,rfl,BH (s:={s with heap:=h',toks:=tk}) (n:="range_iterator") st' rfl rfl (by decide) ⟨.int (lo+i),H,I1,⟨t,?_⟩,⟨rfl,rfl⟩,st',fun b hb=>(hf b hb).1⟩⟩;rw[Int.mul_one]
 done:=by
  intro X hP hw hK hc i pins s σ H E I hf st hg;subst hP hw hK;obtain⟨f0,f1,f2,f3,f4,f5⟩:=hf it (by simp);exact wpAny_pyNext_range_end (I.ok.hd hc) st (by have:n<=i:=hg;omega) fun h' eb=>⟨rfl,I.turned (t':=s.toks) (fun b o hb e=>eb b o hb e) f0 f1 f3 f4 f5⟩
 self:=fun _ _ _ _ _ st h=>wpAny_pyIter_rangeiter st h
section
variable {X:Cx} {tg:Expr}
def K3 (K:Frag) (tl:TE):TI:=fun σ H R=>tl σ H fun x H1=>∃a,x= .ref a/\(∃xs,bM K H1 a xs)/\R (LC K a) H1
def N5 (K:Frag) (tl:TE):TI:=fun σ H R=>tl σ H fun x H1=>∃a,x= .ref a/\(∃xs,bO K H1 a xs)/\R (J0 K a) H1
theorem KJ (hl:PE X l tl):PI X tg l (K3 X.K tl):=by
 intro pins s σ H R I h;refine cG (hl pins s σ H _ I h) fun v s1 ⟨x,H1,I1,r1,q1⟩=>?_
 obtain⟨a,e,⟨xs,hq⟩,q⟩:=q1;subst e;cases r1;obtain⟨its,rv,p,hz⟩:=I1.list hq;refine wpAny_pyIter_list p.isList ?_;refine⟨s1.heap.objs.size,[s1.heap.objs.size],_,_,H1,rfl,I1.kept (t':=s1.toks) fun b o e=>get?_push_of_some _ e,C8 a _,⟨_,get?_push_size _ rfl,rfl,rfl⟩,fun b hb=>?_,q⟩;have e:b=s1.heap.objs.size:=by simpa using hb
 subst e;exact I1.uR (le_refl _) (I1.aW.fresh (le_refl _))
theorem NS (hl:PE X l tl):PI X tg l (N5 X.K tl):=by
 intro pins s σ H R I h;refine cG (hl pins s σ H _ I h) fun v s1 ⟨x,H1,I1,r1,q1⟩=>?_
 obtain⟨a,e,⟨xs,hq⟩,q⟩:=q1;subst e;cases r1;obtain⟨its,rv,p,hz⟩:=I1.tuple hq;refine wpAny_pyIter_tuple (show s1.heap.IsTuple a its.toArray from p) ?_;refine⟨s1.heap.objs.size,[s1.heap.objs.size],_,_,H1,rfl,I1.kept (t':=s1.toks) fun b o e=>get?_push_of_some _ e,z8 a _,⟨_,get?_push_size _ rfl,rfl,rfl⟩,fun b hb=>?_,q⟩;have e:b=s1.heap.objs.size:=by simpa using hb
 subst e;exact I1.uR (le_refl _) (I1.aW.fresh (le_refl _))
theorem HG {R:It->Hp->Prop} {hi:Int} {t u v:Tok} {tk:Nat} (I:Inv X pins σ H s) (h1: -(2^62)<=lo) (h2:lo<2^62) (h3: -(2^62)<=hi) (h4:hi<2^62)
  (q:R (JD lo (hi - lo).toNat) H):wpAny (model X.prog X.w) X.A (pyIter (.ref s.heap.objs.size)) (RV X pins σ tg R) E {s with heap:=s.heap.push {cls:=.type "range",data:=.fields #[.int lo t,.int hi u,.int 1 v]},toks:=tk}:=by
 refine wpAny_pyIter_range (IsRange.new ..) (small_one h1 h2 h3 h4) ?_;have I1:Inv X pins σ H {s with heap:=s.heap.push {cls:=.type "range",data:=.fields #[.int lo t,.int hi u,.int 1 v]},toks:=tk}:=I.kept fun b o e=>get?_push_of_some _ e
 refine⟨(s.heap.push {cls:=.type "range",data:=.fields #[.int lo t,.int hi u,.int 1 v]}).objs.size,[(s.heap.push {cls:=.type "range",data:=.fields #[.int lo t,.int hi u,.int 1 v]}).objs.size],_,_,H,rfl,
  I1.kept (t':=tk) fun b o e=>get?_push_of_some _ e,zC _ lo (hi - lo).toNat,?_,fun b hb=>?_,q⟩
 .have e1:lo+((0:Nat):Int)*1=lo:=by simp
  have e2:(((hi - lo).toNat:Nat):Int) - ((0:Nat):Int)=Builtin.Range.rangeSize lo hi 1:=by rw[rangeSize_one];split<;>omega
  show IsRangeIter _ _ (lo+((0:Nat):Int)*1) ((((hi - lo).toNat:Nat):Int) - ((0:Nat):Int)) 1;rw[e1,e2];exact get?_push_size _ rfl
 .have e:b=(s.heap.push {cls:=.type "range",data:=.fields #[.int lo t,.int hi u,.int 1 v]}).objs.size:=by simpa using hb
  subst e;exact I1.uR (le_refl _) (I1.aW.fresh (le_refl _))
def K4 (ta:TA):TI:=fun σ H R=>ta σ H fun vs H1=>∃j:Int,vs=[.int j]/\ -(2^62)<=j/\j<2^62/\R (JD 0 j.toNat) H1
theorem gB {a:Expr} {p:Pos} (hg:Gl X "range") (hm:X.mg "range"=none) (ha:PA X [a] ta) (hs:starEach [a] X.env=[(false,eval a X.env)]:=by rfl):PI X tg (.Call (.Name "range" p) [a] [] pos) (K4 ta):=by
 intro pins s σ H R I h;refine Call_ (vN I hg hm boot_range (PyProof.Rows.callWith_type1 (cG (ha pos pins s σ H _ I h) fun us s1 ⟨vs,H1,I1,r1,q1⟩=>?_) hs rfl));obtain⟨j,e,q1,q2,q⟩:=q1;subst e;cases r1 with
 |cons r rr=>
  cases rr;obtain⟨t,rfl⟩:=r;exact call_range_1 (HG I1 (by omega) (by omega) q1 q2 (by simpa using q))
def PL (wi:TI) (g:TG) (tb:TS):TS:=fun D σ H=>wi σ H fun J H1=>∃W:Nat->Nat->St->Hp->Prop,(∃m,W 0 m σ H1)/\∀i m σ H,W i m σ H->
 (J.stop i H/\D.nx σ H)\/ (J.go i H/\∃N:St->Hp->Prop,(∀σ' H',N σ' H'->∃m',m'<m/\W (i+1) m' σ' H')/\∀x H',J.yR i H x H'->g x σ H' fun σ2 H2=>tb {D with nx:=N,ct:=N,bk:=D.nx} σ2 H2)
noncomputable def lM (fp:List Addr) (h:Heap):List (Addr×Obj):=fp.filterMap fun b=>(h.get? b).map fun o=>(b,o)
theorem d7 (hb:b∈fp) (e:h.get? b=some o):(b,o)∈lM fp h:=mem_filterMap.mpr ⟨b,hb,by rw[e];rfl⟩
theorem DI {h:Heap} {p:Addr×Obj} (hp:p∈lM fp h):p.1∈fp/\h.get? p.1=some p.2:=by
 obtain⟨b,hb,e⟩:=mem_filterMap.mp hp;cases q:h.get? b with
 |none=>rw[q]at e;cases e
 |some o=>
  rw[q]at e;have e':(b,o)=p:=Option.some.inj e;subst e';exact⟨hb,q⟩
theorem Inv.pinned (I:Inv X pins σ H s) (hf:∀b∈fp,mG X pins H b) (ho:∀b∈fp,∃o,s.heap.get? b=some o/\∀v,o.data≠ .cell v):Inv X (pins++lM fp s.heap) σ H s:=
 I.pL fun p hp=>(mem_append.mp hp).elim (fun z=>I.pin p (mem_append_right _ z)) fun z=>by
  obtain⟨hb,e⟩:=DI z;obtain⟨f0,f1,f2,_⟩:=hf p.1 hb;obtain⟨o,e',d⟩:=ho p.1 hb;rw[e]at e';cases e'
  exact⟨e,f0,f1,f2,d⟩
theorem Inv.iK {pl:List (Addr×Obj)} (I:Inv X (pins++pl) σ H s):Inv X pins σ H s:=I.pL fun p hp=>I.pin p (mem_append_right _ (mem_append_left _ hp))
theorem dB {iter:Expr} {wi:TI} {g:TG} (hp:PassesOwn (model X.prog X.w) X.A X.env X.xe) (hc:X.calm=true) (hi:PI X tg iter wi) (hg:PG X tg g) (hb:zG X body tb)
  (hs:∀x,foldedSetIterable iter X.env x=pure x:=by intro _;rfl):PS X (.For tg iter body [] pos) (PL wi g tb):=by
 intro pins s σ H D I h;refine wpAny_For (cG (hi pins s σ H _ I h) fun v s1 h1=>cG h1 fun itv s2 h2=>?_) hs;obtain⟨it,fp,tn,J,H2,e,I2,T,st2,f2,W,⟨m0,w0⟩,turn⟩:=h2;subst e;have stat:∀{H':Hp},(∀b∈fp,H' b=none)->∀b∈fp,mG X pins H' b:=fun hn b hb=>⟨hn b hb,(f2 b hb).2⟩
 refine codeAny_forLoop_any (fun n s'=>∃i σ' H',Inv X pins σ' H' s'/\tn i s'.heap/\(∀b∈fp,H' b=none)/\W i n σ' H') ?_ m0 ⟨0,σ,H2,I2,st2,fun b hb=>(f2 b hb).1,w0⟩;rintro n s3 ⟨i,σ3,H3,I3,st3,fr3,w3⟩;rcases turn i n σ3 H3 w3 with⟨stop,qn⟩|⟨go,N,hN,step⟩
 .refine wpAny_passesOwn hp (cG (T.done X rfl rfl rfl hc i pins s3 σ3 H3 X.xe I3 (stat fr3) st3 stop) fun r s4 ⟨hr,I4⟩=>?_);subst hr;exact wpAny_execs_nil ⟨σ3,H3,I4,qn⟩
 .refine wpAny_passesOwn hp (cG (T.item X rfl rfl rfl hc i pins s3 σ3 H3 X.xe I3 (stat fr3) st3 go) fun r s4 ⟨u,hr,h4⟩=>?_);subst hr;refine wpAny_passesOwn hp (cG h4 fun _ s5 ⟨x,H5,I5,r5,y5,st5,fr5⟩=>?_);have I5':=I5.pinned (stat fr5) (T.obj _ _ st5);refine wpAny_passesOwn hp (cG (hg _ s5 σ3 H5 x u _ I5' r5 (step x H5 y5)) fun _ s6 ⟨σ6,H6,I6,q6⟩=>?_);refine wpAny_passesOwn hp (cG (hb _ s6 σ6 H6 _ I6 q6) fun f s7 q7=>?_);have again:∀{σ7:St} {H7:Hp},Inv X (pins++lM fp s5.heap) σ7 H7 s7->N σ7 H7->∃m,m<n/\∃i σ' H',Inv X pins σ' H' s7/\tn i s7.heap/\(∀b∈fp,H' b=none)/\W i m σ' H':=fun{σ7 H7} I7 n7=>by
   obtain⟨m',hm,w7⟩:=hN σ7 H7 n7;refine⟨m',hm,i+1,σ7,H7,I7.iK,T.keep _ _ _ st5 fun b hb o e=>(I7.pin (b,o) (mem_append_right _ (mem_append_right _ (d7 hb e)))).1,fun b hb=>?_,w7⟩;obtain⟨o,e,d⟩:=T.obj _ _ st5 b hb;exact(I7.pin (b,o) (mem_append_right _ (mem_append_right _ (d7 hb e)))).2.1
  cases f with
  |next=>obtain⟨σ7,H7,I7,n7⟩:=q7;exact again I7 n7
  |cont=>obtain⟨σ7,H7,I7,n7⟩:=q7;exact again I7 n7
  |brk=>obtain⟨σ7,H7,I7,q7⟩:=q7;exact⟨σ7,H7,I7.iK,q7⟩
  |ret v=>obtain⟨x7,σ7,H7,I7,r7,q7⟩:=q7;exact⟨x7,σ7,H7,I7.iK,r7,q7⟩
end
theorem yC {g:TG} {σ:St} {H:Hp} (Pv:Nat->St->Hp->Prop) (h0:Pv 0 σ H) (hl:∀i σ H,i<=xs.length->Pv i σ H->bM K H a xs)
  (hs:∀i x σ H,xs[i]? =some x->Pv i σ H->g x σ H fun σ2 H2=>tb {D with nx:=Pv (i+1),ct:=Pv (i+1),bk:=D.nx} σ2 H2) (hd:∀σ H,Pv xs.length σ H->D.nx σ H):
  ∃W:Nat->Nat->St->Hp->Prop,(∃m,W 0 m σ H)/\∀i m σ H,W i m σ H->
   ((LC K a).stop i H/\D.nx σ H)\/ ((LC K a).go i H/\∃N:St->Hp->Prop,(∀σ' H',N σ' H'->∃m',m'<m/\W (i+1) m' σ' H')/\∀x H',(LC K a).yR i H x H'->g x σ H' fun σ2 H2=>tb {D with nx:=N,ct:=N,bk:=D.nx} σ2 H2):=by
 refine⟨fun i m σ H=>m=xs.length - i/\i<=xs.length/\Pv i σ H,⟨xs.length,by simp,zero_le _,h0⟩,?_⟩;rintro i m σ H ⟨rfl,hi,p⟩;have q:=hl i σ H hi p
 by_cases hlt:i<xs.length
 .refine .inr ⟨⟨xs,xs[i],q,by simp[hlt]⟩,Pv (i+1),fun σ' H' p'=>⟨xs.length - (i+1),by omega,rfl,hlt,p'⟩,fun x H' y=>?_⟩;obtain⟨e,y⟩:=y;subst e;exact hs i x σ _ (y xs q) p
 .have e:i=xs.length:=by omega
  subst e;exact .inl ⟨⟨xs,q,le_refl _⟩,hd σ H p⟩
theorem gW {g:TG} {σ:St} {H:Hp} (Pv:Nat->St->Hp->Prop) (h0:Pv 0 σ H) (hl:∀i σ H,i<=xs.length->Pv i σ H->bO K H a xs)
  (hs:∀i x σ H,xs[i]? =some x->Pv i σ H->g x σ H fun σ2 H2=>tb {D with nx:=Pv (i+1),ct:=Pv (i+1),bk:=D.nx} σ2 H2) (hd:∀σ H,Pv xs.length σ H->D.nx σ H):
  ∃W:Nat->Nat->St->Hp->Prop,(∃m,W 0 m σ H)/\∀i m σ H,W i m σ H->
   ((J0 K a).stop i H/\D.nx σ H)\/ ((J0 K a).go i H/\∃N:St->Hp->Prop,(∀σ' H',N σ' H'->∃m',m'<m/\W (i+1) m' σ' H')/\∀x H',(J0 K a).yR i H x H'->g x σ H' fun σ2 H2=>tb {D with nx:=N,ct:=N,bk:=D.nx} σ2 H2):=by
 refine⟨fun i m σ H=>m=xs.length - i/\i<=xs.length/\Pv i σ H,⟨xs.length,by simp,zero_le _,h0⟩,?_⟩;rintro i m σ H ⟨rfl,hi,p⟩;have q:=hl i σ H hi p
 by_cases hlt:i<xs.length
 .refine .inr ⟨⟨xs,xs[i],q,by simp[hlt]⟩,Pv (i+1),fun σ' H' p'=>⟨xs.length - (i+1),by omega,rfl,hlt,p'⟩,fun x H' y=>?_⟩;obtain⟨e,y⟩:=y;subst e;exact hs i x σ _ (y xs q) p
 .have e:i=xs.length:=by omega
  subst e;exact .inl ⟨⟨xs,q,le_refl _⟩,hd σ H p⟩
theorem kG {g:TG} {σ:St} {H:Hp} (Pv:Nat->St->Hp->Prop) (h0:Pv 0 σ H)
  (hs:∀i σ H,i<n->Pv i σ H->g (.int (lo+i)) σ H fun σ2 H2=>tb {D with nx:=Pv (i+1),ct:=Pv (i+1),bk:=D.nx} σ2 H2) (hd:∀σ H,Pv n σ H->D.nx σ H):
  ∃W:Nat->Nat->St->Hp->Prop,(∃m,W 0 m σ H)/\∀i m σ H,W i m σ H->
   ((JD lo n).stop i H/\D.nx σ H)\/ ((JD lo n).go i H/\∃N:St->Hp->Prop,(∀σ' H',N σ' H'->∃m',m'<m/\W (i+1) m' σ' H')/\∀x H',(JD lo n).yR i H x H'->g x σ H' fun σ2 H2=>tb {D with nx:=N,ct:=N,bk:=D.nx} σ2 H2):=by
 refine⟨fun i m σ H=>m=n - i/\i<=n/\Pv i σ H,⟨n,by simp,zero_le _,h0⟩,?_⟩;rintro i m σ H ⟨rfl,hi,p⟩
 by_cases hlt:i<n
 .refine .inr ⟨hlt,Pv (i+1),fun σ' H' p'=>⟨n - (i+1),by omega,rfl,hlt,p'⟩,fun x H' y=>?_⟩;obtain⟨e,y⟩:=y;subst e y;exact hs i σ _ hlt p
 .have e:i=n:=by omega
  subst e;exact .inl ⟨le_refl _,hd σ H p⟩
theorem yB {c:TT} {σ:St} {H:Hp} (Pv:St->Hp->Prop) (μ:St->Hp->Nat) (h0:Pv σ H)
  (hs:∀σ H,Pv σ H->c σ H fun b H1=>if b=true then tb {D with nx:=fun σ' H'=>Pv σ' H'/\μ σ' H'<μ σ H,ct:=fun σ' H'=>Pv σ' H'/\μ σ' H'<μ σ H,bk:=D.nx} σ H1 else D.nx σ H1)
  (mono:∀σ H Q Q',(∀b H1,Q b H1->Q' b H1)->c σ H Q->c σ H Q'):zK c tb D σ H:=by
 refine⟨fun m σ H=>m=μ σ H/\Pv σ H,⟨_,rfl,h0⟩,?_⟩;rintro m σ H ⟨rfl,p⟩;refine mono σ H _ _ (fun b H1 q=>?_) (hs σ H p);cases b with
 |true=>exact⟨_,fun σ' H' ⟨p',l⟩=>⟨_,l,rfl,p'⟩,q⟩
 |false=>exact q
abbrev R2:=V->V->Hp->VK->Prop
def qR (X:Cx) (f:Value->Value->Sem Value) (r:R2):Prop:=
 ∀(pins:List (Addr×Obj)) (s:Shared) (σ:St) (H:Hp) (x y:V) (v u:Value) (Q:VK),Inv X pins σ H s->RelV x v->RelV y u->r x y H Q->
  wpAny (model X.prog X.w) X.A (f v u) (EP X pins σ Q) X.xe s
def QX (X:Cx) (f:Value->Sem Value) (r:V->Hp->VK->Prop):Prop:=
 ∀(pins:List (Addr×Obj)) (s:Shared) (σ:St) (H:Hp) (x:V) (v:Value) (Q:VK),Inv X pins σ H s->RelV x v->r x H Q->
  wpAny (model X.prog X.w) X.A (f v) (EP X pins σ Q) X.xe s
def eU (X:Cx) (f:Value) (r:List V->Hp->VK->Prop):Prop:=
 ∀(pins:List (Addr×Obj)) (s:Shared) (σ:St) (H:Hp) (xs:List V) (us:List Value) (Q:VK),Inv X pins σ H s->Vals xs us->r xs H Q->
  wpAny (model X.prog X.w) X.A (call f us) (EP X pins σ Q) X.xe s
def Q1 (X:Cx) (r:V->Hp->(Bool->Hp->Prop)->Prop):Prop:=
 ∀(pins:List (Addr×Obj)) (s:Shared) (σ:St) (H:Hp) (x:V) (v:Value) (Q:Bool->Hp->Prop),Inv X pins σ H s->RelV x v->r x H Q->
  wpAny (model X.prog X.w) X.A (truthy v) (TP X pins σ Q) X.xe s
def vY (r:R2) (ta tb:TE):TE:=fun σ H Q=>ta σ H fun x H1=>tb σ H1 fun y H2=>r x y H2 Q
def HN (r:V->Hp->VK->Prop) (ta:TE):TE:=fun σ H Q=>ta σ H fun x H1=>r x H1 Q
def rI (C:Int->Int->Prop) (g:Int->Int->V):R2:=fun x y H Q=>∃i j,x= .int i/\y= .int j/\C i j/\Q (g i j) H
def yN (g:Int->Int->V):R2:=fun x y H Q=>∃i j,x= .int i/\y= .int j/\Q (g i j) H
def rU (g:Int->V):V->Hp->VK->Prop:=fun x H Q=>∃i,x= .int i/\Q (g i) H
section
variable {X:Cx} {a b c:Expr} {ta tb tc:TE} {pos:Pos}
theorem MF (ha:PE X a ta) (hb:PE X b tb) {R:V->V->Hp->Prop} (I:Inv X pins σ H s)
  (h:ta σ H fun x H1=>tb σ H1 fun y H2=>R x y H2)
  (hf:∀v u s2 x y H2,Inv X pins σ H2 s2->RelV x v->RelV y u->R x y H2->wpAny (model X.prog X.w) X.A (f v u) Q X.xe s2):
  wpAny (model X.prog X.w) X.A (eval a X.env) (fun v s₁=>wpAny (model X.prog X.w) X.A (eval b X.env) (fun u s₂=>wpAny (model X.prog X.w) X.A (f v u) Q X.xe s₂) X.xe s₁) X.xe s:=by
 refine cG (ha pins s σ H _ I h) fun v s1 ⟨x,H1,I1,r1,q1⟩=>?_
 refine cG (hb pins s1 σ H1 _ I1 q1) fun u s2 ⟨y,H2,I2,r2,q2⟩=>?_
 exact hf v u s2 x y H2 I2 r1 r2 q2
theorem bR {op:Operator} (ho:qR X (binaryOp op) r) (ha:PE X a ta) (hb:PE X b tb):PE X (.BinOp a op b pos) (vY r ta tb):=by
 intro pins s σ H Q I h;exact wpAny_BinOp (MF ha hb I h fun v u s2 x y H2 I2 rx ry q=>ho pins s2 σ H2 x y v u Q I2 rx ry q)
theorem PZ {op:UnaryOp} {r:V->Hp->VK->Prop} (ho:QX X (unaryOp op) r) (ha:PE X a ta):PE X (.UnaryOp op a pos) (HN r ta):=by
 intro pins s σ H Q I h;exact UnaryOp_ (cG (ha pins s σ H _ I h) fun v s1 ⟨x,H1,I1,r1,q1⟩=>ho pins s1 σ H1 x v Q I1 r1 q1)
theorem OX {C:Int->Int->Prop}
  (rule:∀(i j:Int) (t u:Tok) (s:Shared) (Q:Value->Shared->Prop) (E:Value->Shared->Prop),C i j->Q (.int (g i j) s.toks) {s with toks:=s.toks+1}->wpAny (model X.prog X.w) X.A (f (.int i t) (.int j u)) Q E s):
  qR X f (rI C fun i j=>.int (g i j)):=by
 intro pins s σ H x y v u Q I rx ry h;obtain⟨i,j,rfl,rfl,hc,q⟩:=h;obtain⟨t,rfl⟩:=rx;obtain⟨t',rfl⟩:=ry;exact rule i j t t' s _ _ hc ⟨.int (g i j),H,I.tok _,⟨_,rfl⟩,q⟩
theorem OV
  (rule:∀(i j:Int) (t u:Tok) (s:Shared) (Q:Value->Shared->Prop) (E:Value->Shared->Prop),Q (.int (g i j) s.toks) {s with toks:=s.toks+1}->wpAny (model X.prog X.w) X.A (f (.int i t) (.int j u)) Q E s):
  qR X f (yN fun i j=>.int (g i j)):=by
 intro pins s σ H x y v u Q I rx ry h;obtain⟨i,j,rfl,rfl,q⟩:=h;obtain⟨t,rfl⟩:=rx;obtain⟨t',rfl⟩:=ry;exact rule i j t t' s _ _ ⟨.int (g i j),H,I.tok _,⟨_,rfl⟩,q⟩
theorem ON {g:Int->Int->Bool}
  (rule:∀(i j:Int) (t u:Tok) (s:Shared) (Q:Value->Shared->Prop) (E:Value->Shared->Prop),Q (.bool (g i j)) s->wpAny (model X.prog X.w) X.A (f (.int i t) (.int j u)) Q E s):
  qR X f (yN fun i j=>.bl (g i j)):=by
 intro pins s σ H x y v u Q I rx ry h;obtain⟨i,j,rfl,rfl,q⟩:=h;obtain⟨t,rfl⟩:=rx;obtain⟨t',rfl⟩:=ry;exact rule i j t t' s _ _ ⟨.bl (g i j),H,I,rfl,q⟩
def Q2 (i j:Int):Prop:=0<j/\j<1073741824
def MQ (i j:Int):Prop:=(-(2^64)<i/\i<2^64)\/ (-(2^64)<j/\j<2^64)
theorem MQ.ok {i j:Int} (h:MQ i j):IntMulOk i j:=by
 rcases h with⟨h1,h2⟩|⟨h1,h2⟩
 .exact .of_left (intBits_le_64 h1 h2)
 .exact .of_right (intBits_le_64 h1 h2)
theorem fT:qR X (binaryOp .Add) (yN fun i j=>.int (i+j)):=OV fun _ _ _ _ _ _ _ q=>add_int q
theorem L4:qR X (binaryOp .Sub) (yN fun i j=>.int (i - j)):=OV fun _ _ _ _ _ _ _ q=>sub_int q
theorem lZ:qR X (binaryOp .Mult) (rI MQ fun i j=>.int (i*j)):=OX fun _ _ _ _ _ _ _ hc q=>mul_int q hc.ok
theorem uN:qR X (binaryOp .FloorDiv) (rI Q2 fun i j=>.int (i / j)):=OX fun i j _ _ _ _ _ hc q=>by
 have h1:(0:Int)<j:=hc.1;have h2:j<1073741824:=hc.2;exact floordiv_int (by omega) (by rw[Int.fdiv_eq_ediv_of_nonneg i (by omega)];exact q) (.inl (PyProof.noPylong_small (by omega)))
theorem jM:qR X (binaryOp .Mod) (rI (fun _ j=>0<j) fun i j=>.int (i % j)):=OX fun i j _ _ _ _ _ hc q=>by
 have h1:(0:Int)<j:=hc;exact mod_int' (by omega) (by rw[Int.fmod_eq_emod_of_nonneg i (by omega)];exact q)
theorem SA {f:Value->Sem Value} {g:Int->Int}
  (rule:∀(i:Int) (t:Tok) (s:Shared) (Q:Value->Shared->Prop) (E:Value->Shared->Prop),Q (.int (g i) s.toks) {s with toks:=s.toks+1}->wpAny (model X.prog X.w) X.A (f (.int i t)) Q E s):
  QX X f (rU fun i=>.int (g i)):=by
 intro pins s σ H x v Q I rx h;obtain⟨i,rfl,q⟩:=h;obtain⟨t,rfl⟩:=rx;exact rule i t s _ _ ⟨.int (g i),H,I.tok _,⟨_,rfl⟩,q⟩
theorem NX:QX X (unaryOp .USub) (rU fun i=>.int (-i)):=SA fun _ _ _ _ _ q=>neg_int q
end
noncomputable def OM:V->V->Bool
 | .aU,.aU=>true| .aU,.int _=>true| .int _,.aU=>true| .aU,.bl _=>true| .bl _,.aU=>true| .aU,.str _=>true| .str _,.aU=>true
 | .int _,.int _=>true| .bl _,.bl _=>true| .str _,.str _=>true| .DJ _,.DJ _=>true
 | .int _,.str _=>true| .str _,.int _=>true| .bl _,.str _=>true| .str _,.bl _=>true
 |_,_=>false
def HZ:R2:=fun x y H Q=>OM x y=true/\Q (.bl (decide (x=y))) H
def HU:R2:=fun x y H Q=>OM x y=true/\Q (.bl (!decide (x=y))) H
theorem BK {i j:Int}:decide (V.int i=V.int j)=(i==j):=by
 rw[Bool.eq_iff_iff];simp
theorem GH {i j:Bool}:decide (V.bl i=V.bl j)=(i==j):=by
 rw[Bool.eq_iff_iff];simp
theorem A9 {i j:Str}:decide (V.str i=V.str j)=(i==j):=by
 rw[Bool.eq_iff_iff];simp
theorem A0 {i j:Array UInt8}:decide (V.DJ i=V.DJ j)=(i.toList==j.toList):=by
 rw[Bool.eq_iff_iff];cases i;cases j;simp
section
variable {X:Cx} {a b c:Expr} {ta tb tc:TE} {pos:Pos}
theorem bH {Q:VK} {k k':Bool} (I:Inv X pins σ H s) (q:Q (.bl k) H) (e:k=k'):EP X pins σ Q (.bool k') s:=by
 subst e;exact⟨.bl k,H,I,rfl,q⟩
theorem B2:qR X (compareOp .Eq) HZ:=by
 intro pins s σ H x y v u Q I rx ry h;obtain⟨hs,q⟩:=h;cases x with
 |aU=>
  cases rx;cases y with
  |aU=>cases ry;exact PySem.EqNone.eq_none_none (bH I q (by simp))
  |bl j=>cases ry;exact PySem.EqNone.eq_none_bool (bH I q (by simp))
  |int j=>obtain⟨t',rfl⟩:=ry;exact PySem.EqNone.eq_none_int (bH I q (by simp))
  |str j=>obtain⟨t',rfl⟩:=ry;exact PySem.EqNone.eq_none_str (bH I q (by simp))
  |_=>exact absurd (show false=true from hs) Bool.false_ne_true
 |bl i=>
  cases rx;cases y with
  |aU=>cases ry;exact PySem.EqNone.eq_bool_none (bH I q (by simp))
  |bl j=>cases ry;exact eq_bool (bH I q GH)
  |str j=>obtain⟨t',rfl⟩:=ry;exact PySem.EqMixed.eq_bool_str (bH I q (by simp))
  |_=>exact absurd (show false=true from hs) Bool.false_ne_true
 |int i=>
  obtain⟨t,rfl⟩:=rx;cases y with
  |aU=>cases ry;exact PySem.EqNone.eq_int_none (bH I q (by simp))
  |int j=>obtain⟨t',rfl⟩:=ry;exact eq_int (bH I q BK)
  |str j=>obtain⟨t',rfl⟩:=ry;exact PySem.EqMixed.eq_int_str (bH I q (by simp))
  |_=>exact absurd (show false=true from hs) Bool.false_ne_true
 |str i=>
  obtain⟨t,rfl⟩:=rx;cases y with
  |aU=>cases ry;exact PySem.EqNone.eq_str_none (bH I q (by simp))
  |bl j=>cases ry;exact PySem.EqMixed.eq_str_bool (bH I q (by simp))
  |int j=>obtain⟨t',rfl⟩:=ry;exact PySem.EqMixed.eq_str_int (bH I q (by simp))
  |str j=>obtain⟨t',rfl⟩:=ry;exact eq_str (bH I q A9)
  |_=>exact absurd (show false=true from hs) Bool.false_ne_true
 |DJ i=>
  obtain⟨t,rfl⟩:=rx;cases y with
  |DJ j=>obtain⟨t',rfl⟩:=ry;exact PySem.W.eq_bytes (bH I q A0)
  |_=>exact absurd (show false=true from hs) Bool.false_ne_true
 |_=>cases y<;>exact absurd (show false=true from hs) Bool.false_ne_true
theorem x6:qR X (compareOp .NotEq) HU:=by
 intro pins s σ H x y v u Q I rx ry h;obtain⟨hs,q⟩:=h;cases x with
 |aU=>
  cases rx;cases y with
  |aU=>cases ry;exact PySem.EqNone.ne_none_none (bH I q (by simp))
  |bl j=>cases ry;exact PySem.EqNone.ne_none_bool (bH I q (by simp))
  |int j=>obtain⟨t',rfl⟩:=ry;exact PySem.EqNone.ne_none_int (bH I q (by simp))
  |str j=>obtain⟨t',rfl⟩:=ry;exact PySem.EqNone.ne_none_str (bH I q (by simp))
  |_=>exact absurd (show false=true from hs) Bool.false_ne_true
 |bl i=>
  cases rx;cases y with
  |aU=>cases ry;exact PySem.EqNone.ne_bool_none (bH I q (by simp))
  |bl j=>cases ry;exact ne_bool (bH I q (congrArg not GH))
  |str j=>obtain⟨t',rfl⟩:=ry;exact PySem.EqMixed.ne_bool_str (bH I q (by simp))
  |_=>exact absurd (show false=true from hs) Bool.false_ne_true
 |int i=>
  obtain⟨t,rfl⟩:=rx;cases y with
  |aU=>cases ry;exact PySem.EqNone.ne_int_none (bH I q (by simp))
  |int j=>obtain⟨t',rfl⟩:=ry;exact ne_int (bH I q (congrArg not BK))
  |str j=>obtain⟨t',rfl⟩:=ry;exact PySem.EqMixed.ne_int_str (bH I q (by simp))
  |_=>exact absurd (show false=true from hs) Bool.false_ne_true
 |str i=>
  obtain⟨t,rfl⟩:=rx;cases y with
  |aU=>cases ry;exact PySem.EqNone.ne_str_none (bH I q (by simp))
  |bl j=>cases ry;exact PySem.EqMixed.ne_str_bool (bH I q (by simp))
  |int j=>obtain⟨t',rfl⟩:=ry;exact PySem.EqMixed.ne_str_int (bH I q (by simp))
  |str j=>obtain⟨t',rfl⟩:=ry;exact ne_str (bH I q (congrArg not A9))
  |_=>exact absurd (show false=true from hs) Bool.false_ne_true
 |DJ i=>
  obtain⟨t,rfl⟩:=rx;cases y with
  |DJ j=>obtain⟨t',rfl⟩:=ry;exact PySem.W.ne_bytes (bH I q (congrArg not A0))
  |_=>exact absurd (show false=true from hs) Bool.false_ne_true
 |_=>cases y<;>exact absurd (show false=true from hs) Bool.false_ne_true
theorem FU:qR X (compareOp .Gt) (yN fun i j=>.bl (decide (j<i))):=ON fun _ _ _ _ _ _ _ q=>gt_int q
theorem PD:qR X (compareOp .GtE) (yN fun i j=>.bl (decide (j<=i))):=ON fun _ _ _ _ _ _ _ q=>ge_int q
theorem kI:qR X (compareOp .IsNot) (fun x y H Q=>y= .aU/\Q (.bl (!decide (x= .aU))) H):=by
 intro pins s σ H x y v u Q I rx ry h;obtain⟨rfl,q⟩:=h;cases ry;refine isnot_none_gen (bH I q ?_);cases x<;>first
  |(cases rx;rfl)
  |(obtain⟨t,rfl⟩:=rx;rfl)
theorem dM (b:Expr) {op:CmpOp} (h:op≠ .In:=by decide) (h2:op≠ .NotIn:=by decide):behindInMarks op b=false:=by
 have e1:(op==CmpOp.In)=false:=by cases op<;>first|rfl|exact absurd rfl h
 have e2:(op==CmpOp.NotIn)=false:=by cases op<;>first|rfl|exact absurd rfl h2
 cases b<;>simp[behindInMarks,e1,e2]
theorem A7 (ho:qR X (compareOp op) r) (ha:PE X a ta) (hb:PE X b tb) (hm:behindInMarks op b=false):PE X (.Compare a [op] [b] pos) (vY r ta tb):=by
 intro pins s σ H Q I h;exact wpAny_Compare1 (MF ha hb I h fun v u s2 x y H2 I2 rx ry q=>ho pins s2 σ H2 x y v u Q I2 rx ry q) hm
def iL (t:TE):TT:=fun σ H Q=>t σ H fun x H'=>∃k,x= .bl k/\Q k H'
theorem bC (ho:qR X (compareOp op) r) (ha:PE X a ta) (hb:PE X b tb) (hm:behindInMarks op b=false):PT X (.Compare a [op] [b] pos) (iL (vY r ta tb)):=by
 intro pins s σ H Q I h;refine wpAny_isTrue_Compare1 (cG (ha pins s σ H _ I h) fun v s1 ⟨x,H1,I1,r1,q1⟩=>cG (hb pins s1 σ H1 _ I1 q1) fun u s2 ⟨y,H2,I2,r2,q2⟩=>
  cG (ho pins s2 σ H2 x y v u _ I2 r1 r2 q2) fun c s3 ⟨z,H3,I3,r3,k,e,q3⟩=>?_) hm
 subst e;cases r3;exact wpAny_truthy_bool ⟨H3,I3,q3⟩
def PK (K:Frag) (x:V) (H:Hp) (k:Bool):Prop:=
 match x with
 | .aU=>k=false
 | .bl b=>k=b
 | .int i=>k=(i !=0)
 | .str y=>y.length<=sizeLine/\k=((y.length:Int) !=0)
 | .DJ y=>y.size<=sizeLine/\k=((y.size:Int) !=0)
 | .ref p=>(∃xs,bM K H p xs/\k=!xs.isEmpty)\/ (∃xs,bO K H p xs/\k=!xs.isEmpty)\/ ∃kvs ep,H p=some (.dK kvs ep)/\k=!kvs.isEmpty
 |_=>False
theorem zA {kvs:List (κ×V)} {vs:List (κ×Value)} (r:KV kvs vs):(!vs.isEmpty)=!kvs.isEmpty:=by
 cases r<;>rfl
theorem rA {its:List Value} (r:Vals xs its):(!its.toArray.isEmpty)=!xs.isEmpty:=by
 cases r<;>simp
theorem nG:(sizeLine:Nat)<2^63:=by rw[sizeLine_eq];decide
theorem M8:Q1 X (fun x H Q=>∃k,PK X.K x H k/\Q k H):=by
 intro pins s σ H x v Q I rx h;obtain⟨k,e,q⟩:=h;have hl:=nG;have hs:sizeLine=16777216:=sizeLine_eq;cases x with
 |aU=>
  cases rx;have e':k=false:=e;subst e';exact truthy_none ⟨H,I,q⟩
 |bl b=>
  cases rx;have e':k=b:=e;subst e';exact wpAny_truthy_bool ⟨H,I,q⟩
 |int i=>
  obtain⟨t,rfl⟩:=rx;have e':k=(i !=0):=e;subst e';exact PySem.P.truthy_int ⟨H,I,q⟩
 |str y=>
  obtain⟨t,rfl⟩:=rx;obtain⟨hy,e'⟩:y.length<=sizeLine/\k=((y.length:Int) !=0):=e;subst e';exact PySem.P.truthy_str (by omega) ⟨H,I.tok _,q⟩
 |DJ y=>
  obtain⟨t,rfl⟩:=rx;obtain⟨hy,e'⟩:y.size<=sizeLine/\k=((y.size:Int) !=0):=e;subst e';exact PySem.W.truthy_bytes (by omega) ⟨H,I.tok _,q⟩
 | ref p=>
  cases rx;have e':(∃xs,bM X.K H p xs/\k=!xs.isEmpty)\/ (∃xs,bO X.K H p xs/\k=!xs.isEmpty)\/ ∃kvs ep,H p=some (.dK kvs ep)/\k=!kvs.isEmpty:=e;rcases e' with⟨xs,hx,e'⟩|⟨xs,hx,e'⟩|⟨kvs,ep,hx,e'⟩
  .subst e';obtain⟨its,r,pl,hz⟩:=I.list hx;have hlen:=r.length;exact wpAny_truthy_list pl.isList (by simp only[size_toArray];omega) ⟨H,I.tok _,by rw[rA r];exact q⟩
  .subst e';obtain⟨its,r,pl,hz⟩:=I.tuple hx;have hlen:=r.length;exact truthy_tuple pl (by simp only[size_toArray];omega) ⟨H,I.tok _,by rw[rA r];exact q⟩
  .subst e';obtain⟨hz,hS,vs,r,m⟩:kvs.length<=sizeLine/\(p==sysModules)=false/\∃vs,KV kvs vs/\s.heap.DictAt (aX X.prog X.w) p vs ep:=I.aW p _ hx;have hlen:kvs.length=vs.length:=Paired.length r;exact wpAny_truthy_dict hS m.dictOf (by omega) ⟨H,I.tok _,by rw[zA r];exact q⟩
 |_=>exact(show False from e).elim
theorem w6 (ha:PE X a ta) (he:∀whole,isTrue a X.env whole=(do let v<-whole;standAt a.pos;holding [v] (truthy v))):
  PT X a (fun σ H Q=>ta σ H fun x H'=>∃k,PK X.K x H' k/\Q k H'):=by
 intro pins s σ H Q I h;exact isTrue_plain (cG (ha pins s σ H _ I h) fun v s1 ⟨x,H1,I1,r1,q1⟩=>M8 pins s1 σ H1 x v Q I1 r1 q1) (he _)
theorem vals1 {x:V} (r:Vals [x] us):∃u,us=[u]/\RelV x u:=by
 cases r with
 |cons r1 r2=>cases r2;exact⟨_,rfl,r1⟩
theorem vals2 {x:V} (r:Vals [x,y] us):∃u w',us=[u,w']/\RelV x u/\RelV y w':=by
 cases r with
 |cons r1 r2=>
  cases r2 with
  |cons r3 r4=>cases r4;exact⟨_,_,rfl,r1,r3⟩
end
theorem o9.some_of {v:V} {o:Option Value} (r:o9 (some v) o):∃u,o=some u/\RelV v u:=by
 cases o with
 |none=>exact(show False from r).elim
 |some u=>exact⟨u,rfl,r⟩
structure eL (k:Nat) (A:Around):Prop where
 hd:A.handled=none
 dp:A.depth+3*k+5<recursionLimit
 un:A.units+16*k+200<cLine
 gd:A.guards=some []
theorem eL.mono (r:eL k A) (h:j<=k):eL j A:=⟨r.hd,by have:=r.dp;omega,by have:=r.un;omega,r.gd⟩
theorem eL.deeper (r:eL (k+1) A) (env:Env):eL k (A.deeper env):=
 ⟨r.hd,by have:=r.dp;show A.depth+1+3*k+5<_;omega,by have:=r.un;show A.units+3+16*k+200<_;omega,r.gd⟩
theorem eL.depth (r:eL k A):A.depth<recursionLimit:=by have:=r.dp;omega
theorem eL.units (r:eL k A):A.units+64<cLine:=by have:=r.un;omega
def o5:TA:=fun _ H Q=>Q [] H
def iF (ta:TE) (tr:TA):TA:=fun σ H Q=>ta σ H fun x H1=>tr σ H1 fun xs H2=>Q (x::xs) H2
section
variable {X:Cx} {e:Expr} {es:List Expr} {te:TE} {t:TA} {pos:Pos}
theorem aE:PA X [] o5:=fun _ _ _ _ H Q I h=>Calls.spliced_nil ⟨[],H,I,.nil,h⟩
theorem aA (ha:PE X e te) (hr:PA X es t) (hs:starEach (e::es) X.env=(false,eval e X.env)::starEach es X.env:=by rfl):PA X (e::es) (iF te t):=by
 intro pos pins s σ H Q I h;rw[hs];show wpAny _ _ (spliced ((false,eval e X.env)::backTo pos (starEach es X.env))) _ _ s;refine Calls.spliced_cons (cG (ha pins s σ H _ I h) fun u s1 ⟨x,H1,I1,r1,q1⟩=>?_);exact cG (hr pos pins s1 σ H1 _ I1 q1) fun us s2 ⟨xs,H2,I2,r2,q2⟩=>⟨x::xs,H2,I2,.cons r1 r2,q2⟩
def sE (t:TA):TE:=fun σ H Q=>t σ H fun xs H1=>xs.length<=sizeLine/\∀p,H1 p=none->Q (.ref p) (upd H1 p (.tup xs))
def qD (t:TA):TE:=fun σ H Q=>t σ H fun xs H1=>xs.length<=sizeLine/\∀p,H1 p=none->Q (.ref p) (upd H1 p (.lst xs))
theorem cH {x1} (h:PA X es t):PE X (.Tuple es x1 pos) (sE t):=by
 intro pins s σ H Q I hq;refine wpAny_Tuple_spliced (cG (h pos pins s σ H _ I hq) fun us s1 ⟨xs,H1,I1,r,z,q⟩=>⟨by rw[<-r.length];exact z,?_⟩);have hf:H1 s1.heap.objs.size=none:=I1.aW.fresh (le_refl _);refine⟨.ref s1.heap.objs.size,upd H1 s1.heap.objs.size (.tup xs),I1.laid (t':=s1.toks) (fun b u e=>get?_push_of_some _ e) (le_refl _) ?_,rfl,q _ hf⟩;exact⟨z,us,r,nX.new _ _⟩
theorem g8 (h:PA X es t):PE X (.List es pos) (qD t):=by
 intro pins s σ H Q I hq;refine wpAny_List_spliced (cG (h pos pins s σ H _ I hq) fun us s1 ⟨xs,H1,I1,r,z,q⟩=>⟨by rw[<-r.length];exact z,?_⟩);have hf:H1 s1.heap.objs.size=none:=I1.aW.fresh (le_refl _);refine⟨.ref s1.heap.objs.size,upd H1 s1.heap.objs.size (.lst xs),I1.laid (t':=s1.toks) (fun b u e=>get?_push_of_some _ e) (le_refl _) ?_,rfl,q _ hf⟩;exact⟨z,us,0,r,get?_push_size _ rfl⟩
end
abbrev Sp:=List V->Hp->VK->XK->Prop
abbrev CW:=List Env->Hp->Shared->XK->Value->Shared->Prop
structure IL (P:Program) (w:World) (K:Frag) (mg:Str->Option Value) (base:Heap) (A:Around) (outer:List Env) (s:Shared) (H:Hp):Prop where
 frames:A.frames=some outer
 mod:Mod K mg base
 bs:∀b o,base.get? b=some o->s.heap.get? b=some o/\H b=none
 KH:base.objs.size<=s.heap.objs.size
 pA:s.heap.FunFrames base outer
 N3:∀b∈DF outer,H b=none
 aW:jE P w H s.heap
 bare:AllBare s.gens
def CE (outer:List Env) (P:Program) (w:World) (H:Hp) (s:Shared) (Q:VK) (u:Value) (s':Shared):Prop:=
 ∃v H',s'.os=s.os/\AllBare s'.gens/\Un (DF outer) [] H H' s.heap s'.heap/\jE P w H' s'.heap/\RelV v u/\Q v H'
def CR (CX:CW) (outer:List Env) (P:Program) (w:World) (H:Hp) (s:Shared) (Q:VK) (E:XK) (r:Result) (s':Shared):Prop:=
 match r with
 | .ok (.ret u)=>CE outer P w H s Q u s'
 | .ok _=>False
 | .error e=>CX outer H s E e s'
structure bB (P:Program) (w:World) (K:Frag) (mg:Str->Option Value) (base:Heap) (CX:CW) (k:Nat) (f:Addr) (fd:FuncData) (ps:List Str) (sp:Sp):Prop where
 len:∀vs H Q E,sp vs H Q E->vs.length=ps.length
 run:∀(A:Around) (outer:List Env) (s:Shared) (H:Hp) (args:Args) (us:List Value) (vs:List V) (Q:VK) (E:XK),eL k A->IL P w K mg base A outer s H->BindsTo s fd args (ps.zip us)->Vals vs us->sp vs H Q E->
  codeAny (model P w) A (.call (.ref f) args) (CR CX outer P w H s Q E) s
section
variable {X:Cx} {pins:List (Addr×Obj)} {σ:St} {H:Hp} {s s':Shared}
theorem Inv.RG (I:Inv X pins σ H s):IL X.prog X.w X.K X.mg X.base X.A X.stack s H:=
 ⟨I.ok.frames,I.ok.mod,I.bs,le_trans I.ok.KH I.sz,I.stack,I.AH,I.aW,I.bare⟩
theorem Inv.after {Q:VK} (I:Inv X pins σ H s) (h:CE X.stack X.prog X.w H s Q u s'):EP X pins σ Q u s':=by
 obtain⟨v,H',os,bare,un,aW,r,q⟩:=h;obtain⟨hh,g,d,t,os'⟩:=s';obtain rfl:os'=s.os:=os;exact⟨v,H',I.call (h':=hh) (g':=g) (d':=d) (t':=t) (ch:=[]) un aW bare (fun b z=>absurd z (by simp)),r,q⟩
end
def jJ (sp:Sp) (dvs:List V) (E:XK) (t:TA):TE:=fun σ H Q=>t σ H fun vs H1=>sp (vs++dvs) H1 Q E
def Binds (K:Frag) (fd:FuncData) (ps:List Str) (ds:List Value):Prop:=
 ∀(s:Shared) (us:List Value),K.In s.heap->(us++ds).length=ps.length->BindsTo s fd ⟨us,[]⟩ (ps.zip (us++ds))
theorem Binds.all {fd:FuncData} (h:∀us:List Value,us.length=ps.length->bindArgs fd ⟨us,[]⟩=pure (ps.zip us)):Binds K fd ps []:=fun s us _ hl=>by
 rw[append_nil]at hl⊢
 exact .of_eq (h us hl)
def Passes (CX:CW) (X:Cx) (E:XK):Prop:=∀(pins:List (Addr×Obj)) (σ:St) (H:Hp) (s:Shared) (e:Value) (s':Shared),Inv X pins σ H s->CX X.stack H s E e s'->X.xe e s'
section
variable {X:Cx} {CX:CW} {k:Nat} {f C:Addr} {fd:FuncData} {ps:List Str} {sp:Sp} {dvs:List V} {ds:List Value} {E:XK} {x m:Str} {p pos apos:Pos} {e o:Expr} {es:List Expr} {ta:TE} {t:TA}
theorem MP {Q:VK} {vs:List V} (F:bB X.prog X.w X.K X.mg X.base CX k f fd ps sp) (hr:eL k X.A) (hb:Binds X.K fd ps ds) (hd:Vals dvs ds) (hx:Passes CX X E)
  (I:Inv X pins σ H s) (r:Vals vs us) (h:sp (vs++dvs) H Q E):wpAny (model X.prog X.w) X.A (call (.ref f) us) (EP X pins σ Q) X.xe s:=by
 have r2:Vals (vs++dvs) (us++ds):=r.append hd;have hl:(us++ds).length=ps.length:=by rw[<-r2.length];exact F.len _ _ _ _ h
 refine wpAny_call (codeAny_mono (F.run X.A X.stack s H ⟨us,[]⟩ (us++ds) (vs++dvs) Q E hr I.RG (hb s us I.OC hl) r2 h) fun r s' hq=>?_);cases r with
 |error e=>exact hx pins σ H s e s' I hq
 |ok fl=>
  cases fl with
  |ret u=>exact I.after hq
  |next=>exact False.elim hq
  |brk=>exact False.elim hq
  |cont=>exact False.elim hq
theorem KD (F:bB X.prog X.w X.K X.mg X.base CX k f fd ps sp) (hr:eL k X.A) (hg:Gl X x) (hm:X.mg x=some (.ref f)) (hk:keepIn X.K (.ref f)=true) (hb:Binds X.K fd ps ds) (hd:Vals dvs ds) (hx:Passes CX X E)
  (ha:PA X (e::es) t) (hdb:(x==("__debug__":Str))=false:=by decide) (he:starEach (e::es) X.env=(false,eval e X.env)::starEach es X.env:=by rfl) (hpl:(backTo pos (starEach es X.env)).any (·.1)=false:=by rfl):
  PE X (.Call (.Name x p) (e::es) [] pos) (jJ sp dvs E t):=by
 intro pins s σ H Q I h;refine wpAny_Call_Name_kw (JI I hg hm ?_ hdb);refine PySem.W.callWith_K (h₀:=X.base) I.ok.mod.RO hk (cG (ha pos pins s σ H _ I h) fun us s1 ⟨vs,H1,I1,r,q⟩=>⟨I1.OC,?_⟩) he hpl;exact MP F hr hb hd hx I1 r q
end
structure aZ (N P:List Str) (sc:Scope):Prop where
 kind:sc.kind= .function
 co:sc.isCoroutine=false
 gen:sc.isGenerator=false
 nd:N.Nodup
 pre:N.take P.length=P
 par:∀x∈P,sc.names.lookup x=some .local\/ sc.names.lookup x=some .cell
 MR:∀y∈sc.names,y.2≠ .free
theorem tY:∀{binds:List (Str×Value)} {m:Str->Option Value},(∀v,(x,v)∉binds)->bindL kindOf binds m x=m x
 |[],_,_=>rfl
 | (n,v)::r,m,h=>by
  unfold bindL;rw[tY fun w hw=>h w (mem_cons_of_mem _ hw)];split
  .have:x≠n:=by rintro rfl;exact h v mem_cons_self
   simp[this]
  .rfl
theorem uA:∀{binds:List (Str×Value)} {m:Str->Option Value},(∀v,(x,v)∉binds)->bindC kindOf binds m x=m x
 |[],_,_=>rfl
 | (n,v)::r,m,h=>by
  unfold bindC;rw[uA fun w hw=>h w (mem_cons_of_mem _ hw)];split
  .rfl
  .have:x≠n:=by rintro rfl;exact h v mem_cons_self
   simp[this]
theorem t9:∀{P:List Str} {vs:List Value} {i:Nat} {m:Str->Option Value},P.Nodup->P[i]? =some x->vs[i]? =some v->kindOf x=some .local->
  bindL kindOf (P.zip vs) m x=some v
 |[],_,_,_,_,h,_,_=>by simp at h
 |_::_,[],_,_,_,_,h,_=>by simp at h
 |p::P,w::vs,0,m,nd,h1,h2,hk=>by
  simp at h1 h2;subst h1;subst h2
  show bindL kindOf ((p,w)::P.zip vs) m p=_;unfold bindL;rw[tY fun v hv=>(nodup_cons.mp nd).1 (of_mem_zip hv).1,if_pos hk];simp
 |p::P,w::vs,i+1,m,nd,h1,h2,hk=>by
  show bindL kindOf ((p,w)::P.zip vs) m x=_;unfold bindL;exact t9 (i:=i) (nodup_cons.mp nd).2 (by simpa using h1) (by simpa using h2) hk
theorem sW:∀{P:List Str} {vs:List Value} {i:Nat} {m:Str->Option Value},P.Nodup->P[i]? =some x->vs[i]? =some v->kindOf x≠some .local->
  bindC kindOf (P.zip vs) m x=some v
 |[],_,_,_,_,h,_,_=>by simp at h
 |_::_,[],_,_,_,_,h,_=>by simp at h
 |p::P,w::vs,0,m,nd,h1,h2,hk=>by
  simp at h1 h2;subst h1;subst h2
  show bindC kindOf ((p,w)::P.zip vs) m p=_;unfold bindC;rw[uA fun v hv=>(nodup_cons.mp nd).1 (of_mem_zip hv).1,if_neg hk];simp
 |p::P,w::vs,i+1,m,nd,h1,h2,hk=>by
  show bindC kindOf ((p,w)::P.zip vs) m x=_;unfold bindC;exact sW (i:=i) (nodup_cons.mp nd).2 (by simpa using h1) (by simpa using h2) hk
noncomputable def start (N:List Str) (vs:List V):St:=vs.map some++List.replicate (N.length - vs.length) none
noncomputable def AF (CX:CW) (P:Program) (w:World) (K:Frag) (mg:Str->Option Value) (base:Heap) (N:List Str) (qual:Str) (scope:Scope) (f:Addr) (cd:Value) (A:Around) (outer:List Env) (s:Shared) (H:Hp) (E:XK):Cx where
 prog:=P
 w:=w
 K:=K
 mg:=mg
 base:=base
 A:=A.deeper (envOfC qual scope s.heap.objs.size f cd)
 N:=N
 gE:=s
 GX:=H
 env:=envOfC qual scope s.heap.objs.size f cd
 outer:=outer
 stack:=envOfC qual scope s.heap.objs.size f cd::outer
 ex:=[]
 calm:=true
 fn:=fun _=>true
 pn:=[]
 xe:=fun e s'=>wpAny (model P w) (A.deeper (envOfC qual scope s.heap.objs.size f cd)) (leaving (envOfC qual scope s.heap.objs.size f cd) e) (fun _ s''=>CX outer H s E e s'') (fun e' s''=>CX outer H s E e' s'') s'
theorem xQ {sc:Scope} (h:sc.names.lookup x=some .cell):∃c,(cellsFrom n sc.names []).lookup x=some c:=by
 have q:=PySem.W.cellsFrom_some sc.names n [] (.inl h);exact isSome_iff_exists.mp q
theorem DG {P:Program} {f:Addr} {cd:Value} {outer:List Env} {s s1:Shared} {E:XK} {vs:List V}
  (S:aZ N ps scope) (hd:A.handled=none) (e0:IL P w K mg base A outer s H) (hl:vs.length=ps.length) (r:Vals vs us)
  (x:InCallC s s.heap.objs.size (bindL (envOfC qual scope s.heap.objs.size f cd).kindOf (ps.zip us) fun _=>none) (cellsFrom (s.heap.objs.size+1) scope.names []) (bindC (envOfC qual scope s.heap.objs.size f cd).kindOf (ps.zip us) fun _=>none) s1):
  Inv (AF CX P w K mg base N qual scope f cd A outer s H E) [] (start N vs) H s1:=by
 have hpl:ps.length<=N.length:=by have:=congrArg List.length S.pre;rw[length_take]at this;omega
 obtain⟨h1,tk,rfl,hk⟩:=x.done;have CI:∀b:Addr,b∉(AF CX P w K mg base N qual scope f cd A outer s H E).ex:=fun b z=>absurd (show b∈([]:List Addr)from z) (by simp)
 refine⟨⟨e0.mod,S.kind,rfl,rfl,le_refl _,fun y z c h1 h2=>?_,fun y hy=>?_,fun y c _ h=>?_,fun _=>hd,Around.frames_deeper e0.frames,.inr ⟨rfl,rfl⟩,fun b z=>absurd z (CI b),e0.bs,e0.KH,fun b _ _=>CI b,fun b z=>absurd z (CI b),e0.pA,e0.N3⟩,
  rfl,e0.bare,Un.kept hk,⟨_,x.toInCall.ns,fun i y v h1 h2 h3=>?_⟩,fun y c h=>⟨_,x.cell y c h⟩,e0.aW.fresh (le_refl _),fun y c h=>?_,fun p hp=>absurd (show p∈([]:List (Addr×Obj))from hp) (by simp),e0.aW.kept hk,?_⟩
 .exact name_of_addr x.apart (PySem.mem_of_lookup h1) (PySem.mem_of_lookup h2)
 .have hy:scope.names.lookup y=some .cell\/ scope.names.lookup y=some .free:=hy;rcases hy with hy|hy
  .exact xQ hy
  .exact absurd rfl (S.MR _ (PySem.mem_of_lookup hy))
 .exact le_of_lt (x.above y c (PySem.mem_of_lookup h))
 .have hi:i<vs.length:=by
   unfold start at h2
   by_cases hi:i<vs.length
   .exact hi
   .rw[getElem?_append_right (by simpa using hi)]at h2;rw[List.getElem?_replicate]at h2;split at h2<;>cases h2
  have ha:vs[i]? =some v:=by
   unfold start at h2;rw[getElem?_append_left (by simpa using hi),getElem?_map]at h2;cases e:vs[i]? with
   |none=>rw[e]at h2;cases h2
   |some a=>rw[e]at h2;cases h2;rfl
  obtain⟨u,hu,rv⟩:=r.get ha;have hp:ps[i]? =some y:=by
   rw[<-S.pre,List.getElem?_take_of_lt (by omega)];exact h1
  have ndP:ps.Nodup:=by rw[<-S.pre];exact S.nd.sublist (take_sublist _ _)
  refine⟨u,rv,?_⟩;rcases S.par y (mem_of_getElem? hp)with k|k
  .exact .inl ⟨k,t9 ndP hp hu k⟩
  .obtain⟨c,e⟩:=xQ (n:=s.heap.objs.size+1) k;refine .inr ⟨.inl k,c,e,?_⟩;have q:=x.cell y c e;rw[sW ndP hp hu (by show scope.names.lookup y≠_;rw[k];decide)]at q;exact q
 .exact e0.aW.fresh (le_of_lt (x.above y c (PySem.mem_of_lookup h)))
 .unfold start;show _=N.length;rw[length_append,length_map,length_replicate];omega
theorem OK {P:Program} {f:Addr} {name:Str} {params:Arguments} {dV kV doc pm cdv ct oc:Value} {an od:Option Addr}
  {osl:Array (Option Value)} {sp:Sp} (lk:K.lookup f=some ⟨oc,od,.func (fnOf name qual params body scope dV kV doc pm an cdv ct),osl⟩) (hcd:codeIn K cdv qual=true) (S:aZ N ps scope)
  (len:∀vs H Q E,sp vs H Q E->vs.length=ps.length)
  (hbody:∀(A:Around) (outer:List Env) (s:Shared) (H:Hp) (vs:List V) (Q:VK) (E:XK),eL k (A.deeper (envOfC qual scope s.heap.objs.size f cdv))->sp vs H Q E->
   ∃t,zG (AF CX P w K mg base N qual scope f cdv A outer s H E) body t/\t {nx:=fun _ H'=>Q .aU H',rt:=Q} (start N vs) H):
  bB P w K mg base CX (k+1) f (fnOf name qual params body scope dV kV doc pm an cdv ct) ps sp:=by
 refine⟨len,fun A outer s H args us vs Q E hr e0 hb r hsp=>?_⟩;have hl:=len _ _ _ _ hsp;have KX:K.In s.heap:=e0.mod.RO.keeps fun b o e=>(e0.bs b o e).1
 have lim:s.heap.NoLimit:=e0.mod.nolimit.keeps fun b o e=>(e0.bs b o e).1
 have hkind:∀y∈ps.zip us,scope.names.lookup y.1=some .local\/ (scope.names.lookup y.1=some .cell/\((cellsFrom (s.heap.objs.size+1) scope.names []).lookup y.1).isSome=true):=fun⟨n,v⟩ hy=>by
  rcases S.par n (of_mem_zip hy).1 with q|q
  .exact .inl q
  .exact .inr ⟨q,PySem.W.cellsFrom_some _ _ _ (.inl q)⟩
 refine codeAny_call_function hr.depth (KX _ _ lk) rfl S.co S.gen rfl (PySem.W.codeRec_of KX hcd) (hb _ _ _ _ ?_);refine wpAny_newFunctionEnv_cells S.kind hkind fun env he s1 x=>?_
 subst he;refine⟨lim.keeps x.toInCall.keep,codeAny_func ?_⟩;obtain⟨t,ht,hq⟩:=hbody A outer s H vs Q E (hr.deeper _) hsp;have I:Inv (AF CX P w K mg base N qual scope f cdv A outer s H E) [] (start N vs) H s1:=DG S hr.hd e0 hl r x;refine wpAny_mono (ht [] s1 (start N vs) H _ I hq) (fun fl s' hs=>?_) fun e s' hs=>hs
 have fin:∀{σ':St} {H':Hp} {v:V} {u:Value},Inv (AF CX P w K mg base N qual scope f cdv A outer s H E) [] σ' H' s'->RelV v u->Q v H'->CE outer P w H s Q u s':=
  fun{σ' H' v u} J rv q=>⟨v,H',J.os,J.bare,J.base,J.aW,rv,q⟩
 cases fl with
 |ret u=>
  obtain⟨v,σ',H',J,rv,q⟩:=hs;exact fin J rv q
 |next=>
  obtain⟨σ',H',J,q⟩:=hs;exact fin (v:=V.aU) (u:=Value.none) J rfl q
 |brk=>
  obtain⟨_,_,_,q⟩:=hs;exact False.elim q
 |cont=>
  obtain⟨_,_,_,q⟩:=hs;exact False.elim q
section
variable {X:Cx} {x:Str} {p pos:Pos} {e:Expr} {es:List Expr} {t:TA} {id T:String} {r:List V->Hp->VK->Prop}
def GZ (r:List V->Hp->VK->Prop) (t:TA):TE:=fun σ H Q=>t σ H fun vs H1=>r vs H1 Q
theorem bN (hc:eU X (.builtin id) r) (hg:Gl X x) (hm:X.mg x=none) (hv:bootBuiltins x=some (.builtin id)) (ha:PA X (e::es) t) (hn:x≠"__name__":=by decide) (hdb:(x==("__debug__":Str))=false:=by decide)
  (he:starEach (e::es) X.env=(false,eval e X.env)::starEach es X.env:=by rfl) (hpl:(backTo pos (starEach es X.env)).any (·.1)=false:=by rfl):PE X (.Call (.Name x p) (e::es) [] pos) (GZ r t):=by
 intro pins s σ H Q I h;refine wpAny_Call_Name_kw (vN I hg hm hv ?_ hn hdb);exact PyProof.Rows.callWith_builtin1 (cG (ha pos pins s σ H _ I h) fun us s1 ⟨vs,H1,I1,r1,q1⟩=>hc pins s1 σ H1 vs us Q I1 r1 q1) he hpl
theorem cE (hc:eU X (.type T) r) (hg:Gl X x) (hm:X.mg x=none) (hv:bootBuiltins x=some (.type T)) (ha:PA X (e::es) t) (hn:x≠"__name__":=by decide) (hdb:(x==("__debug__":Str))=false:=by decide)
  (he:starEach (e::es) X.env=(false,eval e X.env)::starEach es X.env:=by rfl) (hpl:(backTo pos (starEach es X.env)).any (·.1)=false:=by rfl):PE X (.Call (.Name x p) (e::es) [] pos) (GZ r t):=by
 intro pins s σ H Q I h;refine wpAny_Call_Name_kw (vN I hg hm hv ?_ hn hdb);exact PyProof.Rows.callWith_type1 (cG (ha pos pins s σ H _ I h) fun us s1 ⟨vs,H1,I1,r1,q1⟩=>hc pins s1 σ H1 vs us Q I1 r1 q1) he hpl
end
end L2
namespace HT
open PySem PyProof.Rows
variable {sl:Addr} {vl vu:Value}
section
variable {prog:Program} {w:World} {A:Around} {E:Value->Shared->Prop} {s:Shared}
noncomputable def d4 (n d:Nat):Option Int->Nat
 |none=>d
 |some v=>if v<0 then(v+(n:Int)).toNat else min v.toNat n
theorem wC (n d:Nat):d4 n d none=d:=rfl
theorem KQ (n d k:Nat):d4 n d (some (k:Int))=min k n:=by
 show(if(k:Int)<0 then((k:Int)+(n:Int)).toNat else min (k:Int).toNat n)=min k n;rw[if_neg (by omega),toNat_natCast]
theorem MO (n d:Nat) (hd:d<=n) (o:Option Int):d4 n d o<=n:=by
 cases o with
 |none=>exact hd
 |some v=>
  show(if v<0 then(v+(n:Int)).toNat else min v.toNat n)<=n
  by_cases hv:v<0
  .rw[if_pos hv];omega
  .rw[if_neg hv];exact Nat.min_le_right _ _
theorem BQ (v:Int) (n d:Nat):(if v<0 then max (v+(n:Int)) 0 else min v (n:Int))=((d4 n d (some v):Nat):Int):=by
 show(if v<0 then max (v+(n:Int)) 0 else min v (n:Int))=(((if v<0 then(v+(n:Int)).toNat else min v.toNat n):Nat):Int)
 by_cases hv:v<0
 .simp only[if_pos hv];omega
 .simp only[if_neg hv];omega
theorem z3 (lo hi:Option Int) (n:Nat):Builtin.Slice.sliceAdjust lo hi 1 (n:Int)=(((d4 n 0 lo:Nat):Int),((d4 n n hi:Nat):Int)):=by
 have h1:¬((1:Int)<0):=by omega
 unfold Builtin.Slice.sliceAdjust;simp only[h1,if_false];refine Prod.ext ?_ ?_
 .cases lo with
  |none=>rfl
  |some v=>exact BQ v n 0
 .cases hi with
  |none=>rfl
  |some v=>exact BQ v n n
theorem yT (i j:Nat):Builtin.Slice.slicePlaces (i:Int) (j:Int) 1=j - i:=by
 unfold Builtin.Slice.slicePlaces;have h1:(1:Int)>0:=by omega
 simp only[h1,if_true,Int.ediv_one];split<;>omega
theorem rH {v:Value} {o:Option Int} {Q:Option Int->Shared->Prop} (p:IsPart v o) (h:Q o s):wpAny (model prog w) A (Builtin.Slice.slicePartIndex v) Q E s:=by
 cases p with
 |none=>exact slicePart_none h
 |int i t=>exact slicePart_int h
theorem iE {lo hi:Option Int} {n:Nat} {Q:Int×Int×Nat->Shared->Prop} (hs:s.heap.IsSliceOf sl vl vu .none) (pl:IsPart vl lo) (pu:IsPart vu hi)
  (h:Q (((d4 n 0 lo:Nat):Int),1,d4 n n hi - d4 n 0 lo) s):wpAny (model prog w) A (Builtin.Slice.sliceApplied (.ref sl) (pure (n:Int))) Q E s:=by
 obtain⟨os,hos,hcs,hds⟩:=id hs;unfold Builtin.Slice.sliceApplied Builtin.Slice.sliceFields;refine wpAny_bind (wpAny_bind (wpAny_field hos hds (x:=vl) rfl (wpAny_bind (wpAny_field hos hds (x:=vu) rfl (wpAny_bind (wpAny_field hos hds (x:=.none) rfl (wpAny_pure ?_)))))));refine wpAny_bind (slicePart_none ?_);show wpAny _ _ (if((1:Int)==0)=true then _ else _) _ _ s;rw[if_neg (by decide)];refine wpAny_bind (rH pl (wpAny_bind (rH pu (wpAny_bind (wpAny_pure ?_)))));show wpAny _ _ (match Builtin.Slice.sliceAdjust lo hi 1 (n:Int)with|(lo,hi)=>pure (lo,(1:Int),Builtin.Slice.slicePlaces lo hi 1)) _ _ s;rw[z3 lo hi n];show wpAny _ _ (pure (((d4 n 0 lo:Nat):Int),(1:Int),Builtin.Slice.slicePlaces ((d4 n 0 lo:Nat):Int) ((d4 n n hi:Nat):Int) 1)) _ _ s;rw[yT];exact wpAny_pure h
theorem HD (xs:Array Value) (i k:Nat):((List.range k).filterMap fun(m:Nat)=>xs[((i:Int)+(m:Int)*1).toNat]?).toArray=((xs.toList.drop i).take k).toArray:=by
 have e:(fun(m:Nat)=>xs[((i:Int)+(m:Int)*1).toNat]?)=fun m=>xs[i+m]?:=by
  funext m;have:((i:Int)+(m:Int)*1).toNat=i+m:=by omega
  rw[this]
 rw[e];have:=pick_run xs i k;rw[List.filterMap_map]at this;have e2:((fun x=>xs[x]?)∘fun x=>i+x)=fun m=>xs[i+m]?:=rfl
 rw[e2]at this;rw[this]
theorem mS {t:Addr} {items:Array Value} {lo hi:Option Int} {Q:Value->Shared->Prop} (ht:IsTup s.heap t items) (hs:s.heap.IsSliceOf sl vl vu .none) (pl:IsPart vl lo) (pu:IsPart vu hi)
  (hw:¬(d4 items.size 0 lo=0/\d4 items.size items.size hi=items.size))
  (h:Q (.ref s.heap.objs.size) {s with heap:=s.heap.push {cls:=.type "tuple",data:=.seq ((items.toList.drop (d4 items.size 0 lo)).take (d4 items.size items.size hi - d4 items.size 0 lo)).toArray}})
  (hsz:items.size<=sizeLine):wpAny (model prog w) A (getItem (.ref t) (.ref sl)) Q E s:=by
 have htake:sizeOk (.seq ((items.toList.drop (d4 items.size 0 lo)).take (d4 items.size items.size hi - d4 items.size 0 lo)).toArray):=by
  show((items.toList.drop (d4 items.size 0 lo)).take (d4 items.size items.size hi - d4 items.size 0 lo)).toArray.size<=sizeLine;rw[size_toArray,length_take,length_drop,length_toList];omega
 have hj:d4 items.size items.size hi<=items.size:=MO _ _ (le_refl _) hi;obtain⟨os,hos,hcs,hds⟩:=id hs;have hTs:s.TypeIs (.ref sl) "slice":=⟨os,hos,hcs⟩;unfold getItem
 try with_reducible refine wpAny_holding ?_
 first|refine wpAny_bind (wpAny_pure ?_)|skip
 refine wpAny_bind (wpAny_sequenceKey ht.typeIs (by decide) ?_);refine wpAny_bind (wpAny_callSpecial?_slot (name:=Str.ofString "__getitem__") ht.typeIs PyProof.Rows.slot_tuple_getitem
  (wpAny_call_entry PyProof.Rows.slot_tuple_getitem ht.typeIs entry_tuple_getitem ?_ (args_tuple_getitem _ _)))
 show wpAny _ _ (Builtin.Tuple.tupleItemsOf (.ref t)>>=_) _ _ s;refine wpAny_bind (tupleItemsOf_ ht ?_);refine wpAny_bind (wpAny_typeOf hTs ?_);rw[if_pos (by decide)];refine wpAny_bind (iE hs pl pu ?_);have hno:¬((((d4 items.size 0 lo:Nat):Int)==0 && (1:Int)==1 && (d4 items.size items.size hi - d4 items.size 0 lo)==items.size)=true):=by
  intro q;rw[and_eq_true,and_eq_true]at q;have q1:((d4 items.size 0 lo:Nat):Int)=0:=eq_of_beq q.1.1;have q2:d4 items.size items.size hi - d4 items.size 0 lo=items.size:=eq_of_beq q.2;exact hw ⟨by omega,by omega⟩
 show wpAny _ _ (if(((d4 items.size 0 lo:Nat):Int)==0 && (1:Int)==1 && (d4 items.size items.size hi - d4 items.size 0 lo)==items.size)=true then _ else _) _ _ s;rw[if_neg hno,HD]
 first
  |exact wpAny_bind (m:=Builtin.Tuple.tupleExact _) (wpAny_newObj_type (wpAny_pure ⟨_,rfl,wpAny_pure h⟩) htake)
  |exact wpAny_bind (m:=Builtin.Tuple.tupleExact _) (wpAny_newObj_type (wpAny_bind (wpAny_pure (wpAny_pure ⟨_,rfl,wpAny_pure h⟩))) htake)
  |exact wpAny_bind (wpAny_bind (m:=Builtin.Tuple.tupleExact _) (wpAny_newObj_type (wpAny_pure (wpAny_pure ⟨_,rfl,wpAny_pure h⟩)) htake))
  |exact wpAny_bind (wpAny_bind (m:=Builtin.Tuple.tupleExact _) (wpAny_newObj_type (wpAny_pure ⟨_,rfl,wpAny_pure h⟩) htake))
end
end HT
namespace L2
open PySem PySem.Spec PyProof.Rows
variable {A:Around} {H:Hp} {pins:List (Addr×Obj)} {xs:List V} {its its':List Value} {j n t':Nat} {s:Shared} {σ:St} {α:Type} {x:V} {u v:Value}
abbrev TO:=St->Hp->(Option Int->Hp->Prop)->Prop
def PO (X:Cx) (e:Option Expr) (t:TO):Prop:=
 ∀(pins:List (Addr×Obj)) (s:Shared) (σ:St) (H:Hp) (Q:Option Int->Hp->Prop),Inv X pins σ H s->t σ H Q->
  wpAny (model X.prog X.w) X.A (evalPart e X.env) (fun u s'=>∃o H',Inv X pins σ H' s'/\IsPart u o/\Q o H') X.xe s
def fK:TO:=fun _ H Q=>Q none H
def lF (t:TE):TO:=fun σ H Q=>t σ H fun x H1=>∃i,x= .int i/\Q (some i) H1
section
variable {X:Cx} {e:Expr} {te:TE} {lo hi:Option Expr} {tl th:TO} {pos p2:Pos}
theorem nC:PO X none fK:=by
 intro pins s σ H Q I h;rw[evalPart_none];exact wpAny_pure ⟨none,H,I,.none,h⟩
theorem mK (h:PE X e te):PO X (some e) (lF te):=by
 intro pins s σ H Q I hw;rw[evalPart_some];refine cG (h pins s σ H _ I hw) fun u s1 ⟨x,H1,I1,r1,q1⟩=>?_
 obtain⟨i,rfl,q⟩:=q1;obtain⟨t,rfl⟩:=r1;exact⟨some i,H1,I1,.int i t,q⟩
def O5 (X:Cx) (r:V->Option Int->Option Int->Hp->VK->Prop):Prop:=
 ∀(pins:List (Addr×Obj)) (s:Shared) (σ:St) (H:Hp) (x:V) (v vl vu:Value) (lo hi:Option Int) (sl:Addr) (Q:VK),Inv X pins σ H s->RelV x v->s.heap.IsSliceOf sl vl vu .none->IsPart vl lo->IsPart vu hi->r x lo hi H Q->
  ∃T id,typeLookup (.type T) "__getitem__"=pure (some (.builtin id))/\s.TypeIs v T/\wpAny (model X.prog X.w) X.A (getItem v (.ref sl)) (EP X pins σ Q) X.xe s
def HR (r:V->Option Int->Option Int->Hp->VK->Prop) (te:TE) (tl th:TO):TE:=fun σ H Q=>te σ H fun x H1=>tl σ H1 fun l H2=>th σ H2 fun u H3=>r x l u H3 Q
theorem j6 {r:V->Option Int->Option Int->Hp->VK->Prop} (hr:O5 X r) (he:PE X e te) (hl:PO X lo tl) (hu:PO X hi th):PE X (.Subscript e (.Slice lo hi none p2) pos) (HR r te tl th):=by
 intro pins s σ H Q I h;refine Subscript_ (cG (he pins s σ H _ I h) fun v s1 ⟨x,H1,I1,r1,q1⟩=>?_);refine wpAny_Slice (cG (hl pins s1 σ H1 _ I1 q1) fun vl s2 ⟨l,H2,I2,pl,q2⟩=>cG (hu pins s2 σ H2 _ I2 q2) fun vu s3 ⟨u,H3,I3,pu,q3⟩=>?_);rw[evalPart_none];refine wpAny_pure ?_;have I4:Inv X pins σ H3 {s3 with heap:=s3.heap.push {cls:=.type "slice",data:=.fields #[vl,vu,.none]}}:=I3.kept (t':=s3.toks) fun b ob q=>get?_push_of_some _ q
 obtain⟨T,id,hT,ht,hg⟩:=hr pins {s3 with heap:=s3.heap.push {cls:=.type "slice",data:=.fields #[vl,vu,.none]}} σ H3 x v vl vu l u s3.heap.objs.size Q I4 r1 (Heap.IsSliceOf.new ..) pl pu q3;show wpAny (model X.prog X.w) X.A (subscriptTail e (.Slice lo hi none p2) v (.ref s3.heap.objs.size)) (EP X pins σ Q) X.xe {s3 with heap:=s3.heap.push {cls:=.type "slice",data:=.fields #[vl,vu,.none]}};exact tail_any (ops:=[.ref s3.heap.objs.size,v]) ht hT hg (by with_unfolding_all rfl)
noncomputable def iM (xs:List V) (lo hi:Option Int):List V:=(xs.drop (HT.d4 xs.length 0 lo)).take (HT.d4 xs.length xs.length hi - HT.d4 xs.length 0 lo)
theorem j8 (xs:List V) (lo hi:Option Int):(iM xs lo hi).length<=xs.length:=by
 unfold iM;rw[length_take,length_drop];omega
def sI (K:Frag):V->Option Int->Option Int->Hp->VK->Prop:=fun x lo hi H Q=>∃a xs,x= .ref a/\bO K H a xs/\
 ¬(HT.d4 xs.length 0 lo=0/\HT.d4 xs.length xs.length hi=xs.length)/\∀p,H p=none->Q (.ref p) (upd H p (.tup (iM xs lo hi)))
theorem NR:O5 X (sI X.K):=by
 intro pins s σ H x v vl vu lo hi sl Q I rx hs pl pu h;obtain⟨a,xs,rfl,hx,hw,q⟩:=h;cases rx;obtain⟨its,r,ht,hz⟩:=I.tuple hx;have hlen:its.toArray.size=xs.length:=by rw[size_toArray];exact r.length.symm
 refine⟨"tuple",_,PyProof.Rows.slot_tuple_getitem.lookup,ht.typeIs,?_⟩;refine HT.mS ht hs pl pu (by rw[hlen];exact hw) ?_ (by rw[hlen];exact hz);rw[hlen];refine⟨.ref s.heap.objs.size,_,I.laid (t':=s.toks) (o:=.tup (iM xs lo hi)) (fun b ob q=>get?_push_of_some _ q) (le_refl _) ?_,rfl,q _ (I.aW.fresh (le_refl _))⟩;exact⟨le_trans (j8 xs lo hi) hz,_,(r.drop (HT.d4 xs.length 0 lo)).take (HT.d4 xs.length xs.length hi - HT.d4 xs.length 0 lo),nX.new _ _⟩
end
noncomputable def LI (n:Nat) (i:Int):Option Nat:=if 0<=i then(if i<n then some i.toNat else none)else if -(n:Int)<=i then some (i+n).toNat else none
noncomputable def D2 (xs:List α) (i:Int):Option α:=(LI xs.length i).bind fun j=>xs[j]?
theorem B5 {i:Int} (h:LI n i=some j):seqIndex? i n=some j/\j<n/\ -(n:Int)<=i/\i<n:=by
 unfold LI at h
 by_cases h0:0<=i
 .rw[if_pos h0]at h
  by_cases h1:i<n
  .rw[if_pos h1]at h;have e:i.toNat=j:=Option.some.inj h;exact⟨by rw[seqIndex_of h0 h1,e],by omega,by omega,h1⟩
  .rw[if_neg h1]at h;cases h
 .rw[if_neg h0]at h
  by_cases h1: -(n:Int)<=i
  .rw[if_pos h1]at h;have e:(i+n).toNat=j:=Option.some.inj h;exact⟨by rw[seqIndex_neg (by omega) h1,e],by omega,h1,by omega⟩
  .rw[if_neg h1]at h;cases h
theorem uT {xs:List α} {i:Int} {v:α} (h:D2 xs i=some v):∃j,seqIndex? i xs.length=some j/\xs[j]? =some v/\j<xs.length/\ -(xs.length:Int)<=i/\i<xs.length:=by
 unfold D2 at h;cases e:LI xs.length i with
 |none=>rw[e]at h;cases h
 |some j=>
  rw[e]at h;obtain⟨h1,h2,h3,h4⟩:=B5 e;exact⟨j,h1,h,h2,h3,h4⟩
theorem dW {xs:List α} {v:α} (h:xs[j]? =some v):D2 xs (j:Int)=some v:=by
 have hj:j<xs.length:=(List.getElem?_eq_some_iff.mp h).1;have e:LI xs.length (j:Int)=some j:=by
  unfold LI;rw[if_pos (by omega),if_pos (by omega)];simp
 unfold D2;rw[e];exact h
def IJ (b:Expr):Prop:=∀o i,subscripted b false o i=operate [o,i] (getItem o i)
def M7 (X:Cx) (r:R2):Prop:=
 ∀(value slice:Expr) (pins:List (Addr×Obj)) (s:Shared) (σ:St) (H:Hp) (x y:V) (v u:Value) (Q:VK),Inv X pins σ H s->RelV x v->RelV y u->r x y H Q->
  subscripted slice false v u=operate [v,u] (getItem v u)->wpAny (model X.prog X.w) X.A (subscriptTail value slice v u) (EP X pins σ Q) X.xe s
def O2 (X:Cx) (id:String) (r:V->List V->Hp->VK->Prop):Prop:=
 ∀(pins:List (Addr×Obj)) (s:Shared) (σ:St) (H:Hp) (x:V) (xs:List V) (v:Value) (us:List Value) (Q:VK),Inv X pins σ H s->RelV x v->Vals xs us->r x xs H Q->
  wpAny (model X.prog X.w) X.A (call (.builtin id) (v::us)) (EP X pins σ Q) X.xe s
section
variable {X:Cx} {a b:Expr} {ta tb:TE} {pos:Pos}
theorem bA {r:R2} (hr:M7 X r) (ha:PE X a ta) (hb:PE X b tb) (hs:IJ b):PE X (.Subscript a b pos) (vY r ta tb):=by
 intro pins s σ H Q I h;exact Subscript_ (MF ha hb I h fun v u s2 x y H2 I2 rx ry q=>hr a b pins s2 σ H2 x y v u Q I2 rx ry q (hs _ _))
def qS (K:Frag):R2:=fun x y H Q=>∃p xs i v,x= .ref p/\y= .int i/\bM K H p xs/\D2 xs i=some v/\Q v H
def nK (K:Frag):R2:=fun x y H Q=>∃p xs i v,x= .ref p/\y= .int i/\bO K H p xs/\D2 xs i=some v/\Q v H
def rY:R2:=fun x y H Q=>∃z i c,x= .str z/\y= .int i/\z.length<=sizeLine/\D2 z.cps.toList i=some c/\Q (.str ⟨#[c]⟩) H
theorem JA:M7 X (qS X.K):=by
 intro value slice pins s σ H x y v u Q I rx ry h hs;obtain⟨p,xs,i,z,rfl,rfl,hq,he,q⟩:=h;cases rx;obtain⟨t,rfl⟩:=ry;obtain⟨its,r,pl,hz⟩:=I.list hq;obtain⟨j,h1,h2,h3,h4,h5⟩:=uT he;obtain⟨w,ew,nF⟩:=r.get h2;have hl:=r.length;have hn:=nG;have fin:EP X pins σ Q w s:=⟨z,H,I,nF,q⟩
 by_cases h0:0<=i
 .have hj:i.toNat=j:=by
   rw[seqIndex_of h0 h5]at h1;exact Option.some.inj h1
  exact item_listR pl.isList h0 (by omega) (by rw[hj];simpa using ew) fin hs
 .have hj:(i+(its.toArray.size:Int)).toNat=j:=by
   rw[seqIndex_neg (by omega) h4]at h1;rw[size_toArray,<-hl];exact Option.some.inj h1
  exact subscriptTail_builtinR (x:=w) pl.isList.typeIs slot_list_getitem.lookup
   (wpAny_getItem_list_neg (Q:=fun r s'=>r=w/\EP X pins σ Q r s') pl.isList (by omega) (by rw[size_toArray]<;>omega) (by omega) (by rw[hj];simpa using ew) ⟨rfl,fin⟩) hs
theorem MJ:M7 X (nK X.K):=by
 intro value slice pins s σ H x y v u Q I rx ry h hs;obtain⟨p,xs,i,z,rfl,rfl,hq,he,q⟩:=h;cases rx;obtain⟨t,rfl⟩:=ry;obtain⟨its,r,pl,hz⟩:=I.tuple hq;obtain⟨j,h1,h2,h3,h4,h5⟩:=uT he;obtain⟨w,ew,nF⟩:=r.get h2;have hl:=r.length;have hn:=nG;have fin:EP X pins σ Q w s:=⟨z,H,I,nF,q⟩;exact subscriptTail_builtinR (x:=w) pl.typeIs slot_tuple_getitem.lookup
  (getItem_tuple (j:=j) (Q:=fun r s'=>r=w/\EP X pins σ Q r s') pl (by omega) (by omega) (by rw[size_toArray,<-hl];exact h1) (by simpa using ew) ⟨rfl,fin⟩) hs
theorem MC:M7 X rY:=by
 intro value slice pins s σ H x y v u Q I rx ry h hs;obtain⟨z,i,c,rfl,rfl,hz,he,q⟩:=h;obtain⟨t,rfl⟩:=rx;obtain⟨t',rfl⟩:=ry;obtain⟨j,h1,h2,h3,h4,h5⟩:=uT he;have hl:z.cps.toList.length=z.length:=by simp[Str.length]
 rw[hl]at h1 h4 h5;have hn:=nG;exact tail_any (typeIs_str s z t) slot_str_getitem.lookup (getItem_str (c:=c) (by
  have e1:decide (i< -(2^63:Int))=false:=decide_eq_false (by omega);have e2:decide (i≥2^63)=false:=decide_eq_false (by omega);rw[e1,e2,Bool.or_false]) (by rw[h1];simpa using h2) ⟨.str ⟨#[c]⟩,H,I.tok _,⟨_,rfl⟩,q⟩) hs
theorem zR (its:List Value) (n j:Nat) (u:Value):Obj.mapSeq (·.setIfInBounds j u) {cls:=.type "list",data:=.seq its.toArray n}={cls:=.type "list",data:=.seq (its.set j u).toArray n}:=by
 simp[Obj.mapSeq]
theorem Inv.lst {p:Addr} (I:Inv X pins σ H s) (h:H p=some (.lst xs)):
  ∃(its:List Value) (n:Nat),Vals xs its/\s.heap.get? p=some {cls:=.type "list",data:=.seq its.toArray n}/\xs.length<=sizeLine:=by
 obtain⟨z,its,n,r,e⟩:=I.aW p _ h;exact⟨its,n,r,e,z⟩
theorem Inv.M0 {p:Addr} {ys:List V} {n':Nat} {f:Obj->Obj} (I:Inv X pins σ H s) (h:H p=some (.lst xs))
  (ho:s.heap.get? p=some {cls:=.type "list",data:=.seq its.toArray n}) (hf:f {cls:=.type "list",data:=.seq its.toArray n}={cls:=.type "list",data:=.seq its'.toArray n'}) (r:Vals ys its') (hz:ys.length<=sizeLine) (t:Nat):
  Inv X pins σ (upd H p (.lst ys)) {s with heap:=s.heap.update p f,toks:=t}:=by
 have e:(s.heap.update p f).get? p=some {cls:=.type "list",data:=.seq its'.toArray n'}:=by
  rw[get?_update_self f ho (by rw[hf]<;>rfl),hf]
 refine I.write (x:=p) (e:=p) (by rw[h];trivial) (.inl rfl) (fun b u hb q=>(get?_update_other _ _ (Ne.symm hb)).trans q) ⟨_,e⟩ ?_;exact⟨hz,its',n',r,e⟩
def lD:V->V->V->Hp->(Hp->Prop)->Prop:=fun o i v H Q=>∃p xs k j,o= .ref p/\i= .int k/\H p=some (.lst xs)/\LI xs.length k=some j/\Q (upd H p (.lst (xs.set j v)))
theorem set_list:PH X lD:=by
 intro pins s σ H o i v ov iv u Q I ro ri rv h;obtain⟨p,xs,k,j,rfl,rfl,hp,hj,q⟩:=h;cases ro;obtain⟨t,rfl⟩:=ri;obtain⟨its,n,r,ho,hz⟩:=I.lst hp;obtain⟨h1,h2,h3,h4⟩:=B5 hj;have hl:=r.length;have hn:=nG;have I':Inv X pins σ (upd H p (.lst (xs.set j v))) {s with heap:=s.heap.update p (Obj.mapSeq (·.setIfInBounds j u))}:=
  I.M0 hp ho (zR its n j u) (r.set rv j) (by rw[List.length_set];exact hz) s.toks
 by_cases h0:0<=k
 .have hk:k.toNat=j:=by
   rw[seqIndex_of h0 h4]at h1;exact Option.some.inj h1
  exact PySem.W.ki_setAt ho h0 (by omega) (by rw[size_toArray,<-hl];exact h4) (by rw[hk];exact⟨_,I',q⟩)
 .have hk:(k+(its.toArray.size:Int)).toNat=j:=by
   rw[seqIndex_neg (by omega) h3]at h1;rw[size_toArray,<-hl];exact Option.some.inj h1
  exact PySem.W.ki_setBack ho (by omega) (by rw[size_toArray,<-hl];exact h3) (by omega) (by rw[hk];exact⟨_,I',q⟩)
theorem vI (lo hi:Option Int) (n:Nat):(sliceBounds lo hi none n).1=((HT.d4 n 0 lo:Nat):Int)/\(sliceBounds lo hi none n).2.1=((HT.d4 n n hi:Nat):Int)/\(sliceBounds lo hi none n).2.2=1:=by
 refine⟨?_,?_,rfl⟩
 .cases lo with
  |none=>simp[sliceBounds,HT.d4]
  |some i=>
   simp only[sliceBounds,HT.d4,getD_none,show(1:Int)>0 by decide,if_true]
   by_cases h:i<0
   .simp only[h,if_true]<;>omega
   .simp only[h,if_false]<;>omega
 .cases hi with
  |none=>simp[sliceBounds,HT.d4]
  |some i=>
   simp only[sliceBounds,HT.d4,getD_none,show(1:Int)>0 by decide,if_true]
   by_cases h:i<0
   .simp only[h,if_true]<;>omega
   .simp only[h,if_false]<;>omega
theorem sH (its:List Value) (lo hi:Option Int):slicePick its.toArray lo hi none=((its.drop (HT.d4 its.length 0 lo)).take (HT.d4 its.length its.length hi - HT.d4 its.length 0 lo)).toArray:=by
 obtain⟨h1,h2,h3⟩:=vI lo hi its.toArray.size;unfold slicePick;rw[h1,h2,h3];simp only[sliceRange_one,pick_run,size_toArray]<;>rfl
def qG (K:Frag):V->Option Int->Option Int->Hp->VK->Prop:=fun x lo hi H Q=>∃a xs,x= .ref a/\bM K H a xs/\∀p,H p=none->Q (.ref p) (upd H p (.lst (iM xs lo hi)))
theorem J1:O5 X (qG X.K):=by
 intro pins s σ H x v vl vu lo hi sl Q I rx hs pl pu h;obtain⟨a,xs,rfl,hx,q⟩:=h;cases rx;obtain⟨its,r,ht,hz⟩:=I.list hx;have hlen:=r.length;refine⟨"list",_,slot_list_getitem.lookup,ht.isList.typeIs,?_⟩;refine wpAny_getItem_list_slice ht.isList hs pl pu .none (by simp) ?_ (by rw[size_toArray]<;>omega);rw[sH,<-hlen];refine⟨.ref s.heap.objs.size,_,I.laid (t':=s.toks) (o:=.lst (iM xs lo hi)) (fun b ob q=>get?_push_of_some _ q) (le_refl _) ?_,rfl,q _ (I.aW.fresh (le_refl _))⟩;exact⟨le_trans (j8 xs lo hi) hz,_,0,(r.drop (HT.d4 xs.length 0 lo)).take (HT.d4 xs.length xs.length hi - HT.d4 xs.length 0 lo),get?_push_size _ rfl⟩
noncomputable def mN:V->Bool
 | .aU=>true
 | .bl _=>true
 | .int _=>true
 | .str _=>true
 |_=>false
noncomputable def HY:V->V->Bool
 | .aU,.aU=>true
 | .bl a,.bl b=>a==b
 | .bl a,.int b=>(if a then 1 else 0)==b
 | .int a,.bl b=>a==(if b then 1 else 0)
 | .int a,.int b=>a==b
 | .str a,.str b=>a==b
 |_,_=>false
theorem MG {y x:V} (ry:RelV y u) (rx:RelV x v) (fy:mN y=true) (fx:mN x=true):SeqAt.EqAt A s u v (HY y x):=by
 cases y with
 |aU=>
  cases ry;cases x with
  |aU=>cases rx;exact SeqAt.EqAt.same _
  |bl b=>cases rx;exact SeqAt.EqAt.none_bool b
  |int b=>obtain⟨t,rfl⟩:=rx;exact SeqAt.EqAt.none_int b t
  |str b=>obtain⟨t,rfl⟩:=rx;exact SeqAt.EqAt.none_str b t
  |_=>exact absurd (show false=true from fx) Bool.false_ne_true
 |bl a=>
  cases ry;cases x with
  |aU=>cases rx;exact SeqAt.EqAt.bool_none a
  |bl b=>cases rx;exact SeqAt.EqAt.bool_bool a b
  |int b=>obtain⟨t,rfl⟩:=rx;exact SeqAt.EqAt.bool_int a b t
  |str b=>obtain⟨t,rfl⟩:=rx;exact SeqAt.EqAt.bool_str a b t
  |_=>exact absurd (show false=true from fx) Bool.false_ne_true
 |int a=>
  obtain⟨t',rfl⟩:=ry;cases x with
  |aU=>cases rx;exact SeqAt.EqAt.int_none a t'
  |bl b=>cases rx;exact SeqAt.EqAt.int_bool a t' b
  |int b=>obtain⟨t,rfl⟩:=rx;exact SeqAt.EqAt.int_int a t' b t
  |str b=>obtain⟨t,rfl⟩:=rx;exact SeqAt.EqAt.int_str a t' b t
  |_=>exact absurd (show false=true from fx) Bool.false_ne_true
 |str a=>
  obtain⟨t',rfl⟩:=ry;cases x with
  |aU=>cases rx;exact SeqAt.EqAt.str_none a t'
  |bl b=>cases rx;exact SeqAt.EqAt.str_bool a t' b
  |int b=>obtain⟨t,rfl⟩:=rx;exact SeqAt.EqAt.str_int a t' b t
  |str b=>obtain⟨t,rfl⟩:=rx;exact SeqAt.EqAt.str_str a t' b t
  |_=>exact absurd (show false=true from fx) Bool.false_ne_true
 |_=>exact absurd (show false=true from fy) Bool.false_ne_true
noncomputable def JP (x:V) (u:Value):Bool:=match u with
 | .none=>HY .aU x
 | .bool b=>HY (.bl b) x
 | .int i _=>HY (.int i) x
 | .str z _=>HY (.str z) x
 |_=>false
theorem G6 {y:V} (r:RelV y u) (f:mN y=true):JP x u=HY y x:=by
 cases y with
 |aU=>cases r;rfl
 |bl b=>cases r;rfl
 |int i=>obtain⟨t,rfl⟩:=r;rfl
 |str z=>obtain⟨t,rfl⟩:=r;rfl
 |_=>exact absurd (show false=true from f) Bool.false_ne_true
theorem vL:∀{xs:List V} {us:List Value},Vals xs us->xs.all mN=true->us.any (JP x)=xs.any fun y=>HY y x
 |_,_,.nil,_=>rfl
 |y::xs,u::us,.cons r t,f=>by
  rw[all_cons,and_eq_true]at f;rw[any_cons,any_cons,G6 r f.1,vL t f.2]
theorem qB (rx:RelV x v) (fx:mN x=true):∀{xs:List V} {us:List Value},Vals xs us->xs.all mN=true->∀u∈us,SeqAt.EqAt A s u v (JP x u)
 |_,_,.nil,_=>fun u hu=>by cases hu
 |y::xs,u::us,.cons r t,f=>fun u' hu=>by
  rw[all_cons,and_eq_true]at f;rcases mem_cons.mp hu with rfl|hu
  .rw[G6 r f.1];exact MG r rx f.1 fx
  .exact qB rx fx t f.2 u' hu
noncomputable def QP (x:V) (xs:List V):Bool:=xs.any fun y=>HY y x
def GD (K:Frag) (neg:Bool):R2:=fun x y H Q=>∃p xs,y= .ref p/\(bM K H p xs\/ bO K H p xs)/\mN x=true/\xs.all mN=true/\Q (.bl (if neg then !QP x xs else QP x xs)) H
theorem uC:qR X (compareOp .NotIn) (GD X.K true):=by
 intro pins s σ H x y v u Q I rx ry h;obtain⟨p,xs,rfl,hq,fx,fs,q⟩:=h;cases ry;rcases hq with hq|hq
 .obtain⟨its,r,pl,hz⟩:=I.list hq;refine SeqAt.notIn_listAt (JP x) pl.isList (fun w hw=>qB rx fx r fs w (by simpa using hw)) ⟨.bl _,H,I,rfl,?_⟩;rw[show its.toArray.any (JP x)=its.any (JP x) by simp,vL r fs];exact q
 .obtain⟨its,r,pl,hz⟩:=I.tuple hq;refine SeqAt.notIn_tupleAt (JP x) pl (fun w hw=>qB rx fx r fs w (by simpa using hw)) ⟨.bl _,H,I,rfl,?_⟩;rw[show its.toArray.any (JP x)=its.any (JP x) by simp,vL r fs];exact q
theorem uP:eU X (.builtin "len") (fun xs H Q=>∃p ys,xs=[.ref p]/\(bM X.K H p ys\/ bO X.K H p ys)/\Q (.int ys.length) H):=by
 intro pins s σ H xs us Q I r h;obtain⟨p,ys,rfl,hq,q⟩:=h;obtain⟨u,rfl,rx⟩:=vals1 r;cases rx;have hn:=nG;rcases hq with hq|hq
 .obtain⟨its,r',pl,hz⟩:=I.list hq;have hlen:=r'.length;exact Calls.call_len_list pl.isList (by simp only[size_toArray]<;>omega) ⟨.int ys.length,H,I.tok _,⟨s.toks+1,by rw[size_toArray,hlen]⟩,q⟩
 .obtain⟨its,r',pl,hz⟩:=I.tuple hq;have hlen:=r'.length;exact len_tuple pl (by simp only[size_toArray]<;>omega) ⟨.int ys.length,H,I.tok _,⟨s.toks+1,by rw[size_toArray,hlen]⟩,q⟩
theorem rP:eU X (.type "tuple") (fun xs H Q=>∃p ys,xs=[.ref p]/\((bM X.K H p ys/\∀l,H l=none->Q (.ref l) (upd H l (.tup ys)))\/ (bO X.K H p ys/\Q (.ref p) H))):=by
 intro pins s σ H xs us Q I r h;obtain⟨p,ys,rfl,h⟩:=h;obtain⟨u,rfl,rx⟩:=vals1 r;cases rx;rcases h with⟨hq,q⟩|⟨hq,q⟩
 .obtain⟨its,r',pl,hz⟩:=I.list hq;have hlen:=r'.length;refine call_tuple_list pl.isList (fun h' kp=>?_) (by simp only[size_toArray]<;>omega);have I1:Inv X pins σ H {s with heap:=h'}:=I.kept (t':=s.toks) kp;have I2:Inv X pins σ (upd H h'.objs.size (.tup ys)) {s with heap:=h'.push {cls:=.type "tuple",data:=.seq its.toArray}}:=
   I1.laid (t':=s.toks) (fun b o e=>get?_push_of_some _ e) (le_refl _) (show cV X.prog X.w _ _ _ (.tup ys)from⟨hz,its,r',nX.new _ _⟩)
  exact⟨.ref h'.objs.size,_,I2,rfl,q _ (I1.aW.fresh (le_refl _))⟩
 .obtain⟨its,r',pl,hz⟩:=I.tuple hq;exact call_tuple_same pl ⟨.ref p,H,I,rfl,q⟩
def GG (K:Frag) (T:String) (x:V) (H:Hp):Prop:=match x with
 | .str _=>T="str"
 | .int _=>T="int"
 | .ref p=>(T="list"/\∃xs,bM K H p xs)\/ (T="tuple"/\∃o,K.lookup p=some o/\o.cls= .type "tuple"/\o.dict=none)\/
   (T="dict"/\((∃kvs ep,H p=some (.dK kvs ep))\/ ∃kvs,H p=some (.dT kvs)))\/ (T="set"/\∃S n,H p=some (.set S n))
 |_=>False
theorem MY {T:String} {x:V} (I:Inv X pins σ H s) (r:RelV x v) (ty:GG X.K T x H):
  s.TypeIs v T/\∀a,v= .ref a->∃ob,s.heap.get? a=some ob/\ob.dict=none:=by
 cases x with
 |str z=>
  obtain⟨t,rfl⟩:=r;cases(show T="str"from ty);exact⟨typeIs_str s z t,fun _ e=>nomatch e⟩
 |int i=>
  obtain⟨t,rfl⟩:=r;cases(show T="int"from ty);exact⟨typeIs_int s i t,fun _ e=>nomatch e⟩
 | ref p=>
  cases r;rcases ty with⟨rfl,xs,hq⟩|⟨rfl,o,hk,hc,hd⟩|⟨rfl,hk⟩|⟨rfl,S,n,hk⟩
  .obtain⟨its,_,pl,_⟩:=I.list hq;refine⟨pl.isList.typeIs,fun a e=>?_⟩;cases e;obtain⟨o,n,e,c,hd,_⟩:=pl;exact⟨o,e,hd⟩
  .refine⟨⟨o,I.OC p o hk,hc⟩,fun a e=>?_⟩;cases e;exact⟨o,I.OC _ o hk,hd⟩
  .have z:∃o,s.heap.get? p=some o/\o.ExactDict:=by
    rcases hk with⟨kvs,ep,hk⟩|⟨kvs,hk⟩
    .obtain⟨_,_,_,_,o,_,e,ex,_⟩:=I.aW p _ hk;exact⟨o,e,ex⟩
    .obtain⟨_,_,_,_,o,_,_,e,ex,_⟩:=I.aW p _ hk;exact⟨o,e,ex⟩
   obtain⟨o,e,ex⟩:=z;refine⟨⟨o,e,ex.1⟩,fun a e2=>?_⟩;cases e2;exact⟨o,e,ex.2.1⟩
  .obtain⟨o,_,_,_,e,ex,_⟩:=I.aW p _ hk;refine⟨⟨o,e,ex.1⟩,fun a e2=>?_⟩;cases e2;exact⟨o,e,ex.2.1⟩
 |_=>exact False.elim ty
def EK (K:Frag) (T:String) (r:V->List V->Hp->VK->Prop) (to:TE) (t:TA):TE:=fun σ H Q=>to σ H fun x H1=>GG K T x H1/\t σ H1 fun xs H2=>r x xs H2 Q
variable {o e:Expr} {es:List Expr} {to:TE} {t:TA} {name:Str} {apos cpos:Pos} {T id:String} {r:V->List V->Hp->VK->Prop}
theorem O8 (pa:PlainAttrs T) (slot:Slot T name id) (hty:typeOf (.builtin id)=pure (.type "method_descriptor")) (hm:O2 X id r) (ho:PE X o to) (ha:PA X (e::es) t)
  (hbase:attributeBase o name X.env (eval o X.env)=eval o X.env:=by rfl)
  (hfew:((backTo cpos (starEach (e::es) X.env)).all (fun x=>!x.1) && (backToKw cpos (keywordEach [] X.env)).all (fun x=>x.1.isSome)
   && decide ((e::es).length+([]:List Keyword).length+(if([]:List Keyword).isEmpty then 0 else 1)<30))=true:=by rfl)
  (hline:(apos.endLine==cpos.line)=true:=by rfl) (hs:starEach (e::es) X.env=(false,eval e X.env)::starEach es X.env:=by rfl) (hplain:(backTo cpos (starEach es X.env)).any (·.1)=false:=by rfl):
  PE X (.Call (.Attribute o name apos) (e::es) [] cpos) (EK X.K T r to t):=by
 intro pins s σ H Q I h;refine wpAny_Call_method_late hbase hfew hline rfl (cG (ho pins s σ H _ I h) fun v s1 ⟨x,H1,I1,r1,ty,q1⟩=>?_);obtain⟨h1,h2⟩:=MY I1 r1 ty;refine⟨T,id,pa,slot,hty,h1,h2,?_⟩;have hA:=ha cpos pins s1 σ H1 _ I1 q1;rw[hs]at hA⊢
 refine Calls.callWith_builtin (by show(false||(backTo cpos (starEach es X.env)).any (·.1))=false;rw[hplain]<;>rfl) (Calls.evalArgs_plain ?_);exact cG hA fun us s2 ⟨vs,H2,I2,r2,q2⟩=>hm pins s2 σ H2 x vs v us Q I2 r1 r2 q2
end
def R6 (X:Cx) (id:String) (r:V->List V->Hp->VK->Prop):Prop:=
 ∀(pins:List (Addr×Obj)) (s:Shared) (σ:St) (H:Hp) (x:V) (xs:List V) (v:Value) (us:List Value) (Q:VK),Inv X pins σ H s->RelV x v->Vals xs us->r x xs H Q->
  wpAny (model X.prog X.w) X.A (call (.builtin id) (v::us)) (EP X pins σ Q) X.xe s
theorem Vals.one:∀{x:V} {us:List Value},Vals [x] us->∃u,us=[u]/\RelV x u
 |_,_,.cons r .nil=>⟨_,rfl,r⟩
section
variable {X:Cx} {pins:List (Addr×Obj)} {σ:St} {H:Hp} {s:Shared} {l b:Addr} {xs ys zs:List V}
theorem Inv.RH {f:Array Value->Array Value} (I:Inv X pins σ H s) (hH:H l=some (.lst xs))
  (e:s.heap.get? l=some {cls:=.type "list",data:=.seq its.toArray n}) (hf:f its.toArray=its'.toArray) (hv:Vals ys its') (hz:ys.length<=sizeLine):
  Inv X pins σ (upd H l (.lst ys)) {s with heap:=s.heap.update l (Obj.mapSeq f),toks:=t'}:=by
 have q:=PySem.IsL.update e f;rw[hf]at q;refine I.write (x:=l) (e:=l) (by rw[hH];exact trivial) (.inl rfl) (fun b' u hb hu=>(get?_update_other s.heap (Obj.mapSeq f) (Ne.symm hb)).trans hu) ⟨_,q⟩ ?_;exact⟨hz,its',_,hv,q⟩
theorem Inv.Q7 (I:Inv X pins σ H s) (hv:Vals ys its) (hz:ys.length<=sizeLine):
  Inv X pins σ (upd H s.heap.objs.size (.lst ys)) {s with heap:=s.heap.push {cls:=.type "list",data:=.seq its.toArray},toks:=t'}:=
 I.laid (fun _ _ q=>get?_push_of_some _ q) (le_refl _) ⟨hz,its,0,hv,get?_push_size _ rfl⟩
theorem Inv.fresh (I:Inv X pins σ H s):H s.heap.objs.size=none:=I.aW.fresh (le_refl _)
theorem Inv.MH (I:Inv X pins σ H s) (hH:H l=some (.lst xs)):xs.length<=sizeLine/\∃(its:List Value) (n:Nat),Vals xs its/\xs.length=its.length/\s.heap.get? l=some {cls:=.type "list",data:=.seq its.toArray n}:=by
 obtain⟨z,its,n,r,e⟩:=I.aW l _ hH;exact⟨z,its,n,r,r.length,e⟩
end
section
variable {X:Cx}
def fC:V->List V->Hp->VK->Prop:=fun x vs H Q=>∃l xs y,x= .ref l/\vs=[y]/\H l=some (.lst xs)/\xs.length<sizeLine/\Q .aU (upd H l (.lst (xs++[y])))
theorem d9:R6 X "list.append" fC:=by
 intro pins s σ H x vs v us Q I rx rv h;obtain⟨l,xs,y,rfl,rfl,hH,hz,q⟩:=h;cases rx;obtain⟨u,rfl,ru⟩:=rv.one;obtain⟨z,its,n,r,hl,e⟩:=I.MH hH;refine call_meets F.slot_list_append ⟨_,e,rfl⟩ F.entry_list_append (F.args_list_append_2 _ _) (PySem.list_append l its.toArray n u (by rw[size_toArray];omega)) ⟨e,?_⟩;refine⟨.aU,_,I.RH (its':=its++[u]) hH e (by simp) (r.append (.cons ru .nil)) ?_,rfl,q⟩;rw[length_append,List.length_singleton];omega
def rT:R2:=fun x y H Q=>∃l b xs zs,x= .ref l/\y= .ref b/\H l=some (.lst xs)/\H b=some (.lst zs)/\xs.length+zs.length<=sizeLine/\∀p,H p=none->Q (.ref p) (upd H p (.lst (xs++zs)))
theorem NQ:qR X (binaryOp .Add) rT:=by
 intro pins s σ H x y v u Q I rx ry h;obtain⟨l,b,xs,zs,rfl,rfl,hH,hB,hz,q⟩:=h;cases rx;cases ry;obtain⟨z,its,n,r,hl,e⟩:=I.MH hH;obtain⟨z2,its2,n2,r2,hl2,e2⟩:=I.MH hB;refine PySem.P.add_list e e2 ?_ (by rw[size_toArray,size_toArray];omega);have ea:its.toArray++its2.toArray=(its++its2).toArray:=by simp
 rw[ea];exact⟨.ref _,_,I.Q7 (t':=s.toks) (r.append r2) (by rw[length_append];omega),rfl,q _ I.fresh⟩
end
end L2
namespace RX
open PySem PySem.W PySem.Calls PyProof.Rows
variable {h:Heap} {n:Nat} {l:OpenLaw}
theorem o6 {P:Params}:∀(ns:List Int) (vs:List Value),WellAll P h vs (ns.map WData.int)->IntsAre vs ns:=by
 intro ns
 induction ns with
 |nil=>
  intro vs w;rw[map_nil]at w;cases w;exact .nil
 | cons n ns ih=>
  intro vs w;rw[map_cons]at w;cases w with
  |cons a b=>
   cases a;exact .cons _ _ (ih _ b)
theorem D0 (hn:l.most=some n) {P:Params} {args:List WData} {vals:List Value}
  (hpre:l.row.toRowW.claim.pre args=true) (hwl:WellAll P h vals args):
  ∃a vs ns,vals=[Value.ref a]/\args=[WData.list (ns.map WData.int)]/\h.get? a=some {cls:=.type "list",data:=.seq vs.toArray}/\IntsAre vs ns/\ns.length<=n:=by
 have hsh:WShape.hasAll [] args [.list .int]=true:=(pre_splitW hpre).1;have hc:l.pre.holds [] {args:=args}=true:=(pre_splitW hpre).2;obtain⟨d,r,rfl,h1,h2⟩:=hasAllW_cons hsh;obtain rfl:=hasAllW_nil h2;obtain⟨xs,rfl,h3⟩:=hasW_list h1;obtain⟨ns,rfl⟩:=items_int h3;have hlen:ns.length<=n:=by
  unfold OpenLaw.pre at hc;have h4:(WTm.not (.lt (.lit (.int (n:Int))) (.len (.arg 0)))).holds [] {args:=[.list (ns.map .int)]}=true:=by
   have h4:=(holds_andW hc).1;rw[hn]at h4;exact h4
  have h5:=condW_of h4 (w_not (w_lt w_lit (w_len_list (w_arg rfl))));rw[length_map]at h5;refine le_of_not_lt fun q=>?_
  have q':(n:Int)<((ns.length:Nat):Int):=by omega
  first
   |(rw[decide_eq_true q']at h5;exact absurd h5 (by decide))
   |(simp at h5;omega)
 cases hwl with
 |cons w1 w2=>
  cases w2;cases w1 with
  |list ho hall=>exact⟨_,_,ns,rfl,rfl,ho,o6 ns _ hall,hlen⟩
theorem C6 (l:OpenLaw) (args:List WData):l.row.toRowW.claim.post args (.bool true) args=true:=
 postW_of (r:=l.row.toRowW) (X:=(true==true))
  (show WShape.has [] (.bool true) .bool=true by first|rfl|decide|simp[WShape.has,WShape.arms,WShape.armsAll])
  (show(WTm.eq .res (.lit (.bool true))).value [] {args:=args,res:=some (.bool true),after:=args}=some (.bool (true==true))from w_eq_bool (w_res rfl) w_lit) rfl
theorem w9 {q:Program} {loose:List Str} {XP:(Str->Option Value)->Heap->Prop} {YP:World->Heap->Prop} {d:DefRec}
  (hn:l.most=some n) (hdf:d.params.defaults=[])
  (call:∀(w:World) (gE s₁:Shared) (mg mb:Str->Option Value) (fa:Addr) (o:Obj) (pm cd doc:Value) (a:Addr) (vs:List Value) (ns:List Int),
   Ground q loose [] XP w gE mg mb s₁.heap->YP w s₁.heap->
   s₁.heap.get? fa=some o->o.data= .func (docDef d.name d.params d.body d.scope pm cd doc)->s₁.heap.CodeRec cd d.name->mg d.name=some (.ref fa)->
   s₁.heap.get? a=some {cls:=.type "list",data:=.seq vs.toArray}->IntsAre vs ns->ns.length<=n->s₁.gens= #[]->
   codeAny (model l.prog w) callerA (.call (.ref fa) ⟨[.ref a],[]⟩) (fun r s'=>r= .ok (.ret (.bool true))/\OldK s₁.heap s'.heap/\s'.os=s₁.os/\AllBare s'.gens) s₁):
  WalkO q loose XP YP l.row.toRowW d [] (fun f vs=>PySem.call f vs):=by
 intro w gE s₁ mg mb G Y fa o pm cd doc dV kV ho hd hcd hD hmg hg args vals as hpre hlay hrd hwl hlo;obtain rfl:dV= .none:=Dflts.none hD hdf;obtain rfl:kV= .none:=Dflts.noKw hD;obtain⟨a,vs,ns,rfl,rfl,hobj,hints,hlen⟩:=D0 hn hpre hwl;refine enter_call (codeAny_mono (call w gE s₁ mg mb fa o pm cd doc a vs ns G Y ho (fd_plain hd) hcd hmg hobj hints hlen hg) fun r s' hq=>?_);obtain⟨rfl,h2,h3,h4⟩:=hq;exact⟨.inl ⟨.bool true,.bool true,[],rfl,fun _=>rfl,.bool true,C6 l _,fun _=>⟨List.Pairwise.nil,fun _ hm=>(nomatch hm)⟩⟩,h2,h3,h4⟩
end RX
namespace L2
open PySem PySem.Spec PyProof.Rows
variable {f:Addr} {fd:FuncData} {H:Hp} {ps:List Str} {k:Nat} {A B:Prop} {sp:Sp} {st:Stmt} {qual x:Str}
theorem sO:∀{vs:List Value} {ns:List Int},IntsAre vs ns->Vals (ns.map V.int) vs
 |_,_,.nil=>.nil
 |_,_,.cons n t h=>.cons ⟨t,rfl⟩ (sO h)
def NY (H:Hp):Prop:=∀b,H b=none\/ ∃o xs,H b=some (.HL o (.lst xs))
theorem E2 {P:Program} {w:World} {K:Frag} {mg mb:Str->Option Value} {CX:CW} {fa a:Addr} {s₁:Shared} {vs:List Value} {ns:List Int}
  (KX:K.In s₁.heap) (hns:s₁.heap.Ns mainGlobals mg) (hb:s₁.heap.Ns builtinsNs mb) (hbb:∀x:Str,x≠"__name__"->mb x=bootBuiltins x) (hlim:s₁.heap.NoLimit) (hg:s₁.gens= #[])
  (ha:s₁.heap.get? a=some {cls:=.type "list",data:=.seq vs.toArray}) (hi:IntsAre vs ns) (hl:ns.length<=sizeLine) (hr:eL k callerA)
  (F:∀base:Heap,K.In base->base.Ns mainGlobals mg->bB P w K mg base CX k fa fd [x] sp) (hbind:∀(s:Shared) (u:Value),BindsTo s fd ⟨[u],[]⟩ [(x,u)])
  (hsp:∀H:Hp,NY H->bM K H a (ns.map V.int)->sp [.ref a] H (fun v _=>v= .bl true) fun _ _ _=>False)
  (hCX:∀H e s',CX [] H s₁ (fun _ _ _=>False) e s'->False):
  codeAny (model P w) callerA (.call (.ref fa) ⟨[.ref a],[]⟩) (fun r s'=>r= .ok (.ret (.bool true))/\OldK s₁.heap s'.heap/\s'.os=s₁.os/\AllBare s'.gens) s₁:=by
 have rv:=sO hi;have lenV:=hi.length;have core:∀H:Hp,NY H->bM K H a (ns.map V.int)->jE P w H s₁.heap->(∀b,H b≠none->b=a)->(H a≠none->K.lookup a=none)->
   codeAny (model P w) callerA (.call (.ref fa) ⟨[.ref a],[]⟩) (fun r s'=>r= .ok (.ret (.bool true))/\OldK s₁.heap s'.heap/\s'.os=s₁.os/\AllBare s'.gens) s₁:=by
  intro H hO hS aW hA hK;have base_of:∀{b:Addr} {o:Obj},s₁.heap.get? b=some o->H b=none->(vX s₁.heap H).get? b=some o:=fun e n=>EB e n
  have CI:∀{b:Addr} {o:Obj} {es:Array DictEntry} {ep:Nat},s₁.heap.get? b=some o->o.data= .dict es ep->H b=none:=fun{b o es ep} e d=>by
   cases q:H b with
   |none=>rfl
   |some u=>
    have e':b=a:=hA b (by rw[q];simp);subst e';rw[ha]at e;cases e
    have d':Data.seq vs.toArray _=Data.dict es ep:=d;cases d'
  have nsK:∀{b:Addr} {m:Str->Option Value},s₁.heap.Ns b m->(vX s₁.heap H).Ns b m:=fun{b m} ⟨o,es,ep,e,d,r⟩=>⟨o,es,ep,base_of e (CI e d),d,r⟩
  have hKb:K.In (vX s₁.heap H):=fun b o e=>base_of (KX b o e) (by
   cases q:H b with
   |none=>rfl
   |some u=>
    have e':b=a:=hA b (by rw[q];simp);subst e';rw[hK (by rw[q];simp)]at e;cases e)
  have hM:Mod K mg (vX s₁.heap H):=⟨hKb,nsK hns,⟨mb,nsK hb,hbb⟩,let⟨mc,h1,h2⟩:=hlim;⟨mc,nsK h1,h2⟩⟩;have e0:IL P w K mg (vX s₁.heap H) callerA [] s₁ H:=⟨rfl,hM,fun b o e=>KR e,Nat.le_of_eq (DP _ _),trivial,fun b hb=>absurd (show b∈([]:List Addr)from hb) (by simp),aW,.of_eq hg⟩;refine codeAny_mono ((F _ hKb (nsK hns)).run callerA [] s₁ H ⟨[.ref a],[]⟩ [.ref a] [.ref a] _ _ hr e0 (hbind s₁ (.ref a)) (.cons rfl .nil) (hsp H hO hS)) fun r s' h=>?_
  cases r with
  |error e=>exact(hCX H e s' h).elim
  | ok fl=>
   cases fl with
   |next=>exact False.elim h
   |brk=>exact False.elim h
   |cont=>exact False.elim h
   | ret u=>
    obtain⟨v,H',os,bare,un,hok',r',q⟩:=h;have q':v= .bl true:=q;subst q';obtain rfl:u=Value.bool true:=r';refine⟨rfl,OldK.of_keep fun b o e=>?_,os,bare⟩;cases q:H b with
    |none=>exact un.keep b o e q (by intro z;exact absurd (show b∈([]:List Addr)from z) (by simp)) (by simp)
    | some u=>
     rcases hO b with z|⟨ob,xs,z⟩
     .rw[q]at z;cases z
     .have z2:=un.pV b ob _ z;obtain⟨e1,_⟩:=aW b _ z;obtain⟨e2,_⟩:=hok' b _ z2;rw[e]at e1;cases e1
      exact e2
 cases hk:K.lookup a with
 |some o=>
  have e:=KX a o hk;rw[ha]at e;cases e;refine core (fun _=>none) (fun _=>.inl rfl) (.inr ⟨_,vs.toArray,_,hk,rfl,rfl,rfl,by rw[size_toArray,lenV];exact hl,by simpa using rv⟩) (fun b u z=>by have z':(none:Option HO)=some u:=z;cases z') (fun b z=>absurd rfl z) fun z=>absurd rfl z
 | none=>
  refine core (fun b=>if b=a then some (.HL {cls:=.type "list",data:=.seq vs.toArray} (.lst (ns.map V.int)))else none) (fun b=>?_) (.inl (.inr ⟨{cls:=.type "list",data:=.seq vs.toArray},if_pos rfl⟩)) (fun b u z=>?_) (fun b z=>?_) fun _=>hk
  .by_cases hb:b=a
   .exact .inr ⟨_,_,if_pos hb⟩
   .exact .inl (if_neg hb)
  .by_cases hb:b=a
   .have z':=(if_pos hb).symm.trans z;cases z';subst hb;exact⟨ha,by rw[length_map];exact hl,vs,_,rv,ha⟩
   .have z':=(if_neg hb).symm.trans z;cases z'
  .by_cases hb:b=a
   .exact hb
   .exact absurd (if_neg hb) z
theorem KU {l:PySem.W.OpenLaw} {n:Nat} {q:Program} {loose:List Str} {XP:(Str->Option Value)->Heap->Prop} {YP:World->Heap->Prop} {d:DefRec} {K:Params->Frag} {CX:World->CW} {sp:World->Sp}
  (hn:l.most=some n) (hn2:n<=sizeLine) (hdf:d.params.defaults=[]) (hr:eL k callerA)
  (hY:∀(w:World) (h:Heap),YP w h->(K w.params).In h)
  (F:∀(w:World) (mg:Str->Option Value) (fa:Addr) (h:Heap),(K w.params).In h->h.Ns mainGlobals mg->mg d.name=some (.ref fa)->
   ∃fd:FuncData,(∀(s:Shared) (u:Value),BindsTo s fd ⟨[u],[]⟩ [(x,u)])/\
    ∀base:Heap,(K w.params).In base->base.Ns mainGlobals mg->bB l.prog w (K w.params) mg base (CX w) k fa fd [x] (sp w))
  (hsp:∀(w:World) (H:Hp) (a:Addr) (ns:List Int),ns.length<=n->NY H->bM (K w.params) H a (ns.map V.int)->sp w [.ref a] H (fun v _=>v= .bl true) fun _ _ _=>False)
  (hCX:∀(w:World) (H:Hp) (s:Shared) (e:Value) (s':Shared),CX w [] H s (fun _ _ _=>False) e s'->False):
  PySem.W.WalkO q loose XP YP l.row.toRowW d [] (fun f vs=>PySem.call f vs):=by
 refine RX.w9 hn hdf fun w gE s₁ mg mb fa o pm cd doc a vs ns G Y ho hd hcd hmg hobj hints hlen hg=>?_
 have KX:=hY w _ Y;obtain⟨fd,hb,hF⟩:=F w mg fa _ KX G.T.g hmg;exact E2 KX G.T.g G.T.b G.T.builtins G.T.nolimit hg hobj hints (le_trans hlen hn2) hr hF hb (fun H hO hS=>hsp w H a ns hlen hO hS) fun H e s'=>hCX w H s₁ e s'
abbrev d8:CW:=fun _ _ _ _ _ _=>False
abbrev E0:XK:=fun _ _ _=>False
theorem QB {X:Cx}:Passes d8 X E0:=fun _ _ _ _ _ _ _ h=>h.elim
structure OH (K:Frag) (x qual:Str) (st:Stmt) (f:Addr) (fd:FuncData):Prop where
 ex:∃(oc:Value) (od:Option Addr) (kV doc pm:Value) (an:Option Addr) (cdv ct:Value) (osl:Array (Option Value)),
  fd=fnOf x qual (aN st) (aM st) (aC st) .none kV doc pm an cdv ct/\K.lookup f=some ⟨oc,od,.func fd,osl⟩/\codeIn K cdv qual=true
 kp:keepIn K (.ref f)=true
section
variable {P:Program} {w:World} {K:Frag} {mg:Str->Option Value} {base:Heap}
theorem OH.ok {N:List Str} (F:OH K x qual st f fd) (S:aZ N ps (aC st)) (len:∀vs H Q E,sp vs H Q E->vs.length=ps.length)
  (hbody:∀(cdv:Value) (A:Around) (outer:List Env) (s:Shared) (H:Hp) (vs:List V) (Q:VK) (E:XK),eL k (A.deeper (envOfC qual (aC st) s.heap.objs.size f cdv))->sp vs H Q E->
   ∃t,zG (AF d8 P w K mg base N qual (aC st) f cdv A outer s H E).QK (aM st) t/\t {nx:=fun _ H'=>Q .aU H',rt:=Q} (start N vs) H):bB P w K mg base d8 (k+1) f fd ps sp:=by
 obtain⟨oc,od,kV,doc,pm,an,cdv,ct,osl,rfl,lk,hcd⟩:=F.ex;refine OK lk hcd S len fun A outer s H vs Q E hr hsp=>?_
 obtain⟨t,h,q⟩:=hbody cdv A outer s H vs Q E hr hsp;exact⟨t,h.QK,q⟩
theorem OH.binds (F:OH K x qual st f fd)
  (h:∀(kV doc pm:Value) (an:Option Addr) (cdv ct:Value) (us:List Value),us.length=ps.length->bindArgs (fnOf x qual (aN st) (aM st) (aC st) .none kV doc pm an cdv ct) ⟨us,[]⟩=pure (ps.zip us)):Binds K fd ps []:=by
 obtain⟨oc,od,kV,doc,pm,an,cdv,ct,osl,rfl,lk,hcd⟩:=F.ex;exact .all (h kV doc pm an cdv ct)
theorem bT {oc:Value} {od an:Option Addr} {osl:Array (Option Value)} {kV doc pm cdv ct:Value} (l:K.lookup f=some ⟨oc,od,.func (fnOf x qual (aN st) (aM st) (aC st) .none kV doc pm an cdv ct),osl⟩)
  (c:codeIn K cdv qual=true) (k:keepIn K (.ref f)=true):OH K x qual st f (fnOf x qual (aN st) (aM st) (aC st) .none kV doc pm an cdv ct):=⟨⟨oc,od,kV,doc,pm,an,cdv,ct,osl,rfl,l,c⟩,k⟩
end
theorem fD {A:Around} (hr:eL k A):A.units+1<cLine:=lt_of_le_of_lt (Nat.add_le_add_left (by decide:1<=64) _) hr.units
section
variable {X:Cx}
theorem pv (i:Nat) {pos:Pos} (hN:X.N[i]? =some x:=by rfl) (hv:RL X.env.scope x:=by first|exact Or.inl rfl|exact Or.inr (Or.inl rfl)|exact Or.inr (Or.inr rfl)) (hd:(x==("__debug__":Str))=false:=by decide)
  (hcd:(x==("__classdict__":Str))=false:=by decide):PE X (.Name x pos) (fI i):=L0 hN hv hd hcd
end
theorem jH (h:B):if false=true then A else B:=by
 rw[if_neg Bool.false_ne_true];exact h
theorem kM (h:A):if true=true then A else B:=by
 rw[if_pos rfl];exact h
theorem RS {c:Prop} [Decidable c] (h1:c->A) (h2:¬c->B):if c then A else B:=by
 by_cases h:c
 .rw[if_pos h];exact h1 h
 .rw[if_neg h];exact h2 h
def aG (H H':Hp):Prop:=∀b o,H b=some o->H' b=some o
theorem aG.refl (H:Hp):aG H H:=fun _ _ h=>h
theorem aG.trans {H1 H2:Hp} (a:aG H H1) (b:aG H1 H2):aG H H2:=fun c o h=>b c o (a c o h)
theorem aG.seq {K:Frag} {H':Hp} {a:Addr} {xs:List V} (e:aG H H') (h:bM K H a xs):bM K H' a xs:=by
 rcases h with(h|⟨o,h⟩)|h
 .exact .inl (.inl (e _ _ h))
 .exact .inl (.inr ⟨o,e _ _ h⟩)
 .exact .inr h
end L2
set_option maxHeartbeats 4000000
namespace L2
open PySem PySem.Spec PyProof.Rows
variable {C a p:Addr} {X:Cx} {env:Env} {o:HO} {H H' H1 H2:Hp} {pins:List (Addr×Obj)} {cl:List (Str×Addr)} {fp:List Addr} {N:List Str} {xs:List V} {n:Nat} {A B c:Prop} {K:Frag} {scope:Scope} {s2:Shared} {σ:St} {α:Type} {w:World}
theorem mB:∀(names:List (Str×NameKind)) (acc:List (Str×Addr)),(∀p∈names,p.2= .free->∃c,env.cells.lookup p.1=some c)->
  (∀y c,acc.lookup y=some c->env.cells.lookup y=some c)->
  ∃cl,(forIn names acc (fun(p:Str×NameKind) (cs:List (Str×Addr))=>if(p.2==NameKind.free)=true then(do let a<-cellOf env p.1;pure (ForInStep.yield ((p.1,a)::cs)))else(pure (ForInStep.yield cs):Sem _)):Sem _)=pure cl/\
   (∀y c,cl.lookup y=some c->env.cells.lookup y=some c)/\(∀y,(acc.lookup y).isSome=true->(cl.lookup y).isSome=true)/\∀y,(y,NameKind.free)∈names->(cl.lookup y).isSome=true
 |[],acc,_,h=>⟨acc,rfl,h,fun _ z=>z,fun _ z=>nomatch z⟩
 | (n,k)::r,acc,hf,h=>by
  by_cases hk:k= .free
  .subst hk;obtain⟨c,hc⟩:=hf (n,.free) mem_cons_self rfl;obtain⟨cl,e,h1,h2,h3⟩:=mB r ((n,c)::acc) (fun p hp=>hf p (mem_cons_of_mem _ hp)) (fun y d hd=>by
    rw[lookup_cons]at hd;cases q:y==n with
    |true=>rw[q]at hd;cases hd;rw[eq_of_beq q];exact hc
    |false=>rw[q]at hd;exact h y d hd)
   refine⟨cl,?_,h1,fun y hy=>h2 y ?_,fun y hy=>?_⟩
   .rw[forIn_cons];have e0:cellOf env n=pure c:=by unfold cellOf;rw[hc]
    simp only[beq_self_eq_true,if_true,e0,pure_bind];exact e
   .rw[lookup_cons];cases q:y==n with
    |true=>rfl
    |false=>exact hy
   .rcases mem_cons.mp hy with q|q
    .cases q;refine h2 n ?_;rw[lookup_cons,beq_self_eq_true];rfl
    .exact h3 y q
  .obtain⟨cl,e,h1,h2,h3⟩:=mB r acc (fun p hp=>hf p (mem_cons_of_mem _ hp)) h;refine⟨cl,?_,h1,h2,fun y hy=>?_⟩
   .rw[forIn_cons];have e0:(k==NameKind.free)=false:=by simpa using hk
    simp only[e0,false_eq_true,if_false,pure_bind];exact e
   .rcases mem_cons.mp hy with q|q
    .cases q;exact absurd rfl hk
    .exact h3 y q
theorem g6 {env:Env} {scope:Scope} (hf:∀p∈scope.names,p.2= .free->∃c,env.cells.lookup p.1=some c):
  ∃cl,closureFor scope env=pure cl/\(∀y c,cl.lookup y=some c->env.cells.lookup y=some c)/\∀y,(y,NameKind.free)∈scope.names->(cl.lookup y).isSome=true:=by
 obtain⟨cl,e,h1,_,h3⟩:=mB (env:=env) scope.names [] hf (fun y c h=>by simp at h);refine⟨cl,?_,h1,h3⟩;unfold closureFor;have e':=congrArg (fun m:Sem (List (Str×Addr))=>m>>=fun cs=>pure cs) e;simp only[pure_bind]at e';rw[<-e']
structure E6 where
 cl:List (Str×Addr)
 C:Addr
 s:Shared
 H:Hp
 ex:List Addr
noncomputable def aT (X:Cx) (scope:Scope) (N:List Str) (c:E6):Cx:=
 {X with N:=N,gE:=c.s,GX:=c.H,env:=compEnvC scope c.cl c.C X.env,outer:=X.stack,stack:=X.stack,ex:=c.ex,fn:=fun _=>false,pn:=[],xe:=fun _ _=>False}
noncomputable def bS (k:Nat) (cA:List Nat) (σ:St):St:=List.replicate k none++cA.map fun i=>(σ[i]?).getD none
def LJ:TT:=fun _ H Q=>Q true H
section
variable {prog:Program} {w:World} {A:Around} {R:Result->Shared->Prop} {s:Shared}
theorem tT {elt target iter:Expr} {ifs:List Expr} {pos:Pos} {it acc:Value} (I:Nat->Shared->Prop)
  (turn:∀n s,I n s->wpAny (model prog w) A (pyNext it) (fun r s₁=>match r with
   |none=>R (.ok .next) s₁
   | some v=>wpAny (model prog w) A (letOwnedTupleGo target it v) (fun _ s₁'=>wpAny (model prog w) A (assign target env v) (fun _ s₂=>
     wpAny (model prog w) A (forIn ifs true fun c r=>if r=true then do let ok<-isTrue c env (eval c env);pure (ForInStep.yield ok)else pure (ForInStep.yield r)) (fun ok s₃=>
      if ok=true then wpAny (model prog w) A (eval elt env) (fun x s₄=>
       wpAny (model prog w) A (call (.builtin "list.append") [acc,x]) (fun _ s₅=>∃m,m<n/\I m s₅) (fun _ _=>False) s₄) (fun _ _=>False) s₃
      else∃m,m<n/\I m s₃) (fun _ _=>False) s₂) (fun _ _=>False) s₁') (fun _ _=>False) s₁) (fun _ _=>False) s)
  (n:Nat) (h:I n s):
  codeAny (model prog w) A (.compLoop (.ListComp elt [⟨target,iter,ifs,0⟩] scope pos) 0 it acc env) R s:=by
 refine codeAny_loop rfl I (fun n s hI=>?_) n h;show wpAny _ A ((compTurn (.ListComp elt [⟨target,iter,ifs,0⟩] scope pos) 0 it acc env).onRaise (fun x=>do noteFrame x env;theTreesLotGoes x)) _ _ s;refine wpAny_noted ?_;refine wpAny_mono (E:=fun _ _=>False) ?_ (fun _ _ q=>q) (fun _ _ z=>z.elim);rw[compTurn_list];refine wpAny_bind (wpAny_standAt (wpAny_bind (wpAny_mono (turn n s hI) (fun r s₁ h₁=>?_) fun _ _ h'=>h')));cases r with
 |none=>exact wpAny_pure h₁
 | some v=>
  refine wpAny_bind (wpAny_mono h₁ (fun _ s₁' h₁'=>?_) fun _ _ h'=>h');refine wpAny_bind (wpAny_mono h₁' (fun _ s₂ h₂=>wpAny_bind (wpAny_mono h₂ (fun ok s₃ h₃=>?_) fun _ _ h'=>h')) fun _ _ h'=>h');cases ok with
  |false=>exact wpAny_pure ⟨rfl,h₃⟩
  |true=>
   exact wpAny_bind (wpAny_bind (wpAny_mono h₃ (fun x s₄ h₄=>wpAny_bind (wpAny_mono h₄ (fun _ s₅ h₅=>wpAny_pure (wpAny_pure ⟨rfl,h₅⟩)) fun _ _ h'=>h')) fun _ _ h'=>h'))
end
def K2 (X:Cx) (ifs:List Expr) (t:TT):Prop:=
 ∀(pins:List (Addr×Obj)) (s:Shared) (σ:St) (H:Hp) (Q:Bool->Hp->Prop),Inv X pins σ H s->t σ H Q->
  wpAny (model X.prog X.w) X.A (forIn ifs true fun c r=>if r=true then do let ok<-isTrue c X.env (eval c X.env);pure (ForInStep.yield ok)else pure (ForInStep.yield r)) (TP X pins σ Q) X.xe s
theorem dE:K2 X [] LJ:=fun pins s σ H Q I h=>wpAny_tests_nil ⟨H,I,h⟩
theorem vO {c:Expr} {t:TT} (h:PT X c t):K2 X [c] t:=fun pins s σ H Q I hq=>wpAny_tests_one (h pins s σ H Q I hq)
theorem eA {env:Env}:∀{names:List (Str×NameKind)} {x:Str},names.lookup x=some .free->
  (names.map fun(n,k)=>if(k==NameKind.free && env.scope.kind== .function && env.kindOf n==some .cell)then(n,NameKind.cell)else(n,k)).lookup x=some .cell\/
  (names.map fun(n,k)=>if(k==NameKind.free && env.scope.kind== .function && env.kindOf n==some .cell)then(n,NameKind.cell)else(n,k)).lookup x=some .free
 |[],_,h=>by simp at h
 | (n,k)::r,x,h=>by
  have ih:= @eA env r x;show List.lookup x ((if(k==NameKind.free && env.scope.kind== .function && env.kindOf n==some .cell)=true then(n,NameKind.cell)else(n,k))::_)=_\/ List.lookup x ((if(k==NameKind.free && env.scope.kind== .function && env.kindOf n==some .cell)=true then(n,NameKind.cell)else(n,k))::_)=_;cases hx:x==n with
  |true=>
   simp only[lookup_cons,hx]at h;cases h
   by_cases hc:(NameKind.free==NameKind.free && env.scope.kind== .function && env.kindOf n==some .cell)=true
   .rw[if_pos hc];left;simp only[lookup_cons,hx]
   .rw[if_neg hc];right;simp only[lookup_cons,hx]
  |false=>
   simp only[lookup_cons,hx]at h
   by_cases hc:(k==NameKind.free && env.scope.kind== .function && env.kindOf n==some .cell)=true
   .rw[if_pos hc];simp only[lookup_cons,hx];exact ih h
   .rw[if_neg hc];simp only[lookup_cons,hx];exact ih h
theorem gR {env:Env}:∀{names:List (Str×NameKind)} {x:Str},(∀y∈names,y.2≠ .cell)->
  ((names.map fun(n,k)=>if(k==NameKind.free && env.scope.kind== .function && env.kindOf n==some .cell)then(n,NameKind.cell)else(n,k)).lookup x=some .cell\/
  (names.map fun(n,k)=>if(k==NameKind.free && env.scope.kind== .function && env.kindOf n==some .cell)then(n,NameKind.cell)else(n,k)).lookup x=some .free)->(x,NameKind.free)∈names
 |[],_,_,h=>by simp at h
 | (n,k)::r,x,hn,h=>by
  have ih:= @gR env r x (fun y hy=>hn y (mem_cons_of_mem _ hy));have h':List.lookup x ((if(k==NameKind.free && env.scope.kind== .function && env.kindOf n==some .cell)=true then(n,NameKind.cell)else(n,k))::(r.map fun(n,k)=>if(k==NameKind.free && env.scope.kind== .function && env.kindOf n==some .cell)then(n,NameKind.cell)else(n,k)))=some .cell\/ List.lookup x ((if(k==NameKind.free && env.scope.kind== .function && env.kindOf n==some .cell)=true then(n,NameKind.cell)else(n,k))::(r.map fun(n,k)=>if(k==NameKind.free && env.scope.kind== .function && env.kindOf n==some .cell)then(n,NameKind.cell)else(n,k)))=some .free:=h;cases hx:x==n with
  | true=>
   have e:=eq_of_beq hx;subst e
   by_cases hc:(k==NameKind.free && env.scope.kind== .function && env.kindOf x==some .cell)=true
   .have hk:k= .free:=by
     have:=(and_eq_true _ _|>.mp ((and_eq_true _ _|>.mp hc).1)).1;exact eq_of_beq this
    subst hk;exact mem_cons_self
   .rw[if_neg hc]at h';simp only[lookup_cons,hx]at h';have hk:=hn (x,k) mem_cons_self;rcases h' with z|z
    .exact absurd (Option.some.inj z) hk
    .rw[Option.some.inj z];exact mem_cons_self
  |false=>
   refine mem_cons_of_mem _ (ih ?_)
   by_cases hc:(k==NameKind.free && env.scope.kind== .function && env.kindOf n==some .cell)=true
   .rw[if_pos hc]at h';simp only[lookup_cons,hx]at h';exact h'
   .rw[if_neg hc]at h';simp only[lookup_cons,hx]at h';exact h'
def mX (J:It) (g:TG) (tt:TT) (te:TE) (l:Addr) (σ0:St) (H0:Hp) (Q:VK):Prop:=
 ∃W:Nat->Nat->St->Hp->Prop,(∃m,W 0 m σ0 H0)/\
   ∀i m σ' H2,W i m σ' H2->(J.stop i H2/\Q (.ref l) H2)\/ (J.go i H2/\∃N:St->Hp->Prop,(∀σ3 H3,N σ3 H3->∃m',m'<m/\W (i+1) m' σ3 H3)/\
    ∀x H3,J.yR i H2 x H3->g x σ' H3 fun σ4 H4=>tt σ4 H4 fun b H5=>if b=true then te σ4 H5 fun y H6=>∃xs,H6 l=some (.lst xs)/\xs.length<sizeLine/\N σ4 (upd H6 l (.lst (xs++[y])))else N σ4 H5)
def tF (wi:TI) (k:Nat) (cA:List Nat) (g:TG) (tt:TT) (te:TE):TE:=fun σ H Q=>wi σ H fun J H1=>∀l,H1 l=none->mX J g tt te l (bS k cA σ) (upd H1 l (.lst [])) Q
structure fG (X:Cx) (scope:Scope) (N:List Str) (k:Nat) (cA:List Nat):Prop where
 kind:scope.kind= .function
 names:∀y∈scope.names,y.2= .local->scope.names.lookup y.1=some .local
 cell:∀y∈scope.names,y.2≠ .cell
 free:∀y∈scope.names,y.2= .free->X.env.kindOf y.1=some .cell\/ X.env.kindOf y.1=some .free
 len:N.length=k+cA.length
 cA:∀j i,cA[j]? =some i->∃y,N[k+j]? =some y/\X.N[i]? =some y/\scope.names.lookup y=some .free
theorem tH {k:Nat} {cA:List Nat} {σ:St} {j:Nat} {v:V} (h:(bS k cA σ)[j]? =some (some v)):∃q i,j=k+q/\cA[q]? =some i/\σ[i]? =some (some v):=by
 unfold bS at h
 by_cases hj:j<k
 .rw[getElem?_append_left (by simpa using hj),List.getElem?_replicate]at h;split at h<;>cases h
 .rw[getElem?_append_right (by simpa using hj),length_replicate,getElem?_map]at h;cases q:cA[j - k]? with
  |none=>rw[q]at h;cases h
  |some i=>
   rw[q]at h;have h':(σ[i]?).getD none=some v:=Option.some.inj h;refine⟨j - k,i,by omega,q,?_⟩;cases r:σ[i]? with
   |none=>rw[r]at h';cases h'
   |some o=>rw[r]at h';have:o=some v:=h';rw[this]
theorem jE.but {P:Program} {h h':Heap} (x:jE P w H h) (hC:H C=none) (k:∀b o,b≠C->h.get? b=some o->h'.get? b=some o):jE P w H h':=fun b u e=>by
 have nit:∀b u,H b=some u->b≠C:=fun b u e z=>by rw[z,hC]at e;cases e
 refine(x b u e).mW (fun c v hc q=>k c v ?_ q) (fun _ q=>q) fun _ _ q=>q
 rcases hc with z|z
 .rw[z];exact nit b u e
 .exact nit c _ z
section
variable {X:Cx} {elt tg iter:Expr} {ifs:List Expr} {scope:Scope} {pos:Pos} {wi:TI} {g:TG} {tt:TT} {te:TE} {N:List Str} {k:Nat} {cA:List Nat}
theorem qQ (S:fG X scope N k cA) (I2:Inv X pins σ H2 s2)
  (hcl1:∀y c,cl.lookup y=some c->X.env.cells.lookup y=some c) (hcl2:∀y,(y,NameKind.free)∈scope.names->(cl.lookup y).isSome=true) (hC:s2.heap.objs.size<=C)
  (hf:∀b∈fp,mG X pins H2 b) (ho:∀b∈fp,b<s2.heap.objs.size):(aT X scope N ⟨cl,C,s2,H2,fp⟩).Ok where
 mod:=I2.ok.mod
 kind:=S.kind
 glob:=I2.ok.glob
 blt:=I2.ok.blt
 above:=hC
 inj:=fun x y c h1 h2=>I2.ok.inj x y c (hcl1 x c h1) (hcl1 y c h2)
 has:=fun x h=>by
  have h':(x,NameKind.free)∈scope.names:=gR (env:=X.env) S.cell h;exact isSome_iff_exists.mp (hcl2 x h')
 OI:=fun _ _ z=>by cases z
 hd:=I2.ok.hd
 frames:=I2.ok.frames
 QE:=.inl rfl
 Q5:=fun b hb=>⟨ne_of_lt (lt_of_lt_of_le (ho b hb) hC),fun x c e=>(hf b hb).2.2.2.2.1 x c (hcl1 x c e)⟩
 bs:=I2.bs
 KH:=le_trans I2.ok.KH I2.sz
 C1:=fun b o e hb=>by
  rcases(hf b hb).2.2.2.1 with z|z
  .exact I2.ok.C1 b o e z
  .exact absurd (lt_of_lt_of_le (lt_size e) (le_trans I2.ok.KH z)) (Nat.lt_irrefl _)
 wL:=fun b hb hb'=>by
  rcases mem_cons.mp (I2.zW b hb')with z|z
  .exact(hf b hb).2.1 z
  .exact(hf b hb).2.2.1 z
 pA:=I2.stack
 N3:=I2.AH
theorem AK {h1:Heap} {tk:Nat} {m0:Str->Option Value} (S:fG X scope N k cA) (I2:Inv X pins σ H2 s2)
  (hcl1:∀y c,cl.lookup y=some c->X.env.cells.lookup y=some c) (hcl2:∀y,(y,NameKind.free)∈scope.names->(cl.lookup y).isSome=true) (hC:C=s2.heap.objs.size+1)
  (hf:∀b∈fp,mG X pins H2 b) (ho:∀b∈fp,b<s2.heap.objs.size) (hk:∀b o,s2.heap.get? b=some o->h1.get? b=some o) (hD:h1.get? s2.heap.objs.size=some {cls:=.type "list",data:=.seq #[] 0}) (hns:h1.Ns C m0):
  Inv (aT X scope N ⟨cl,C,s2,H2,fp⟩) [] (bS k cA σ) (upd H2 s2.heap.objs.size (.lst [])) {s2 with heap:=h1,toks:=tk}:=by
 have fr:H2 s2.heap.objs.size=none:=I2.aW.fresh (le_refl _);have hCf:H2 C=none:=I2.aW.fresh (hC▸le_succ _);refine⟨qQ S I2 hcl1 hcl2 (hC▸le_succ _) hf ho,rfl,I2.bare,Un.laid hk (le_refl _) fr,⟨m0,hns,fun i y v e1 e2 e3=>?_⟩,fun x c e=>?_,?_,fun x c e=>?_,fun p hp=>absurd (show p∈([]:List (Addr×Obj))from hp) (by simp),I2.aW.laid hk (le_refl _) ?_,?_⟩
 .obtain⟨q,j,rfl,hj,hv⟩:=tH e2;obtain⟨z,hz1,hz2,hz3⟩:=S.cA q j hj;have e1':N[k+q]? =some y:=e1;rw[hz1]at e1';cases e1';obtain⟨m,hn,hl⟩:=I2.loc;have hfr:=S.free (y,.free) (PySem.mem_of_lookup hz3) rfl;obtain⟨u,r,l⟩:=hl j y v hz2 hv (by rcases hfr with z|z;exact .inr (.inl z);exact .inr (.inr z));refine⟨u,r,.inr ⟨eA (env:=X.env) hz3,?_⟩⟩;obtain⟨c,hc⟩:=isSome_iff_exists.mp (hcl2 y (PySem.mem_of_lookup hz3));rcases l with⟨hk',_⟩|⟨_,c',hc',hcell⟩
  .rcases hfr with z|z<;>(rw[hk']at z;cases z)
  .have e:=hcl1 y c hc;rw[hc']at e;cases e;obtain⟨o,ho',hd⟩:=hcell;exact⟨_,hc,o,hk _ _ ho',hd⟩
 .obtain⟨v,o,ho',hd⟩:=I2.cell x c (hcl1 x c e);exact⟨v,o,hk _ _ ho',hd⟩
 .show upd H2 s2.heap.objs.size (.lst []) C=none;rw[aH (ne_of_gt (hC▸lt_succ_self _))];exact hCf
 .have e':=hcl1 x c e;obtain⟨v,q⟩:=I2.cell x c e';rw[aH (ne_of_lt q.lt)];exact I2.jR x c e'
 .exact⟨zero_le _,[],0,.nil,hD⟩
 .show(bS k cA σ).length=N.length;unfold bS;rw[length_append,length_replicate,length_map,S.len]
theorem JW (hc:X.calm=true) (S:fG X scope N k cA) (hi:PI X tg iter wi) (hg:∀c,PG (aT X scope N c) tg g) (ht:∀c,K2 (aT X scope N c) ifs tt) (he:∀c,PE (aT X scope N c) elt te)
  (hs:∀x,foldedSetIterable iter X.env x=pure x:=by intro _;rfl):PE X (.ListComp elt [⟨tg,iter,ifs,0⟩] scope pos) (tF wi k cA g tt te):=by
 intro pins s σ H Q I h;rw[eval_ListComp];obtain⟨cl,hclos,hcl1,hcl2⟩:=g6 (scope:=scope) (env:=X.env) (fun p hp hf=>I.ok.has p.1 (S.free p hp hf));refine wpAny_comprehension_free (use:=none) rfl hs hclos S.kind S.names (cG (hi pins s σ H _ I h) fun v s1 h1=>cG h1 fun itv s2 h2=>?_);obtain⟨it,fp,tn,J,H2,e,I2,T,st2,f2,q2⟩:=h2;subst e;obtain⟨W,⟨m0,w0⟩,turn⟩:=q2 s2.heap.objs.size (I2.aW.fresh (le_refl _));have hob:∀b∈fp,b<s2.heap.objs.size:=fun b hb=>let⟨o,e,_⟩:=T.obj _ _ st2 b hb;lt_size e
 refine wpAny_newObj_type (wpAny_newFunctionEnv S.cell (by intro y hy;simp at hy) (fun h₁ hns₁ hsb₁=>?_) S.kind);dsimp only at hns₁ hsb₁⊢
 generalize hHH:s2.heap.push {cls:=.type "list",dict:=none,data:=.seq ([]:List Value).toArray}=HH at hns₁ hsb₁⊢
 have hCC:HH.objs.size=s2.heap.objs.size+1:=by rw[<-hHH,size_push]
 have old:∀b o,s2.heap.get? b=some o->h₁.get? b=some o:=fun b o e=>hsb₁.extBut b o (ne_of_lt (hCC▸lt_succ_of_lt (lt_size e))) (get?_push_of_some _ (hHH▸get?_push_of_some _ e))
 have hD:h₁.get? s2.heap.objs.size=some {cls:=.type "list",data:=.seq #[] 0}:=hsb₁.extBut _ _ (ne_of_lt (hCC▸lt_succ_self _)) (get?_push_of_some _ (hHH▸get?_push_size _ rfl));have I4:=fun tk=>AK (tk:=tk) S I2 hcl1 hcl2 hCC f2 hob old hD hns₁
 have X':=aT X scope N ⟨cl,HH.objs.size,s2,H2,fp⟩;have stat:∀{H':Hp},(∀b∈fp,H' b=none)->∀b∈fp,mG (aT X scope N ⟨cl,HH.objs.size,s2,H2,fp⟩) [] H' b:=fun hn b hb=>
  ⟨hn b hb,ne_of_lt (hCC▸lt_succ_of_lt (hob b hb)),(qQ S I2 hcl1 hcl2 (hCC▸le_succ _) f2 hob).wL b hb,.inl hb,fun x c e=>(f2 b hb).2.2.2.2.1 x c (hcl1 x c e),fun p hp=>absurd (show p∈([]:List (Addr×Obj))from hp) (by simp)⟩
 have loop:∀s₃:Shared,s₃={s2 with heap:=h₁,toks:=s2.toks+([]:List (Str×Value)).length}->
   codeAny (model X.prog X.w) X.A (.compLoop (.ListComp elt [⟨tg,iter,ifs,0⟩] scope pos) 0 (.ref it) (.ref s2.heap.objs.size) (compEnvC scope cl HH.objs.size X.env))
    (compPost (model X.prog X.w) X.A X.xe none (EP X pins σ Q) (.ref s2.heap.objs.size) HH.objs.size) s₃:=by
  rintro s₃ rfl;refine tT (fun n s'=>∃i σ' H',Inv (aT X scope N ⟨cl,HH.objs.size,s2,H2,fp⟩) [] σ' H' s'/\tn i s'.heap/\(∀b∈fp,H' b=none)/\W i n σ' H') ?_ m0
   ⟨0,bS k cA σ,_,I4 _,T.keep _ _ _ st2 fun b _ o e=>old b o e,fun b hb=>by rw[aH (ne_of_lt (hob b hb))];exact(f2 b hb).1,w0⟩
  rintro n s3 ⟨i,σ3,H3,I3,st3,fr3,w3⟩;rcases turn i n σ3 H3 w3 with⟨stop,qn⟩|⟨go,NN,hN,step⟩
  .refine cG (T.done (aT X scope N ⟨cl,HH.objs.size,s2,H2,fp⟩) rfl rfl rfl hc i [] s3 σ3 H3 _ I3 (stat fr3) st3 stop) fun r s4 ⟨hr,J4⟩=>?_
   subst hr;obtain⟨m,hn,_⟩:=J4.loc;refine⟨m,hn,fun h' hs'=>?_⟩;have keepC:∀b o,b≠HH.objs.size->s4.heap.get? b=some o->h'.get? b=some o:=fun b o hb e=>hs'.extBut b o hb e
   have gI:∀b o,s2.heap.get? b=some o->b≠HH.objs.size:=fun b o e=>ne_of_lt (hCC▸lt_succ_of_lt (lt_size e))
   have u:=J4.base;have u':Un (DF X.stack) fp H2 H3 s2.heap h':=⟨fun b o q n hb hx=>keepC b o (gI b o q) (u.keep b o q n hb hx),fun b o q n hb hx=>by
     obtain⟨sl,e⟩:=u.slot b o q n hb hx;exact⟨sl,keepC b _ (gI b o q) e⟩,u.free,fun b o q hx=>by
     obtain⟨o',e⟩:=u.there b o q hx;exact⟨o',keepC b _ (gI b o q) e⟩,u.rZ,u.pV,u.rS⟩
   refine⟨.ref s2.heap.objs.size,H3,I2.FL (ch:=fp) J4.os u' (J4.aW.but J4.free keepC) J4.bare fun b hb=>?_,rfl,qn⟩;obtain⟨_,f1,_,f3,f4,f5⟩:=f2 b hb;exact⟨f3,f1,f4,f5⟩
  .refine cG (T.item (aT X scope N ⟨cl,HH.objs.size,s2,H2,fp⟩) rfl rfl rfl hc i [] s3 σ3 H3 _ I3 (stat fr3) st3 go) fun r s4 ⟨u,hr,h4⟩=>?_
   subst hr;refine cG h4 fun _ s5 ⟨x,H5,I5,r5,y5,st5,fr5⟩=>?_
   have I5':=I5.pinned (stat fr5) (T.obj _ _ st5);have again:∀{s7:Shared} {σ7:St} {H7:Hp},Inv (aT X scope N ⟨cl,HH.objs.size,s2,H2,fp⟩) ([]++lM fp s5.heap) σ7 H7 s7->NN σ7 H7->
     ∃m,m<n/\∃i σ' H',Inv (aT X scope N ⟨cl,HH.objs.size,s2,H2,fp⟩) [] σ' H' s7/\tn i s7.heap/\(∀b∈fp,H' b=none)/\W i m σ' H':=fun{s7 σ7 H7} I7 n7=>by
    obtain⟨m',hm,w7⟩:=hN σ7 H7 n7;refine⟨m',hm,i+1,σ7,H7,I7.iK,T.keep _ _ _ st5 fun b hb o e=>(I7.pin (b,o) (mem_append_right _ (mem_append_right _ (d7 hb e)))).1,fun b hb=>?_,w7⟩;obtain⟨o,e,d⟩:=T.obj _ _ st5 b hb;exact(I7.pin (b,o) (mem_append_right _ (mem_append_right _ (d7 hb e)))).2.1
   refine cG (hg _ _ s5 σ3 H5 x u _ I5' r5 (step x H5 y5)) fun _ s6 ⟨σ6,H6,I6,q6⟩=>?_
   refine cG (ht _ _ s6 σ6 H6 _ I6 q6) fun b s7 ⟨H7,I7,q7⟩=>?_
   cases b with
   |false=>exact again I7 q7
   |true=>
    refine cG (he _ _ s7 σ6 H7 _ I7 q7) fun y s8 ⟨yv,H8,I8,r8,xs,hl,hz,n8⟩=>?_
    refine cG (d9 _ s8 σ6 H8 (.ref s2.heap.objs.size) [yv] (.ref s2.heap.objs.size) [y] (fun _ H9=>NN σ6 H9) I8 rfl (.cons r8 .nil) ⟨_,xs,yv,rfl,rfl,hl,hz,n8⟩) fun _ s9 ⟨_,H9,I9,_,q9⟩=>?_
    exact again I9 q9
 exact codeAny_compStart_list (loop _ rfl) (T.self X.A 0 _ _ _ (T.keep _ _ _ st2 fun b _ o e=>old b o e) (loop _ rfl))
end
section
variable {X:Cx}
theorem vA:∀{ys:List Str} {its:List Value},Vals (ys.map V.str) its->StrsAre its ys
 |[],_,r=>by cases r;exact .nil
 | y::ys,_,r=>by
  cases r with
  |cons r rr=>
   obtain⟨t,rfl⟩:=r;exact .cons y t (vA rr)
def rJoin (K:Frag):V->List V->Hp->VK->Prop:=fun x vs H Q=>∃z p ys,x= .str z/\vs=[.ref p]/\bM K H p (ys.map V.str)/\(ys.map (·.length)).sum+ys.length*z.length<=16777216/\Q (.str (Txt.join z ys)) H
theorem JX:O2 X "str.join" (rJoin X.K):=by
 intro pins s σ H x vs v us Q I rx rv h;obtain⟨z,p,ys,rfl,rfl,hq,hz,q⟩:=h;obtain⟨t,rfl⟩:=rx;obtain⟨u,rfl,rp⟩:=vals1 rv;cases rp;obtain⟨its,r,pl,_⟩:=I.list hq;exact join_list pl.isList (by simpa using vA r) hz fun t' k=>⟨.str (Txt.join z ys),H,I.tok k,⟨t',rfl⟩,q⟩
theorem vS:qR X (binaryOp .Pow) (rI (fun i j=>0<=j/\(Builtin.Int.intBits i:Int)*j<=2^27) fun i j=>.int (i^j.toNat)):=OX fun _ _ _ _ _ _ _ hc q=>pow_int hc.1 hc.2 q
end
noncomputable def m9 (XN:List Str) (xs scope:Scope) (N:List Str) (k:Nat) (cA:List Nat):Bool:=
 scope.kind== .function && (scope.names.all fun y=>y.2 != .local||scope.names.lookup y.1==some .local) && (scope.names.all fun y=>y.2 != .cell) &&
 (scope.names.all fun y=>y.2 != .free||xs.names.lookup y.1==some .cell||xs.names.lookup y.1==some .free) && N.length==k+cA.length &&
 (List.range cA.length).all fun j=>match cA[j]?,N[k+j]? with
  |some i,some y=>XN[i]? ==some y && scope.names.lookup y==some .free
  |_,_=>false
theorem i4 {XN:List Str} {xs:Scope} {N:List Str} {k:Nat} {cA:List Nat} (hN:X.N=XN) (hs:X.env.scope=xs) (h:m9 XN xs scope N k cA=true):fG X scope N k cA:=by
 subst hN hs;unfold m9 at h;simp only[and_eq_true,all_eq_true,Bool.or_eq_true,bne_iff_ne,ne_eq,beq_iff_eq]at h;obtain⟨⟨⟨⟨⟨h1,h2⟩,h3⟩,h4⟩,h5⟩,h6⟩:=h;refine⟨h1,fun y hy e=>(h2 y hy).resolve_left (fun z=>z e),h3,fun y hy e=>?_,h5,fun j i e=>?_⟩
 .rcases h4 y hy with(z|z)|z
  .exact absurd e z
  .exact .inl z
  .exact .inr z
 .have hj:j<cA.length:=(List.getElem?_eq_some_iff.mp e).1;have q:=h6 j (mem_range.mpr hj);rw[e]at q;cases r:N[k+j]? with
  |none=>rw[r]at q;cases q
  |some y=>
   rw[r]at q;simp only[and_eq_true,beq_iff_eq]at q;exact⟨y,rfl,q.1,q.2⟩
section
variable {X:Cx} {elt tg iter:Expr} {ifs:List Expr} {scope:Scope} {pos:Pos} {wi:TI} {g:TG} {tt:TT} {te:TE} {N:List Str} {k:Nat} {cA:List Nat} {XN:List Str} {xs:Scope}
theorem mR (N:List Str) (k:Nat) (cA:List Nat) (XN:List Str) (xs:Scope) (hc:X.calm=true) (hN:X.N=XN) (hx:X.env.scope=xs) (hi:PI X tg iter wi) (chk:m9 XN xs scope N k cA=true)
  (hg:∀c,PG (aT X scope N c) tg g) (ht:∀c,K2 (aT X scope N c) ifs tt) (he:∀c,PE (aT X scope N c) elt te)
  (hs:∀x,foldedSetIterable iter X.env x=pure x:=by intro _;rfl):PE X (.ListComp elt [⟨tg,iter,ifs,0⟩] scope pos) (tF wi k cA g tt te):=JW hc (i4 hN hx chk) hi hg ht he hs
end
section
variable {wi:TI} {k:Nat} {cA:List Nat} {g:TG} {tt:TT} {te:TE} {σ:St} {H1:Hp} {Q:VK} {l:Addr}
def dD (g:TG) (tt:TT) (te:TE) (l:Addr) (x:V) (σ:St) (H:Hp) (N:St->Hp->Prop):Prop:=
 g x σ H fun σ4 H4=>tt σ4 H4 fun b H5=>if b=true then te σ4 H5 fun y H6=>∃xs,H6 l=some (.lst xs)/\xs.length<sizeLine/\N σ4 (upd H6 l (.lst (xs++[y])))else N σ4 H5
theorem mI (J:It) (n:Nat) (Pv:Nat->St->Hp->Prop) (h0:Pv 0 (bS k cA σ) (upd H1 l (.lst [])))
  (hstop:∀σ H,Pv n σ H->J.stop n H) (hgo:∀i σ H,i<n->Pv i σ H->J.go i H)
  (hs:∀i σ H x H',i<n->Pv i σ H->J.yR i H x H'->dD g tt te l x σ H' (Pv (i+1))) (hd:∀σ H,Pv n σ H->Q (.ref l) H):
  mX J g tt te l (bS k cA σ) (upd H1 l (.lst [])) Q:=by
 refine⟨fun i m σ H=>m=n - i/\i<=n/\Pv i σ H,⟨n,by simp,zero_le _,h0⟩,?_⟩;rintro i m σ H ⟨rfl,hi,p⟩
 by_cases hlt:i<n
 .exact .inr ⟨hgo i σ H hlt p,Pv (i+1),fun σ' H' p'=>⟨n - (i+1),by omega,rfl,hlt,p'⟩,fun x H' y=>hs i σ H x H' hlt p y⟩
 .have e:i=n:=by omega
  subst e;exact .inl ⟨hstop σ H p,hd σ H p⟩
theorem AE (lo:Int) (n:Nat) (Pv:Nat->St->Hp->Prop) (h0:Pv 0 (bS k cA σ) (upd H1 l (.lst [])))
  (hs:∀i σ H,i<n->Pv i σ H->dD g tt te l (.int (lo+i)) σ H (Pv (i+1))) (hd:∀σ H,Pv n σ H->Q (.ref l) H):
  mX (JD lo n) g tt te l (bS k cA σ) (upd H1 l (.lst [])) Q:=
 mI (JD lo n) n Pv h0 (fun _ _ _=>le_refl n) (fun _ _ _ h _=>h) (fun i σ H x H' hi p y=>by obtain⟨e1,e2⟩:=y;subst e1 e2;exact hs i σ _ hi p) hd
end
structure Def (K:Frag) (mg:Str->Option Value) (x:Str) (st:Stmt) (ps:List Str) (f:Addr) (fd:FuncData):Prop where
 F:OH K x x st f fd
 m:mg x=some (.ref f)
 b:Binds K fd ps []
section
variable {X:Cx} {x:Str} {st:Stmt} {ps:List Str} {f:Addr} {fd:FuncData} {j k:Nat} {sp:Sp} {e:Expr} {es:List Expr} {t:TA} {p pos:Pos}
theorem bE (D:Def X.K X.mg x st ps f fd) (G:bB X.prog X.w X.K X.mg X.base d8 j f fd ps sp) (hr:eL k X.A) (hjk:j<=k) (hg:Gl X x) (ha:PA X (e::es) t) (hdb:(x==("__debug__":Str))=false:=by decide)
  (he:starEach (e::es) X.env=(false,eval e X.env)::starEach es X.env:=by rfl) (hpl:(backTo pos (starEach es X.env)).any (·.1)=false:=by rfl):
  PE X (.Call (.Name x p) (e::es) [] pos) (jJ sp [] E0 t):=KD G (hr.mono hjk) hg D.m D.F.kp D.b .nil QB ha hdb he hpl
end
theorem Vals.get':∀{xs:List V} {us:List Value} {i:Nat} {u:Value},Vals xs us->us[i]? =some u->∃x,xs[i]? =some x/\RelV x u
 |_,_,_,_,.nil,h=>by simp at h
 |_,_,0,_,.cons r _,h=>by simp at h;subst h;exact⟨_,rfl,r⟩
 |_,_,i+1,_,.cons _ t,h=>Vals.get' (i:=i) t (by simpa using h)
theorem D9:bootBuiltins "len"=some (.builtin "len"):=by decide+kernel
theorem rG:bootBuiltins "min"=some (.builtin "min"):=by decide+kernel
theorem pH:bootBuiltins "repr"=some (.builtin "repr"):=by decide+kernel
theorem fH:bootBuiltins "sorted"=some (.builtin "sorted"):=by decide+kernel
theorem d5:bootBuiltins "tuple"=some (.type "tuple"):=by decide+kernel
theorem LY:bootBuiltins "set"=some (.type "set"):=by decide+kernel
theorem JJ:bootBuiltins "dict"=some (.type "dict"):=by decide+kernel
theorem vH:bootBuiltins "enumerate"=some (.type "enumerate"):=by decide+kernel
theorem aI {t u:TS} {D:Ends} (h:t {D with nx:=u D} σ H):vB t u D σ H:=h
theorem i8 {CX:CW} {P:Program} {mg:Str->Option Value} {base:Heap} {qual:Str} {f:Addr} {cd:Value} {A:Around} {outer:List Env} {s:Shared} {E:XK}:(AF CX P w K mg base N qual scope f cd A outer s H E).K=K:=rfl
theorem eZ {c:E6}:(aT X scope N c).K=X.K:=rfl
section
variable {X:Cx}
theorem CY:eU X (.builtin "len") (fun xs H Q=>∃p ys,xs=[.ref p]/\bM X.K H p ys/\Q (.int ys.length) H):=by
 intro pins s σ H xs us Q I r h;obtain⟨p,ys,e,hq,q⟩:=h;exact uP pins s σ H xs us Q I r ⟨p,ys,e,.inl hq,q⟩
end
def eO (p:Addr) (H H':Hp):Prop:=∀b o,H b=some o->b≠p->H' b=some o
theorem eO.refl:eO p H H:=fun _ _ h _=>h
theorem eO.trans (a:eO p H H1) (b:eO p H1 H2):eO p H H2:=fun c o h n=>b c o (a c o h n) n
theorem eO.of (a:aG H H1):eO p H H1:=fun c o h _=>a c o h
theorem aG.upd {l:Addr} (h:H l=none):aG H (upd H l o):=fun b u e=>by rw[aH (aF e h)];exact e
theorem eO.upd:eO p H (upd H p o):=fun b u e n=>by rw[aH n];exact e
theorem bM.same (h:bM K H a xs) (s:aG H H'):bM K H' a xs:=aG.seq s h
theorem bO.same (h:bO K H a xs) (s:aG H H'):bO K H' a xs:=by
 rcases h with(h|⟨o,h⟩)|h
 .exact .inl (.inl (s _ _ h))
 .exact .inl (.inr ⟨o,s _ _ h⟩)
 .exact .inr h
theorem lK (h:n<=16777216):n<=sizeLine:=by rw[PySem.sizeLine_eq];exact h
theorem iQ (h:n<16777216):n<sizeLine:=by rw[PySem.sizeLine_eq];exact h
theorem IF (z:Str):z.cps.toList.length=z.length:=by simp[Str.length]
theorem HJ {z:Str} {d:Int} (h0:0<=d) (h:d<(z.length:Int)):∃c,c∈z.cps.toList/\D2 z.cps.toList d=some c:=by
 obtain⟨j,rfl⟩:∃j:Nat,d=(j:Int):=⟨d.toNat,by omega⟩;have hj:j<z.cps.toList.length:=by have e:=IF z;omega
 exact⟨z.cps.toList[j],getElem_mem hj,dW (by simp[hj])⟩
theorem uL {xs:List α} {d:Int} (h0:0<=d) (h:d<(xs.length:Int)):∃c,c∈xs/\D2 xs d=some c:=by
 obtain⟨j,rfl⟩:∃j:Nat,d=(j:Int):=⟨d.toNat,by omega⟩;have hj:j<xs.length:=by omega
 exact⟨xs[j],getElem_mem hj,dW (by simp[hj])⟩
theorem wO {ys:List Str} (h:∀y∈ys,y.length=1):(ys.map (·.length)).sum=ys.length:=by
 induction ys with
 |nil=>rfl
 |cons y ys ih=>
  rw[map_cons,List.sum_cons,length_cons,ih fun z hz=>h z (mem_cons_of_mem _ hz),h y mem_cons_self];omega
section
variable {k:Nat} {cA:List Nat} {g:TG} {tt:TT} {te:TE} {σ:St} {H:Hp} {Q:VK} {l:Addr}
theorem jY {p:α->Bool} {vs:List α} {i:Nat} {x:α} (h:vs[i]? =some x):(vs.take (i+1)).filter p=(vs.take i).filter p++(if p x=true then [x]else []):=by
 rw[List.take_add_one,h,List.filter_append];congr 1
 by_cases e:p x=true
 .simp[e]
 .simp[e]
theorem bO.RR {H:Hp} {l:Addr} (h:bO K H a xs) (hl:H l=none):bO K (upd H l o) a xs:=h.same (aG.upd hl)
end
theorem OW [Decidable c] (hc:¬c) (h:B):if decide c=true then A else B:=by
 rw[decide_eq_false hc];exact jH h
theorem P4 [Decidable c] (hc:c) (h:A):if decide c=true then A else B:=by
 rw[decide_eq_true hc];exact kM h
theorem DV [Decidable c] (h1:c->A) (h2:¬c->B):if decide c=true then A else B:=by
 by_cases hc:c
 .exact P4 hc (h1 hc)
 .exact OW hc (h2 hc)
def AZ (K:Frag):Sp:=fun vs H Q _=>∃(a:Addr) (ns:List Int),vs=[.ref a]/\bM K H a (ns.map V.int)/\ns.length<=63/\∀H',Q (.bl true) H'
end L2
namespace PySem
open Sem (wp)
open AutoSeq1 (wpAny_loadPart')
variable {it l:Addr} {i:Nat} {Q:Value->Shared->Prop}
section
variable {prog:Program} {w:World} {A:Around} {E:Value->Shared->Prop} {s:Shared}
theorem iW {t:Addr} {items} {x:Value} (hit:s.heap.IsTupleIter it t i)
  (ht:s.heap.IsTuple t items) (hx:items[i]? =some x)
  (hQ:∀h',h'.IsTupleIter it t (i+1)->Heap.SameBut it s.heap h'->Q x {s with heap:=h'}):
  wpAny (model prog w) A (Builtin.SmallTypes.nextOf (.ref it)) Q E s:=by
 obtain⟨o,ho,hc,hd⟩:=id hit;obtain⟨ol,hol,_,nl,hdl⟩:=ht;unfold Builtin.SmallTypes.nextOf;refine wpAny_bind (wpAny_callSpecial?_slot (name:=Str.ofString "__next__") hit.typeIs F.slot_tuple_iterator_next
  (wpAny_call_entry F.slot_tuple_iterator_next hit.typeIs F.entry_tuple_iterator_next ?_ (F.args_tuple_iterator_next_1 _)))
 show wpAny _ _ (field (.ref it) 0>>=_) _ _ s;refine wpAny_bind (wpAny_field ho hd (x:=.ref t) rfl ?_);show wpAny _ _ (if(Value.ref t==Value.none)=true then _ else _) _ _ s;rw[if_neg (show¬((Value.ref t==Value.none)=true)from Bool.false_ne_true)];show wpAny _ _ (field (.ref it) 1>>=_) _ _ s;refine wpAny_bind (wpAny_field ho hd (x:=.int i 0) rfl ?_);show wpAny _ _ (seqItems? (.ref t)>>=_) _ _ s;refine wpAny_bind (wpAny_seqItems hol hdl ?_);simp only[toNat_natCast,hx];refine wpAny_bind (wpAny_setField ho hd (by simp) (wpAny_pure ⟨x,rfl,wpAny_pure (hQ _ ?_ (Heap.SameBut.update ..))⟩));exact⟨_,get?_update_self _ ho (Obj.isFreed_of_fields (Obj.data_mapFields hd _)),(Obj.cls_mapFields ..).trans hc,by
  rw[Obj.data_mapFields hd];simp[rawInt]⟩
theorem jF {items} (hh:A.handled=none)
  (hit:s.heap.IsTupleIter it l i) (hl:s.heap.IsTuple l items) (hx:items[i]? =none)
  (hE:∀h' e,Heap.ExtBut it s.heap h'->(∃o,h'.get? e=some o/\o.cls= .type "StopIteration")->E (.ref e) {s with heap:=h'}):
  wpAny (model prog w) A (Builtin.SmallTypes.nextOf (.ref it)) Q E s:=by
 obtain⟨o,ho,hc,hd⟩:=id hit;obtain⟨ol,hol,_,nl,hdl⟩:=hl;unfold Builtin.SmallTypes.nextOf;refine wpAny_bind (wpAny_callSpecial?_slot (name:=Str.ofString "__next__") hit.typeIs F.slot_tuple_iterator_next
  (wpAny_call_entry F.slot_tuple_iterator_next hit.typeIs F.entry_tuple_iterator_next ?_ (F.args_tuple_iterator_next_1 _)))
 show wpAny _ _ (field (.ref it) 0>>=_) _ _ s;refine wpAny_bind (wpAny_field ho hd (x:=.ref l) rfl ?_);show wpAny _ _ (if(Value.ref l==Value.none)=true then _ else _) _ _ s;rw[if_neg (show¬((Value.ref l==Value.none)=true)from Bool.false_ne_true)];show wpAny _ _ (field (.ref it) 1>>=_) _ _ s;refine wpAny_bind (wpAny_field ho hd (x:=.int i 0) rfl ?_);show wpAny _ _ (seqItems? (.ref l)>>=_) _ _ s;refine wpAny_bind (wpAny_seqItems hol hdl ?_);simp only[toNat_natCast,hx];refine wpAny_bind (wpAny_rule (wpAny_bind (wpAny_setField ho hd (by simp) ?_)));show wpAny _ _ (newExc (.type "StopIteration") []>>=_) _ _ _;refine wpAny_bind ?_;simp only[newExc,newTuple];refine wpAny_bind (wpAny_newObj_type ?_ (by size_fits));refine wpAny_bind (m:=firstArgMember _ _) (wpAny_of_eq (a:=Value.none) (by first|rfl|(simp only[firstArgMember];rfl)) ?_);refine wpAny_newObj_type ?_ (by size_fits);simp only[raiseNew];refine wpAny_bind (wpAny_handled ?_)
 first|rw[show A.in1.handled=none from hh]|rw[hh]
 refine wpAny_bind (wpAny_pure (wpAny_throw ?_));exact hE _ _ (((Heap.SameBut.update ..).extBut.push _).push _) ⟨_,get?_push_size _ rfl,rfl⟩
end
theorem iJ {prog:Program} {w:World} {A:Around} (hh:A.handled=none) (it l:Addr) (hne:l≠it) (items:Array Value):
  Draws prog w A it [it,l] items.size (fun i v=>items[i]? =some v) (fun i h=>h.IsTupleIter it l i/\h.IsTuple l items)where
 live:=fun _ _ st=>let⟨o,ho,_⟩:=st.1;⟨o,ho⟩
 frame:=fun _ _ _ st hk=>⟨st.1.at fun o e=>hk it (by simp) o e,let⟨o,e,r⟩:=st.2;⟨o,hk l (by simp) o e,r⟩⟩
 item:=fun i s Q E hi st hQ=>by
  refine iW st.1 st.2 (x:=items[i]) (by simp[hi]) fun h' hit' hs'=>?_
  exact hQ _ h' s.toks (by simp[hi]) ⟨hit',st.2.extBut hs'.extBut hne⟩ hs'
 done:=fun s Q E st hE=>jF hh st.1 st.2 (by simp) hE
theorem gL (l:Addr) (items:Array Value) (n:Nat) (DE:Option Addr) (sl:Array (Option Value)):
  Meets (Builtin.«enumerate.__new__» ⟨[.type "enumerate",.ref l],[]⟩) (fun _ R s=>s.heap.get? l=some {cls:=.type "tuple",dict:=DE,data:=.seq items n,slots:=sl}/\
   R (.ok (.ret (.ref (s.heap.push {cls:=.type "tuple_iterator",data:=.fields #[.ref l,.int 0 0]}).objs.size)))
    {s with heap:=(s.heap.push {cls:=.type "tuple_iterator",data:=.fields #[.ref l,.int 0 0]}).push {cls:=.type "enumerate",data:=.fields #[.none,.bool false,.ref s.heap.objs.size,rawInt 0,.none,.none]}}):=
 .of_wp fun prog w A R s h=>by
  obtain⟨hp,g,d,tk,os⟩:=s;obtain⟨hl,h⟩:=h
  have hsub:=sub_enumerate;have hL:Heap.IsTuple (Shared.heap ⟨hp,g,d,tk,os⟩) l items:=⟨_,hl,rfl,n,rfl⟩
  wp_walk using wpAny_loadPart' hl
  refine wpAny_stack_any fun st=>wpAny_pure ?_
  split
  .rename_i c _ _ _ _ _;cases(c==Value.type "enumerate")
   .wp_walk using wpAny_loadPart' hl,wpAny_pyIter_tuple hL
    exact⟨_,rfl,h⟩
   .wp_walk using wpAny_loadPart' hl,wpAny_pyIter_tuple hL
    exact⟨_,rfl,h⟩
  .wp_walk using wpAny_loadPart' hl,wpAny_pyIter_tuple hL
   exact⟨_,rfl,h⟩
section
variable {prog:Program} {w:World} {A:Around} {E:Value->Shared->Prop} {s:Shared}
theorem gK {items:Array Value} (hL:s.heap.IsTuple l items)
  (h:∀h',IsEnum h' (s.heap.objs.size+1) s.heap.objs.size 0 .none->h'.IsTupleIter s.heap.objs.size l 0->h'.objs.size=s.heap.objs.size+2->
   (∀b o,s.heap.get? b=some o->h'.get? b=some o)->Q (.ref (s.heap.objs.size+1)) {s with heap:=h'}):
  wpAny (model prog w) A (call (.type "enumerate") [.ref l]) Q E s:=by
 obtain⟨⟨c,DE,dt,sl⟩,hl,hc,n,hd⟩:=hL;replace hc:c= .type "tuple":=hc;replace hd:dt= .seq items n:=hd;subst hc hd;refine callType_new F.called_enumerate (by decide) (F.typeCall_enumerate_1 _) (F.newCall_enumerate_1 _) (fun obj=>F.args_object_init_2 obj _) F.entry_enumerate_new
  (gL l items n DE sl) ⟨hl,?_⟩
 have hz:(s.heap.push {cls:=.type "tuple_iterator",data:=.fields #[.ref l,.int 0 0]}).objs.size=s.heap.objs.size+1:=size_push ..;show _/\_;rw[hz];have he:IsEnum ((s.heap.push {cls:=.type "tuple_iterator",data:=.fields #[.ref l,.int 0 0]}).push
   {cls:=.type "enumerate",data:=.fields #[.none,.bool false,.ref s.heap.objs.size,rawInt 0,.none,.none]}) (s.heap.objs.size+1) s.heap.objs.size 0 .none:=by
  have:=get?_push_size (s.heap.push {cls:=.type "tuple_iterator",data:=.fields #[.ref l,.int 0 0]})
   (o:={cls:=.type "enumerate",data:=.fields #[.none,.bool false,.ref s.heap.objs.size,rawInt 0,.none,.none]}) rfl
  rw[hz]at this;exact this
 refine⟨⟨_,he,rfl⟩,h _ he ⟨_,get?_push_of_some _ (get?_push_size _ rfl),rfl,rfl⟩ (by rw[size_push,hz]) fun b o x=>get?_push_of_some _ (get?_push_of_some _ x)⟩
end
end PySem
namespace L2
open PySem PySem.Spec PyProof.Rows
variable {X:Cx} {l tg:Expr} {h':Heap} {H:Hp} {pins:List (Addr×Obj)} {fp:List Addr} {es:List Expr} {xs:List V} {t':Nat} {pos:Pos} {K:Frag} {s:Shared} {σ:St} {tl:TE}
theorem Inv.A2 (I:Inv X pins σ H s) (k:∀b o,b∉fp->s.heap.get? b=some o->h'.get? b=some o) (hf:∀b∈fp,mG X pins H b):
  Inv X pins σ H {s with heap:=h',toks:=t'}:=by
 have nit:∀b u,H b=some u->b∉fp:=fun b u e z=>by rw[(hf b z).1]at e;cases e
 refine I.step (g':=s.gens) (d':=s.drawn) (ch:=fp) (fun b hb=>?_) (fun b o _ _ hc e _=>k b o hc e) (fun b o _ _ hc e _=>⟨o.slots,k b o hc e⟩) (fun _ _ _ _ n=>n)
  (fun b o hc e=>⟨o,k b o hc e⟩) (fun _ _ e=>e) (fun _ _ _ e=>e) (fun b ps e=>⟨#[],by rw[e];simp⟩) (fun m hm=>?_) (fun b u e=>?_) I.bare
 .obtain⟨_,f1,_,f3,f4,f5⟩:=hf b hb;exact⟨f3,f1,f4,f5⟩
 .obtain⟨o,es,ep,ho,r⟩:=hm;exact⟨o,es,ep,k _ o (fun z=>(hf _ z).2.1 rfl) ho,r⟩
 .refine(I.aW b u e).mW (fun c v hc q=>k c v ?_ q) (fun _ q=>q) fun _ _ q=>q
  rcases hc with z|z
  .rw[z];exact nit b u e
  .exact nit c _ z
theorem Inv.Q4 (I:Inv X pins σ H s) (k:∀b o,b∉fp->s.heap.get? b=some o->h'.get? b=some o) (hf:∀b∈fp,mG X pins H b)
  (hfr:H s.heap.objs.size=none) (hno:s.heap.objs.size∉fp) (new:cV X.prog X.w (upd H s.heap.objs.size (.tup xs)) h' s.heap.objs.size (.tup xs)) (ht:∀b∈fp,∀o,s.heap.get? b=some o->∃o',h'.get? b=some o'):
  Inv X pins σ (upd H s.heap.objs.size (.tup xs)) {s with heap:=h',toks:=t'}:=by
 have nit:∀b u,H b=some u->b∉fp:=fun b u e z=>by rw[(hf b z).1]at e;cases e
 have nT:∀b o,s.heap.get? b=some o->b≠s.heap.objs.size:=fun b o e=>ne_of_lt (lt_size e)
 refine I.step (g':=s.gens) (d':=s.drawn) (ch:=fp) (fun b hb=>?_) (fun b o _ _ hc e _=>k b o hc e) (fun b o _ _ hc e _=>⟨o.slots,k b o hc e⟩) (fun b o _ e n=>by rw[aH (nT b o e)];exact n)
  (fun b o hc e=>⟨o,k b o hc e⟩) (fun b ys e=>by rw[aH (aF e hfr)];exact e) (fun b o u e=>by rw[aH (aF e hfr)];exact e) (fun b ps e=>⟨#[],by rw[aH (aF e hfr),e];simp⟩) (fun m hm=>?_) (fun b u e=>?_) I.bare
 .obtain⟨_,f1,_,f3,f4,f5⟩:=hf b hb;exact⟨f3,f1,f4,f5⟩
 .obtain⟨o,es,ep,ho,r⟩:=hm;exact⟨o,es,ep,k _ o (fun z=>(hf _ z).2.1 rfl) ho,r⟩
 .by_cases hb:b=s.heap.objs.size
  .subst hb;rw[aB]at e;cases e;exact new
  .rw[aH hb]at e;refine(I.aW b u e).mW (fun c v hc q=>k c v ?_ q) (fun c q=>by rw[aH (aF q hfr)];exact q) fun c ys q=>by rw[aH (aF q hfr)];exact q
   rcases hc with z|z
   .rw[z];exact nit b u e
   .exact nit c _ z
noncomputable def N7 (K:Frag) (a:Addr):It:=
 ⟨fun i H=>∃xs x,bO K H a xs/\xs[i]? =some x,fun i H v H'=>∃t,H t=none/\v= .ref t/\∀xs,bO K H a xs->∃x,xs[i]? =some x/\H'=upd H t (.tup [.int i,x]),fun i H=>∃xs,bO K H a xs/\xs.length=i⟩
theorem y9 {P:Program} {w:World} {elts:List Expr} {x1} (a it e:Addr) (hei:e≠it):Turn P w K (.Tuple elts x1 pos) (N7 K a) [e,it] e (fun i h=>(∃old,IsEnum h e it i old)/\h.IsTupleIter it a i)where
 mem:=by simp
 obj:=fun i h st b hb=>by
  obtain⟨⟨old,he⟩,o,ho,c,d⟩:=st;rcases mem_cons.mp hb with z|z
  .subst z;exact⟨_,he,fun v z=>by cases z⟩
  .have z:b=it:=by simpa using z
   subst z;exact⟨o,ho,fun v z=>by rw[d]at z;cases z⟩
 keep:=fun i h h' st k=>⟨let⟨old,he⟩:=st.1;⟨old,k e (by simp) _ he⟩,st.2.at fun o q=>k it (by simp) o q⟩
 item:=by
  intro X hP hw hK hc i pins s σ H E I hf st hg;subst hP hw hK;obtain⟨xs,x,hq,hx⟩:=hg;obtain⟨its,rv,p,hz⟩:=I.tuple hq;obtain⟨u,hu,ru⟩:=rv.get hx;obtain⟨⟨old,he⟩,ht⟩:=st;have hne:a≠it:=fun z=>by
   obtain⟨o,ho,c,_⟩:=ht;obtain⟨o',ho',c',_⟩:=p;subst z;rw[ho]at ho';cases ho'
   rw[c]at c';exact absurd (Value.type.inj c') (by decide)
  have hae:a≠e:=fun z=>by
   obtain⟨o',ho',c',_⟩:=p;subst z;rw[he]at ho';cases ho'
   exact absurd (Value.type.inj c') (by decide)
  have hlt:i<its.toArray.size:=by have:=(List.getElem?_eq_some_iff.mp hu).1;simpa using this
  refine wpAny_pyNext_enum_itemD (iJ (A:=X.A.in1) (by exact I.ok.hd hc) it a hne its.toArray) he ⟨ht,p⟩ hlt hei (by simp[hei,Ne.symm hae]) fun v h' tk hPv ho' st' htup hsz hk=>?_
  have ev:v=u:=by
   have h1:its[i]? =some v:=by simpa using hPv
   rw[hu]at h1;exact(Option.some.inj h1).symm
  subst ev;refine⟨_,rfl,wpAny_letOwnedTupleGo_enum (s:={s with heap:=h',toks:=tk+1}) ho' fun h2 he2 sb=>?_⟩;have hTe:s.heap.objs.size≠e:=fun z=>by
   have:=lt_size he;rw[<-z]at this;exact Nat.lt_irrefl _ this
  have hTi:s.heap.objs.size≠it:=fun z=>by
   obtain⟨o,ho,_⟩:=ht;have:=lt_size ho;rw[<-z]at this;exact Nat.lt_irrefl _ this
  have hk2:∀b o,b∉[e,it]->s.heap.get? b=some o->h2.get? b=some o:=fun b o hb q=>
   sb.extBut b o (fun z=>hb (by simp[z])) (hk b o (fun z=>hb (by simp[z])) (fun z=>hb (by simp[z])) q)
  have I1:Inv X pins σ H {s with heap:=h2,toks:=tk+1}:=I.A2 hk2 hf;have hfr:H s.heap.objs.size=none:=I.aW.fresh (le_refl _);have htup2:h2.get? s.heap.objs.size=some {cls:=.type "tuple",data:=.seq #[.int i tk,v]}:=sb.extBut _ _ hTe htup;have I2:Inv X pins σ (upd H s.heap.objs.size (.tup [.int i,x])) {s with heap:=h2,toks:=tk+1}:=by
   refine I.Q4 hk2 hf hfr (by simp[hTe,hTi]) ⟨by show 2<=sizeLine;decide,[.int i tk,v],.cons ⟨_,rfl⟩ (.cons ru .nil),nX.of htup2⟩ (fun b hb o q=>?_);rcases mem_cons.mp hb with r|r
   .subst r;exact⟨_,he2⟩
   .have r:b=it:=by simpa using r
    subst r;obtain⟨o',ho',_⟩:=st'.1.extBut sb.extBut (Ne.symm hei);exact⟨o',ho'⟩
  refine⟨.ref s.heap.objs.size,_,I2,rfl,⟨s.heap.objs.size,hfr,rfl,fun ys hy=>⟨x,by rw[I.tQ hy hq];exact hx,rfl⟩⟩,⟨⟨_,he2⟩,st'.1.extBut sb.extBut (Ne.symm hei)⟩,fun b hb=>?_⟩;have hbT:b≠s.heap.objs.size:=fun z=>by
   rcases mem_cons.mp hb with r|r
   .exact hTe (z▸r)
   .have r:b=it:=by simpa using r
    exact hTi (z▸r)
  rw[aH hbT];exact(hf b hb).1
 done:=by
  intro X hP hw hK hc i pins s σ H E I hf st hg;subst hP hw hK;obtain⟨xs,hq,hx⟩:=hg;obtain⟨its,rv,p,hz⟩:=I.tuple hq;obtain⟨⟨old,he⟩,ht⟩:=st;have hl:=rv.length;have hne:a≠it:=fun z=>by
   obtain⟨o,ho,c,_⟩:=ht;obtain⟨o',ho',c',_⟩:=p;subst z;rw[ho]at ho';cases ho'
   rw[c]at c';exact absurd (Value.type.inj c') (by decide)
  have ei:(i:Nat)=its.toArray.size:=by simp;omega
  subst ei;obtain⟨f0,f1,f2,f3,f4,f5⟩:=hf it (by simp);exact wpAny_pyNext_enum_endD (iJ (A:=X.A.in1) (by exact I.ok.hd hc) it a hne its.toArray) he ⟨ht,p⟩ fun h' eb=>⟨rfl,I.turned (t':=s.toks) (fun b o hb e=>eb b o hb e) f0 f1 f3 f4 f5⟩
 self:=fun _ _ _ _ _ st h=>let⟨_,he⟩:=st.1;wpAny_pyIter_enum he h
section
variable {k:Nat} {cA:List Nat} {g:TG} {tt:TT} {te:TE} {σ:St} {H:Hp} {Q:VK} {l:Addr}
theorem C5 (J:It) (n:Nat) (p:Nat->Bool) (f:Nat->V) (Good:St->Prop) (h0:Good (bS k cA σ)) (hl:H l=none) (hlen:n<sizeLine)
  (hstop:∀H',aG H H'->J.stop n H') (hgo:∀i H',i<n->aG H H'->J.go i H')
  (ht:∀i v σ H1 H2 ys (N:St->Hp->Prop),i<n->Good σ->aG H H1->H1 l=some (.lst ys)->ys.length<sizeLine->J.yR i H1 v H2->
   (∀σ' H3,Good σ'->eO l H1 H3->H3 l=some (.lst (if p i=true then ys++[f i]else ys))->N σ' H3)->dD g tt te l v σ H2 N)
  (hd:∀H',aG H H'->H' l=some (.lst (((List.range n).filter p).map f))->Q (.ref l) H'):mX J g tt te l (bS k cA σ) (upd H l (.lst [])) Q:=by
 refine mI J n (fun i σ' H'=>Good σ'/\aG H H'/\H' l=some (.lst ((((List.range n).take i).filter p).map f))) ⟨h0,aG.upd hl,by rw[List.take_zero];exact aB⟩ (fun σ' H' ⟨_,s,_⟩=>hstop H' s) (fun i σ' H' hi ⟨_,s,_⟩=>hgo i H' hi s) (fun i σ' H' x H'' hi ⟨gd,s,e⟩ y=>?_) (fun σ' H' ⟨_,s,e⟩=>?_)
 .have hi2:(List.range n)[i]? =some i:=by simp[hi]
  refine ht i x σ' H' H'' _ _ hi gd s e ?_ y fun σ2 H3 g2 b e3=>⟨g2,fun c o h=>b c o (s c o h) (aF h hl),?_⟩
  .rw[length_map];have a1:=length_filter_le p ((List.range n).take i);exact lt_of_le_of_lt (le_trans a1 (by rw[length_take,length_range];omega)) hlen
  .rw[e3,jY hi2,map_append]
   by_cases c:p i=true
   .rw[if_pos c,if_pos c];rfl
   .rw[if_neg c,if_neg c,map_nil,append_nil]
 .rw[take_of_length_le (by simp)]at e;exact hd H' s e
theorem D1 {a:Addr} {xs:List V} (hS:bO K H a xs) (p:Nat->Bool) (f:Nat->V) (Good:St->Prop) (h0:Good (bS k cA σ)) (hl:H l=none) (hlen:xs.length<sizeLine)
  (ht:∀(i:Nat) x t σ H1 ys (N:St->Hp->Prop),xs[i]? =some x->Good σ->aG H H1->H1 t=none->(upd H1 t (.tup [.int i,x])) l=some (.lst ys)->ys.length<sizeLine->t≠l->
   (∀σ' H3,Good σ'->eO l (upd H1 t (.tup [.int i,x])) H3->H3 l=some (.lst (if p i=true then ys++[f i]else ys))->N σ' H3)->dD g tt te l (.ref t) σ (upd H1 t (.tup [.int i,x])) N)
  (hd:∀H',aG H H'->H' l=some (.lst (((List.range xs.length).filter p).map f))->Q (.ref l) H'):mX (N7 K a) g tt te l (bS k cA σ) (upd H l (.lst [])) Q:=by
 refine C5 (N7 K a) xs.length p f Good h0 hl hlen (fun H' s=>⟨xs,hS.same s,rfl⟩) (fun i H' hi s=>⟨xs,xs[i],hS.same s,by simp[hi]⟩) (fun i v σ H1 H2 ys N hi gd s e hz y hN=>?_) hd;obtain⟨t,ht0,rfl,hy⟩:=y;obtain⟨x,hx,rfl⟩:=hy xs (hS.same s);have tl:t≠l:=fun z=>by rw[z,e]at ht0;cases ht0
 refine ht i x t σ H1 ys N hx gd s ht0 (by rw[aH tl.symm];exact e) hz tl fun σ' H3 g3 b e3=>hN σ' H3 g3 (fun c o h n=>b c o (by rw[aH (aF h ht0)];exact h) n) e3
end
theorem rE {i:Nat}:iM xs (some ((i:Int)+1)) none=xs.drop (i+1):=by
 unfold iM;have e:HT.d4 xs.length 0 (some ((i:Int)+1))=min (i+1) xs.length:=by
  unfold HT.d4;simp;omega
 have e2:HT.d4 xs.length xs.length none=xs.length:=rfl;rw[e,e2]
 by_cases h:i+1<=xs.length
 .rw[Nat.min_eq_left h];rw[take_of_length_le (by rw[length_drop];exact le_refl _)]
 .rw[Nat.min_eq_right (by omega),List.drop_of_length_le (le_refl _),List.drop_of_length_le (by omega),List.take_nil]
theorem BM {n:Str} {row:List Str}:QP (.str n) (row.map V.str)=row.contains n:=by
 unfold QP
 induction row with
 |nil=>rfl
 |cons x r ih=>
  rw[map_cons,any_cons,ih,List.contains_cons];congr 1;show(x==n)=(n==x)
  by_cases e:x=n
  .subst e;simp
  .rw[beq_eq_false_iff_ne.mpr e,beq_eq_false_iff_ne.mpr (Ne.symm e)]
theorem tP {row:List Str}:(row.map V.str).all mN=true:=by
 induction row with
 |nil=>rfl
 |cons x r ih=>rw[map_cons,all_cons,ih];rfl
section
variable {X:Cx} {k:Nat}
theorem D6 (K:Frag) (h:X.K=K:=by rfl):M7 X (qS K):=h▸JA
theorem qE (K:Frag) (h:X.K=K:=by rfl):M7 X (nK K):=h▸MJ
theorem QU (K:Frag) (h:X.K=K:=by rfl):O5 X (qG K):=h▸J1
theorem EF (K:Frag) (h:X.K=K:=by rfl):qR X (compareOp .NotIn) (GD K true):=h▸uC
def kN (K:Frag):List V->Hp->VK->Prop:=fun xs H Q=>∃p ys,xs=[.ref p]/\bM K H p ys/\Q (.int ys.length) H
theorem Q0 (K:Frag) (h:X.K=K:=by rfl):eU X (.builtin "len") (kN K):=h▸CY
def kX (K:Frag):List V->Hp->VK->Prop:=fun xs H Q=>∃p ys,xs=[.ref p]/\bM K H p ys/\∀l,H l=none->Q (.ref l) (upd H l (.tup ys))
theorem rW (K:Frag) (h:X.K=K:=by rfl):eU X (.type "tuple") (kX K):=by
 subst h;intro pins s σ H xs us Q I r ⟨p,ys,e,hq,q⟩;exact rP pins s σ H xs us Q I r ⟨p,ys,e,.inl ⟨hq,q⟩⟩
theorem OS (K:Frag) (h:X.K=K:=by rfl):O2 X "str.join" (rJoin K):=h▸JX
theorem eX (K:Frag) {j:Nat} {t:KY} {n:Nat} (hc:X.calm=true) (h:O6 X es t) (hK:X.K=K:=by rfl)
  (hn:(assignEach es X.env).length=n:=by rfl) (hst:(assignEach es X.env).findIdx? (·.1)=none:=by rfl):PG X (.Tuple es j pos) (qN K n t):=hK▸M9 hc h hn hst
theorem j7 (K:Frag) (hl:PE X l tl) (h:X.K=K:=by rfl):PI X tg l (K3 K tl):=h▸KJ hl
theorem eK (K:Frag) (hl:PE X l tl) (h:X.K=K:=by rfl):PI X tg l (N5 K tl):=h▸NS hl
theorem g4 (K:Frag) {o e:Expr} {to:TE} {t:TA} {name:Str} {apos cpos:Pos} {T id:String} {r:V->List V->Hp->VK->Prop} (pa:PlainAttrs T) (slot:Slot T name id) (hty:typeOf (.builtin id)=pure (.type "method_descriptor")) (hm:O2 X id r) (ho:PE X o to) (ha:PA X (e::es) t) (hK:X.K=K:=by rfl)
  (hbase:attributeBase o name X.env (eval o X.env)=eval o X.env:=by rfl)
  (hfew:((backTo cpos (starEach (e::es) X.env)).all (fun x=>!x.1) && (backToKw cpos (keywordEach [] X.env)).all (fun x=>x.1.isSome)
   && decide ((e::es).length+([]:List Keyword).length+(if([]:List Keyword).isEmpty then 0 else 1)<30))=true:=by rfl)
  (hline:(apos.endLine==cpos.line)=true:=by rfl) (hs:starEach (e::es) X.env=(false,eval e X.env)::starEach es X.env:=by rfl) (hplain:(backTo cpos (starEach es X.env)).any (·.1)=false:=by rfl):
  PE X (.Call (.Attribute o name apos) (e::es) [] cpos) (EK K T r to t):=hK▸O8 pa slot hty hm ho ha hbase hfew hline hs hplain
end
end L2
namespace PM
open PySem PyProof.Rows
noncomputable def walk (sm:Nat->Nat):List Nat->List Nat->Bool->List Nat
 |[],f,_=>f
 |c::r,f,w=>if c=32 then walk sm r f (!f.isEmpty)else walk sm r (f++(if w=true then [32]else [])++[sm c]) false
noncomputable def step (f p:List Nat):List Nat:=if p=[]then f else f++(if(!f.isEmpty)=true then [32]else [])++p
noncomputable abbrev SP:Str:=Str.ofString " "
noncomputable def W (x:Str):Str:=⟨(walk lo1 x.cps.toList [] false).toArray⟩
end PM
namespace L2
open PySem PySem.Spec PyProof.Rows
inductive Kd where
 |aU|bl|int|str|lst|tup|DE
 deriving DecidableEq
end L2
namespace HT
open PySem PySem.Spec PyProof.Rows
section
variable {prog:Program} {w:World} {A:Around} {E:Value->Shared->Prop} {s:Shared}
theorem nD {t sl:Addr} {items:Array Value} {vl vu:Value} {lo hi:Option Int} {Q:Value->Shared->Prop} (ht:IsTup s.heap t items) (hs:s.heap.IsSliceOf sl vl vu .none) (pl:IsPart vl lo) (pu:IsPart vu hi)
  (hw:d4 items.size 0 lo=0/\d4 items.size items.size hi=items.size) (h:Q (.ref t) s):wpAny (model prog w) A (getItem (.ref t) (.ref sl)) Q E s:=by
 obtain⟨os,hos,hcs,hds⟩:=id hs;have hTs:s.TypeIs (.ref sl) "slice":=⟨os,hos,hcs⟩;unfold getItem
 try with_reducible refine wpAny_holding ?_
 first|refine wpAny_bind (wpAny_pure ?_)|skip
 refine wpAny_bind (wpAny_sequenceKey ht.typeIs (by decide) ?_);refine wpAny_bind (wpAny_callSpecial?_slot (name:=Str.ofString "__getitem__") ht.typeIs PyProof.Rows.slot_tuple_getitem
  (wpAny_call_entry PyProof.Rows.slot_tuple_getitem ht.typeIs entry_tuple_getitem ?_ (args_tuple_getitem _ _)))
 show wpAny _ _ (Builtin.Tuple.tupleItemsOf (.ref t)>>=_) _ _ s;refine wpAny_bind (tupleItemsOf_ ht ?_);refine wpAny_bind (wpAny_typeOf hTs ?_);rw[if_pos (by decide)];refine wpAny_bind (iE hs pl pu ?_);have hyes:(((d4 items.size 0 lo:Nat):Int)==0 && (1:Int)==1 && (d4 items.size items.size hi - d4 items.size 0 lo)==items.size)=true:=by
  rw[hw.1,hw.2];simp
 show wpAny _ _ (if(((d4 items.size 0 lo:Nat):Int)==0 && (1:Int)==1 && (d4 items.size items.size hi - d4 items.size 0 lo)==items.size)=true then _ else _) _ _ s;rw[if_pos hyes];refine wpAny_bind (wpAny_bind (wpAny_typeOf ht.typeIs (wpAny_pure ?_)));rw[if_pos (by decide)];refine wpAny_bind (wpAny_rule ?_)
 first
  |exact wpAny_pure ⟨_,rfl,wpAny_pure h⟩
  |exact wpAny_bind (wpAny_pure ⟨_,rfl,wpAny_pure h⟩)
end
end HT
namespace L2
open PySem PySem.Spec PyProof.Rows
variable {a b l:Addr} {p:Array Nat} {R:Array Nat->Prop} {r r' r'':Bool} {X:Cx} {h':Heap} {H H':Hp} {A:KeyOrd} {pins:List (Addr×Obj)} {xs:List (List Key×Addr×Value)} {kvs:List (List Key×V)} {ys:List V} {vs:List Value} {ep i j k m n:Nat} {ans:Nat->Nat->Bool} {p3 pos pos' py spos:Pos} {s:Shared} {σ:St} {x y:Str} {α β:Type} {u:Value} {Q:Value->Shared->Prop} {w:World}
section
variable {X:Cx}
def sF:V->Option Int->Option Int->Hp->VK->Prop:=fun x lo hi H Q=>∃a xs,x= .ref a/\H a=some (.tup xs)/\∀p H',aG H H'->H' p=some (.tup (iM xs lo hi))->Q (.ref p) H'
theorem KS:O5 X sF:=by
 intro pins s σ H x v vl vu lo hi sl Q I rx hs pl pu h;obtain⟨a,xs,rfl,hx,q⟩:=h
 by_cases hw:HT.d4 xs.length 0 lo=0/\HT.d4 xs.length xs.length hi=xs.length
 .cases rx;obtain⟨its,r,ht,hz⟩:=I.tuple (bO.of (K:=X.K) hx);have hlen:its.toArray.size=xs.length:=by rw[size_toArray];exact r.length.symm
  refine⟨"tuple",_,PyProof.Rows.slot_tuple_getitem.lookup,ht.typeIs,?_⟩;refine HT.nD ht hs pl pu (by rw[hlen];exact hw) ⟨.ref a,H,I,rfl,q a H (aG.refl _) ?_⟩;have e:iM xs lo hi=xs:=by unfold iM;rw[hw.1,hw.2,List.drop_zero,Nat.sub_zero,take_length]
  rw[e];exact hx
 .exact NR pins s σ H (.ref a) v vl vu lo hi sl Q I rx hs pl pu ⟨a,xs,rfl,bO.of hx,hw,fun p hp=>q p _ (aG.upd hp) aB⟩
end
section
variable {κ:Type} [DecidableEq κ]
noncomputable def bG (kvs:List (κ×V)) (k:κ):Option V:=(kvs.find? fun kv=>decide (kv.1=k)).map (·.2)
noncomputable def putK (kvs:List (κ×V)) (k:κ) (v:V):List (κ×V):=
 if(kvs.any fun kv=>decide (kv.1=k))=true then kvs.map (fun kv=>if kv.1=k then(kv.1,v)else kv)else kvs++[(k,v)]
theorem bJ {p:κ×V} {r:List (κ×V)} {k:κ} (e:p.1=k):bG (p::r) k=some p.2:=by simp[bG,find?_cons,e]
theorem bD {p:κ×V} {r:List (κ×V)} {k:κ} (e:¬p.1=k):bG (p::r) k=bG r k:=by simp[bG,find?_cons,e]
theorem eF (k:κ):∀kvs:List (κ×V),(kvs.any fun kv=>decide (kv.1=k))=(bG kvs k).isSome
 |[]=>rfl
 |p::r=>by
  rw[any_cons]
  by_cases e:p.1=k
  .simp only[bJ e,decide_eq_true e,Bool.true_or,Option.isSome_some]
  .rw[bD e,decide_eq_false e,Bool.false_or];exact eF k r
theorem xP (k j:κ) (y:V):∀kvs:List (κ×V),bG (kvs.map fun kv=>if kv.1=k then(kv.1,y)else kv) j=(bG kvs j).map fun x=>if j=k then y else x
 |[]=>rfl
 | p::r=>by
  have ih:=xP k j y r;rw[map_cons]
  by_cases h:p.1=k
  .rw[if_pos h]
   by_cases e:p.1=j
   .rw[bJ (p:=(p.1,y)) e,bJ e,map_some,if_pos (e.symm.trans h)]
   .rw[bD (p:=(p.1,y)) e,bD e,ih]
  .rw[if_neg h]
   by_cases e:p.1=j
   .rw[bJ (p:=p) e,bJ e,map_some,if_neg (fun z=>h (e.trans z))]
   .rw[bD (p:=p) e,bD e,ih]
theorem tD (k j:κ) (y:V):∀kvs:List (κ×V),bG kvs k=none->bG (kvs++[(k,y)]) j=if j=k then some y else bG kvs j
 |[],_=>by
  by_cases e:k=j
  .rw[if_pos e.symm];exact bJ (p:=(k,y)) e
  .rw[if_neg (fun z=>e z.symm)];exact bD (p:=(k,y)) e
 |p::r,hn=>by
  rw[cons_append];have hk:¬p.1=k:=fun z=>by rw[bJ z]at hn;cases hn
  rw[bD hk]at hn;have ih:=tD k j y r hn
  by_cases e:p.1=j
  .rw[bJ e,bJ e,if_neg (fun z=>hk (e.trans z))]
  .rw[bD e,bD e,ih]
theorem GY (kvs:List (κ×V)) (k j:κ) (y:V):bG (putK kvs k y) j=if j=k then some y else bG kvs j:=by
 unfold putK
 by_cases a:(kvs.any fun kv=>decide (kv.1=k))=true
 .rw[if_pos a,xP];rw[eF]at a
  by_cases e:j=k
  .obtain⟨x,hx⟩:=isSome_iff_exists.mp a;rw[if_pos e,e,hx,map_some,if_pos rfl]
  .rw[if_neg e];cases bG kvs j with
   |none=>rfl
   |some x=>rw[map_some,if_neg e]
 .rw[if_neg a];refine tD k j y kvs ?_;rw[eF]at a;cases q:bG kvs k with
  |none=>rfl
  |some x=>rw[q]at a;exact(a rfl).elim
theorem gN (kvs:List (κ×V)) (k:κ) (v:V):(putK kvs k v).length<=kvs.length+1:=by
 unfold putK;split
 .rw[length_map];omega
 .rw[length_append,length_cons,length_nil];omega
theorem D5 {kvs:List (κ×V)} {k:κ} (v:V) (h:bG kvs k=none):putK kvs k v=kvs++[(k,v)]:=by
 unfold putK;rw[eF,h];exact if_neg (by decide)
theorem o9.iH {o:Option V} {u:Option Value} (r:o9 o u):o.isSome=u.isSome:=by
 cases o with
 |none=>cases u with
  |none=>rfl
  |some _=>exact(show False from r).elim
 |some _=>cases u with
  |none=>exact(show False from r).elim
  |some _=>rfl
theorem o9.getD {o:Option V} {u:Option Value} {d:V} {d':Value} (r:o9 o u) (rd:RelV d d'):RelV (o.getD d) (u.getD d'):=by
 cases o with
 |none=>cases u with
  |none=>exact rd
  |some _=>exact(show False from r).elim
 |some _=>cases u with
  |none=>exact(show False from r).elim
  |some _=>exact r
theorem KV.val {kvs:List (κ×V)} {vs:List (κ×Value)} (r:KV kvs vs) (k:κ):o9 (bG kvs k) (valueAt vs k):=by
 unfold KV at r
 induction r with
 |nil=>exact True.intro
 | @cons p q ps qs h t ih=>
  obtain⟨h1,h2⟩:=h
  by_cases e:p.1=k
  .have e':q.1=k:=h1.symm.trans e;have b:valueAt (q::qs) k=some q.2:=by simp[valueAt,find?_cons,e']
   rw[bJ e,b];exact h2
  .have e':¬q.1=k:=fun z=>e (h1.trans z)
   have b:valueAt (q::qs) k=valueAt qs k:=by simp[valueAt,find?_cons,e']
   rw[bD e,b];exact ih
theorem KV.any {kvs:List (κ×V)} {vs:List (κ×Value)} (r:KV kvs vs) (k:κ):(kvs.any fun kv=>decide (kv.1=k))=vs.any fun kv=>decide (kv.1=k):=by
 unfold KV at r
 induction r with
 |nil=>rfl
 |cons h t ih=>rw[any_cons,any_cons,ih,h.1]
theorem KV.L6 {kvs:List (κ×V)} {vs:List (κ×Value)} (r:KV kvs vs) (k:κ) {y:V} (ry:RelV y u):
  KV (kvs.map fun kv=>if kv.1=k then(kv.1,y)else kv) (vs.map fun kv=>if kv.1=k then(kv.1,u)else kv):=by
 unfold KV at r⊢
 induction r with
 |nil=>exact .nil
 | @cons p q ps qs h t ih=>
  rw[map_cons,map_cons];refine .cons ?_ ih;obtain⟨h1,h2⟩:=h
  by_cases e:p.1=k
  .rw[if_pos e,if_pos (h1.symm.trans e)];exact⟨h1,ry⟩
  .rw[if_neg e,if_neg (fun z=>e (h1.trans z))];exact⟨h1,h2⟩
theorem KV.put {kvs:List (κ×V)} {vs:List (κ×Value)} (r:KV kvs vs) (k:κ) {y:V} (ry:RelV y u):KV (putK kvs k y) (stored vs k u):=by
 unfold putK stored;rw[r.any k]
 by_cases e:(vs.any fun kv=>decide (kv.1=k))=true
 .rw[if_pos e,if_pos e];exact r.L6 k ry
 .rw[if_neg e,if_neg e];exact Paired.snoc r ⟨rfl,ry⟩
theorem KV.keys {kvs:List (κ×V)} {vs:List (κ×Value)} (r:KV kvs vs):kvs.map (·.1)=vs.map (·.1):=by
 unfold KV at r
 induction r with
 |nil=>rfl
 |cons h t ih=>rw[map_cons,map_cons,ih,h.1]
theorem KV.length {kvs:List (κ×V)} {vs:List (κ×Value)} (r:KV kvs vs):kvs.length=vs.length:=Paired.length r
end
theorem jX {P:Program} {k:Key} {u:Value} (r:RelV (kV k) u):(aX P w).is k u=true:=by
 cases k with
 |inl i=>obtain⟨t,e⟩:=(show∃t,u=Value.int i t from r);subst e;exact xD P w i t
 |inr x=>obtain⟨t,e⟩:=(show∃t,u=Value.str x t from r);subst e;exact w5 P w x t
theorem sP {P:Program}:∀{ks:List Key} {us:List Value},Vals (ks.map kV) us->ItemsAre (aX P w) ks us
 |[],_,r=>by rw[map_nil]at r;cases r;exact .nil
 |k::ks,_,r=>by
  rw[map_cons]at r;cases r with
  |cons h t=>exact .cons (jX h) (sP t)
abbrev KT (H:Hp):List (List Key×V)->List (List Key×Addr×Value)->Prop:=Paired fun p q=>p.1=q.1/\H q.2.1=some (.tup (p.1.map kV))/\RelV p.2 q.2.2
theorem KT.val (r:KT H kvs xs) (k:List Key):o9 (bG kvs k) ((atKey xs k).map (·.2)):=by
 induction r with
 |nil=>exact True.intro
 | @cons p q ps qs h t ih=>
  obtain⟨h1,_,h2⟩:=h
  by_cases e:p.1=k
  .have e':q.1=k:=h1.symm.trans e;have b:atKey (q::qs) k=some q.2:=by simp[atKey,find?_cons,e']
   rw[bJ e,b];exact h2
  .have e':¬q.1=k:=fun z=>e (h1.trans z)
   have b:atKey (q::qs) k=atKey qs k:=by simp[atKey,find?_cons,e']
   rw[bD e,b];exact ih
theorem KT.L6 (r:KT H kvs xs) (k:List Key) {y:V} (ry:RelV y u):
  KT H (kvs.map fun kv=>if kv.1=k then(kv.1,y)else kv) (xs.map (putAt k u)):=by
 induction r with
 |nil=>exact .nil
 | @cons p q ps qs h t ih=>
  rw[map_cons,map_cons];refine .cons ?_ ih;obtain⟨h1,h2,h3⟩:=h;unfold putAt
  by_cases e:p.1=k
  .rw[if_pos e,if_pos (h1.symm.trans e)];exact⟨h1,h2,ry⟩
  .rw[if_neg e,if_neg (fun z=>e (h1.trans z))];exact⟨h1,h2,h3⟩
theorem KT.put (r:KT H kvs xs) (k:List Key) {y:V} (hb:H b=some (.tup (k.map kV))) (ry:RelV y u):
  KT H (putK kvs k y) (storedH xs k b u):=by
 have e:(kvs.any fun kv=>decide (kv.1=k))=(atKey xs k).isSome:=by
  rw[eF,(r.val k).iH,isSome_map]
 unfold putK storedH;rw[e]
 by_cases q:(atKey xs k).isSome=true
 .rw[if_pos q,if_pos q];exact r.L6 k ry
 .rw[if_neg q,if_neg q];exact Paired.snoc r ⟨rfl,hb,ry⟩
theorem KT.keeps (r:KT H kvs xs) (ht:∀b ys,H b=some (.tup ys)->H' b=some (.tup ys)):KT H' kvs xs:=
 Paired.dP r fun _ _ z=>⟨z.1,ht _ _ z.2.1,z.2.2⟩
def D4 (H:Hp) (a:Addr) (kvs:List (Key×V)):Prop:=∃ep,Rd H a (.dK kvs ep)
def bY (H:Hp) (a:Addr) (kvs:List (Key×V)):Prop:=∃ep,H a=some (.dK kvs ep)
theorem bY.rd {kvs:List (Key×V)} (h:bY H a kvs):D4 H a kvs:=let⟨ep,e⟩:=h;⟨ep,.inl e⟩
theorem bY.QZ {kvs:List (Key×V)} (h:bY H a kvs):OB (H a):=by obtain⟨_,e⟩:=h;rw[e];exact True.intro
section
variable {P:Program} {w:World} {H:Hp} {h:Heap} {a:Addr}
theorem LF {u:HO} (ok:jE P w H h) (e:Rd H a u):cV P w H h a u:=e.ok ok
theorem qH {kvs:List (Key×V)} (ok:jE P w H h) (e:Rd H a (.dK kvs ep)):kvs.length<=sizeLine/\(a==sysModules)=false/\∃vs,KV kvs vs/\h.DictAt (aX P w) a vs ep:=
 show cV P w H h a (.dK kvs ep)from LF ok e
theorem gQ {kvs:List (Key×V)} (ok:jE P w H h) (e:D4 H a kvs):kvs.length<=sizeLine/\(a==sysModules)=false/\∃vs,KV kvs vs/\h.DictOf (aX P w) a vs:=
 let⟨_,e⟩:=e;let⟨z,y,vs,r,d⟩:=qH ok e;⟨z,y,vs,r,d.dictOf⟩
theorem EO {kvs:List (Key×V)} (ok:jE P w H h) (e:bY H a kvs):kvs.length<=sizeLine/\(a==sysModules)=false/\∃vs,KV kvs vs/\h.DictOf (aX P w) a vs:=gQ ok e.rd
theorem lV {ks:List Key} (ok:jE P w H h) (e:H a=some (.tup (ks.map kV))):(tupleKind (aX P w)).is h ks a:=by
 obtain⟨_,its,r,⟨o,h1,h2,n,h3⟩,_⟩:=(show cV P w H h a (.tup (ks.map kV))from ok a _ e);exact⟨o,its.toArray,n,h1,h2,h3,by simpa using sP r⟩
theorem oJ {kvs:List (List Key×V)} (ok:jE P w H h) (e:Rd H a (.dT kvs)):kvs.length<=sizeLine/\(a==sysModules)=false/\
  ∃xs,KT H kvs xs/\h.DictOfH (tupleKind (aX P w)) a xs:=by
 obtain⟨z,y,xs,r,o,es,ep,h1,h2,h3,h4,h5⟩:=(show cV P w H h a (.dT kvs)from LF ok e);refine⟨z,y,xs,r,o,es,ep,h1,h2,h3,h4,fun x hx=>?_,h5⟩;have all:∀{l:List (List Key×V)} {m:List (List Key×Addr×Value)},KT H l m->∀x∈m,(tupleKind (aX P w)).is h x.1 x.2.1:=by
  intro l m q
  induction q with
  |nil=>intro x hx;exact nomatch hx
  | @cons p q ps qs hq t ih=>
   intro x hx;rcases mem_cons.mp hx with e|hx
   .subst e;exact lV ok (by rw[<-hq.1];exact hq.2.1)
   .exact ih x hx
 exact all r x hx
theorem PQ (ok:jE P w H h) (e:H a=some (.dT kvs)):kvs.length<=sizeLine/\(a==sysModules)=false/\
  ∃xs,KT H kvs xs/\h.DictOfH (tupleKind (aX P w)) a xs:=oJ ok (.inl e)
end
def n6 (H:Hp) (a:Addr) (y:V) (r:Option V):Prop:=
 (∃kvs k,D4 H a kvs/\y=kV k/\r=bG kvs k)\/ ∃kvs k b,Rd H a (.dT kvs)/\y= .ref b/\H b=some (.tup (k.map kV))/\r=bG kvs k
def O1 (H:Hp) (a:Addr) (y v:V) (Q:Hp->Prop):Prop:=
 (∃kvs k,bY H a kvs/\y=kV k/\kvs.length<sizeLine/\∀ep,Q (upd H a (.dK (putK kvs k v) ep)))\/
 ∃kvs k b,H a=some (.dT kvs)/\y= .ref b/\H b=some (.tup (k.map kV))/\kvs.length<sizeLine/\Q (upd H a (.dT (putK kvs k v)))
section
variable {X:Cx} {pins:List (Addr×Obj)} {σ:St} {H:Hp} {s:Shared} {a:Addr} {y v:V} {u r:Value} {o:Option V} {A:Around} {E:Value->Shared->Prop}
theorem Inv.big (I:Inv X pins σ H s):sysModules<s.heap.objs.size:=by
 have h:mainGlobals<s.heap.objs.size:=(I.mod.glob.keeps I.bk).lt;exact lt_trans (by decide) h
theorem CO (hu:A.units+1<cLine) (I:Inv X pins σ H s) (g:n6 H a y (some v)) (ry:RelV y u) (h:∀w' s',Inv X pins σ H s'->RelV v w'->Q w' s'):
  wpAny (model X.prog X.w) A (getItem (.ref a) u) Q E s:=by
 rcases g with⟨kvs,k,e,ey,l⟩|⟨kvs,k,b,e,ey,eb,l⟩
 .subst ey;obtain⟨z,hd,vs,rel,dd⟩:=gQ I.aW e;obtain⟨w',hw,nF⟩:=o9.some_of (v:=v) (o:=valueAt vs k) (by rw[l];exact rel.val k);exact wpAny_getItem_of (jX ry) dd.mapOf hw (h w' _ (I.tok _) nF)
 .subst ey;cases(show u=Value.ref b from ry);obtain⟨z,hd,xs,rel,dd⟩:=oJ I.aW e;obtain⟨w',hw,nF⟩:=o9.some_of (v:=v) (o:=(atKey xs k).map (·.2)) (by rw[l];exact rel.val k);obtain⟨p,hp,hp2⟩:=map_eq_some_iff.mp hw;refine wpAny_getItem_heap (tupleKind_room_in1 hu) (lV I.aW eb) dd hp ?_;rw[hp2];exact h w' _ (I.tok _) nF
theorem Q8 (hu:A.units+1<cLine) (I:Inv X pins σ H s) (g:n6 H a y o) (ry:RelV y u) (h:∀s',Inv X pins σ H s'->Q (.bool o.isSome) s'):
  wpAny (model X.prog X.w) A (compareOp .In u (.ref a)) Q E s:=by
 rcases g with⟨kvs,k,e,ey,l⟩|⟨kvs,k,b,e,ey,eb,l⟩
 .subst ey;obtain⟨z,hd,vs,rel,dd⟩:=gQ I.aW e;refine wpAny_in_of (jX ry) hd dd.mapOf ?_;rw[<-(rel.val k).iH,<-l];exact h _ (I.tok _)
 .subst ey;cases(show u=Value.ref b from ry);obtain⟨z,hd,xs,rel,dd⟩:=oJ I.aW e;refine wpAny_in_heap (tupleKind_room_in1 hu) (lV I.aW eb) hd dd ?_;have q:=(rel.val k).iH;rw[isSome_map]at q;rw[<-q,<-l];exact h _ (I.tok _)
theorem J6 (hu:A.units+1<cLine) (I:Inv X pins σ H s) (g:n6 H a y o) (ry:RelV y u) (h:∀s',Inv X pins σ H s'->Q (.bool (!o.isSome)) s'):
  wpAny (model X.prog X.w) A (compareOp .NotIn u (.ref a)) Q E s:=by
 rcases g with⟨kvs,k,e,ey,l⟩|⟨kvs,k,b,e,ey,eb,l⟩
 .subst ey;obtain⟨z,hd,vs,rel,dd⟩:=gQ I.aW e;refine wpAny_notIn_of (jX ry) hd dd.mapOf ?_;rw[<-(rel.val k).iH,<-l];exact h _ (I.tok _)
 .subst ey;cases(show u=Value.ref b from ry);obtain⟨z,hd,xs,rel,dd⟩:=oJ I.aW e;refine wpAny_notIn_heap (tupleKind_room_in1 hu) (lV I.aW eb) hd dd ?_;have q:=(rel.val k).iH;rw[isSome_map]at q;rw[<-q,<-l];exact h _ (I.tok _)
theorem pG {t':Nat} {ob:HO} (I:Inv X pins σ H s) (mu:OB (H a)) (hs:Heap.SameBut a s.heap h') (he:∃q,h'.get? a=some q) (new:cV X.prog X.w (upd H a ob) h' a ob):
  Inv X pins σ (upd H a ob) {s with heap:=h',toks:=t'}:=
 I.write (x:=a) (e:=a) mu (.inl rfl) (fun b q hb z=>(hs.2 b hb).trans z) he new
theorem zQ {P:Program} {kvs:List (Key×V)} {vs:List (Key×Value)} (z:kvs.length<=sizeLine) (hd:(a==sysModules)=false) (rel:KV kvs vs) (dd:h'.DictAt (aX P w) a vs ep):
  cV P w H' h' a (.dK kvs ep):=⟨z,hd,vs,rel,dd⟩
theorem CH {Z:Hp->Prop} {Q:Unit->Shared->Prop} (hu:A.units+1<cLine) (I:Inv X pins σ H s) (g:O1 H a y v Z) (ry:RelV y u) (rv:RelV v r) (h:∀H' s',Inv X pins σ H' s'->Z H'->Q () s'):
  wpAny (model X.prog X.w) A (setItem (.ref a) u r) Q E s:=by
 rcases g with⟨kvs,k,e,ey,l,eH⟩|⟨kvs,k,b,e,ey,eb,l,eH⟩
 .subst ey;obtain⟨z,hd,vs,rel,dd⟩:=EO I.aW e;have hz:vs.length<=sizeLine:=by rw[<-rel.length];exact z
  have hl:(putK kvs k v).length<=sizeLine:=by have:=gN kvs k v;omega
  refine wpAny_setItem_pairs (hsz:=hz) (jX ry) dd fun h' dd' hs=>?_
  obtain⟨ep,da⟩:=dd'.dictAt;refine h _ _ ?_ (eH ep);have he:∃q,h'.get? a=some q:=let⟨q,_,_,hq,_⟩:=dd';⟨q,hq⟩
  exact pG I e.QZ hs he (zQ hl hd (rel.put k rv) da)
 .subst ey;cases(show u=Value.ref b from ry);obtain⟨z,hd,xs,rel,dd⟩:=PQ I.aW e;have hz:xs.length<=sizeLine:=by rw[<-Paired.length rel];exact z
  have hl:(putK kvs k v).length<=sizeLine:=by have:=gN kvs k v;omega
  refine wpAny_setItem_heap (hsz:=hz) (tupleKind_room_in1 hu) (lV I.aW eb) dd fun h' dd' hs=>h _ _ ?_ eH
  obtain⟨q,es,ep,hq,h2,h3,h4,_,h5⟩:=dd';refine pG I (by rw[e];exact True.intro) hs ⟨q,hq⟩ ⟨hl,hd,_,(rel.put k eb rv).keeps fun c ys ec=>?_,q,es,ep,hq,h2,h3,h4,h5⟩;rw[aH (yJ ec e (fun z=>nomatch z))];exact ec
end
theorem wB {y:V} {o:Option V} (I:Inv X pins σ H s) (g:n6 H a y o):s.TypeIs (.ref a) "dict":=by
 rcases g with⟨kvs,k,e,_,_⟩|⟨kvs,k,b,e,_,_,_⟩
 .obtain⟨_,_,vs,_,dd⟩:=gQ I.aW e;exact dd.typeIs
 .obtain⟨_,_,xs,_,dd⟩:=oJ I.aW e;exact dd.typeIs
def yK (td ty tv:TE):TS:=fun D σ H=>tv σ H fun v H1=>td σ H1 fun x H2=>ty σ H2 fun y H3=>∃a,x= .ref a/\O1 H3 a y v (D.nx σ)
section
variable {X:Cx} {o i e value:Expr} {pos pos' tpos:Pos} {td ty tv:TE}
theorem eG (hu:X.A.units+1<cLine) (ho:PE X o td) (hi:PE X i ty) (hv:PE X value tv) (hs:swapsWith value (some (.Subscript o i pos')) pos.line X.env=pure false):
  PS X (.Assign [.Subscript o i pos'] value pos) (yK td ty tv):=by
 intro pins s σ H D I h;refine wpAny_Assign_Subscript (cG (hv pins s σ H _ I h) fun r s1 ⟨v,H1,I1,rv,q1⟩=>cG (ho pins s1 σ H1 _ I1 q1) fun u s2 ⟨x,H2,I2,rx,q2⟩=>cG (hi pins s2 σ H2 _ I2 q2) fun iv s3 ⟨y,H3,I3,ry,a,ex,g⟩=>?_) hs;subst ex;obtain rfl:u=Value.ref a:=rx;exact CH hu I3 g ry rv fun H4 s4 I4 q3=>⟨σ,H4,I4,q3⟩
end
theorem FJ {P:Program} (h:Heap) (hb:sysModules<h.objs.size):cV P w H (h.push {cls:=.type "dict",data:=.dict #[]}) h.objs.size (.dK [] 0):=
 ⟨zero_le _,beq_eq_false_iff_ne.mpr (Ne.symm (ne_of_lt hb)),[],.nil,_, #[],get?_push_size _ rfl,⟨rfl,rfl,rfl⟩,rfl,(fun _ he=>by simp at he),PySem.Pairs.nil,nodup_nil⟩
def g7:TE:=fun _ H Q=>∀p,H p=none->Q (.ref p) (upd H p (.dK [] 0))
section
variable {X:Cx} {pos:Pos}
theorem e9:PE X (.Dict [] [] pos) g7:=fun pins s σ H Q I h=>
 wpAny_Dict_empty ⟨.ref s.heap.objs.size,_,I.laid (a:=s.heap.objs.size) (o:=.dK [] 0) (t':=s.toks) (fun _ _ q=>get?_push_of_some _ q) (le_refl _) (FJ s.heap I.big),rfl,h _ (I.aW.fresh (le_refl _))⟩
end
structure M1 (X:Cx) (o:Expr) (m:Str) (apos:Pos) (e:Expr) (cpos:Pos):Prop where
 base:attributeBase o m X.env (eval o X.env)=eval o X.env
 JG:((backTo cpos (starEach [e] X.env)).all (fun x=>!x.1) && (backToKw cpos (keywordEach [] X.env)).all (fun x=>x.1.isSome)
  && decide (([e]:List Expr).length+([]:List Keyword).length+(if([]:List Keyword).isEmpty then 0 else 1)<30))=true
 line:(apos.endLine==cpos.line)=true
 trees:backTo cpos (starEach [e] X.env)=[(false,eval e X.env)]
structure M2 (X:Cx) (o:Expr) (m:Str) (apos:Pos) (e f:Expr) (cpos:Pos):Prop where
 base:attributeBase o m X.env (eval o X.env)=eval o X.env
 JG:((backTo cpos (starEach [e,f] X.env)).all (fun x=>!x.1) && (backToKw cpos (keywordEach [] X.env)).all (fun x=>x.1.isSome)
  && decide (([e,f]:List Expr).length+([]:List Keyword).length+(if([]:List Keyword).isEmpty then 0 else 1)<30))=true
 line:(apos.endLine==cpos.line)=true
 trees:backTo cpos (starEach [e,f] X.env)=[(false,eval e X.env),(false,eval f X.env)]
def QO (H:Hp) (a:Addr):Prop:=(∃kvs,D4 H a kvs)\/ ∃kvs,Rd H a (.dT kvs)
theorem y1 (I:Inv X pins σ H s) (d:QO H a):
  s.TypeIs (.ref a) "dict"/\(∀b,Value.ref a= .ref b->∃ob,s.heap.get? b=some ob/\ob.dict=none)/\(a==sysModules)=false:=by
 rcases d with⟨kvs,e⟩|⟨kvs,e⟩
 .obtain⟨_,hd,vs,_,dd⟩:=gQ I.aW e;refine⟨dd.typeIs,fun b q=>?_,hd⟩;cases q;obtain⟨ob,_,_,h1,h2,_⟩:=dd;exact⟨ob,h1,h2.2.1⟩
 .obtain⟨_,hd,xs,_,dd⟩:=oJ I.aW e;refine⟨dd.typeIs,fun b q=>?_,hd⟩;cases q;obtain⟨ob,_,_,h1,h2,_⟩:=dd;exact⟨ob,h1,h2.2.1⟩
section
variable {X:Cx} {pins:List (Addr×Obj)} {σ:St} {H:Hp} {s:Shared} {a:Addr} {y d:V} {u r:Value} {o:Option V} {A:Around} {E:Value->Shared->Prop}
theorem NH (hu:A.units+1<cLine) (I:Inv X pins σ H s) (g:n6 H a y o) (ry:RelV y u) (h:∀w' s',Inv X pins σ H s'->RelV (o.getD .aU) w'->Q w' s'):
  wpAny (model X.prog X.w) A (call (.builtin "dict.get") [.ref a,u]) Q E s:=by
 rcases g with⟨kvs,k,e,ey,l⟩|⟨kvs,k,b,e,ey,eb,l⟩
 .subst ey;obtain⟨z,hd,vs,rel,dd⟩:=gQ I.aW e;refine call_meetsIn slot_dict_get dd.typeIs entry_dict_get (PySem.F.args_dict_get_2 _ _) (meets_dict_get (aX X.prog X.w) a (jX ry) hd) ⟨_,dd.mapOf,h _ _ (I.tok _) ?_⟩;rw[l];exact(rel.val k).getD rfl
 .subst ey;cases(show u=Value.ref b from ry);obtain⟨z,hd,xs,rel,dd⟩:=oJ I.aW e;refine call_meetsIn slot_dict_get dd.typeIs entry_dict_get (PySem.F.args_dict_get_2 _ _) (meetsH_dict_get (tupleKind (aX X.prog X.w)) a b hd) ⟨tupleKind_room_in1 hu,k,xs,lV I.aW eb,dd,h _ _ (I.tok _) ?_⟩;rw[l];exact(rel.val k).getD rfl
theorem MZ (hu:A.units+1<cLine) (I:Inv X pins σ H s) (g:n6 H a y o) (ry:RelV y u) (rd:RelV d r) (h:∀w' s',Inv X pins σ H s'->RelV (o.getD d) w'->Q w' s'):
  wpAny (model X.prog X.w) A (call (.builtin "dict.get") [.ref a,u,r]) Q E s:=by
 rcases g with⟨kvs,k,e,ey,l⟩|⟨kvs,k,b,e,ey,eb,l⟩
 .subst ey;obtain⟨z,hd,vs,rel,dd⟩:=gQ I.aW e;refine call_meetsIn slot_dict_get dd.typeIs entry_dict_get (PySem.F.args_dict_get_3 _ _ _) (meets_dict_get_default (aX X.prog X.w) a (jX ry) hd r) ⟨_,dd.mapOf,h _ _ (I.tok _) ?_⟩;rw[l];exact(rel.val k).getD rd
 .subst ey;cases(show u=Value.ref b from ry);obtain⟨z,hd,xs,rel,dd⟩:=oJ I.aW e;refine call_meetsIn slot_dict_get dd.typeIs entry_dict_get (PySem.F.args_dict_get_3 _ _ _) (meetsH_dict_get_default (tupleKind (aX X.prog X.w)) a b hd r) ⟨tupleKind_room_in1 hu,k,xs,lV I.aW eb,dd,h _ _ (I.tok _) ?_⟩;rw[l];exact(rel.val k).getD rd
end
def gF (td ty:TE):TE:=fun σ H Q=>td σ H fun x H1=>∃a,x= .ref a/\QO H1 a/\ty σ H1 fun y H2=>∃o,n6 H2 a y o/\Q (o.getD .aU) H2
def fS (td ty tx:TE):TE:=fun σ H Q=>td σ H fun x H1=>∃a,x= .ref a/\QO H1 a/\ty σ H1 fun y H2=>tx σ H2 fun z H3=>∃o,n6 H3 a y o/\Q (o.getD z) H3
section
variable {X:Cx} {o e f:Expr} {apos cpos:Pos} {td ty tx:TE}
theorem nA (hu:X.A.units+1<cLine) (ho:PE X o td) (he:PE X e ty) (m:M1 X o "get" apos e cpos):PE X (.Call (.Attribute o "get" apos) [e] [] cpos) (gF td ty):=by
 intro pins s σ H Q I h;refine wpAny_Call_method m.base m.JG m.line plainAttrs_dict slot_dict_get type_dict_get (cG (ho pins s σ H _ I h) fun u s1 ⟨x,H1,I1,rx,a,ex,d,q1⟩=>?_);subst ex;obtain rfl:u=Value.ref a:=rx;obtain⟨t1,t2,_⟩:=y1 I1 d;refine⟨t1,t2,?_⟩;rw[m.trees];refine Calls.callWith_builtin rfl (Calls.evalArgs_plain (Calls.spliced_cons (cG (he pins s1 σ H1 _ I1 q1) fun iv s2 ⟨y,H2,I2,ry,ov,g,q2⟩=>Calls.spliced_nil ?_)));exact NH hu I2 g ry fun w' s3 I3 nF=>⟨_,H2,I3,nF,q2⟩
theorem wD (hu:X.A.units+1<cLine) (ho:PE X o td) (he:PE X e ty) (hf:PE X f tx) (m:M2 X o "get" apos e f cpos):PE X (.Call (.Attribute o "get" apos) [e,f] [] cpos) (fS td ty tx):=by
 intro pins s σ H Q I h;refine wpAny_Call_method m.base m.JG m.line plainAttrs_dict slot_dict_get type_dict_get (cG (ho pins s σ H _ I h) fun u s1 ⟨x,H1,I1,rx,a,ex,d,q1⟩=>?_);subst ex;obtain rfl:u=Value.ref a:=rx;obtain⟨t1,t2,_⟩:=y1 I1 d;refine⟨t1,t2,?_⟩;rw[m.trees];refine Calls.callWith_builtin rfl (Calls.evalArgs_plain (Calls.spliced_cons (cG (he pins s1 σ H1 _ I1 q1) fun iv s2 ⟨y,H2,I2,ry,q2⟩=>
  Calls.spliced_cons (cG (hf pins s2 σ H2 _ I2 q2) fun fv s3 ⟨z,H3,I3,rz,ov,g,q3⟩=>Calls.spliced_nil ?_))))
 exact MZ hu I3 g ry rz fun w' s4 I4 nF=>⟨_,H3,I4,nF,q3⟩
end
def Kp (H H':Hp):Prop:=∀a o,H a=some o->H' a=some o\/ ∃xs ys,o= .lst xs/\H' a=some (.lst ys)
theorem Kp.lst {xs:List V} (e:H l=some (.lst xs)):Kp H (upd H l (.lst ys)):=fun a o h=>by
 by_cases z:a=l
 .subst z;rw[e]at h;cases h;exact .inr ⟨_,_,rfl,aB⟩
 .exact .inl (by rw[aH z];exact h)
noncomputable def BV (H:Hp):V->Option (List V)
 | .ref a=>match H a with|some (.tup xs)=>some xs|_=>none
 |_=>none
section
variable {X:Cx} {es:List Expr} {te:TE} {t:TA}
theorem RM {a b c} (ha:PE X (.Constant a b c) te) (hr:PA X es t):PA X (.Constant a b c::es) (iF te t):=aA ha hr rfl
end
section
variable {X:Cx} {elt tg iter:Expr} {ifs:List Expr} {scope:Scope} {pos:Pos} {wi:TI} {g:TG} {tt:TT} {te:TE} {N:List Str} {k:Nat} {cA:List Nat}
theorem IQ {iy:Nat} (hc:X.calm=true) (hNd:X.N.Nodup) (hiy:X.N[iy]? =some y) (hy:X.env.scope.names.lookup y=some .local)
  (S:fG X scope N k cA) (hi:PI X tg iter wi) (hg:∀c,PG (aT X scope N c) tg g) (ht:∀c,K2 (aT X scope N c) ifs tt) (he:∀c,PE (aT X scope N c) elt te)
  (hsw:swapsWith (.ListComp elt [⟨tg,iter,ifs,0⟩] scope pos) (some (.Name y py)) spos.line X.env=pure true)
  (hs:∀x,foldedSetIterable iter X.env x=pure x:=by intro _;rfl):PS X (.Assign [.Name y py] (.ListComp elt [⟨tg,iter,ifs,0⟩] scope pos) spos) (kL (tF wi k cA g tt te) (fP iy)):=by
 intro pins s σ H D I h;rw[exec_Assign_Name_used _ _ _ _ hsw];refine wpAny_bind (wpAny_standAt (wpAny_bind ?_));obtain⟨cl,hclos,hcl1,hcl2⟩:=g6 (scope:=scope) (env:=X.env) (fun p hp hf=>I.ok.has p.1 (S.free p hp hf));show wpAny _ X.A (do let _<-comprehension (.ListComp elt [⟨tg,iter,ifs,0⟩] scope pos) scope X.env _ (newList []) false (eval iter X.env) (some (assign (.Name y py) X.env))) _ _ s;refine wpAny_bind (wpAny_mono (wpAny_comprehension_free (use:=some (assign (.Name y py) X.env)) (Q:=fun _ s'=>SP X pins D .next s') rfl hs hclos S.kind S.names (cG (hi pins s σ H _ I h) fun v s1 h1=>cG h1 fun itv s2 h2=>?_)) (fun _ s' hq=>wpAny_pure (wpAny_pure hq)) fun _ _ e=>e);obtain⟨it,fp,tn,J,H2,e,I2,T,st2,f2,q2⟩:=h2;subst e;obtain⟨W,⟨m0,w0⟩,turn⟩:=q2 s2.heap.objs.size (I2.aW.fresh (le_refl _));have hob:∀b∈fp,b<s2.heap.objs.size:=fun b hb=>let⟨o,e,_⟩:=T.obj _ _ st2 b hb;lt_size e
 refine wpAny_newObj_type (wpAny_newFunctionEnv S.cell (by intro y hy;simp at hy) (fun h₁ hns₁ hsb₁=>?_) S.kind);dsimp only at hns₁ hsb₁⊢
 generalize hHH:s2.heap.push {cls:=.type "list",dict:=none,data:=.seq ([]:List Value).toArray}=HH at hns₁ hsb₁⊢
 have hCC:HH.objs.size=s2.heap.objs.size+1:=by rw[<-hHH,size_push]
 have old:∀b o,s2.heap.get? b=some o->h₁.get? b=some o:=fun b o e=>hsb₁.extBut b o (ne_of_lt (hCC▸lt_succ_of_lt (lt_size e))) (get?_push_of_some _ (hHH▸get?_push_of_some _ e))
 have hD:h₁.get? s2.heap.objs.size=some {cls:=.type "list",data:=.seq #[] 0}:=hsb₁.extBut _ _ (ne_of_lt (hCC▸lt_succ_self _)) (get?_push_of_some _ (hHH▸get?_push_size _ rfl));have I4:=fun tk=>AK (tk:=tk) S I2 hcl1 hcl2 hCC f2 hob old hD hns₁
 have X':=aT X scope N ⟨cl,HH.objs.size,s2,H2,fp⟩;have stat:∀{H':Hp},(∀b∈fp,H' b=none)->∀b∈fp,mG (aT X scope N ⟨cl,HH.objs.size,s2,H2,fp⟩) [] H' b:=fun hn b hb=>
  ⟨hn b hb,ne_of_lt (hCC▸lt_succ_of_lt (hob b hb)),(qQ S I2 hcl1 hcl2 (hCC▸le_succ _) f2 hob).wL b hb,.inl hb,fun x c e=>(f2 b hb).2.2.2.2.1 x c (hcl1 x c e),fun p hp=>absurd (show p∈([]:List (Addr×Obj))from hp) (by simp)⟩
 have loop:∀s₃:Shared,s₃={s2 with heap:=h₁,toks:=s2.toks+([]:List (Str×Value)).length}->
   codeAny (model X.prog X.w) X.A (.compLoop (.ListComp elt [⟨tg,iter,ifs,0⟩] scope pos) 0 (.ref it) (.ref s2.heap.objs.size) (compEnvC scope cl HH.objs.size X.env))
    (compPost (model X.prog X.w) X.A X.xe (some (assign (.Name y py) X.env)) (fun _ s'=>SP X pins D .next s') (.ref s2.heap.objs.size) HH.objs.size) s₃:=by
  rintro s₃ rfl;refine tT (fun n s'=>∃i σ' H',Inv (aT X scope N ⟨cl,HH.objs.size,s2,H2,fp⟩) [] σ' H' s'/\tn i s'.heap/\(∀b∈fp,H' b=none)/\W i n σ' H') ?_ m0
   ⟨0,bS k cA σ,_,I4 _,T.keep _ _ _ st2 fun b _ o e=>old b o e,fun b hb=>by rw[aH (ne_of_lt (hob b hb))];exact(f2 b hb).1,w0⟩
  rintro n s3 ⟨i,σ3,H3,I3,st3,fr3,w3⟩;rcases turn i n σ3 H3 w3 with⟨stop,qn⟩|⟨go,NN,hN,step⟩
  .refine cG (T.done (aT X scope N ⟨cl,HH.objs.size,s2,H2,fp⟩) rfl rfl rfl hc i [] s3 σ3 H3 _ I3 (stat fr3) st3 stop) fun r s4 ⟨hr,J4⟩=>?_
   subst hr;obtain⟨m,hn,_⟩:=J4.loc;obtain⟨oC,es,ep,hoC,hdC,rC⟩:=hn;have gI:∀b o,s2.heap.get? b=some o->b≠HH.objs.size:=fun b o e=>ne_of_lt (hCC▸lt_succ_of_lt (lt_size e))
   have szC:s2.heap.objs.size<=HH.objs.size:=hCC▸le_succ _;have u:=J4.base;have I4x:Inv X pins σ H3 s4:=I2.FL (ch:=fp) J4.os u J4.aW J4.bare fun b hb=>by
    obtain⟨_,f1,_,f3,f4,f5⟩:=f2 b hb;exact⟨f3,f1,f4,f5⟩
   have lC:HH.objs.size≠X.env.locals:=ne_of_gt (lt_of_lt_of_le I2.lt szC);have I4p:Inv X ((HH.objs.size,oC)::pins) σ H3 s4:=I4x.pL fun p hp=>by
    rcases mem_cons.mp hp with r|r
    .rw[r];exact⟨hoC,J4.free,lC,I2.P7 szC,fun v z=>by rw[hdC]at z;cases z⟩
    .exact I4x.pin p (mem_append_right _ r)
   show wpAny _ X.A (assign (.Name y py) X.env (.ref s2.heap.objs.size)) _ _ _;refine wpAny_assign_Name (jL I4p hNd hiy (.inl hy) (v:=.ref s2.heap.objs.size) rfl (fun s5 I5=>?_) (.inr hy));have hC5:=I5.pin (HH.objs.size,oC) (mem_append_right _ mem_cons_self);refine⟨m,⟨oC,es,ep,hC5.1,hdC,rC⟩,fun h' hs'=>⟨_,H3,?_,qn⟩⟩;have I6:Inv X pins (σ.set iy (some (.ref s2.heap.objs.size))) H3 s5:=I5.pL fun p hp=>I5.pin p (mem_append_right _ (mem_cons_of_mem _ hp))
   refine I6.turned (it:=HH.objs.size) (t':=s5.toks) (fun b o hb e=>hs'.extBut b o hb e) J4.free lC (.inr (le_trans I2.sz szC)) (fun x c e=>?_) (fun p hp=>?_)
   .obtain⟨v,q⟩:=I2.cell x c e;exact ne_of_lt (lt_of_lt_of_le q.lt szC)
   .exact gI p.1 p.2 (I2.pin p hp).1
  .refine cG (T.item (aT X scope N ⟨cl,HH.objs.size,s2,H2,fp⟩) rfl rfl rfl hc i [] s3 σ3 H3 _ I3 (stat fr3) st3 go) fun r s4 ⟨u,hr,h4⟩=>?_
   subst hr;refine cG h4 fun _ s5 ⟨x,H5,I5,r5,y5,st5,fr5⟩=>?_
   have I5':=I5.pinned (stat fr5) (T.obj _ _ st5);have again:∀{s7:Shared} {σ7:St} {H7:Hp},Inv (aT X scope N ⟨cl,HH.objs.size,s2,H2,fp⟩) ([]++lM fp s5.heap) σ7 H7 s7->NN σ7 H7->
     ∃m,m<n/\∃i σ' H',Inv (aT X scope N ⟨cl,HH.objs.size,s2,H2,fp⟩) [] σ' H' s7/\tn i s7.heap/\(∀b∈fp,H' b=none)/\W i m σ' H':=fun{s7 σ7 H7} I7 n7=>by
    obtain⟨m',hm,w7⟩:=hN σ7 H7 n7;refine⟨m',hm,i+1,σ7,H7,I7.iK,T.keep _ _ _ st5 fun b hb o e=>(I7.pin (b,o) (mem_append_right _ (mem_append_right _ (d7 hb e)))).1,fun b hb=>?_,w7⟩;obtain⟨o,e,d⟩:=T.obj _ _ st5 b hb;exact(I7.pin (b,o) (mem_append_right _ (mem_append_right _ (d7 hb e)))).2.1
   refine cG (hg _ _ s5 σ3 H5 x u _ I5' r5 (step x H5 y5)) fun _ s6 ⟨σ6,H6,I6,q6⟩=>?_
   refine cG (ht _ _ s6 σ6 H6 _ I6 q6) fun b s7 ⟨H7,I7,q7⟩=>?_
   cases b with
   |false=>exact again I7 q7
   |true=>
    refine cG (he _ _ s7 σ6 H7 _ I7 q7) fun y s8 ⟨yv,H8,I8,r8,xs,hl,hz,n8⟩=>?_
    refine cG (d9 _ s8 σ6 H8 (.ref s2.heap.objs.size) [yv] (.ref s2.heap.objs.size) [y] (fun _ H9=>NN σ6 H9) I8 rfl (.cons r8 .nil) ⟨_,xs,yv,rfl,rfl,hl,hz,n8⟩) fun _ s9 ⟨_,H9,I9,_,q9⟩=>?_
    exact again I9 q9
 exact codeAny_compStart_list (loop _ rfl) (T.self X.A 0 _ _ _ (T.keep _ _ _ st2 fun b _ o e=>old b o e) (loop _ rfl))
theorem xR (N:List Str) (k:Nat) (cA:List Nat) (XN:List Str) (xs:Scope) (hc:X.calm=true) (hN:X.N=XN) (hx:X.env.scope=xs) (hNd:X.N.Nodup) (hiy:X.N[i]? =some y) (hy:X.env.scope.names.lookup y=some .local)
  (hi:PI X tg iter wi) (chk:m9 XN xs scope N k cA=true) (hg:∀c,PG (aT X scope N c) tg g) (ht:∀c,K2 (aT X scope N c) ifs tt) (he:∀c,PE (aT X scope N c) elt te)
  (hsw:swapsWith (.ListComp elt [⟨tg,iter,ifs,0⟩] scope pos) (some (.Name y py)) spos.line X.env=pure true:=by rfl)
  (hs:∀x,foldedSetIterable iter X.env x=pure x:=by intro _;rfl):PS X (.Assign [.Name y py] (.ListComp elt [⟨tg,iter,ifs,0⟩] scope pos) spos) (kL (tF wi k cA g tt te) (fP i)):=
 IQ hc hNd hiy hy (i4 hN hx chk) hi hg ht he hsw hs
end
section
variable {X:Cx} {es:List Expr} {e:Expr} {te tk tv:TE} {t:TA}
structure PN (X:Cx) (e:Expr) (t:TE):Prop where
 h:PE X e t
structure QQ (X:Cx) (es:List Expr) (t:TA):Prop where
 h:PA X es t
theorem ew (h:PE X e te):PN X e te:=⟨h⟩
theorem EH:QQ X [] o5:=⟨aE⟩
theorem jA {a b c} (ha:PN X (.Constant a b c) te) (hr:QQ X es t):QQ X (.Constant a b c::es) (iF te t):=⟨RM ha.h hr.h⟩
theorem P9 (h:QQ X es t):PN X (.List es pos) (qD t):=⟨g8 h.h⟩
theorem GR (hN:X.N.Nodup) (hi:X.N[i]? =some x) (hx:X.env.scope.names.lookup x=some .local) (he:PN X (.List es pos) te):PS X (.Assign [.Name x pos'] (.List es pos) p3) (kL te (fP i)):=aQ hN hi (.inl hx) he.h rfl (.inr hx)
end
section
variable {X:Cx} {es:List Expr} {te:TE} {t:TA} {st:Stmt} {rest:List Stmt} {ts us:TS}
structure QL (X:Cx) (st:Stmt) (t:TS):Prop where
 h:PS X st t
structure IB (X:Cx) (st:List Stmt) (t:TS):Prop where
 h:zG X st t
theorem sw (h:PS X st ts):QL X st ts:=⟨h⟩
theorem pY (h1:QL X st ts) (h2:IB X rest us):IB X (st::rest) (vB ts us):=⟨aD h1.h h2.h⟩
theorem J3 (h1:QL X st ts):IB X [st] ts:=⟨aK h1.h⟩
theorem EU (hN:X.N.Nodup) (hi:X.N[i]? =some x) (hx:X.env.scope.names.lookup x=some .local) (he:PN X (.List es pos) te):QL X (.Assign [.Name x pos'] (.List es pos) p3) (kL te (fP i)):=⟨GR hN hi hx he⟩
theorem boxed {body:List Stmt} {D:Ends} (h:∃t,IB X body t/\t D σ H):∃t,zG X body t/\t D σ H:=let⟨t,a,b⟩:=h;⟨t,a.h,b⟩
end
section
variable {X:Cx} {pos:Pos} {k:Nat} {a b e:Expr} {es rest:List Expr} {te ta tb:TE} {t:Str->TE}
theorem IW:qR X (binaryOp .Mult) (rI IntMulOk fun i j=>.int (i*j)):=OX fun _ _ _ _ _ _ _ hc q=>mul_int q hc
end
def x8 (A:Around) (s:Shared) (x y:Value) (c:Bool):Prop:=
 ∀(prog:Program) (w:World) (E:Value->Shared->Prop) (Q:Value->Shared->Prop),Q (.bool c) s->wpAny (model prog w) A (richCompare .Lt x y) Q E s
inductive x5 (A:Around) (s:Shared) (fin:Bool):List (Value×Value)->Bool->Prop
 |done:x5 A s fin [] fin
 |same {p q:Value} {r:List (Value×Value)} {c:Bool}:SeqAt.EqAt A s p q true->x5 A s fin r c->x5 A s fin ((p,q)::r) c
 |less {p q:Value} {r:List (Value×Value)} {c:Bool}:SeqAt.EqAt A s p q false->x8 A s p q c->x5 A s fin ((p,q)::r) c
section
open PySem.SeqAt
open PySem.AutoSeq1 (wpAny_loadPart')
open PySem.MeetsSeq PySem.MeetsSeq2 PySem.MeetsSeq3
theorem MB (l b:Addr) (us vs:Array Value) (n m:Nat) (d1 d2:Option Addr) (k1 k2:Array (Option Value)) (c:Bool):
  Meets (Builtin.«tuple.__lt__» ⟨[.ref l,.ref b],[]⟩) (fun A R s=>s.heap.get? l=some ⟨.type "tuple",d1,.seq us n,k1⟩/\s.heap.get? b=some ⟨.type "tuple",d2,.seq vs m,k2⟩/\
   x5 A.in1 s (decide (us.size<vs.size)) (us.toList.zip vs.toList) c/\R (.ok (.ret (.bool c))) s):=
 .of_wp fun prog w A R s h=>by
  obtain⟨hp,gg,dd,tk,os⟩:=s;obtain⟨hl,hb,hx,hr⟩:=h;have f2:=AutoSeq1.sub_tuple_tuple
  wp_walk using wpAny_loadPart' hl,wpAny_loadPart' hb,wpAny_forIn_list _ (fun rest acc s'=>acc.1=none/\s'=⟨hp,gg,dd,tk,os⟩/\x5 A.in1 ⟨hp,gg,dd,tk,os⟩ (decide (us.size<vs.size)) rest c) _
  case turn=>
   rintro⟨y,x⟩ rest acc s' ⟨ha,rfl,hx'⟩;cases hx' with
   |same he hrest=>
    refine wpAny_bind (he prog w _ _ ?_)
    wp_walk
    exact⟨rfl,rfl,hrest⟩
   |less he hlt=>
    refine wpAny_bind (he prog w _ _ ?_);have hq:=hlt prog w
    wp_walk using hq
    exact⟨_,rfl,by simpa using hr⟩
  case fin=>
   rintro⟨b1,b2⟩ s' ⟨ha,rfl,hx'⟩;simp only at ha;subst ha;cases hx'
   wp_walk
   exact⟨_,rfl,by simpa [Builtin.Tuple.tupleCompareSizes]using hr⟩
  case h=>exact⟨rfl,rfl,hx⟩
end
theorem GC {A:Around} {us vs:Array Value} {c:Bool} (hl:IsTup s.heap l us) (hb:IsTup s.heap b vs) (hu:A.units<cLine) (hx:x5 A.in1 s (decide (us.size<vs.size)) (us.toList.zip vs.toList) c):
  x8 A s (.ref l) (.ref b) c:=by
 intro prog w E Q q;obtain⟨⟨c1,d1,t1,k1⟩,g1,e1,n,r1⟩:=id hl;obtain⟨⟨c2,d2,t2,k2⟩,g2,e2,m,r2⟩:=id hb;simp only at e1 r1 e2 r2;subst e1 r1 e2 r2;exact richCompare_meets_room (op:=.Lt) ⟨_,g1,rfl⟩ ⟨_,g2,rfl⟩ PySem.F.slot_tuple_lt PySem.F.entry_tuple_lt (PySem.F.args_tuple_lt_2 _ _) (MB l b us vs n m d1 d2 k1 k2 c) ⟨g1,g2,hx,(fun x=>nomatch x),q⟩ hu
section
open PySem.W
def Al (n:Nat) (P:α->Prop):KasT α->Prop
 | .ret a=>P a
 | .ask i j k=>i<n/\j<n/\∀b,Al n P (k b)
theorem Al.bind {P:α->Prop} {R:β->Prop} {f:α->KasT β}:∀{t:KasT α},Al n P t->(∀a,P a->Al n R (f a))->Al n R (t.bind f)
 | .ret a,h,hf=>hf a h
 | .ask _ _ _,h,hf=>⟨h.1,h.2.1,fun b=>Al.bind (h.2.2 b) hf⟩
def lI (n:Nat) (p:Array Nat):Prop:=p.Perm (List.toArray (List.range n))
theorem lI.lt (h0:0<n) (h:lI n p) (i:Nat):p.getD i 0<n:=by
 by_cases hi:i<p.size
 .have e:p.getD i 0=p[i]:=by simp[Array.getD,hi]
  rw[e];have hm:p[i]∈p:=Array.getElem_mem hi;have:=(h.mem_iff).mp hm;simpa using this
 .have e:p.getD i 0=0:=by simp[Array.getD,hi]
  omega
theorem lI.rev (h:lI n p) (i j:Nat):lI n (kas_rev p i j):=(mirror_perm p i j ((j - i) / 2)).trans h
theorem lI.R4 (h:lI n p) (i j:Nat):lI n (bubble p i j):=(bubble_perm p i j).trans h
theorem zD (h0:0<n) (h:lI n p):∀f m,Al n (fun _=>True) (kas_asc p f m)
 |0,m=>trivial
 |f+1,m=>⟨h.lt h0 _,h.lt h0 _,fun b=>by
  cases b with
  |true=>exact trivial
  |false=>exact zD h0 h f (m+1)⟩
theorem pJ (h0:0<n):∀f (p:Array Nat) m q,lI n p->Al n (fun r:Array Nat×Nat×Nat=>lI n r.1) (kas_desc f p m q)
 |0,p,m,q,h=>h
 | f+1,p,m,q,h=>⟨h.lt h0 _,h.lt h0 _,fun b=>by
  cases b with
  |true=>
   show Al n _ (if q>0 then _ else _);split
   .exact pJ h0 f _ _ _ (h.rev _ _)
   .exact pJ h0 f _ _ _ h
  |false=>
   refine⟨h.lt h0 _,h.lt h0 _,fun d=>?_⟩;cases d with
   |true=>exact h
   |false=>exact pJ h0 f _ _ _ h⟩
theorem wA (h0:0<n) (h:lI n p) (m k:Nat):Al n (fun r:Nat×Array Nat=>lI n r.2) (kas_tail3 m k p):=
 (zD h0 (h.rev 0 m) _ _).bind fun _ _=>h.rev 0 m
theorem oU (h0:0<n) (h:lI n p) (m k:Nat):Al n (fun r:Nat×Array Nat=>lI n r.2) (kas_descPart m k p):=by
 refine(pJ h0 _ _ _ _ h).bind fun r hr=>?_
 split
 .exact wA h0 (hr.rev _ _) _ _
 .exact wA h0 hr _ _
theorem GU (h0:0<n) (h:lI n p) (k:Nat):Al n (fun r:Nat×Array Nat=>lI n r.2) (kas_count k p):=by
 refine(zD h0 h _ _).bind fun m _=>?_
 split
 .exact h
 .split
  .refine⟨h.lt h0 _,h.lt h0 _,fun b=>?_⟩;cases b with
   |true=>exact h
   |false=>exact oU h0 (h.rev _ _) _ _
  .exact oU h0 h _ _
theorem p4 (h0:0<n) (h:lI n p) (k:Nat):∀f l r,Al n (fun _=>True) (kas_place p k f l r)
 |0,_,_=>trivial
 | f+1,l,r=>by
  unfold kas_place;split
  .exact trivial
  .refine⟨h.lt h0 _,h.lt h0 _,fun b=>?_⟩;cases b with
   |true=>exact p4 h0 h k f _ _
   |false=>exact p4 h0 h k f _ _
theorem EV (h0:0<n):∀f (p:Array Nat) k,lI n p->Al n (lI n) (kas_bin f p k)
 |0,_,_,h=>h
 |f+1,p,k,h=>(p4 h0 h k _ _ _).bind fun l _=>EV h0 f _ _ (h.R4 _ _)
theorem J5 (h0:0<n):Al n (lI n) (kas_sort n):=by
 refine(GU h0 (show lI n _ from Array.Perm.refl _) n).bind fun r hr=>?_
 split
 .exact EV h0 _ _ _ hr
 .exact hr
theorem lI.perm (h:lI vs.length p):(p.toList.map fun i=>vs.getD i Value.none).Perm vs:=by
 have h1:p.toList.Perm (List.range vs.length):=by simpa using perm_iff_toList_perm.mp h
 have h2:=h1.map fun i=>vs.getD i Value.none
 have e:(List.range vs.length).map (fun i=>vs.getD i Value.none)=vs:=by
  apply ext_getElem
  .simp
  .intro i a1 a2;simp[getElem?_eq_getElem a2]
 rw[e]at h2;exact h2
end
section
variable {X:Cx}
theorem mJ:∀{us:List Value} {ss:List Str},StrsAre us ss->Vals (ss.map V.str) us
 |[],_,.nil=>.nil
 |_::_,_,.cons x t r=>.cons ⟨t,rfl⟩ (mJ r)
end
noncomputable def P6:V->V->Bool
 | .str a,.str b=>decide (a.cps.toList<b.cps.toList)
 | .int a,.int b=>decide (a<b)
 |_,_=>false
noncomputable def R0 (H:Hp):Nat->V->V->Bool
 |0,x,y=>HY x y
 |n+1,x,y=>match BV H x,BV H y with
  |some xs,some ys=>(List.range (min xs.length ys.length)).all (fun j=>R0 H n (xs.getD j .aU) (ys.getD j .aU)) && xs.length==ys.length
  |_,_=>HY x y
noncomputable def QH (fin:Bool) (eq lt:V->V->Bool):List V->List V->Bool
 |x::xs,y::ys=>if eq x y then QH fin eq lt xs ys else lt x y
 |_,_=>fin
noncomputable def OJ (H:Hp):Nat->V->V->Bool
 |0,x,y=>P6 x y
 |n+1,x,y=>match BV H x,BV H y with
  |some xs,some ys=>QH (decide (xs.length<ys.length)) (R0 H n) (OJ H n) xs ys
  |_,_=>P6 x y
section
open PySem.W
def oD (ans:Nat->Nat->Bool) (P:α->Prop):KasT α->Prop
 | .ret a=>P a
 | .ask i j k=>oD ans P (k (ans i j))
theorem oD.bind {P:α->Prop} {R:β->Prop} {f:α->KasT β}:∀{t:KasT α},oD ans P t->(∀a,P a->oD ans R (f a))->oD ans R (t.bind f)
 | .ret a,h,hf=>hf a h
 | .ask i j k,h,hf=>oD.bind (t:=k (ans i j)) h hf
theorem oD.mono {P R:α->Prop} (hf:∀a,P a->R a):∀{t:KasT α},oD ans P t->oD ans R t
 | .ret a,h=>hf a h
 | .ask i j k,h=>oD.mono hf (t:=k (ans i j)) h
theorem oD.run {P R:α->Prop} {cmp:Nat->Nat->(Bool->Shared->Prop)->Shared->Prop} {G:α->Shared->Prop}
  (hc:∀i j (C:Bool->Shared->Prop),i<n->j<n->C (ans i j) s->cmp i j C s) (hg:∀a,P a->R a->G a s):∀{t:KasT α},Al n P t->oD ans R t->t.kasWp cmp G s
 | .ret a,h,h'=>hg a h h'
 | .ask i j _,h,h'=>hc i j _ h.1 h.2.1 (oD.run hc hg (h.2.2 _) h')
variable (O:KeyOrd) (key:Nat->O.α)
noncomputable def Ky (p:Array Nat) (i:Nat):O.α:=key (p.getD i 0)
def iS (p:Array Nat) (k:Nat):Prop:=∀i j,i<=j->j<k->O.kle (Ky O key p i) (Ky O key p j)
def iC (p:Array Nat) (k:Nat):Prop:=∀i j,i<=j->j<k->O.kle (Ky O key p j) (Ky O key p i)
noncomputable abbrev BG (i j:Nat):Bool:=O.blt (key i) (key j)
variable {O} {key}
theorem wV {q:Array Nat} (h:p[i]? =q[j]?):Ky O key p i=Ky O key q j:=by
 unfold Ky;rw[getD_eq_getD_getElem?,getD_eq_getD_getElem?,h]
theorem yZ (hj:j<=p.size) (k:Nat):Ky O key (kas_rev p i j) k=if i<=k/\k<j then Ky O key p (i+j - 1 - k)else Ky O key p k:=by
 have e:=getElem?_mirror_all (xs:=p) (i:=i) hj k;split
 .rename_i h;rw[if_pos h]at e;exact wV e
 .rename_i h;rw[if_neg h]at e;exact wV e
theorem gG (p:Array Nat) (i j:Nat):(kas_rev p i j).size=p.size:=mirror_size ..
theorem uJ (hj:j<=p.size) (he:∀k,i<=k->k<j->Ky O key p k=Ky O key p (j - 1)) (k:Nat):Ky O key (kas_rev p i j) k=Ky O key p k:=by
 rw[yZ hj];split
 .rename_i h;rw[he _ (by omega) (by omega),he k h.1 h.2]
 .rfl
theorem iS.more {x:Nat} (h:iS O key p x) (hx:1<=x) (hl:O.kle (Ky O key p (x - 1)) (Ky O key p x)):iS O key p (x+1):=by
 intro i j hij hj
 by_cases h1:j<x
 .exact h i j hij h1
 .have e:j=x:=by omega
  subst e
  by_cases h2:i=j
  .subst h2;exact KeyOrd.kle_refl _
  .exact KeyOrd.kle_trans (h i (j - 1) (by omega) (by omega)) hl
theorem iC.more {x:Nat} (h:iC O key p x) (hx:1<=x) (hl:O.kle (Ky O key p x) (Ky O key p (x - 1))):iC O key p (x+1):=by
 intro i j hij hj
 by_cases h1:j<x
 .exact h i j hij h1
 .have e:j=x:=by omega
  subst e
  by_cases h2:i=j
  .subst h2;exact KeyOrd.kle_refl _
  .exact KeyOrd.kle_trans hl (h i (j - 1) (by omega) (by omega))
theorem G5 {p:Array Nat}:∀(f m:Nat),1<=m->iS O key p m->oD (BG O key) (fun r=>m<=r/\r<=m+f/\iS O key p r/\(r=m+f\/ O.klt (Ky O key p r) (Ky O key p (r - 1)))) (kas_asc p f m)
 |0,m,_,h=>⟨le_refl _,le_refl _,h,.inl rfl⟩
 | f+1,m,h1,h=>by
  show oD (BG O key) _ (if O.blt (Ky O key p m) (Ky O key p (m - 1))=true then _ else _);cases e:O.blt (Ky O key p m) (Ky O key p (m - 1))with
  |true=>
   rw[if_pos rfl];exact⟨le_refl _,by omega,h,.inr e⟩
  |false=>
   rw[if_neg Bool.false_ne_true];refine(G5 f (m+1) (by omega) (h.more h1 e)).mono fun r ⟨a,b,c,d⟩=>⟨by omega,by omega,c,?_⟩
   rcases d with d|d
   .exact .inl (by omega)
   .exact .inr d
def NA (O:KeyOrd) (key:Nat->O.α) (p:Array Nat) (m q:Nat):Prop:=q+1<=m/\∀i,m - (q+1)<=i->i<m->Ky O key p i=Ky O key p (m - 1)
theorem NA.none (h:1<=m):NA O key p m 0:=⟨by omega,fun i h1 h2=>by rw[show i=m - 1 by omega]⟩
theorem u9:∀(f:Nat) (p:Array Nat) (m q:Nat),1<=m->m+f<=p.size->iC O key p m->NA O key p m q->oD (BG O key) (fun r:Array Nat×Nat×Nat=>r.1.size=p.size/\m<=r.2.1/\r.2.1<=m+f/\iC O key r.1 r.2.1/\NA O key r.1 r.2.1 r.2.2) (kas_desc f p m q)
 |0,p,m,q,_,_,h,he=>⟨rfl,le_refl _,le_refl _,h,he⟩
 | f+1,p,m,q,h1,hz,h,he=>by
  show oD (BG O key) _ (if O.blt (Ky O key p m) (Ky O key p (m - 1))=true then(if q>0 then kas_desc f (kas_rev p (m - (q+1)) m) (m+1) 0 else kas_desc f p (m+1) 0)else _);cases e:O.blt (Ky O key p m) (Ky O key p (m - 1))with
  | true=>
   rw[if_pos rfl];have hd:=h.more h1 (KeyOrd.kle_of_klt e);split
   .have ev:∀k,Ky O key (kas_rev p (m - (q+1)) m) k=Ky O key p k:=uJ (by omega) he.2;have hd':iC O key (kas_rev p (m - (q+1)) m) (m+1):=fun i j a b=>by rw[ev,ev];exact hd i j a b
    refine(u9 f _ (m+1) 0 (by omega) (by rw[gG];omega) hd' (NA.none (by omega))).mono fun r ⟨a,b,c,d,z⟩=>⟨by rw[a,gG],by omega,by omega,d,z⟩
   .exact(u9 f p (m+1) 0 (by omega) (by omega) hd (NA.none (by omega))).mono fun r ⟨a,b,c,d,z⟩=>⟨a,by omega,by omega,d,z⟩
  | false=>
   rw[if_neg Bool.false_ne_true];show oD (BG O key) _ (if O.blt (Ky O key p (m - 1)) (Ky O key p m)=true then _ else _);cases e2:O.blt (Ky O key p (m - 1)) (Ky O key p m)with
   |true=>
    rw[if_pos rfl];exact⟨rfl,le_refl _,le_add_right m (f+1),h,he⟩
   |false=>
    rw[if_neg Bool.false_ne_true];have eq:Ky O key p m=Ky O key p (m - 1):=KeyOrd.kle_antisymm e2 e;refine(u9 f p (m+1) (q+1) (by omega) (by omega) (h.more h1 (by rw[eq];exact KeyOrd.kle_refl _)) ⟨by have:=he.1;omega,fun i a b=>?_⟩).mono fun r ⟨a,b,c,d,z⟩=>⟨a,by omega,by omega,d,z⟩
    rw[show m+1 - 1=m by omega]
    by_cases hi:i=m
    .rw[hi]
    .rw[eq];exact he.2 i (by omega) (by omega)
theorem B4 (h1:1<=m) (hk:m<=k) (hz:k<=p.size) (h:iC O key p m):oD (BG O key) (fun r:Nat×Array Nat=>1<=r.1/\r.1<=k/\r.2.size=p.size/\iS O key r.2 r.1) (kas_tail3 m k p):=by
 have hu:iS O key (kas_rev p 0 m) m:=fun i j a b=>by
  rw[yZ (by omega),yZ (by omega),if_pos (by omega),if_pos (by omega)];exact h _ _ (by omega) (by omega)
 exact(G5 (k - m) m h1 hu).bind fun r ⟨a,b,c,_⟩=>⟨by omega,by omega,gG ..,c⟩
theorem qP (hk:m+1<=k) (hz:k<=p.size) (h:iC O key p (m+1)):oD (BG O key) (fun r:Nat×Array Nat=>1<=r.1/\r.1<=k/\r.2.size=p.size/\iS O key r.2 r.1) (kas_descPart m k p):=by
 refine(u9 (k - (m+1)) p (m+1) 0 (by omega) (by omega) h (NA.none (by omega))).bind fun r ⟨a,b,c,d,z⟩=>?_
 split
 .have ev:∀i,Ky O key (kas_rev r.1 (r.2.1 - (r.2.2+1)) r.2.1) i=Ky O key r.1 i:=uJ (by omega) z.2;refine(B4 (p:=kas_rev r.1 (r.2.1 - (r.2.2+1)) r.2.1) (by omega) (by omega) (by rw[gG];omega) fun i j x y=>?_).mono fun r' ⟨x,y,w,v⟩=>⟨x,y,by rw[w,gG,a],v⟩
  rw[ev,ev];exact d i j x y
 .exact(B4 (by omega) (by omega) (by omega) d).mono fun r' ⟨x,y,w,v⟩=>⟨x,y,by rw[w,a],v⟩
theorem IG {p:Array Nat} (h1:1<=k) (hz:k<=p.size):oD (BG O key) (fun r:Nat×Array Nat=>1<=r.1/\r.1<=k/\r.2.size=p.size/\iS O key r.2 r.1) (kas_count k p):=by
 have u1:iS O key p 1:=fun i j a b=>by rw[show i=j by omega];exact KeyOrd.kle_refl _
 refine(G5 (k - 1) 1 (le_refl _) u1).bind fun m ⟨a,b,c,d⟩=>?_
 by_cases hm:m=k
 .rw[if_pos (by simpa using hm)];exact⟨a,by omega,rfl,c⟩
 .rw[if_neg (by simpa using hm)];have lt:O.klt (Ky O key p m) (Ky O key p (m - 1)):=d.resolve_left (by omega)
  by_cases h2:m>1
  .rw[if_pos h2];show oD (BG O key) _ (if O.blt (Ky O key p 0) (Ky O key p (m - 1))=true then _ else _);cases e:O.blt (Ky O key p 0) (Ky O key p (m - 1))with
   |true=>
    rw[if_pos rfl];exact⟨a,by omega,rfl,c⟩
   | false=>
    rw[if_neg Bool.false_ne_true];have al:∀i,0<=i->i<m->Ky O key p i=Ky O key p (m - 1):=fun i _ hi=>
     KeyOrd.kle_antisymm (c i (m - 1) (by omega) (by omega)) (KeyOrd.kle_trans e (c 0 i (by omega) hi))
    have ev:∀i,Ky O key (kas_rev p 0 m) i=Ky O key p i:=uJ (by omega) al;have dm:iC O key p m:=fun i j x y=>by rw[al i (by omega) (by omega),al j (by omega) y];exact KeyOrd.kle_refl _
    have dn:=dm.more a (KeyOrd.kle_of_klt lt);refine(qP (p:=kas_rev p 0 m) (by omega) (by rw[gG];omega) fun i j x y=>?_).mono fun r' ⟨x,y,w,v⟩=>⟨x,y,by rw[w,gG],v⟩
    rw[ev,ev];exact dn i j x y
  .rw[if_neg h2];have e1:m=1:=by omega
   subst e1;have d1:iC O key p 1:=fun i j x y=>by rw[show i=j by omega];exact KeyOrd.kle_refl _
   exact qP (by omega) hz (d1.more (le_refl _) (KeyOrd.kle_of_klt lt))
theorem vC {p:Array Nat} {k:Nat} (h:iS O key p k):∀(f l r:Nat),l<=r->r<=k->r - l<=f->(∀i,i<l->O.kle (Ky O key p i) (Ky O key p k))->(∀i,r<=i->i<k->O.klt (Ky O key p k) (Ky O key p i))->
  oD (BG O key) (fun l=>l<=k/\(∀i,i<l->O.kle (Ky O key p i) (Ky O key p k))/\∀i,l<=i->i<k->O.klt (Ky O key p k) (Ky O key p i)) (kas_place p k f l r)
 |0,l,r,h1,h2,h3,ha,hb=>by
  have e:l=r:=by omega
  subst e;exact⟨h2,ha,hb⟩
 | f+1,l,r,h1,h2,h3,ha,hb=>by
  unfold kas_place;split
  .have e:l=r:=by omega
   subst e;exact⟨h2,ha,hb⟩
  .show oD (BG O key) _ (if O.blt (Ky O key p k) (Ky O key p ((l+r) / 2))=true then _ else _);cases e:O.blt (Ky O key p k) (Ky O key p ((l+r) / 2))with
   |true=>
    rw[if_pos rfl];exact vC h f l ((l+r) / 2) (by omega) (by omega) (by omega) ha fun i a b=>KeyOrd.klt_of_klt_of_kle e (h _ _ a b)
   |false=>
    rw[if_neg Bool.false_ne_true];exact vC h f ((l+r) / 2+1) r (by omega) h2 (by omega) (fun i a=>KeyOrd.kle_trans (h i ((l+r) / 2) (by omega) (by omega)) e) hb
theorem E9 {d:Nat} (hk:k<p.size) (hd:d<=k) (i:Nat):Ky O key (bubble p k d) i=if i=k - d then Ky O key p k else if k - d<i/\i<=k then Ky O key p (i - 1)else Ky O key p i:=by
 have e:=getElem?_bubble hk d hd i
 by_cases h1:i=k - d
 .rw[if_pos h1]at e⊢;exact wV e
 .rw[if_neg h1]at e⊢
  by_cases h2:k - d<i/\i<=k
  .rw[if_pos h2]at e⊢;exact wV e
  .rw[if_neg h2]at e⊢;exact wV e
theorem LU:∀(f:Nat) (p:Array Nat) (k:Nat),k+f<=p.size->iS O key p k->oD (BG O key) (fun q=>iS O key q (k+f)) (kas_bin f p k)
 |0,p,k,_,h=>h
 | f+1,p,k,hz,h=>by
  refine(vC h k 0 k (by omega) (le_refl _) (by omega) (fun i hi=>by omega) (fun i a b=>by omega)).bind fun l ⟨hl,ha,hb⟩=>?_
  have hu:iS O key (bubble p k (k - l)) (k+1):=fun i j x y=>by
   rw[E9 (by omega) (by omega),E9 (by omega) (by omega),show k - (k - l)=l by omega]
   by_cases j1:j=l
   .rw[if_pos j1]
    by_cases i1:i=l
    .rw[if_pos i1];exact KeyOrd.kle_refl _
    .rw[if_neg i1,if_neg (show¬(l<i/\i<=k) by omega)];exact ha i (by omega)
   .rw[if_neg j1]
    by_cases j2:l<j
    .rw[if_pos (show l<j/\j<=k from⟨j2,by omega⟩)]
     by_cases i1:i=l
     .rw[if_pos i1];exact KeyOrd.kle_of_klt (hb (j - 1) (by omega) (by omega))
     .rw[if_neg i1]
      by_cases i2:l<i
      .rw[if_pos (show l<i/\i<=k from⟨i2,by omega⟩)];exact h _ _ (by omega) (by omega)
      .rw[if_neg (show¬(l<i/\i<=k) by omega)];exact h _ _ (by omega) (by omega)
    .rw[if_neg (show¬(l<j/\j<=k) by omega),if_neg (show¬i=l by omega),if_neg (show¬(l<i/\i<=k) by omega)];exact h _ _ x (by omega)
  have:=LU f (bubble p k (k - l)) (k+1) (by rw[bubble_size];omega) hu;rw[show k+1+f=k+(f+1) by omega]at this;exact this
theorem N8 (h1:1<=n):oD (BG O key) (fun q=>iS O key q n) (kas_sort n):=by
 have hs:(List.toArray (List.range n)).size=n:=by simp
 refine(IG h1 (p:=List.toArray (List.range n)) (by rw[hs];exact le_refl _)).bind fun r ⟨a,b,c,d⟩=>?_
 rw[hs]at c;split
 .have:=LU (n - max r.1 1) r.2 (max r.1 1) (by omega) (by rw[show max r.1 1=r.1 by omega];exact d);rw[show max r.1 1+(n - max r.1 1)=n by omega]at this;exact this
 .have e:r.1=n:=by omega
  rw[e]at d;exact d
end
section
open PySem.W
variable {prog:Program} {w:World} {A:Around} {E:Value->Shared->Prop} {s:Shared}
theorem DK (vs:List Value):(List.range vs.length).map (fun i=>vs.getD i Value.none)=vs:=by
 apply ext_getElem
 .simp
 .intro i a1 a2;simp[getElem?_eq_getElem a2]
def jW (prog:Program) (w:World) (A:Around) (vs:List Value) (R:Array Nat->Prop) (s:Shared):Prop:=
 ∃κ:SortKind,(∀(Q:SortKind->Shared->Prop) (E:Value->Shared->Prop),Q κ s->wpAny (model prog w) A (keyKind' vs.toArray) Q E s)/\
  ∀G:Array Nat->Shared->Prop,(∀p,lI vs.length p->R p->G p s)->(kas_sort vs.length).kasWp (kas_ask prog w A κ vs) G s
theorem tX {a:Addr} {P:PySem.Fin->Shared->Prop} (ho:s.heap.get? a=some (seqObj "list" vs.toArray n)) (h64:vs.length<64)
  (hk:2<=vs.length->∀h':Heap,(∀b o,b≠a->s.heap.get? b=some o->h'.get? b=some o)->jW prog w A vs R {s with heap:=h'}) (hR:vs.length<2->R (List.range vs.length).toArray)
  (h:∀(out:Array Value) (p:Array Nat),lI vs.length p->R p->out.toList=p.toList.map (fun i=>vs.getD i Value.none)->P (.done (.ret .none)) {s with heap:=sortedHeap s.heap a vs out}):wpAny (model prog w) A (Builtin.«list.sort» ⟨[.ref a],[]⟩) P E s:=by
 have la:a<s.heap.objs.size:=lt_size ho;have small:vs.length<=sizeLine:=by rw[sizeLine_eq];omega
 obtain⟨e1,k1⟩:∃e1,(s.heap.update a (Obj.mapSeq fun _=>(#[]:Array Value))).get? a=some (seqObj "list" #[] e1):=⟨_,get?_update_seq ho fun _=> #[]⟩;generalize hU:s.heap.update a (Obj.mapSeq fun _=>(#[]:Array Value))=U at k1;have zU:U.objs.size=s.heap.objs.size:=by rw[<-hU];exact Heap.size_update ..
 have kp:∀b o,b≠a->s.heap.get? b=some o->((U.push (seqObj "tuple" vs.toArray 0)).push (seqObj "list" #[] 0)).get? b=some o:=fun b o nb gb=>by
  refine get?_push_of_some _ (get?_push_of_some _ ?_);rw[<-hU,Heap.get?_update_ne _ _ _ _ nb];exact gb
 have k2:((U.push (seqObj "tuple" vs.toArray 0)).push (seqObj "list" #[] 0)).get? a=some (seqObj "list" #[] e1):=get?_push_of_some _ (get?_push_of_some _ k1);rw[list_sort_plain];refine wpAny_bind (listItems_at ho rfl (wpAny_bind (listUpdate_at ho rfl ?_ (by simpa using small) (zero_le _))));have k1':=k1;rw[<-hU]at k1';refine wpAny_bind (seqEpoch_at k1' rfl (wpAny_bind (wpAny_newTuple (wpAny_bind (wpAny_newList (wpAny_holding ?_) (zero_le _))) (by simpa using small))));rw[hU];show wpAny (model prog w) A _ P E {s with heap:=(U.push (seqObj "tuple" vs.toArray 0)).push (seqObj "list" #[] 0)};have fin:∀(out:Array Value) (p:Array Nat),lI vs.length p->R p->out.toList=p.toList.map (fun i=>vs.getD i Value.none)->P (.done (.ret .none)) {s with heap:=((U.push (seqObj "tuple" vs.toArray 0)).push (seqObj "list" #[] 0)).update a (Obj.mapSeq fun _=>out)}:=fun out p h1 h2 h3=>by
  have:=h out p h1 h2 h3;unfold sortedHeap at this;rw[hU]at this;exact this
 dsimp only
 by_cases h2:vs.toArray.size<2
 .rw[if_pos h2,if_pos h2];refine wpAny_bind (wpAny_pure ?_);rw[StateT.run_pure];refine wpAny_bind (wpAny_pure ?_);dsimp only;have ev:((vs.toArray.zip vs.toArray).map fun x=>x.2).toList=vs:=by simp[List.map_snd_zip]
  refine wpAny_bind (seqEpoch_at k2 rfl (wpAny_bind (listUpdate_at k2 rfl ?_ (zero_le _) ?_)))
  .simp only[bne_self_eq_false,false_eq_true,if_false];exact wpAny_pure (fin _ (List.range vs.length).toArray (Array.Perm.refl _) (hR (by rw[size_toArray]at h2;exact h2)) (by rw[show(arrOf (SortSt.mk' general' (vs.toArray.zip vs.toArray) #[] 7 none))=vs.toArray.zip vs.toArray from rfl,ev,List.toList_toArray,DK]))
  .rw[<-length_toList,show(arrOf (SortSt.mk' general' (vs.toArray.zip vs.toArray) #[] 7 none))=vs.toArray.zip vs.toArray from rfl,ev];exact Nat.le_succ_of_le small
 .rw[if_neg h2,if_neg h2];have l2:2<=vs.length:=by rw[size_toArray]at h2;omega
  obtain⟨κ,kd,ak⟩:=hk l2 _ kp;refine wpAny_bind (kd _ _ ?_);refine wpAny_bind (wpAny_mono (kat_run (ks:=vs) (vs:=vs) (Q:=fun st' s'=>s'={s with heap:=(U.push (seqObj "tuple" vs.toArray 0)).push (seqObj "list" #[] 0)}/\∃p:Array Nat,(lI vs.length p/\R p)/\arrOf st'=p.map (kas_item (vs.toArray.zip vs.toArray))/\failedOf st'=none)
   (G:=fun p s'=>s'={s with heap:=(U.push (seqObj "tuple" vs.toArray 0)).push (seqObj "list" #[] 0)}/\lI vs.length p/\R p) rfl l2 h64 (fun p st' s' _ ar fl g=>⟨g.1,p,g.2,ar,fl⟩) (ak _ fun p h1 h2=>⟨rfl,h1,h2⟩)) ?_ fun _ _ e=>e)
  rintro⟨⟨⟩,st'⟩ s' ⟨rfl,p,⟨hp,hr⟩,ar,fl⟩;dsimp only;have out:=kat_snds rfl ar;have pm:=hp.perm;rw[out];refine wpAny_bind (seqEpoch_at k2 rfl (wpAny_bind (listUpdate_at k2 rfl ?_ (zero_le _) ?_)))
  .rw[fl];simp only[bne_self_eq_false,false_eq_true,if_false];exact wpAny_pure (fin _ p hp hr (by simp))
  .rw[size_toArray,pm.length_eq];exact Nat.le_succ_of_le small
theorem xI (hl:s.heap.IsList l vs.toArray) (h64:vs.length<64)
  (hk:2<=vs.length->∀h':Heap,(∀b o,s.heap.get? b=some o->h'.get? b=some o)->jW prog w A.in1.in1 vs R {s with heap:=h'}) (hR:vs.length<2->R (List.range vs.length).toArray)
  (h:∀(out:Array Value) (p:Array Nat),lI vs.length p->R p->out.toList=p.toList.map (fun i=>vs.getD i Value.none)->Q (.ref (s.heap.objs.size+1)) {s with heap:=sortedAll s.heap vs out}):wpAny (model prog w) A (call (.builtin "sorted") [.ref l]) Q E s:=by
 have small:vs.length<=sizeLine:=by rw[sizeLine_eq];omega
 refine Calls.call_function_entry kind_sorted plain_sorted entry_sorted (args_sorted1 _) ?_;unfold Builtin.«sorted»;refine wpAny_bind (m:=checkCount "sorted" 1 1 _) (wpAny_pure (wpAny_bind (collect_list hl (wpAny_bind (wpAny_newList ?_ (by simpa using small))) (by simpa using small))));generalize hU:(s.heap.push (seqObj "list" #[] 0)).update s.heap.objs.size (Obj.mapSeq (·++vs.toArray))=U;have zU:U.objs.size=s.heap.objs.size+1:=by rw[<-hU,Heap.size_update];exact size_push' ..
 have kU:∀b o,s.heap.get? b=some o->U.get? b=some o:=fun b o gb=>by
  rw[<-hU,Heap.get?_update_ne _ _ _ _ (ne_of_lt (lt_size gb))];exact get?_push_of_some _ gb
 have at':(U.push (seqObj "list" vs.toArray 0)).get? (s.heap.objs.size+1)=some (seqObj "list" vs.toArray 0):=by rw[<-zU];exact get?_push_size _ rfl
 show wpAny _ _ _ _ _ {s with heap:=U.push (seqObj "list" vs.toArray 0)};rw[zU];refine wpAny_bind (wpAny_holding (wpAny_call_entry slot_list_sort ⟨_,at',rfl⟩ entry_list_sort ?bd (args_list_sort _)))
 case bd=>
  refine tX at' h64 (fun l2 h' kp=>hk l2 h' fun b o gb=>kp b o (ne_of_lt (lt_succ_of_lt (lt_size gb))) (get?_push_of_some _ (kU b o gb))) hR fun out p p1 p2 p3=>⟨_,rfl,wpAny_pure ⟨_,rfl,?_⟩⟩
  have:=h out p p1 p2 p3;unfold sortedAll at this;rw[hU]at this;exact this
end
section
open PySem.W
variable {X:Cx} {pins:List (Addr×Obj)} {σ:St} {H:Hp} {s:Shared} {k:Nat}
theorem mC {vs:List Value} (r:Vals ys vs):∀ps:List Nat,(∀i∈ps,i<vs.length)->Vals (ps.map fun i=>ys.getD i .aU) (ps.map fun i=>vs.getD i Value.none)
 |[],_=>.nil
 |i::ps,h=>by
  have hlen:=r.length;have hi:=h i mem_cons_self;obtain⟨x,hx,rx⟩:=r.get' (show vs[i]? =some vs[i] by simp);refine .cons ?_ (mC r ps fun j hj=>h j (mem_cons_of_mem _ hj));dsimp only;rw[getD_eq_getElem?_getD,hx,getD_eq_getElem?_getD,getElem?_eq_getElem hi];exact rx
end
noncomputable def zE:KeyOrd where
 α:=Int
 blt a b:=decide (a<b)
 irrefl a:=decide_eq_false (by omega)
 trans a b c h1 h2:=decide_eq_true (by have:=of_decide_eq_true h1;have:=of_decide_eq_true h2;omega)
 negTrans a b c h:=by
  have h:=of_decide_eq_true h
  by_cases g:a<b
  .exact .inl (decide_eq_true g)
  .exact .inr (decide_eq_true (by omega))
 total a b h1 h2:=by have:=of_decide_eq_false h1;have:=of_decide_eq_false h2;omega
theorem uY {a b:A.α} (h:A.blt a b=true):A.blt b a=false:=KeyOrd.klt_asymm (O:=A) h
theorem eS {A:KeyOrd} (a b:A.α):(A.blt a b=true/\A.blt b a=false)\/ (A.blt b a=true/\A.blt a b=false)\/ (a=b):=by
 cases h1:A.blt a b with
 |true=>exact .inl ⟨rfl,uY h1⟩
 |false=>
  cases h2:A.blt b a with
  |true=>exact .inr (.inl ⟨rfl,rfl⟩)
  |false=>exact .inr (.inr (A.total a b h1 h2))
noncomputable def fQ (A:KeyOrd) (a b:A.α) (r:Bool):Bool:=A.blt a b||(!A.blt b a && r)
theorem eD {a b:A.α} (h:A.blt a b=true):fQ A a b r=true:=by unfold fQ;rw[h];rfl
theorem iP {a b:A.α} (h:A.blt b a=true):fQ A a b r=false:=by unfold fQ;rw[h,uY h];rfl
theorem fO {a:A.α}:fQ A a a r=r:=by unfold fQ;rw[A.irrefl];rfl
theorem xC {A:KeyOrd} {a b c:A.α} (hr:r=true->r'=true->r''=true) (h1:fQ A a b r=true) (h2:fQ A b c r'=true):fQ A a c r''=true:=by
 rcases eS (A:=A) a b with⟨x,_⟩|⟨x,_⟩|x
 .rcases eS (A:=A) b c with⟨y,_⟩|⟨y,_⟩|y
  .exact eD (A.trans _ _ _ x y)
  .rw[iP y]at h2;cases h2
  .rw[<-y];exact eD x
 .rw[iP x]at h1;cases h1
 .subst x;rw[fO]at h1;rcases eS (A:=A) a c with⟨y,_⟩|⟨y,_⟩|y
  .exact eD y
  .rw[iP y]at h2;cases h2
  .subst y;rw[fO]at h2⊢
   exact hr h1 h2
theorem CQ {A:KeyOrd} {a b c:A.α} (hr:r''=true->r=true\/ r'=true) (h:fQ A a c r''=true):fQ A a b r=true\/ fQ A b c r'=true:=by
 rcases eS (A:=A) a b with⟨x,_⟩|⟨x,_⟩|x
 .exact .inl (eD x)
 .right;rcases eS (A:=A) a c with⟨y,_⟩|⟨y,_⟩|y
  .exact eD (A.trans _ _ _ x y)
  .rw[iP y]at h;cases h
  .rw[<-y];exact eD x
 .subst x;rcases eS (A:=A) a c with⟨y,_⟩|⟨y,_⟩|y
  .exact .inr (eD y)
  .rw[iP y]at h;cases h
  .subst y;rw[fO]at h⊢
   rw[fO];exact hr h
theorem xY {A:KeyOrd} {a b:A.α} (h1:fQ A a b r=false) (h2:fQ A b a r'=false):a=b/\r=false/\r'=false:=by
 rcases eS (A:=A) a b with⟨x,_⟩|⟨x,_⟩|x
 .rw[eD x]at h1;cases h1
 .rw[eD x]at h2;cases h2
 .subst x;rw[fO]at h1 h2;exact⟨rfl,h1,h2⟩
noncomputable def iD (A:KeyOrd):List A.α->List A.α->Bool
 |[],[]=>false
 |[],_::_=>true
 |_::_,[]=>false
 |x::xs,y::ys=>fQ A x y (iD A xs ys)
theorem sR:∀xs:List A.α,iD A xs xs=false
 |[]=>rfl
 |x::xs=>by unfold iD;rw[fO];exact sR xs
theorem oO:∀xs ys zs:List A.α,iD A xs ys=true->iD A ys zs=true->iD A xs zs=true
 |[],[],_,h,_=>by cases h
 |[],_::_,[],_,h=>by cases h
 |[],_::_,_::_,_,_=>rfl
 |_::_,[],_,h,_=>by cases h
 |_::_,_::_,[],_,h=>by cases h
 |x::xs,y::ys,z::zs,h1,h2=>xC (oO xs ys zs) h1 h2
theorem uB:∀xs ys zs:List A.α,iD A xs zs=true->iD A xs ys=true\/ iD A ys zs=true
 |[],[],zs,h=>.inr h
 |[],_::_,_,_=>.inl rfl
 |_::_,_,[],h=>by cases h
 |_::_,[],_::_,_=>.inr rfl
 |x::xs,y::ys,z::zs,h=>CQ (uB xs ys zs) h
theorem oR:∀xs ys:List A.α,iD A xs ys=false->iD A ys xs=false->xs=ys
 |[],[],_,_=>rfl
 |[],_::_,h,_=>by cases h
 |_::_,[],_,h=>by cases h
 |x::xs,y::ys,h1,h2=>by
  obtain⟨a,b,c⟩:=xY h1 h2;rw[a,oR xs ys b c]
noncomputable def OP (A:KeyOrd):KeyOrd:=⟨List A.α,iD A,sR,oO,uB,oR⟩
theorem BJ {a b:Str} (h:a.cps.toList=b.cps.toList):a=b:=by
 cases a with
 |mk x=>
  cases b with
  |mk y=>congr 1;exact Array.toList_inj.mp h
end L2
namespace Mr
open PySem L2
variable {H:Hp} {K:Frag}
inductive PV where
 |aU|bl (b:Bool)|int (i:Int)|str (x:Str)|ty (n:String)
 |tup (xs:List PV)|lst (xs:List PV)|DE (kvs:List (Key×PV))
abbrev lN:=Addr->Prop
def CI:lN:=fun _=>False
structure WS where
 w:Nat->lN
 old:lN
instance:CoeFun WS (fun _=>Nat->lN):=⟨WS.w⟩
def TupAt (K:Frag) (H:Hp) (a:Addr) (xs:List V):Prop:=H a=some (.tup xs)\/
  ∃(o:Obj) (its:Array Value) (n:Nat),K.lookup a=some o/\o.cls= .type "tuple"/\o.dict=none/\o.data= .seq its n/\its.size<=sizeLine/\Vals xs its.toList
theorem TupAt.sq {a:Addr} {xs:List V} (h:TupAt K H a xs):bO K H a xs:=h.elim bO.of fun⟨o,its,n,a,b,_,c⟩=>.inr ⟨o,its,n,a,b,c⟩
mutual
inductive Rep (K:Frag) (Z:lN) (H:Hp):PV->V->Prop
 |aU:Rep K Z H .aU .aU
 |bl (b:Bool):Rep K Z H (.bl b) (.bl b)
 |int (i:Int):Rep K Z H (.int i) (.int i)
 |str (x:Str):Rep K Z H (.str x) (.str x)
 |ty (n:String):Rep K Z H (.ty n) (.ty n)
 |tup {a:Addr} {xs:List V} {ps:List PV}:TupAt K H a xs->fR K Z H ps xs->Rep K Z H (.tup ps) (.ref a)
 |lst {a:Addr} {xs:List V} {ps:List PV}:Rd H a (.lst xs)->¬Z a->fR K Z H ps xs->Rep K Z H (.lst ps) (.ref a)
 |DE {a:Addr} {ep:Nat} {ys:List (Key×V)} {kvs:List (Key×PV)}:Rd H a (.dK ys ep)->¬Z a->ys.map (·.1)=kvs.map (·.1)->fR K Z H (kvs.map (·.2)) (ys.map (·.2))->Rep K Z H (.DE kvs) (.ref a)
inductive fR (K:Frag) (Z:lN) (H:Hp):List PV->List V->Prop
 |nil:fR K Z H [] []
 |cons {p:PV} {v:V} {ps:List PV} {vs:List V}:Rep K Z H p v->fR K Z H ps vs->fR K Z H (p::ps) (v::vs)
end
theorem fR.length {Z:lN}:∀{ps:List PV} {vs:List V},fR K Z H ps vs->ps.length=vs.length
 |_,_,.nil=>rfl
 |_,_,.cons _ r=>by rw[length_cons,length_cons,fR.length r]
inductive Sl where
 |val (p:PV)|own (p:PV)|loc (p:PV)|bor (p:PV)
abbrev En:=List (Option Sl)
inductive Bv where
 |val (p:PV)|slot (i:Nat)|new (p:PV)
abbrev FE:=En->Option (Bv×En)
inductive Out where
 |nx (e:En)|rt (b:Bv) (e:En)|bk (e:En)|ct (e:En)
abbrev FS:=En->Option Out
section
variable {K:Frag} {Z:lN} {H:Hp}
def PJ (K:Frag) (Z:lN) (H:Hp) (kvs:List (Key×PV)) (ys:List (Key×V)):Prop:=ys.map (·.1)=kvs.map (·.1)/\fR K Z H (kvs.map (·.2)) (ys.map (·.2))
end
inductive Kd where
 |v|b|m
 deriving DecidableEq
abbrev FN:=List PV->Option (PV×List PV)
end Mr
namespace Mr
open PySem PySem.Spec L2 PyProof.Rows
variable {a:Addr} {xs ys:Array Value} {X:Cx} {h:Heap} {k:Nat} {Z:lN}
mutual
inductive Lies (h:Heap):PV->Value->Prop
 |aU:Lies h .aU .none
 |bl (b:Bool):Lies h (.bl b) (.bool b)
 |int (i:Int) (t:Tok):Lies h (.int i) (.int i t)
 |str (x:Str) (t:Tok):Lies h (.str x) (.str x t)
 |tup {a:Addr} {its:List Value} {ps:List PV}:IsTup h a its.toArray->bQ h ps its->Lies h (.tup ps) (.ref a)
 |lst {a:Addr} {its:List Value} {ps:List PV}:h.IsList a its.toArray->bQ h ps its->Lies h (.lst ps) (.ref a)
inductive bQ (h:Heap):List PV->List Value->Prop
 |nil:bQ h [] []
 |cons {p:PV} {v:Value} {ps:List PV} {vs:List Value}:Lies h p v->bQ h ps vs->bQ h (p::ps) (v::vs)
end
noncomputable def kY:Nat->PV->Bool
 |_,.aU=>true
 |_,.bl _=>true
 |_,.int _=>true
 |_,.str _=>true
 |n+1,.tup ps=>ps.all (kY n)
 |n+1,.lst ps=>ps.all (kY n)
 |_,_=>false
section
variable {X:Cx} {pins:List (Addr×Obj)} {σ:L2.St} {H:Hp} {s:Shared}
theorem Rep.lies (I:Inv X pins σ H s):∀{n:Nat} {p:PV} {x:V} {v:Value},kY n p=true->Rep X.K Z H p x->RelV x v->Lies s.heap p v
 |n,.aU,x,v,ok,h,r=>by cases h;cases r;exact .aU
 |n,.bl b,x,v,ok,h,r=>by cases h;cases r;exact .bl b
 |n,.int b,x,v,ok,h,r=>by cases h;obtain⟨t,rfl⟩:=r;exact .int b t
 |n,.str b,x,v,ok,h,r=>by cases h;obtain⟨t,rfl⟩:=r;exact .str b t
 |n,.ty b,x,v,ok,h,r=>by cases n<;>cases ok
 |n,.DE b,x,v,ok,h,r=>by cases n<;>cases ok
 |0,.tup ps,x,v,ok,h,r=>by cases ok
 |0,.lst ps,x,v,ok,h,r=>by cases ok
 | n+1,.tup ps,x,v,ok,h,r=>by
  cases h with
  | tup h rl=>
   cases r;obtain⟨its,rv,pl,_⟩:=I.tuple h.sq;have key:∀(ps:List PV) (xs:List V) (its:List Value),ps.all (kY n)=true->fR X.K Z H ps xs->Vals xs its->bQ s.heap ps its:=fun ps=>by
    induction ps with
    |nil=>intro xs its _ h1 h2;cases h1;cases h2;exact .nil
    | cons p ps ih=>
     intro xs its ha h1 h2;rw[all_cons,and_eq_true]at ha;cases h1 with
     |cons h1 r1=>
      cases h2 with
      |cons h2 r2=>exact .cons (Rep.lies I (n:=n) ha.1 h1 h2) (ih _ _ ha.2 r1 r2)
   exact .tup pl (key ps _ its ok rl rv)
 | n+1,.lst ps,x,v,ok,h,r=>by
  cases h with
  | lst h nz rl=>
   cases r;obtain⟨its,rv,pl,_⟩:=I.list (show bM X.K H _ _ from .inl h);have key:∀(ps:List PV) (xs:List V) (its:List Value),ps.all (kY n)=true->fR X.K Z H ps xs->Vals xs its->bQ s.heap ps its:=fun ps=>by
    induction ps with
    |nil=>intro xs its _ h1 h2;cases h1;cases h2;exact .nil
    | cons p ps ih=>
     intro xs its ha h1 h2;rw[all_cons,and_eq_true]at ha;cases h1 with
     |cons h1 r1=>
      cases h2 with
      |cons h2 r2=>exact .cons (Rep.lies I (n:=n) ha.1 h1 h2) (ih _ _ ha.2 r1 r2)
   exact .lst pl.isList (key ps _ its ok rl rv)
theorem fR.lies (I:Inv X pins σ H s) {n:Nat}:∀{ps:List PV} {xs:List V} {its:List Value},ps.all (kY n)=true->fR X.K Z H ps xs->Vals xs its->bQ s.heap ps its
 |[],_,_,_,h1,h2=>by cases h1;cases h2;exact .nil
 | p::ps,_,_,ha,h1,h2=>by
  rw[all_cons,and_eq_true]at ha;cases h1 with
  |cons h1 r1=>
   cases h2 with
   |cons h2 r2=>exact .cons (Rep.lies I (n:=n) ha.1 h1 h2) (fR.lies I ha.2 r1 r2)
end
mutual
noncomputable def cF:PV->PV->Bool
 | .aU,.aU=>true
 | .bl a,.bl b=>a==b
 | .bl a,.int b=>(if a then 1 else 0)==b
 | .int a,.bl b=>a==(if b then 1 else 0)
 | .int a,.int b=>a==b
 | .str a,.str b=>a==b
 | .tup xs,.tup ys=>eE xs ys
 | .lst xs,.lst ys=>eE xs ys
 |_,_=>false
noncomputable def eE:List PV->List PV->Bool
 |[],[]=>true
 |x::xs,y::ys=>cF x y && eE xs ys
 |_,_=>false
end
theorem nE {xs ys:List PV}:cF (.tup xs) (.tup ys)=eE xs ys:=by rw[cF]
theorem BN {xs ys:List PV}:cF (.lst xs) (.lst ys)=eE xs ys:=by rw[cF]
theorem bQ.length:∀{ps:List PV} {vs:List Value},bQ h ps vs->ps.length=vs.length
 |_,_,.nil=>rfl
 |_,_,.cons _ r=>by rw[length_cons,length_cons,bQ.length r]
theorem bQ.get:∀{ps:List PV} {vs:List Value} {i:Nat} {v:Value},bQ h ps vs->vs[i]? =some v->∃p,ps[i]? =some p/\Lies h p v
 |_,_,_,_,.nil,e=>by simp at e
 |_,_,0,_,.cons q _,e=>by simp at e;subst e;exact⟨_,rfl,q⟩
 |_,_,i+1,_,.cons _ r,e=>by
  obtain⟨v,h1,h2⟩:=bQ.get (i:=i) r (by simpa using e);exact⟨v,by simpa using h1,h2⟩
theorem JV (h1:IsTup h a xs) (h2:IsTup h a ys):xs=ys:=by
 obtain⟨o,g,_,n,d⟩:=h1;obtain⟨o',g',_,n',d'⟩:=h2;rw[g]at g';cases g';rw[d]at d';injection d'
theorem JE (h1:h.IsList a xs) (h2:h.IsList a ys):xs=ys:=by
 obtain⟨o,g,_,n,d⟩:=h1;obtain⟨o',g',_,n',d'⟩:=h2;rw[g]at g';cases g';rw[d]at d';injection d'
theorem AJ (h1:IsTup h a xs) (h2:h.IsList a ys):False:=by
 obtain⟨o,g,c,n,d⟩:=h1;obtain⟨o',g',c',n',d'⟩:=h2;rw[g]at g';cases g';rw[c]at c';exact absurd c' (by decide)
mutual
theorem Lies.same {h:Heap}:∀{p:PV} {v:Value},Lies h p v->∀{q:PV},Lies h q v->cF p q=true
 |_,_,.aU,q,k=>by cases k;rfl
 |_,_,.bl b,q,k=>by cases k;exact beq_self_eq_true b
 |_,_,.int i t,q,k=>by cases k;exact beq_self_eq_true i
 |_,_,.str i t,q,k=>by cases k;exact beq_self_eq_true i
 | _,_,.tup ht r,q,k=>by
  cases k with
  |tup ht' r'=>
   have e:_=_:=JV ht ht';have e:=congrArg Array.toList e;simp only[List.toList_toArray]at e;subst e;unfold cF;exact bQ.same r r'
  |lst hl r'=>exact(AJ ht hl).elim
 | _,_,.lst ht r,q,k=>by
  cases k with
  |tup ht' r'=>exact(AJ ht' ht).elim
  |lst hl r'=>
   have e:=congrArg Array.toList (JE ht hl);simp only[List.toList_toArray]at e;subst e;unfold cF;exact bQ.same r r'
theorem bQ.same {h:Heap}:∀{p:List PV} {v:List Value},bQ h p v->∀{q:List PV},bQ h q v->eE p q=true
 |_,_,.nil,q,k=>by cases k;rfl
 |_,_,.cons h1 r1,q,k=>by
  cases k with
  |cons h2 r2=>unfold eE;rw[Lies.same h1 h2,bQ.same r1 r2];rfl
end
theorem iX:∀{ps qs:List PV},((List.range (min ps.length qs.length)).all (fun j=>cF (ps.getD j .aU) (qs.getD j .aU)) && ps.length==qs.length)=eE ps qs
 |[],[]=>rfl
 |[],_::_=>by unfold eE;simp
 |_::_,[]=>by unfold eE;simp
 | p::ps,q::qs=>by
  have ih:=iX (ps:=ps) (qs:=qs);unfold eE;rw[<-ih];have e:min (p::ps).length (q::qs).length=min ps.length qs.length+1:=by simp only[length_cons];omega
  rw[e,List.range_succ_eq_map,all_cons,List.all_map];have e2:((p::ps).length==(q::qs).length)=(ps.length==qs.length):=by
   rw[Bool.eq_iff_iff];simp
  rw[e2,Bool.and_assoc];rfl
section
variable {A:Around} {s:Shared}
theorem toArr {vs:List Value} {j:Nat} (h:j<vs.toArray.size):vs[j]? =some (vs.toArray[j]):=by simp at h⊢
theorem z6:∀(n:Nat) (A:Around) {p q:PV} {v u:Value},A.units+n<cLine->kY n p=true->kY n q=true->Lies s.heap p v->Lies s.heap q u->SeqAt.EqAt A s v u (cF p q):=by
 intro n
 induction n with
 | zero=>
  intro A p q v u hu o1 o2 h1 h2;cases h1 with
  |tup _ _=>cases o1
  |lst _ _=>cases o1
  |aU=>
   cases h2 with
   |tup _ _=>cases o2
   |lst _ _=>cases o2
   |aU=>exact .same _
   |bl b=>exact .none_bool b
   |int b t=>exact .none_int b t
   |str b t=>exact .none_str b t
  |bl a=>
   cases h2 with
   |tup _ _=>cases o2
   |lst _ _=>cases o2
   |aU=>exact .bool_none a
   |bl b=>exact .bool_bool a b
   |int b t=>exact .bool_int a b t
   |str b t=>exact .bool_str a b t
  |int a t'=>
   cases h2 with
   |tup _ _=>cases o2
   |lst _ _=>cases o2
   |aU=>exact .int_none a t'
   |bl b=>exact .int_bool a t' b
   |int b t=>exact .int_int a t' b t
   |str b t=>exact .int_str a t' b t
  |str a t'=>
   cases h2 with
   |tup _ _=>cases o2
   |lst _ _=>cases o2
   |aU=>exact .str_none a t'
   |bl b=>exact .str_bool a t' b
   |int b t=>exact .str_int a t' b t
   |str b t=>exact .str_str a t' b t
 | succ n ih=>
  intro A p q v u hu o1 o2 h1 h2;have hu0:A.units<cLine:=by omega
  have hin:A.in1.units=A.units+1:=rfl;have els:∀{ps qs:List PV} {vs us:List Value},ps.all (kY n)=true->qs.all (kY n)=true->bQ s.heap ps vs->bQ s.heap qs us->∀(j:Nat) (g1:j<vs.toArray.size) (g2:j<us.toArray.size),SeqAt.EqAt A.in1 s vs.toArray[j] us.toArray[j] (cF (ps.getD j .aU) (qs.getD j .aU)):=fun{ps qs vs us} a1 a2 l1 l2 j g1 g2=>by
   obtain⟨x,ex,rx⟩:=l1.get (toArr g1);obtain⟨y,ey,ry⟩:=l2.get (toArr g2);rw[getD_eq_getElem?_getD,getD_eq_getElem?_getD,ex,ey];exact ih A.in1 (by omega) (all_eq_true.mp a1 _ (mem_of_getElem? ex)) (all_eq_true.mp a2 _ (mem_of_getElem? ey)) rx ry
  cases h1 with
  | tup ht r=>
   cases h2 with
   | tup ht' r'=>
    rename_i a its ps a' its' ps'
    by_cases hab:a=a'
    .subst hab;rw[Lies.same (.tup ht r) (.tup ht' r')];exact .same _
    .refine .of_refs hab ?_;have e:cF (.tup ps) (.tup ps')=((List.range (min its.toArray.size its'.toArray.size)).all (fun j=>cF (ps.getD j .aU) (ps'.getD j .aU)) && its.toArray.size==its'.toArray.size):=by
      rw[nE,<-iX,r.length,r'.length,size_toArray,size_toArray]
     rw[e];exact SeqAt.RcAt.tuples (e:=fun j=>cF (ps.getD j .aU) (ps'.getD j .aU)) ht ht' hu0 (els o1 o2 r r')
   |lst hl r'=>exact .tuple_list ht hl hu0
   |aU=>exact .tuple_none ht hu0
   |bl b=>exact .tuple_bool b ht hu0
   |int b t=>exact .tuple_int b t ht hu0
   |str b t=>exact .tuple_str b t ht hu0
  | lst ht r=>
   cases h2 with
   |tup ht' r'=>exact .list_tuple ht ht' hu0
   | lst ht' r'=>
    rename_i a its ps a' its' ps'
    by_cases hab:a=a'
    .subst hab;rw[Lies.same (.lst ht r) (.lst ht' r')];exact .same _
    .refine .of_refs hab ?_
     by_cases hsz:its.length=its'.length
     .have e:cF (.lst ps) (.lst ps')=(List.range its.toArray.size).all (fun j=>cF (ps.getD j .aU) (ps'.getD j .aU)):=by
       rw[BN,<-iX,r.length,r'.length,size_toArray,<-hsz,min_self,beq_self_eq_true,Bool.and_true]
      rw[e];exact SeqAt.RcAt.lists (e:=fun j=>cF (ps.getD j .aU) (ps'.getD j .aU)) ht ht' (by simp[hsz]) hu0 (els o1 o2 r r')
     .have e:cF (.lst ps) (.lst ps')=false:=by
       rw[BN,<-iX,r.length,r'.length,show(its.length==its'.length)=false by simp[hsz],Bool.and_false]
      rw[e];exact SeqAt.RcAt.lists_lengths ht ht' (by simp[hsz]) hu0
   |aU=>exact .list_none ht hu0
   |bl b=>exact .list_bool b ht hu0
   |int b t=>exact .list_int b t ht hu0
   |str b t=>exact .list_str b t ht hu0
  |aU=>
   cases h2 with
   |tup ht' r'=>exact .none_tuple ht' hu0
   |lst hl r'=>exact .none_list hl hu0
   |aU=>exact .same _
   |bl b=>exact .none_bool b
   |int b t=>exact .none_int b t
   |str b t=>exact .none_str b t
  |bl a=>
   cases h2 with
   |tup ht' r'=>exact .bool_tuple a ht' hu0
   |lst hl r'=>exact .bool_list a hl hu0
   |aU=>exact .bool_none a
   |bl b=>exact .bool_bool a b
   |int b t=>exact .bool_int a b t
   |str b t=>exact .bool_str a b t
  |int a t'=>
   cases h2 with
   |tup ht' r'=>exact .int_tuple a t' ht' hu0
   |lst hl r'=>exact .int_list a t' hl hu0
   |aU=>exact .int_none a t'
   |bl b=>exact .int_bool a t' b
   |int b t=>exact .int_int a t' b t
   |str b t=>exact .int_str a t' b t
  |str a t'=>
   cases h2 with
   |tup ht' r'=>exact .str_tuple a t' ht' hu0
   |lst hl r'=>exact .str_list a t' hl hu0
   |aU=>exact .str_none a t'
   |bl b=>exact .str_bool a t' b
   |int b t=>exact .str_int a t' b t
   |str b t=>exact .str_str a t' b t
end
section
variable {K:Frag}
def JO (neg:Bool):R2:=fun x y H Q=>∃a kvs k,y= .ref a/\D4 H a kvs/\x=kV k/\Q (.bl (if neg then !(bG kvs k).isSome else(bG kvs k).isSome)) H
theorem inD (hr:eL k X.A):qR X (compareOp .In) (JO false):=by
 intro pins s σ H x y v u Q I rx ry h;obtain⟨a,kvs,key,rfl,ha,rfl,q⟩:=h;cases ry;exact Q8 (by have:=hr.un;omega) I (.inl ⟨kvs,key,ha,rfl,rfl⟩) rx fun s' I'=>⟨.bl _,H,I',rfl,q⟩
theorem pZ (hr:eL k X.A):qR X (compareOp .NotIn) (JO true):=by
 intro pins s σ H x y v u Q I rx ry h;obtain⟨a,kvs,key,rfl,ha,rfl,q⟩:=h;cases ry;exact J6 (by have:=hr.un;omega) I (.inl ⟨kvs,key,ha,rfl,rfl⟩) rx fun s' I'=>⟨.bl _,H,I',rfl,q⟩
def RK:R2:=fun x y H Q=>∃a kvs k v,x= .ref a/\D4 H a kvs/\y=kV k/\bG kvs k=some v/\Q v H
theorem BE (hr:eL k X.A):M7 X RK:=by
 intro value slice pins s σ H x y v u Q I rx ry h hs;obtain⟨a,kvs,key,w,rfl,ha,rfl,hv,q⟩:=h;cases rx;have g:n6 H a (kV key) (some w):=.inl ⟨kvs,key,ha,rfl,hv.symm⟩;have hT:=wB I g;unfold subscriptTail;refine wpAny_bind ?_;rw[getitemInPython_of_ne hT.not_modules];refine wpAny_bind (wpAny_specialOf hT PySem.F.slot_dict_getitem.lookup ?_);have fin:wpAny (model X.prog X.w) X.A (subscripted slice false (.ref a) u) (fun r s₃=>wpAny (model X.prog X.w) X.A (letTemporaryGo value (.ref a) r>>=fun _=>pure r) (EP X pins σ Q) X.xe s₃) X.xe s:=by
  rw[hs];exact wpAny_operating (wpAny_mono (CO (by have:=hr.un;omega) I g ry fun w' s3 I3 nF=>(⟨w,H,I3,nF,q⟩:EP X pins σ Q w' s3)) (fun r s₃ h₃=>wpAny_bind (wpAny_letTemporaryGo (wpAny_pure h₃))) fun _ _ x=>x)
 first
  |exact wpAny_pure (wpAny_bind fin)
  |exact wpAny_bind (wpAny_pure (wpAny_bind fin))
  |exact wpAny_bind fin
end
end Mr
namespace L2
open PySem PySem.Spec PyProof.Rows
variable {a:Expr} {p pos:Pos} {ta:TA}
noncomputable def GV (K:Frag) (a:Addr):It:=
 ⟨fun i H=>∃xs x,bM K H a xs/\xs[i]? =some x,fun i H v H'=>∃t,H t=none/\v= .ref t/\∀xs,bM K H a xs->∃x,xs[i]? =some x/\H'=upd H t (.tup [.int i,x]),fun i H=>∃xs,bM K H a xs/\xs.length=i⟩
theorem zZ {P:Program} {w:World} {K:Frag} {elts:List Expr} {x1} (a it e:Addr) (hei:e≠it):Turn P w K (.Tuple elts x1 pos) (GV K a) [e,it] e (fun i h=>(∃old,IsEnum h e it i old)/\h.IsListIter it a i)where
 mem:=by simp
 obj:=fun i h st b hb=>by
  obtain⟨⟨old,he⟩,o,ho,c,d⟩:=st;rcases mem_cons.mp hb with z|z
  .subst z;exact⟨_,he,fun v z=>by cases z⟩
  .have z:b=it:=by simpa using z
   subst z;exact⟨o,ho,fun v z=>by rw[d]at z;cases z⟩
 keep:=fun i h h' st k=>⟨let⟨old,he⟩:=st.1;⟨old,k e (by simp) _ he⟩,st.2.at fun o q=>k it (by simp) o q⟩
 item:=by
  intro X hP hw hK hc i pins s σ H E I hf st hg;subst hP hw hK;obtain⟨xs,x,hq,hx⟩:=hg;obtain⟨its,rv,p,hz⟩:=I.list hq;obtain⟨u,hu,ru⟩:=rv.get hx;obtain⟨⟨old,he⟩,ht⟩:=st;have hne:a≠it:=fun z=>by
   obtain⟨o,ho,c,_⟩:=ht;obtain⟨o',_,ho',c',_,_⟩:=p;subst z;rw[ho]at ho';cases ho'
   rw[c]at c';exact absurd (Value.type.inj c') (by decide)
  have hae:a≠e:=fun z=>by
   obtain⟨o',_,ho',c',_,_⟩:=p;subst z;rw[he]at ho';cases ho'
   exact absurd (Value.type.inj c') (by decide)
  have hlt:i<its.toArray.size:=by have:=(List.getElem?_eq_some_iff.mp hu).1;simpa using this
  refine wpAny_pyNext_enum_itemD (Draws.list (A:=X.A.in1) (by exact I.ok.hd hc) it a hne its.toArray) he ⟨ht,p.isList⟩ hlt hei (by simp[hei,Ne.symm hae]) fun v h' tk hPv ho' st' htup hsz hk=>?_
  have ev:v=u:=by
   have h1:its[i]? =some v:=by simpa using hPv
   rw[hu]at h1;exact(Option.some.inj h1).symm
  subst ev;refine⟨_,rfl,wpAny_letOwnedTupleGo_enum (s:={s with heap:=h',toks:=tk+1}) ho' fun h2 he2 sb=>?_⟩;have hTe:s.heap.objs.size≠e:=fun z=>by
   have:=lt_size he;rw[<-z]at this;exact Nat.lt_irrefl _ this
  have hTi:s.heap.objs.size≠it:=fun z=>by
   obtain⟨o,ho,_⟩:=ht;have:=lt_size ho;rw[<-z]at this;exact Nat.lt_irrefl _ this
  have hk2:∀b o,b∉[e,it]->s.heap.get? b=some o->h2.get? b=some o:=fun b o hb q=>
   sb.extBut b o (fun z=>hb (by simp[z])) (hk b o (fun z=>hb (by simp[z])) (fun z=>hb (by simp[z])) q)
  have I1:Inv X pins σ H {s with heap:=h2,toks:=tk+1}:=I.A2 hk2 hf;have hfr:H s.heap.objs.size=none:=I.aW.fresh (le_refl _);have htup2:h2.get? s.heap.objs.size=some {cls:=.type "tuple",data:=.seq #[.int i tk,v]}:=sb.extBut _ _ hTe htup;have I2:Inv X pins σ (upd H s.heap.objs.size (.tup [.int i,x])) {s with heap:=h2,toks:=tk+1}:=by
   refine I.Q4 hk2 hf hfr (by simp[hTe,hTi]) ⟨by show 2<=sizeLine;decide,[.int i tk,v],.cons ⟨_,rfl⟩ (.cons ru .nil),nX.of htup2⟩ (fun b hb o q=>?_);rcases mem_cons.mp hb with r|r
   .subst r;exact⟨_,he2⟩
   .have r:b=it:=by simpa using r
    subst r;obtain⟨o',ho',_⟩:=st'.1.extBut sb.extBut (Ne.symm hei);exact⟨o',ho'⟩
  refine⟨.ref s.heap.objs.size,_,I2,rfl,⟨s.heap.objs.size,hfr,rfl,fun ys hy=>⟨x,by rw[I.wG hy hq];exact hx,rfl⟩⟩,⟨⟨_,he2⟩,st'.1.extBut sb.extBut (Ne.symm hei)⟩,fun b hb=>?_⟩;have hbT:b≠s.heap.objs.size:=fun z=>by
   rcases mem_cons.mp hb with r|r
   .exact hTe (z▸r)
   .have r:b=it:=by simpa using r
    exact hTi (z▸r)
  rw[aH hbT];exact(hf b hb).1
 done:=by
  intro X hP hw hK hc i pins s σ H E I hf st hg;subst hP hw hK;obtain⟨xs,hq,hx⟩:=hg;obtain⟨its,rv,p,hz⟩:=I.list hq;obtain⟨⟨old,he⟩,ht⟩:=st;have hl:=rv.length;have hne:a≠it:=fun z=>by
   obtain⟨o,ho,c,_⟩:=ht;obtain⟨o',_,ho',c',_,_⟩:=p;subst z;rw[ho]at ho';cases ho'
   rw[c]at c';exact absurd (Value.type.inj c') (by decide)
  have ei:(i:Nat)=its.toArray.size:=by simp;omega
  subst ei;obtain⟨f0,f1,f2,f3,f4,f5⟩:=hf it (by simp);exact wpAny_pyNext_enum_endD (Draws.list (A:=X.A.in1) (by exact I.ok.hd hc) it a hne its.toArray) he ⟨ht,p.isList⟩ fun h' eb=>⟨rfl,I.turned (t':=s.toks) (fun b o hb e=>eb b o hb e) f0 f1 f3 f4 f5⟩
 self:=fun _ _ _ _ _ st h=>let⟨_,he⟩:=st.1;wpAny_pyIter_enum he h
section
variable {X:Cx} {elts:List Expr} {x1:Nat} {tpos:Pos}
def gH (K:Frag) (ta:TA):TI:=fun σ H R=>ta σ H fun vs H1=>(∃a xs,vs=[.ref a]/\bO K H1 a xs/\R (N7 K a) H1)\/ ∃a xs,vs=[.ref a]/\bM K H1 a xs/\R (GV K a) H1
theorem EA (hg:Gl X "enumerate") (hm:X.mg "enumerate"=none) (ha:PA X [a] ta) (hs:starEach [a] X.env=[(false,eval a X.env)]:=by rfl):PI X (.Tuple elts x1 tpos) (.Call (.Name "enumerate" p) [a] [] pos) (gH X.K ta):=by
 intro pins s σ H R I h;refine Call_ (vN I hg hm vH (PyProof.Rows.callWith_type1 (cG (ha pos pins s σ H _ I h) fun us s1 ⟨vs,H1,I1,r1,q1⟩=>?_) hs rfl));rcases q1 with⟨t,xs,e,hq,q⟩|⟨t,xs,e,hq,q⟩
 .subst e;obtain⟨u,rfl,rx⟩:=vals1 r1;cases rx;obtain⟨its,rv,pt,hz⟩:=I1.tuple hq;refine gK (show s1.heap.IsTuple t its.toArray from pt) fun h' he ht hsz hk=>?_
  have I2:Inv X pins σ H1 {s1 with heap:=h'}:=I1.kept (t':=s1.toks) hk;refine wpAny_pyIter_enum (s:={s1 with heap:=h'}) he ?_;refine⟨s1.heap.objs.size+1,[s1.heap.objs.size+1,s1.heap.objs.size],_,_,H1,rfl,I2,y9 t s1.heap.objs.size (s1.heap.objs.size+1) (Nat.succ_ne_self _),⟨⟨_,he⟩,ht⟩,fun b hb=>?_,q⟩;rcases mem_cons.mp hb with r|r
  .subst r;exact I1.uR (le_succ _) (I1.aW.fresh (le_succ _))
  .have r:b=s1.heap.objs.size:=by simpa using r
   subst r;exact I1.uR (le_refl _) (I1.aW.fresh (le_refl _))
 .subst e;obtain⟨u,rfl,rx⟩:=vals1 r1;cases rx;obtain⟨its,rv,pt,hz⟩:=I1.list hq;refine call_enumerate_list pt.isList fun h' he ht hsz hk=>?_
  have I2:Inv X pins σ H1 {s1 with heap:=h'}:=I1.kept (t':=s1.toks) hk;refine wpAny_pyIter_enum (s:={s1 with heap:=h'}) he ?_;refine⟨s1.heap.objs.size+1,[s1.heap.objs.size+1,s1.heap.objs.size],_,_,H1,rfl,I2,zZ t s1.heap.objs.size (s1.heap.objs.size+1) (Nat.succ_ne_self _),⟨⟨_,he⟩,ht⟩,fun b hb=>?_,q⟩;rcases mem_cons.mp hb with r|r
  .subst r;exact I1.uR (le_succ _) (I1.aW.fresh (le_succ _))
  .have r:b=s1.heap.objs.size:=by simpa using r
   subst r;exact I1.uR (le_refl _) (I1.aW.fresh (le_refl _))
theorem vP (K:Frag) (hg:Gl X "enumerate") (hm:X.mg "enumerate"=none) (ha:PA X [a] ta) (h:X.K=K:=by rfl) (hs:starEach [a] X.env=[(false,eval a X.env)]:=by rfl):
  PI X (.Tuple elts x1 tpos) (.Call (.Name "enumerate" p) [a] [] pos) (gH K ta):=h▸EA hg hm ha hs
end
end L2
namespace Mr
open PySem PySem.Spec L2 PyProof.Rows
section
variable {K:Frag}
def vZ (a b:Str):Prop:=¬b.cps.toList<a.cps.toList
theorem tK {a b c:Str} (h:vZ a b) (h':vZ b c):vZ a c:=not_lt.mpr (List.le_trans (not_lt.mp h) (not_lt.mp h'))
theorem p6 {a b:Str} (h:vZ a b) (h':vZ b a):a=b:=by
 have:=List.le_antisymm (not_lt.mp h) (not_lt.mp h');exact Str.ext' (by cases a;cases b;simp at this;exact this)
theorem oS:∀{x:Str} {r:List Str},risingS x r=true->(x::r).Pairwise vZ
 |x,[],_=>List.pairwise_singleton _ _
 | x,y::r,h=>by
  have h:(!ltCps y.cps.toList x.cps.toList && risingS y r)=true:=h;rw[and_eq_true]at h;have ih:=oS h.2;have hxy:vZ x y:=by
   have:=h.1;rw[ltCps_eq]at this;simpa [vZ]using this
  refine pairwise_cons.mpr ⟨fun z hz=>?_,ih⟩;rcases mem_cons.mp hz with e|e
  .rw[e];exact hxy
  .exact tK hxy ((pairwise_cons.mp ih).1 z e)
theorem j9 {l:List Str} (h:sortedS l=true):l.Pairwise vZ:=by
 cases l with
 |nil=>exact .nil
 |cons x r=>exact oS h
theorem jT:∀{a b:List Str},a.Pairwise vZ->b.Pairwise vZ->a.Perm b->a=b
 |[],b,_,_,p=>(List.Perm.nil_eq p)
 |x::a,[],_,_,p=>absurd p.symm.nil_eq (by simp)
 | x::a,y::b,ha,hb,p=>by
  have hx:=(pairwise_cons.mp ha).1;have hy:=(pairwise_cons.mp hb).1;have e:x=y:=by
   rcases mem_cons.mp (p.mem_iff.mp mem_cons_self)with z|z
   .exact z
   .rcases mem_cons.mp (p.mem_iff.mpr mem_cons_self)with w|w
    .exact w.symm
    .exact p6 (hx y w) (hy x z)
  subst e;rw[jT (pairwise_cons.mp ha).2 (pairwise_cons.mp hb).2 p.cons_inv]
end
end Mr
namespace L2
open PySem PySem.Spec PyProof.Rows PySem.W
variable {I T a:Addr} {es:Array (Int×Value)} {h h':Heap} {kvs:List (Key×V)} {vs:List (Key×Value)} {ord:List Value} {ep i n:Nat} {t:SetTable} {s':Shared} {α:Type} {f:Value} {Q:Value->Shared->Prop}
section
variable {prog:Program} {w:World} {A:Around} {E:Value->Shared->Prop} {s:Shared} {T:String} {r d:Addr} {n:Nat} {Pz:Nat->Value->Prop} {OKh:Heap->Prop}
def i5 (s s':Shared):Prop:=∃h' tk dr,s'={s with heap:=h',toks:=tk,drawn:=dr}/\s.heap.objs.size<=h'.objs.size/\∀b o,s.heap.get? b=some o->h'.get? b=some o
theorem i5.size {s:Shared} (g:i5 s s'):s.heap.objs.size<=s'.heap.objs.size:=by
 obtain⟨h',tk,dr,rfl,k,_⟩:=g;exact k
theorem oH {Q:List Value->Shared->Prop} (K:KdlSrc prog w T r d n Pz OKh) (hh:A.handled=none) (aW:OKh s.heap) (hn:n<=sizeLine)
  (hq:∀vs s',i5 s s'->vs.length=n->(∀j v,vs[j]? =some v->Pz j v)->Q vs s'):wpAny (model prog w) A (collect (.ref r)) Q E s:=by
 have ha:=K.there _ aW;have fin:∀(h':Heap) (tk:Nat) (acc:Array Value) (c:Nat),(∀b o,s.heap.get? b=some o->h'.get? b=some o)->
   h'.get? s.heap.objs.size=some {cls:=.type "list",dict:=none,data:=.seq acc c,slots:= #[]}->ItemsOf Pz acc n->
   wpAny (model prog w) A (match Value.ref s.heap.objs.size with
    | Value.ref a=>do
     match(<-load a).data with
      |Data.seq xs _=>pure xs.toList
      |_=>unsupported "internal:collect"
    |_=>unsupported "internal:collect") Q E {s with heap:=h',toks:=tk}:=fun h' tk acc c kp hS hacc=>by
  show wpAny _ A (load s.heap.objs.size>>=_) _ _ _;exact wpAny_bind (wpAny_load hS (wpAny_pure (hq _ _ ⟨h',tk,s.drawn,rfl,le_of_lt (lt_size hS),kp⟩ (by rw[length_toList];exact hacc.1) fun j v e=>hacc.2 j v (by rw[<-getElem?_toList];exact e))))
 unfold collect;refine wpAny_bind (wpAny_runValue (codeAny_builtin F.entry_proto_collect ?_));rw[Around.under_plainId F.plain_proto_collect _];refine wpAny_bind (m:=newList []) (wpAny_newObj_type ?_);refine wpAny_pure ⟨plainId_quiet F.plain_list_iadd _,codeAny_builtin F.entry_list_iadd ?_⟩;rw[Around.under_plainId F.plain_list_iadd _];have e0:(s.heap.push {cls:=.type "list",data:=.seq ([]:List Value).toArray}).get? s.heap.objs.size=some {cls:=.type "list",data:=.seq #[] 0}:=get?_push_size _ rfl;have key:=kdl_extend (A:=A) (s:={s with heap:=s.heap.push {cls:=.type "list",data:=.seq ([]:List Value).toArray}}) (R:=fun rs s'=>∃h' tk acc c,rs= .ok (.ret (.ref s.heap.objs.size))/\s'={s with heap:=h',toks:=tk}/\(∀b o,s.heap.get? b=some o->h'.get? b=some o)/\h'.get? s.heap.objs.size=some {cls:=.type "list",dict:=none,data:=.seq acc c,slots:= #[]}/\ItemsOf Pz acc n) K hh (K.keep _ _ aW fun b _ o e=>get?_push_of_some _ e) s.heap.objs.size (ne_of_gt ha.1) (ne_of_gt ha.2) (.ref s.heap.objs.size) 0 e0
  (fun h' tk acc c kp hS hacc=>⟨h',tk,acc,c,rfl,rfl,fun b o e=>kp b o (ne_of_lt (lt_size e)) (get?_push_of_some _ e),hS,hacc⟩) hn
 refine wpAny_mono key (fun f s' h=>?_) fun e s' h=>?_
 .cases f with
  |done f=>
   obtain⟨h',tk,acc,c,e1,rfl,kp,hS,hacc⟩:=h;cases e1;exact fin h' tk acc c kp hS hacc
  |again c'=>
   refine⟨h.1,codeAny_mono h.2 fun rs s2 hr=>?_⟩;obtain⟨h',tk,acc,c,rfl,rfl,kp,hS,hacc⟩:=hr;exact fin h' tk acc c kp hS hacc
 .obtain⟨h',tk,acc,c,e1,_⟩:=h;cases e1
theorem CL (K:KdlSrc prog w T r d n Pz OKh) (hnt:T≠"tuple") (hh:A.handled=none) (aW:OKh s.heap) (hn:n<=sizeLine)
  (hq:∀(vs:List Value) s1,i5 s s1->vs.length=n->(∀j v,vs[j]? =some v->Pz j v)->Q (.ref s1.heap.objs.size) {s1 with heap:=s1.heap.push {cls:=.type "tuple",data:=.seq vs.toArray}}):
  wpAny (model prog w) A (call (.type "tuple") [.ref r]) Q E s:=by
 have hT:=K.type s aW;refine callType_codes (Q₁:=fun obj s₁=>s₁.TypeIs obj "tuple"/\Q obj s₁) F.called_tuple (F.typeCall_tuple_1 _) F.entry_object_init ?_ fun obj s₁ h₁=>
  ⟨h₁.1,F.args_object_init_2 obj _,object_init_meets F.called_tuple.init.lookup F.called_tuple.made (by decide) prog w A.in1 _ s₁ ⟨h₁.1,rfl,h₁.2⟩⟩
 refine codeAny_of_tree ?_;refine wpAny_bind (m:=checkBuiltinCall "tuple.__new__" ⟨[.type "tuple",.ref r],[]⟩) (wpAny_of_eq (F.newCall_tuple_1 _) (wpAny_pure ⟨plainId_quiet F.plain_tuple_new _,codeAny_builtin F.entry_tuple_new ?_⟩));rw[Around.under_plainId F.plain_tuple_new _];have a1:=sub_tuple_self;have a2:=init_tuple_lookup;have a3:=madeHere_tuple;have a4:(Value.type T==Value.type "tuple")=false:=K.notTuple;unfold Builtin.«tuple.__new__»;generalize hC:collect=C
 wp_walk using wpAny_typeOf hT
 subst hC;refine oH K hh aW hn fun vs s1 g hl hv=>?_
 refine wpAny_bind (wpAny_pure ?_);unfold Builtin.Tuple.tupleExact;refine wpAny_bind (m:=newObj (.type "tuple") (.seq vs.toArray)) (wpAny_newObj_type ?_ (by show vs.toArray.size<=sizeLine;rw[size_toArray,hl];exact hn));exact wpAny_pure ⟨⟨_,get?_push_size _ rfl,rfl⟩,hq vs s1 g hl hv⟩
theorem nL {v:Value} {R:List Str->Prop}
  (hcol:∀(E':Value->Shared->Prop) (Q':List Value->Shared->Prop),(∀vs s1 ss,i5 s s1->StrsAre vs ss->R ss->Q' vs s1)->wpAny (model prog w) A.in1 (collect v) Q' E' s) (h64:∀ss,R ss->ss.length<64)
  (hq:∀(a:Addr) s2 (out:List Value) c ss ss',i5 s s2->s.heap.objs.size<=a->s2.heap.get? a=some (seqObj "list" out.toArray c)->StrsAre out ss'->R ss->ss'.Perm ss->sortedS ss'=true->Q (.ref a) s2):
  wpAny (model prog w) A (call (.builtin "sorted") [v]) Q E s:=by
 refine Calls.call_function_entry kind_sorted plain_sorted entry_sorted (args_sorted1 _) ?_;unfold Builtin.«sorted»;refine wpAny_bind (m:=checkCount "sorted" 1 1 _) (wpAny_pure (wpAny_bind (hcol _ _ fun vs s1 ss g hS hR=>?_)));have hl:vs.length<64:=by rw[hS.length];exact h64 ss hR
 refine wpAny_bind (wpAny_newList ?_ (by simp only[sizeLine_eq];omega));have e1:(s1.heap.push (seqObj "list" vs.toArray 0)).get? s1.heap.objs.size=some (seqObj "list" vs.toArray 0):=get?_push_size _ rfl;refine wpAny_bind (wpAny_holding (wpAny_call_entry slot_list_sort ⟨_,e1,rfl⟩ entry_list_sort (list_sort_treeK strKind_oneLt e1 hS.keysOf (fun v₁ v₂ rest e=>keyKind_strs (by rw[<-e];exact hS)) hl fun st' a1 a2=>⟨_,rfl,?_⟩) (args_list_sort _)));obtain⟨ss',b1,b2,b3⟩:=sorted_out_str hS a1 a2;refine wpAny_pure ⟨_,rfl,?_⟩;obtain⟨c,hc⟩:=sortedHeap_at (out:=(arrOf st').map (·.2)) e1;refine hq s1.heap.objs.size _ ((arrOf st').map (·.2)).toList c ss ss' ?_ g.size (by rw[Array.toArray_toList];exact hc) b1 hR b2 b3;obtain⟨h',tk,dr,rfl,gz,k⟩:=g;refine⟨_,tk,dr,rfl,le_trans gz (le_of_lt (lt_size hc)),fun b o e=>?_⟩;have hb:=lt_size (k b o e);rw[sortedHeap_old (ne_of_lt hb) (by rw[size_push'];exact lt_succ_of_lt hb)];exact get?_push_of_some _ (k b o e)
end
section
variable {X:Cx} {pins:List (Addr×Obj)} {σ:St} {H:Hp} {s s':Shared}
theorem Inv.NW (I:Inv X pins σ H s) (g:i5 s s'):Inv X pins σ H s':=by
 obtain⟨h',tk,dr,rfl,_,k⟩:=g;exact I.call (g':=s.gens) (d':=dr) (t':=tk) (ch:=[]) (Un.kept k) (I.aW.kept k) I.bare fun _ z=>nomatch z
end
noncomputable def JF (v d:Addr):HO:=.ext fun h=>h.IsValuesView v d
theorem KV.vals (r:KV kvs vs):Vals (kvs.map (·.2)) (vs.map (·.2)):=by
 unfold KV at r
 induction r with
 |nil=>exact .nil
 |cons h t ih=>exact .cons h.2 ih
theorem KV.len (r:KV kvs vs):kvs.length=vs.length:=by
 have:=congrArg List.length r.keys;simpa using this
theorem Inv.K6 {X:Cx} {pins:List (Addr×Obj)} {σ:St} {H:Hp} {s:Shared} {o:HO} (I:Inv X pins σ H s) (g:i5 s s') (hp:s.heap.objs.size<=a) (new:cV X.prog X.w (L2.upd H a o) s'.heap a o):Inv X pins σ (L2.upd H a o) s':=by
 obtain⟨h',tk,dr,rfl,_,k⟩:=g;exact I.call (g':=s.gens) (d':=dr) (t':=tk) (ch:=[]) (Un.laid k hp (I.aW.fresh hp)) (I.aW.laid k hp new) I.bare fun _ z=>nomatch z
section
variable {X:Cx}
def lH (to:TE):TE:=fun σ H Q=>to σ H fun x H1=>∃a kvs,x= .ref a/\D4 H1 a kvs/\∀v,H1 v=none->Q (.ref v) (upd H1 v (JF v a))
theorem JR {o:Expr} {to:TE} {apos cpos:Pos} (ho:PE X o to) (hbase:attributeBase o "values" X.env (eval o X.env)=eval o X.env:=by rfl) (hline:(apos.endLine==cpos.line)=true:=by rfl):
  PE X (.Call (.Attribute o "values" apos) [] [] cpos) (lH to):=by
 intro pins s σ H Q I h;refine wpAny_Call_method0_late hbase hline (cG (ho pins s σ H _ I h) fun v s1 ⟨x,H1,I1,r1,a,kvs,ex,ha,q1⟩=>?_);subst ex;obtain rfl:v=Value.ref a:=r1;obtain⟨hz,hd,vs,rel,dd⟩:=gQ I1.aW ha;refine⟨"dict","dict.values",plainAttrs_dict,PySem.F.slot_dict_values,PySem.F.type_dict_values,dd.typeIs,dd.mapOf.noDict,Calls.callWith_builtin rfl (PySem.evalArgs_none ?_)⟩;refine call_meetsIn PySem.F.slot_dict_values dd.typeIs PySem.F.entry_dict_values (PySem.F.args_dict_values_1 _) (meets_dict_values (aX X.prog X.w) a hd) ⟨⟨vs,dd⟩,?_⟩;have e0:(s1.heap.push {cls:=.type "dict_values",data:=.fields #[.ref a]}).get? s1.heap.objs.size=some {cls:=.type "dict_values",data:=.fields #[.ref a]}:=get?_push_size _ rfl;refine⟨.ref s1.heap.objs.size,_,I1.laid (t':=s1.toks) (o:=JF s1.heap.objs.size a) (fun b u e=>get?_push_of_some _ e) (le_refl _) ⟨⟨_,e0,rfl,rfl⟩,⟨_,e0⟩,fun h1 h2 ⟨u,e,c⟩ k=>⟨u,k u e,c⟩⟩,rfl,q1 _ (I1.aW.fresh (le_refl _))⟩
def PB:List V->Hp->VK->Prop:=fun xs H Q=>∃v a kvs,xs=[.ref v]/\H v=some (JF v a)/\D4 H a kvs/\∀l,H l=none->Q (.ref l) (upd H l (.tup (kvs.map (·.2))))
theorem RP (hc:X.calm=true:=by rfl):eU X (.type "tuple") PB:=by
 intro pins s σ H xs us Q I r ⟨v,a,kvs,e,hv,ha,q⟩;subst e;obtain⟨u,rfl,rx⟩:=vals1 r;cases rx;obtain⟨hz,hd,vs,rel,dd⟩:=gQ I.aW ha;obtain⟨ep,dd⟩:=dd.dictAt;refine CL (kdl_values (knd:=aX X.prog X.w) (r:=v) (d:=a) (kvs:=vs) (ep:=ep)) (by decide) (by exact I.ok.hd hc) ⟨(I.aW v _ hv).1,dd⟩ (by rw[<-rel.len];exact hz) fun ws s1 g hl hw=>?_
 have ew:=kdl_vals_eq ws hl hw;subst ew;have I1:=I.NW g;exact⟨.ref s1.heap.objs.size,_,I1.laid (t':=s1.toks) (o:=.tup (kvs.map (·.2))) (fun b o e=>get?_push_of_some _ e) (le_refl _) ⟨by rw[length_map];exact hz,_,rel.vals,nX.new _ _⟩,rfl,q _ (I1.aW.fresh (le_refl _))⟩
def iB:List V->Hp->VK->Prop:=fun xs H Q=>∃a kvs ss,xs=[.ref a]/\D4 H a kvs/\kvs.map (·.1)=ss.map Sum.inr/\ss.length<64/\∀l out,out.Perm ss->sortedS out=true->H l=none->Q (.ref l) (upd H l (.lst (out.map V.str)))
theorem sY {prog:Program} {w:World}:∀{ss:List Str} {vs:List (Key×Value)} {us:List Value},vs.map (·.1)=ss.map Sum.inr->us.length=vs.length->(∀(j:Nat) v,us[j]? =some v->∃k x,vs[j]? =some (k,x)/\(aX prog w).is k v=true)->StrsAre us ss
 |[],[],[],_,_,_=>.nil
 |[],[],_::_,_,h,_=>by cases h
 |[],_::_,_,h,_,_=>by cases h
 |_::_,[],_,h,_,_=>by cases h
 |_::_,_::_,[],_,h,_=>by cases h
 | t::ss,(k,x)::vs,u::us,h,hl,hu=>by
  rw[map_cons,map_cons]at h;have h:=List.cons.inj h;have e:k=Sum.inr t:=h.1;subst e;obtain⟨k',x',e',hk⟩:=hu 0 u rfl;cases e';rcases aV (show eN (Sum.inr t) u=true from hk)with⟨i,tk,z,_⟩|⟨y,tk,z,rfl⟩
  .cases z
  .cases z;exact .cons _ tk (sY h.2 (by simpa using hl) fun j v e=>hu (j+1) v (by simpa using e))
theorem GS (hc:X.calm=true:=by rfl):eU X (.builtin "sorted") iB:=by
 intro pins s σ H xs us Q I r ⟨a,kvs,ss,e,ha,hk,h64,q⟩;subst e;obtain⟨u,rfl,rx⟩:=vals1 r;cases rx;obtain⟨hz,hd,vs,rel,dd⟩:=gQ I.aW ha;obtain⟨ep,dd⟩:=dd.dictAt;rw[rel.keys]at hk;refine nL (R:=fun tt=>tt=ss) (fun E' Q' k=>?_) (fun tt e=>by rw[e];exact h64) fun l s2 out c tt tt' g hl hat h1 h2 h3 h4=>?_
 .exact oH (kdl_dict (knd:=aX X.prog X.w) (d:=a) (kvs:=vs) (ep:=ep) hd) (by exact I.ok.hd hc) dd (by rw[<-rel.len];exact hz) fun ws s1 g hl hw=>k ws s1 ss g (sY hk hl hw) rfl
 .subst h2;exact⟨.ref l,_,I.K6 (o:=.lst (tt'.map V.str)) g hl ⟨by rw[length_map,h3.length_eq];rw[sizeLine_eq];omega,out,c,mJ h1,hat⟩,rfl,q _ tt' h3 h4 (I.aW.fresh hl)⟩
end
section
variable (prog:Program) (w:World)
noncomputable abbrev JK:Bool:=w.params.followText "set-order"
def sJ (h:Heap) (a:Addr) (es:Array (Int×Value)) (ep:Nat) (t:SetTable):Prop:=
 ∃o,h.get? a=some o/\o.ExactSet/\o.data= .set es ep t/\es.size<scanBound/\t.fits es.size=true/\t.led=!JK w/\(es.size=0\/ t.plain=false)
variable {prog w}
theorem sJ.at' (x:sJ w h a es ep t) (k:∀o,h.get? a=some o->h'.get? a=some o):sJ w h' a es ep t:=let⟨o,e,r⟩:=x;⟨o,k o e,r⟩
variable {A:Around} {E:Value->Shared->Prop} {s:Shared}
end
section
variable {prog:Program} {w:World} {A:Around} {E:Value->Shared->Prop} {s:Shared}
theorem IA (v:Value) {Q₁:Value->Shared->Prop} (h:Q₁ (.ref s.heap.objs.size) {s with heap:=s.heap.push {cls:=.type "set",dict:=none,data:=.set #[] 0 (.fresh 0 0 (!JK w))}}):
  codeAny (model prog w) A (.call (.builtin "set.__new__") ⟨[.type "set",v],[]⟩) (wants Q₁ E) s:=by
 refine codeAny_of_tree ?_;refine wpAny_bind (m:=checkBuiltinCall "set.__new__" ⟨[.type "set",v],[]⟩) (wpAny_of_eq (F.newCall_set_1 v) (wpAny_pure ⟨plainId_quiet F.plain_set_new _,codeAny_builtin F.entry_set_new ?_⟩));rw[Around.under_plainId F.plain_set_new _];unfold Builtin.«set.__new__» Builtin.Frozenset.newClass;have q1:=sub_set_self;obtain⟨hp,gn,dr,tk,os⟩:=s;dsimp only
 wp_walk
 refine wpAny_askSetting (wpAny_pure ?_);dsimp only;simp only[newObj];exact wpAny_bind (wpAny_alloc (wpAny_pure (wpAny_pure h)))
end
section
theorem fV:Slot "set_iterator" "__next__" "set_iterator.__next__":=Slot.of (owner:="set_iterator") (n:="__next__") (by rw[typeLookup_type,builtinLookup_eq_fast];kernel_rfl) (by decide+kernel) (by decide+kernel) (by decide+kernel) (by first|exact .inl (by decide+kernel)|exact .inr (by decide+kernel)) (by rw[isSubtype_type];kernel_rfl)
theorem mV:Slot "set_iterator" "__iter__" "set_iterator.__iter__":=Slot.of (owner:="set_iterator") (n:="__iter__") (by rw[typeLookup_type,builtinLookup_eq_fast];kernel_rfl) (by decide+kernel) (by decide+kernel) (by decide+kernel) (by first|exact .inl (by decide+kernel)|exact .inr (by decide+kernel)) (by rw[isSubtype_type];kernel_rfl)
theorem sC:entryFor table "set_iterator.__next__"=some Builtin.«set_iterator.__next__»:=entryFor_of_tree (by kernel_rfl)
theorem uZ:entryFor table "set.__iter__"=some Builtin.«frozenset.__iter__»:=entryFor_alias (id':="frozenset.__iter__") (by kernel_rfl) rfl (by decide+kernel) (by kernel_rfl)
theorem u5 (a:Value):argsOk "set_iterator.__next__" ⟨[a],[]⟩:=by
 unfold argsOk
 kernel_rfl
variable {prog:Program} {w:World} {A:Around} {E:Value->Shared->Prop} {s:Shared}
theorem wp_choose {Q:Nat->Shared->Prop} (hn:n≠0) (h:∀i dr,i<n->Q i {s with drawn:=dr}):wpAny (model prog w) A (choose .order n) Q E s:=by
 intro Γ p hΓ;exact⟨hn,h _ _ (mod_lt _ (Nat.pos_of_ne_zero hn))⟩
theorem AV:∀(n:Nat) (xs:List α) {s:Shared} {Q:List α->Shared->Prop},xs.length<=n->(∀ys dr,ys.Perm xs->Q ys {s with drawn:=dr})->wpAny (model prog w) A (drawOrder n xs) Q E s
 |0,xs,s,Q,hl,h=>by
  have e:xs=[]:=List.eq_nil_of_length_eq_zero (by omega);subst e;unfold drawOrder;exact wpAny_pure (h [] s.drawn (.refl _))
 |n+1,[],s,Q,hl,h=>by
  unfold drawOrder;exact wpAny_pure (h [] s.drawn (.refl _))
 | n+1,x::xs,s,Q,hl,h=>by
  unfold drawOrder;refine wpAny_bind (wp_choose (by simp) fun i dr hi=>?_);rw[getElem?_eq_getElem hi];dsimp only;refine wpAny_bind (AV n _ (by rw[List.length_eraseIdx_of_lt hi];rw[length_cons]at hl⊢;omega) fun ys dr2 hp=>wpAny_pure (h _ dr2 ((hp.cons _).trans ?_)));have er:∀{l:List α} {i:Nat} (h:i<l.length),(l[i]::l.eraseIdx i).Perm l:=by
   intro l
   induction l with
   |nil=>intro i h;exact absurd h (not_lt_zero _)
   |cons x l ih=>
    intro i h;cases i with
    |zero=>exact .refl _
    |succ i=>exact(List.Perm.swap _ _ _).trans ((ih (i:=i) (by simpa using h)).cons x)
  exact er hi
theorem DY (f:Nat->Nat) (xs:Array α):(pickOrder f xs).toList.Perm xs.toList:=by
 have key:∀(n k:Nat) (l:List α) (o:Array α),l.length<=n->(pickOrder.go f n k l o).toList.Perm (o.toList++l):=by
  intro n
  induction n with
  |zero=>
   intro k l o hl;have e:l=[]:=List.eq_nil_of_length_eq_zero (by omega);subst e;unfold pickOrder.go;rw[append_nil]
  | succ n ih=>
   intro k l o hl;unfold pickOrder.go;cases l with
   |nil=>simp
   | cons x l=>
    have hi:f k % (x::l).length<(x::l).length:=mod_lt _ (by simp);rw[getElem?_eq_getElem hi];dsimp only;refine(ih _ _ _ (by rw[List.length_eraseIdx_of_lt hi];rw[length_cons]at hl⊢;omega)).trans ?_;rw[toList_push,append_assoc];refine List.Perm.append_left _ ?_;have er:∀{l:List α} {i:Nat} (h:i<l.length),(l[i]::l.eraseIdx i).Perm l:=by
     intro l
     induction l with
     |nil=>intro i h;exact absurd h (not_lt_zero _)
     |cons x l ih=>
      intro i h;cases i with
      |zero=>exact .refl _
      |succ i=>exact(List.Perm.swap _ _ _).trans ((ih (i:=i) (by simpa using h)).cons x)
    exact er hi
 have:=key xs.size 0 xs.toList #[] (by simp);simpa [pickOrder]using this
end
section
variable {prog:Program} {w:World} {A:Around} {E:Value->Shared->Prop} {s:Shared}
def mY (h:Heap) (I a:Addr) (first:Value) (i n ep:Nat):Prop:=∃o,h.get? I=some o/\o.cls= .type "set_iterator"/\o.data= .fields #[first,rawInt (i:Int),.ref a,rawInt (n:Int),rawInt (ep:Int)]
theorem mY.typeIs {first:Value} (x:mY s.heap I a first i n ep):s.TypeIs (.ref I) "set_iterator":=let⟨o,ho,hc,_⟩:=x;⟨o,ho,hc⟩
inductive mF (w:World) (h:Heap) (es:Array (Int×Value)) (t:SetTable) (a:Addr) (ep:Nat) (ord:List Value) (T:Addr):Value->Nat->Prop
 |drawn {ps:List Nat} {o:Obj} (i:Nat) (ho:h.get? T=some o) (hd:o.data= .seq (ps.map fun i:Nat=>rawInt i).toArray 0) (hc:o.cls= .type "tuple") (he:∀j:Nat,(ps[j]?.bind fun p=>(es[p]?).map (·.2))=ord[j]?) (hl:∀(j:Nat) p,ps[j]? =some p->p<es.size) (hn:ps.length=es.size):mF w h es t a ep ord T (.ref T) i
 |text (k i:Nat) (hb:JK w=true) (he:ord=(pickOrder (w.params.setOrder a ep) es).toList.map (·.2)):mF w h es t a ep ord T (rawInt (k:Int)) i
 |none (k:Nat) (hb:JK w=false) (hn:es.size=0) (he:ord=[]):mF w h es t a ep ord T (rawInt (k:Int)) 0
 |IM {x:Int×Value} {p:Nat} (hb:JK w=false) (hn:es= #[x]) (hp:t.place= #[p]) (he:ord=[x.2]):mF w h es t a ep ord T (rawInt 0) 0
 |KO {x:Int×Value} {p:Nat} (hb:JK w=false) (hn:es= #[x]) (hp:t.place= #[p]) (he:ord=[x.2]):mF w h es t a ep ord T (rawInt ((p+1:Nat):Int)) 1
theorem mF.at' (x:mF w h es t a ep ord T f i) (k:∀o,h.get? T=some o->h'.get? T=some o):mF w h' es t a ep ord T f i:=by
 cases x with
 |drawn i ho hd hc he hl hn=>exact .drawn i (k _ ho) hd hc he hl hn
 |text k i hb he=>exact .text k i hb he
 |none k hb hn he=>exact .none k hb hn he
 |IM hb hn hp he=>exact .IM hb hn hp he
 |KO hb hn hp he=>exact .KO hb hn hp he
theorem AL {xs:Array α} (h:xs.size=1):∃x,xs= #[x]:=by
 obtain⟨l⟩:=xs
 match l,h with
 |[x],_=>exact⟨x,rfl⟩
theorem n4 (h:es.size<=1):(!t.plain && decide (es.size>1))=false:=by
 have:decide (es.size>1)=false:=decide_eq_false (by omega);rw[this,Bool.and_false]
theorem EY (hS:sJ w s.heap a es ep t)
  (h:∀(h':Heap) dr I T first(ord:List Value),(∀b o,s.heap.get? b=some o->h'.get? b=some o)->s.heap.objs.size<=I->s.heap.objs.size<=T->T≠I->mY h' I a first 0 es.size ep->mF w h' es t a ep ord T first 0->ord.Perm (es.toList.map (·.2))->Q (.ref I) {s with heap:=h',drawn:=dr}):
  wpAny (model prog w) A (pyIter (.ref a)) Q E s:=by
 obtain⟨o,ho,hex,hd,hb,hf,hled,hpl⟩:=id hS;have tS:s.TypeIs (.ref a) "set":=⟨o,ho,hex.1⟩;refine wpAny_pyIter_slot tS F.slot_set_iter (wpAny_call_entry F.slot_set_iter tS uZ ?_ (F.args_set_iter_1 _));unfold Builtin.«frozenset.__iter__» Builtin.Frozenset.slot0 slotArgs;simp only[List.isEmpty_nil,Bool.not_true,false_eq_true,↓reduceIte,bind_assoc,length_nil,bne_self_eq_false];unfold Builtin.Frozenset.addrOf Builtin.Frozenset.sizeOf;refine wpAny_bind (wpAny_pure ?_)
 try dsimp only
 refine wpAny_bind (wpAny_pure ?_);refine wpAny_bind (wpAny_bind (wpAny_setEntries_of ho hd hf (wpAny_pure ?_)));refine wpAny_bind ?_;unfold setDrawn;refine wpAny_bind (wpAny_setState_of ho hd hf ?_);unfold setsByText;refine wpAny_bind (wpAny_bind (wpAny_askSetting (wpAny_pure ?_)));refine wpAny_pure ?_;have hT:t.place.size=es.size:=by
  have:=hf;simp only[SetTable.fits,and_eq_true,beq_iff_eq]at this;exact this.1
 have nx:=fV.lookup;split
 .refine wpAny_bind (AV es.size (List.range es.size) (by simp) fun ps dr hp=>?_);refine wpAny_bind (wpAny_newTuple ?_ (by rw[length_map,hp.length_eq,length_range];exact fits_of_scanBound hb));have ho2:(s.heap.push {cls:=.type "tuple",data:=.seq (ps.map fun i:Nat=>rawInt i).toArray}).get? a=some o:=get?_push_of_some _ ho;refine wpAny_bind (wpAny_setEpoch_of ho2 hd hf ?_);refine wpAny_bind (m:=newFields "set_iterator" _) (wpAny_newObj_type (wpAny_pure ⟨_,rfl,"set_iterator",_,⟨_,get?_push_size _ rfl,rfl⟩,nx,?_⟩));have hps:∀p∈ps,p<es.size:=fun p hp'=>by simpa using hp.mem_iff.mp hp'
  have eT:(s.heap.push {cls:=.type "tuple",data:=.seq (ps.map fun i:Nat=>rawInt i).toArray}).objs.size=s.heap.objs.size+1:=size_push ..;refine h _ dr _ s.heap.objs.size _ (ps.filterMap fun p=>(es[p]?).map (·.2)) (fun b u e=>get?_push_of_some _ (get?_push_of_some _ e)) (by rw[eT];exact le_succ _) (le_refl _) (by rw[eT];exact ne_of_lt (lt_succ_self _)) ⟨_,get?_push_size _ rfl,rfl,rfl⟩
   (.drawn (ps:=ps) 0 (get?_push_of_some _ (get?_push_size _ rfl)) rfl rfl (fun j=>?_) (fun j p e=>hps p (mem_of_getElem? e)) (by rw[hp.length_eq,length_range])) ?_
  .have key:∀(l:List Nat),(∀p∈l,p<es.size)->∀j:Nat,(l[j]?.bind fun p=>(es[p]?).map (·.2))=(l.filterMap fun p=>(es[p]?).map (·.2))[j]?:=by
    intro l
    induction l with
    |nil=>intro _ j;simp
    | cons q l ih=>
     intro hq j;have e:(es[q]?).map (·.2)=some es[q]!.2:=by
      have:=hq q mem_cons_self;rw[Array.getElem?_eq_getElem this];simp[this]
     rw[filterMap_cons,e];cases j with
     |zero=>simpa using e
     |succ j=>simpa using ih (fun p hp=>hq p (mem_cons_of_mem _ hp)) j
   exact key ps hps j
  .refine(hp.filterMap _).trans ?_;have e:(List.range es.size).filterMap (fun p=>(es[p]?).map (·.2))=es.toList.map (·.2):=by
    have e1:=filterMap_getElem?_range (es.map (·.2));rw[Array.size_map,Array.toList_map]at e1;rw[<-e1];congr 1;funext p;simp
   rw[e]
 .rename_i c;have c:¬(!JK w && (!t.plain && decide (es.size>1)))=true:=c;refine wpAny_bind (wpAny_pure (wpAny_bind (wpAny_setEpoch_of ho hd hf ?_)));refine wpAny_bind (m:=newFields "set_iterator" _) (wpAny_newObj_type (wpAny_pure ⟨_,rfl,"set_iterator",_,⟨_,get?_push_size _ rfl,rfl⟩,nx,?_⟩));have go:∀ord,(∀h',mF w h' es t a ep ord (s.heap.objs.size+1) (rawInt 0) 0)->ord.Perm (es.toList.map (·.2))->Q (.ref s.heap.objs.size) {s with heap:=s.heap.push {cls:=.type "set_iterator",data:=.fields [rawInt 0,rawInt 0,Value.ref a,rawInt (es.size:Int),rawInt (ep:Int)].toArray}}:=fun ord h1 h2=>
   h _ s.drawn _ (s.heap.objs.size+1) _ ord (fun b u e=>get?_push_of_some _ e) (le_refl _) (le_succ _) (ne_of_gt (lt_succ_self _)) ⟨_,get?_push_size _ rfl,rfl,rfl⟩ (h1 _) h2
  cases hbt:JK w with
  |true=>exact go _ (fun h'=>.text 0 0 hbt rfl) ((DY _ es).map _)
  | false=>
   by_cases z0:es.size=0
   .refine go [] (fun h'=>.none 0 hbt z0 rfl) ?_;have e0:es= #[]:=Array.eq_empty_of_size_eq_zero z0;rw[e0];exact .refl _
   .have z1:es.size=1:=by
     have hp:=hpl.resolve_left z0;rw[hbt,hp]at c;simp at c;omega
    obtain⟨x,ex⟩:=AL z1;obtain⟨p,pp⟩:=AL (hT.trans z1);exact go [x.2] (fun h'=>.IM hbt ex pp rfl) (by rw[ex];exact .refl _)
end
section
variable {prog:Program} {w:World} {A:Around} {E:Value->Shared->Prop} {s:Shared}
theorem mY.put {k:Nat} {x:Value} (hit:mY h I a f i n ep) (hk:k<5):
  ∃o,(h.update I (Obj.mapFields (·.setIfInBounds k x))).get? I=some o/\o.cls= .type "set_iterator"/\o.data= .fields (#[f,rawInt (i:Int),.ref a,rawInt (n:Int),rawInt (ep:Int)].setIfInBounds k x):=by
 obtain⟨o,ho,hc,hd⟩:=hit;exact⟨_,get?_update_self _ ho (Obj.isFreed_of_fields (Obj.data_mapFields hd _)),(Obj.cls_mapFields ..).trans hc,Obj.data_mapFields hd _⟩
theorem w4 {a:Addr} {es:Array (Int×Value)} {ep i:Nat} {Q:Option Value->Shared->Prop} (hh:A.handled=none)
  (hS:sJ w s.heap a es ep t) (hit:mY s.heap I a f i es.size ep) (ho:mF w s.heap es t a ep ord T f i) (hn:ord.length=es.size) (nI:a≠I) (nT:T≠I)
  (hi:∀v f' h',ord[i]? =some v->mY h' I a f' (i+1) es.size ep->mF w h' es t a ep ord T f' (i+1)->(∀b o,b≠I->s.heap.get? b=some o->h'.get? b=some o)->Q (some v) {s with heap:=h'})
  (he:∀h',ord[i]? =none->(∀b o,b≠I->s.heap.get? b=some o->h'.get? b=some o)->Q none {s with heap:=h'}):wpAny (model prog w) A (pyNext (.ref I)) Q E s:=by
 obtain⟨o,go,hex,hd,hb,hf,hled,hpl⟩:=id hS;obtain⟨oi,gi,ci,di⟩:=id hit;unfold pyNext;refine wpAny_bind (wpAny_attempt (wpAny_callSpecial?_slot (name:=Str.ofString "__next__") hit.typeIs fV (wpAny_call_entry fV hit.typeIs sC ?_ (u5 _))));unfold Builtin.«set_iterator.__next__»;refine wpAny_bind (wpAny_of_eq (a:=(Value.ref I,([]:List Value))) rfl ?_);dsimp only;refine wpAny_bind (wpAny_fieldsOf gi di ?_);dsimp only[rawInt];refine wpAny_bind (wpAny_setEntries_of go hd hf ?_);rw[if_neg (by simp)];have stop:∀(h1:Heap),(∀b o,b≠I->s.heap.get? b=some o->h1.get? b=some o)->ord[i]? =none->wpAny (model prog w) A.in1 (do let e<-newExc (.type "StopIteration") [];raiseNew e) (fun(fin:PySem.Fin) s'=>∃r,fin= .done (.ret r)/\wpAny (model prog w) A (pure (some r)) Q E s')
   (fun e s'=>wpAny (model prog w) A (do if(<-isInstance e (.type "StopIteration"))=true then pure none else throw e) Q E s') {s with heap:=h1}:=fun h1 k1 ei=>by
  refine wpAny_bind ?_;simp only[newExc,newTuple];refine wpAny_bind (wpAny_newObj_type ?_ (by size_fits));refine wpAny_bind (m:=firstArgMember _ _) (wpAny_of_eq (a:=Value.none) (by first|rfl|(simp only[firstArgMember];rfl)) ?_);refine wpAny_newObj_type ?_ (by size_fits);simp only[raiseNew];refine wpAny_bind (wpAny_handled ?_);rw[show A.in1.handled=none from hh];refine wpAny_bind (wpAny_pure (wpAny_throw ?_));refine wpAny_bind (wpAny_isInstance (T:="StopIteration") (b:=true) ⟨_,get?_push_size _ rfl,rfl⟩ isSubtype_stop ?_);exact wpAny_pure (he _ ei fun b o nb e=>get?_push_of_some _ (get?_push_of_some _ (k1 b o nb e)))
 have upd1:∀{h1:Heap} {k:Nat} {x:Value} {b:Addr} {o:Obj},b≠I->h1.get? b=some o->(h1.update I (Obj.mapFields (·.setIfInBounds k x))).get? b=some o:=fun nb e=>(get?_update_other _ _ (Ne.symm nb)).trans e
 have fin:∀(h1:Heap) (oj:Obj) (vs:Array Value),h1.get? I=some oj->oj.data= .fields vs->vs.size=5->(∀b o,b≠I->s.heap.get? b=some o->h1.get? b=some o)->ord[i]? =none->wpAny (model prog w) A.in1 (do
   setField (Value.ref I) 2 Value.none
   let e<-newExc (.type "StopIteration") []
   raiseNew e) (fun(fin:PySem.Fin) s'=>∃r,fin= .done (.ret r)/\wpAny (model prog w) A (pure (some r)) Q E s')
   (fun e s'=>wpAny (model prog w) A (do if(<-isInstance e (.type "StopIteration"))=true then pure none else throw e) Q E s') {s with heap:=h1}:=fun h1 oj vs g1 d1 z1 k1 ei=>by
  refine wpAny_bind (wpAny_setField g1 d1 (by omega) ?_);exact stop _ (fun b o nb e=>upd1 nb (k1 b o nb e)) ei
 have item:∀(k':Nat) (v:Value),ord[i]? =some v->(∀h',mF w h' es t a ep ord T (rawInt (k':Int)) (i+1))->wpAny (model prog w) A.in1 (do
   setField (Value.ref I) 0 (Value.int (k':Int) 0)
   setField (Value.ref I) 1 (Value.int ((i:Int)+1) 0)
   ret v) (fun(fin:PySem.Fin) s'=>∃r,fin= .done (.ret r)/\wpAny (model prog w) A (pure (some r)) Q E s')
   (fun e s'=>wpAny (model prog w) A (do if(<-isInstance e (.type "StopIteration"))=true then pure none else throw e) Q E s') s:=fun k' v ev h'=>by
  refine wpAny_bind (wpAny_setField gi di (by simp) ?_);obtain⟨o1,g1,c1,d1⟩:=hit.put (k:=0) (x:=Value.int (k':Int) 0) (by omega);refine wpAny_bind (wpAny_setField (s:={s with heap:=_}) g1 d1 (by simp) ?_);have g2:=get?_update_self (Obj.mapFields (·.setIfInBounds 1 (Value.int ((i:Int)+1) 0))) g1 (Obj.isFreed_of_fields (Obj.data_mapFields d1 _));refine wpAny_pure ⟨v,rfl,wpAny_pure (hi v (rawInt (k':Int)) _ ev ⟨_,g2,(Obj.cls_mapFields ..).trans c1,?_⟩ (h' _) fun b o nb e=>upd1 nb (upd1 nb e))⟩;rw[Obj.data_mapFields d1];simp[rawInt]
 cases ho with
 | drawn _ gT dT cT eT lT nT'=>
  rename_i ps oT;dsimp only;unfold seqItems?;refine wpAny_bind (wpAny_bind (m:=load T) (wpAny_load gT ?_));rw[dT];refine wpAny_pure ?_;dsimp only;have ei:=eT i;rw[toNat_natCast,toNat_natCast];cases c:ps[i]? with
  |none=>
   rw[c]at ei;have e1:(ps.map fun i:Nat=>rawInt i).toArray[i]? =none:=by simp[c]
   rw[e1];dsimp only;refine wpAny_bind (wpAny_setField gi di (by simp) ?_);obtain⟨o1,g1,c1,d1⟩:=hit.put (k:=0) (x:=Value.int 0 0) (by omega);exact fin _ o1 _ g1 d1 (by simp) (fun b o nb e=>upd1 nb e) ei.symm
  |some p=>
   rw[c,Option.bind_some]at ei;have hp:=lT i p c;rw[Array.getElem?_eq_getElem hp,map_some]at ei;have e1:(ps.map fun i:Nat=>rawInt i).toArray[i]? =some (Value.int (p:Int) 0):=by simp[c,rawInt]
   rw[e1];dsimp only;unfold setNextDrawn;refine wpAny_bind (wpAny_bind (wpAny_setState_of go hd hf ?_));dsimp only;rw[if_neg (by simp),toNat_natCast,Array.getElem?_eq_getElem hp];dsimp only;refine wpAny_pure ?_;refine wpAny_bind (wpAny_setField gi di (by simp) ?_);obtain⟨o1,g1,c1,d1⟩:=hit.put (k:=1) (x:=Value.int ((i:Int)+1) 0) (by omega);refine wpAny_pure ⟨_,rfl,wpAny_pure (hi _ (.ref T) _ ei.symm ⟨o1,g1,c1,?_⟩ (.drawn _ (upd1 nT gT) dT cT eT lT nT') fun b o nb e=>upd1 nb e)⟩;rw[d1];simp[rawInt]
 | text k _ hbt eo=>
  dsimp only[rawInt];unfold setNext;refine wpAny_bind (wpAny_bind (wpAny_setState_of go hd hf ?_));unfold setsByText;refine wpAny_bind (wpAny_bind (wpAny_askSetting (wpAny_pure ?_)));dsimp only;rw[if_pos (show(model prog w).w.params.followText "set-order"=true from hbt),if_neg (by simp)];unfold setWalk;refine wpAny_bind (wpAny_bind (wpAny_setState_of go hd hf ?_));unfold setsByText;refine wpAny_bind (wpAny_bind (wpAny_askSetting (wpAny_pure ?_)));dsimp only;rw[if_pos (show(model prog w).w.params.followText "set-order"=true from hbt)];refine wpAny_bind (wpAny_askSetting (wpAny_pure (wpAny_pure ?_)));rw[toNat_natCast,toNat_natCast];have eo':ord[i]? =((pickOrder (w.params.setOrder a ep) es)[i]?).map (·.2):=by rw[eo,getElem?_map,getElem?_toList]
  show wpAny _ _ (match((pickOrder (w.params.setOrder a ep) es)[i]?).map (fun e=>(e.2,k))with|some (x,next)=>_|none=>_) _ _ _;cases c:(pickOrder (w.params.setOrder a ep) es)[i]? with
  |none=>
   rw[c]at eo';exact fin s.heap oi _ gi di (by simp) (fun b o nb e=>e) eo'
  |some x=>
   rw[c]at eo';exact item k x.2 eo' fun h'=>.text k _ hbt eo
 |none k hbt z0 eo=>
  dsimp only[rawInt];unfold setNext;refine wpAny_bind (wpAny_bind (wpAny_setState_of go hd hf ?_));unfold setsByText;refine wpAny_bind (wpAny_bind (wpAny_askSetting (wpAny_pure ?_)));dsimp only;rw[if_neg (show¬(model prog w).w.params.followText "set-order"=true from fun z=>by rw[show(model prog w).w.params.followText "set-order"=false from hbt]at z;cases z)];refine wpAny_ite_split (fun c=>absurd (show(!t.plain && decide (es.size>1))=true from c) (by rw[n4 (by omega)];exact Bool.false_ne_true)) fun _=>?_
  refine wpAny_bind ?_;show wpAny _ _ (if(!t.led && !es.isEmpty)=true then _ else _) _ _ _;rw[if_neg (by rw[hled,hbt];simp)];refine wpAny_pure (wpAny_pure ?_);have e0:es= #[]:=Array.eq_empty_of_size_eq_zero z0;subst e0;rw[show(#[]:Array (Int×Value))[SetTable.below t.place (k:Int).toNat]? =none by simp];exact fin s.heap oi _ gi di (by simp) (fun b o nb e=>e) (by rw[eo];rfl)
 |IM hbt ex pp eo=>
  rename_i x p;dsimp only[rawInt];unfold setNext;refine wpAny_bind (wpAny_bind (wpAny_setState_of go hd hf ?_));unfold setsByText;refine wpAny_bind (wpAny_bind (wpAny_askSetting (wpAny_pure ?_)));dsimp only;rw[if_neg (show¬(model prog w).w.params.followText "set-order"=true from fun z=>by rw[show(model prog w).w.params.followText "set-order"=false from hbt]at z;cases z)];refine wpAny_ite_split (fun c=>absurd (show(!t.plain && decide (es.size>1))=true from c) (by rw[n4 (by rw[ex];exact le_refl _)];exact Bool.false_ne_true)) fun _=>?_
  refine wpAny_bind ?_;show wpAny _ _ (if(!t.led && !es.isEmpty)=true then _ else _) _ _ _;rw[if_neg (by rw[hled,hbt];simp)];refine wpAny_pure (wpAny_pure ?_);have b0:SetTable.below t.place (0:Int).toNat=0:=by rw[pp];rfl
  rw[b0,ex,pp];exact item (p+1) x.2 (by rw[eo];rfl) fun h'=>.KO hbt ex pp eo
 | KO hbt ex pp eo=>
  rename_i x p;dsimp only[rawInt];unfold setNext;refine wpAny_bind (wpAny_bind (wpAny_setState_of go hd hf ?_));unfold setsByText;refine wpAny_bind (wpAny_bind (wpAny_askSetting (wpAny_pure ?_)));dsimp only;rw[if_neg (show¬(model prog w).w.params.followText "set-order"=true from fun z=>by rw[show(model prog w).w.params.followText "set-order"=false from hbt]at z;cases z)];refine wpAny_ite_split (fun c=>absurd (show(!t.plain && decide (es.size>1))=true from c) (by rw[n4 (by rw[ex];exact le_refl _)];exact Bool.false_ne_true)) fun _=>?_
  refine wpAny_bind ?_;show wpAny _ _ (if(!t.led && !es.isEmpty)=true then _ else _) _ _ _;rw[if_neg (by rw[hled,hbt];simp)];refine wpAny_pure (wpAny_pure ?_);have b1:SetTable.below t.place ((p+1:Nat):Int).toNat=1:=by
   rw[pp,toNat_natCast];simp[SetTable.below,SetTable.below.go]
  rw[b1,ex,pp];exact fin s.heap oi _ gi di (by simp) (fun b o nb e=>e) (by rw[eo];rfl)
end
section
theorem rR:entryFor table "set_iterator.__iter__"=entryFor table "dict_valueiterator.__iter__":=by
 kernel_rfl
theorem vU (a:Value):argsOk "set_iterator.__iter__" ⟨[a],[]⟩:=by
 unfold argsOk
 kernel_rfl
variable {prog:Program} {w:World} {A:Around} {E:Value->Shared->Prop} {s:Shared}
theorem C7 (hh:A.handled=none) (hn:ord.length=es.size) (nI:a≠I) (nT:T≠I):
  Walks prog w A I [I,a,T] [I] ord.length (fun j v=>ord[j]? =some v) (fun i h=>sJ w h a es ep t/\∃f,mY h I a f i es.size ep/\mF w h es t a ep ord T f i)where
 sub:=fun b hb=>by simp at hb;simp[hb]
 frame:=fun i h h' st k=>⟨st.1.at' fun o e=>k a (by simp) o e,let⟨f,⟨o,e,r⟩,q⟩:=st.2;⟨f,⟨o,k I (by simp) o e,r⟩,q.at' fun o e=>k T (by simp) o e⟩⟩
 item:=fun i s Q E hi st hQ=>by
  obtain⟨hS,f,hit,ho⟩:=st;refine w4 hh hS hit ho hn nI nT (fun v f' h' ev it' ho' kp=>?_) fun h' ev _=>?_
  .exact hQ v h' s.toks ev ⟨hS.at' fun o e=>kp a o nI e,f',it',ho'⟩ fun b o hb e=>kp b o (fun z=>hb (by simp[z])) e
  .rw[getElem?_eq_getElem hi]at ev;cases ev
 done:=fun s Q E st hQ=>by
  obtain⟨hS,f,hit,ho⟩:=st;refine w4 hh hS hit ho hn nI nT (fun v f' h' ev _ _ _=>?_) fun h' _ kp=>?_
  .rw[getElem?_eq_none (le_refl _)]at ev;cases ev
  .exact hQ h' s.toks fun b o hb e=>kp b o (fun z=>hb (by simp[z])) e
 self:=fun i s Q E st hQ=>by
  obtain⟨hS,f,hit,ho⟩:=st;refine wpAny_pyIter_slot hit.typeIs mV (wpAny_call_entry mV hit.typeIs (rR.trans entry_dict_valueiterator_iter) ?_ (vU _));exact wpAny_pure ⟨_,rfl,"set_iterator",_,hit.typeIs,fV.lookup,hQ⟩
theorem HI {r:Addr} {Q:Bool->Shared->Prop} (hT:s.TypeIs (.ref r) "set") (h:Q false s):wpAny (model prog w) A (Builtin.List.listLengthHint (.ref r)) Q E s:=by
 unfold Builtin.List.listLengthHint;refine wpAny_bind (wpAny_specialOf hT PySem.F.slot_set_len.lookup ?_);generalize hid:("set.__len__":String)=id1
 wp_delta
 rw[show splitId id1=some ("set","__len__")from by subst hid;decide+kernel];subst hid;refine wpAny_bind (wpAny_isInstance (T:="set") (b:=true) hT (by rw[isSubtype_type];kernel_rfl) ?_);refine wpAny_ite_split (fun c=>absurd c (by decide)) fun _=>?_
 refine wpAny_ite_split (fun _=>?_) fun c=>absurd (by decide+kernel) c
 exact wpAny_bind (wpAny_typeOf hT (wpAny_pure h))
theorem vF {a:Addr} {Q:List Value->Shared->Prop} (hh:A.handled=none) (hS:sJ w s.heap a es ep t)
  (hq:∀vs s',i5 s s'->vs.Perm (es.toList.map (·.2))->Q vs s'):wpAny (model prog w) A (collect (.ref a)) Q E s:=by
 obtain⟨o,ho,hex,hd,hb,hf,hled,hpl⟩:=id hS;have fin:∀(h':Heap) (tk:Nat) (dr:Drawn) (acc:Array Value) (c:Nat) (ord:List Value),(∀b o,s.heap.get? b=some o->h'.get? b=some o)->
   h'.get? s.heap.objs.size=some {cls:=.type "list",dict:=none,data:=.seq acc c,slots:= #[]}->ItemsOf (fun j v=>ord[j]? =some v) acc ord.length->ord.Perm (es.toList.map (·.2))->
   wpAny (model prog w) A (match Value.ref s.heap.objs.size with
    | Value.ref a=>do
     match(<-load a).data with
      |Data.seq xs _=>pure xs.toList
      |_=>unsupported "internal:collect"
    |_=>unsupported "internal:collect") Q E {s with heap:=h',toks:=tk,drawn:=dr}:=fun h' tk dr acc c ord kp g hacc hp=>by
  show wpAny _ A (load s.heap.objs.size>>=_) _ _ _;have ea:acc.toList=ord:=by
   refine ext_getElem? fun j=>?_
   by_cases hj:j<acc.toList.length
   .have:=hacc.2 j acc.toList[j] (by rw[<-getElem?_toList];exact getElem?_eq_getElem hj);rw[getElem?_eq_getElem hj,this]
   .have:=hacc.1;rw[getElem?_eq_none (by omega),getElem?_eq_none (by rw[length_toList]at hj;omega)]
  exact wpAny_bind (wpAny_load g (wpAny_pure (hq _ _ ⟨h',tk,dr,rfl,le_of_lt (lt_size g),kp⟩ (by rw[ea];exact hp))))
 unfold collect;refine wpAny_bind (wpAny_runValue (codeAny_builtin F.entry_proto_collect ?_));rw[Around.under_plainId F.plain_proto_collect _];refine wpAny_bind (m:=newList []) (wpAny_newObj_type ?_);refine wpAny_pure ⟨plainId_quiet F.plain_list_iadd _,codeAny_builtin F.entry_list_iadd ?_⟩;rw[Around.under_plainId F.plain_list_iadd _];have e0:(s.heap.push {cls:=.type "list",data:=.seq ([]:List Value).toArray}).get? s.heap.objs.size=some {cls:=.type "list",data:=.seq #[] 0}:=get?_push_size _ rfl;have lt:=lt_size ho;have hS1:sJ w (s.heap.push {cls:=.type "list",data:=.seq ([]:List Value).toArray}) a es ep t:=hS.at' fun o e=>get?_push_of_some _ e
 show wpAny _ A.in1 (Builtin.List.listExtendWith (.ref s.heap.objs.size) (.ref a) (.ref s.heap.objs.size)) _ _ _;unfold Builtin.List.listExtendWith;have tS:Shared.TypeIs {s with heap:=s.heap.push {cls:=.type "list",data:=.seq ([]:List Value).toArray}} (.ref a) "set":=⟨o,get?_push_of_some _ ho,hex.1⟩;refine wpAny_bind (wpAny_typeOf (T:="set") tS ?_);have n1:Builtin.List.listSameRef (.ref s.heap.objs.size) (.ref a)=false:=by simp[Builtin.List.listSameRef,ne_of_gt lt]
 have n2:(Value.type "set"==Value.type "list")=false:=by decide
 have n3:(Value.type "set"==Value.type "tuple")=false:=by decide
 simp only[n1,n2,n3,Bool.or_false,false_eq_true,if_false];refine wpAny_bind (EY hS1 fun h' dr I T first ord kp zI zT nTI hit hord hp=>?_);rw[size_push]at zI zT;refine wpAny_bind (wpAny_holding (HI ⟨o,kp _ _ (get?_push_of_some _ ho),hex.1⟩ ?_));have e1:=kp _ _ e0;have hlen:ord.length=es.size:=by rw[hp.length_eq,length_map,length_toList]
 have nIa:a≠I:=ne_of_lt (lt_of_lt_of_le lt (le_trans (le_succ _) zI));have go:∀(R:Result->Shared->Prop),(∀(h2:Heap) (tk:Nat) (acc:Array Value) (c:Nat),(∀b o,s.heap.get? b=some o->h2.get? b=some o)->h2.get? s.heap.objs.size=some {cls:=.type "list",dict:=none,data:=.seq acc c,slots:= #[]}->ItemsOf (fun j v=>ord[j]? =some v) acc ord.length->R (.ok (.ret (.ref s.heap.objs.size))) {s with heap:=h2,toks:=tk,drawn:=dr})->
   ∀(h1:Heap) (c:Nat),(∀b o,b≠s.heap.objs.size->h'.get? b=some o->h1.get? b=some o)->h1.get? s.heap.objs.size=some {cls:=.type "list",dict:=none,data:=.seq #[] c,slots:= #[]}->
   codeAny (model prog w) A (.builtin "list.extend.loop" ⟨[.ref s.heap.objs.size,.ref I,.ref s.heap.objs.size],[]⟩) R {s with heap:=h1,drawn:=dr}:=fun R hR h1 c k1 g1=>by
  have ne1:I≠s.heap.objs.size:=ne_of_gt (lt_of_lt_of_le (lt_succ_self _) zI);have ne2:T≠s.heap.objs.size:=ne_of_gt (lt_of_lt_of_le (lt_succ_self _) zT);have ne3:a≠s.heap.objs.size:=ne_of_lt lt;have W:=(C7 (prog:=prog) (w:=w) (A:=A.in1) (ep:=ep) (t:=t) (T:=T) (by exact hh) hlen nIa nTI).toS;have hS2:sJ w h1 a es ep t:=(hS1.at' fun o e=>kp _ _ e).at' fun o e=>k1 a o ne3 e
  have hit2:mY h1 I a first 0 es.size ep:=let⟨o,e,r⟩:=hit;⟨o,k1 I o ne1 e,r⟩
  refine codeAny_extend_loopS W (by rw[hlen];exact fits_of_scanBound hb) s.heap.objs.size (by simp;exact⟨Ne.symm ne1,Ne.symm ne3,Ne.symm ne2⟩) (.ref s.heap.objs.size) ord.length 0 _ #[] c rfl (zero_le _) ⟨hS2,first,hit2,hord.at' fun o e=>k1 T o ne2 e⟩ g1 (ItemsOf.nil _) fun s' acc' c' hm g hacc=>?_
  obtain⟨h2,gn,d2,tk,os⟩:=s';have q1:gn=s.gens:=hm.gens;have q2:d2=dr:=hm.drawn;have q3:os=s.os:=hm.os;subst q1 q2 q3;refine hR h2 tk acc' c' (fun b o e=>?_) g hacc;have hb:=lt_size e;refine hm.heap b o ?_ (k1 b o (ne_of_lt hb) (kp b o (get?_push_of_some _ e)));simp only[mem_cons,not_mem_nil,or_false,not_or];exact⟨ne_of_lt hb,ne_of_lt (lt_of_lt_of_le hb (le_trans (le_succ _) zI))⟩
 refine wpAny_ite_split (fun _=>?_) fun _=>wpAny_pure ⟨plainId_quiet PySem.F.plain_extend_loop _,go _ (fun h2 tk acc c kp2 g2 hacc=>fin h2 tk dr acc c ord kp2 g2 hacc hp) h' 0 (fun b o _ e=>e) e1⟩
 refine wpAny_bind (wpAny_rule ?_);refine wpAny_bind ?_;show wpAny _ _ (updateSeq s.heap.objs.size (·.push .none)>>=fun _=>updateSeq s.heap.objs.size (·.pop)) _ _ _;refine wpAny_bind (wpAny_updateSeq e1 rfl ?_);have e2:=get?_update_self (Obj.mapSeq (·.push Value.none)) e1 rfl;refine wpAny_updateSeq (hz:=by seq_fits) e2 rfl ?_;have e3:=get?_update_self (Obj.mapSeq (·.pop)) e2 rfl;exact wpAny_pure ⟨plainId_quiet PySem.F.plain_extend_loop _,go _ (fun h2 tk acc c kp2 g2 hacc=>fin h2 tk dr acc c ord kp2 g2 hacc hp) _ _ (fun b o nb e=>(get?_update_other _ _ (Ne.symm nb)).trans ((get?_update_other _ _ (Ne.symm nb)).trans e)) e3⟩
end
end L2
namespace Mr
open PySem PySem.Spec L2 PyProof.Rows PySem.W
variable {A:Around} {C:Bool->Shared->Prop} {ps:List PV} {n:Nat} {prog:Program} {s:Shared} {w:World}
noncomputable def cN (lt:PV->PV->Option Bool):List PV->List PV->Option Bool
 |[],[]=>some false
 |[],_::_=>some true
 |_::_,[]=>some false
 |x::xs,y::ys=>if cF x y=true then cN lt xs ys else lt x y
noncomputable def fJ:Nat->PV->PV->Option Bool
 |_,.str a,.str b=>some (decide (a.cps.toList<b.cps.toList))
 |_,.int a,.int b=>some (decide (a<b))
 |n+1,.tup xs,.tup ys=>cN (fJ n) xs ys
 |_,_,_=>none
section
variable {s:Shared}
theorem EE {lt:PV->PV->Option Bool}:∀{xs ys:List PV} {us vs:List Value} {c:Bool} {fin:Bool},bQ s.heap xs us->bQ s.heap ys vs->(∀x∈xs,∀y∈ys,∀u v,Lies s.heap x u->Lies s.heap y v->SeqAt.EqAt A s u v (cF x y)/\∀b,lt x y=some b->x8 A s u v b)->
  fin=decide (us.length<vs.length)->cN lt xs ys=some c->x5 A s fin (us.zip vs) c:=by
 intro xs
 induction xs with
 |nil=>
  intro ys us vs c fin h1 h2 hk hf h;cases h1;cases h2<;>(cases h;rw[hf];exact .done)
 | cons x xs ih=>
  intro ys us vs c fin h1 h2 hk hf h;cases h1 with
  | cons r1 rr1=>
   cases h2 with
   |nil=>cases h;rw[hf];exact .done
   | @cons y _ ys _ r2 rr2=>
    obtain⟨he,hl⟩:=hk x mem_cons_self y mem_cons_self _ _ r1 r2;unfold cN at h;cases e:cF x y with
    |true=>
     rw[e]at he;rw[if_pos e]at h;exact .same he (ih rr1 rr2 (fun a ha b hb=>hk a (mem_cons_of_mem _ ha) b (mem_cons_of_mem _ hb)) (by rw[hf];simp) h)
    |false=>
     rw[e]at he;rw[if_neg (by rw[e];exact Bool.false_ne_true)]at h;exact .less he (hl c h)
theorem G9:∀(n:Nat) (A:Around) {p q:PV} {v u:Value} {b:Bool},A.units+n<cLine->kY n p=true->kY n q=true->Lies s.heap p v->Lies s.heap q u->fJ n p q=some b->x8 A s v u b:=by
 intro n
 induction n with
 | zero=>
  intro A p q v u b hu o1 o2 h1 h2 h;cases p with
  |str x=>
   cases q with
   |str y=>cases h;cases h1;cases h2;exact fun prog w E Q q=>PySem.P.lt_str q
   |_=>cases h
  |int x=>
   cases q with
   |int y=>cases h;cases h1;cases h2;exact fun prog w E Q q=>PyProof.Rows.lt_int q
   |_=>cases h
  |_=>cases q<;>cases h
 | succ n ih=>
  intro A p q v u b hu o1 o2 h1 h2 h;cases p with
  |str x=>
   cases q with
   |str y=>cases h;cases h1;cases h2;exact fun prog w E Q q=>PySem.P.lt_str q
   |_=>cases h
  |int x=>
   cases q with
   |int y=>cases h;cases h1;cases h2;exact fun prog w E Q q=>PyProof.Rows.lt_int q
   |_=>cases h
  | tup xs=>
   cases q with
   | tup ys=>
    cases h1 with
    | tup t1 l1=>
     cases h2 with
     |tup t2 l2=>
      have hin:A.in1.units=A.units+1:=rfl;have o1:xs.all (kY n)=true:=o1;have o2:ys.all (kY n)=true:=o2;refine GC t1 t2 (by omega) ?_;simpa using EE (A:=A.in1) (s:=s) l1 l2 (fun x hx y hy u v a b=>⟨z6 n A.in1 (by omega) (all_eq_true.mp o1 x hx) (all_eq_true.mp o2 y hy) a b,fun c hc=>ih A.in1 (by omega) (all_eq_true.mp o1 x hx) (all_eq_true.mp o2 y hy) a b hc⟩) rfl h
   |_=>cases h
  |_=>cases q<;>cases h
theorem E7 {fin:Bool} {lt:PV->PV->Option Bool}:∀{xs ys:List PV} {us vs:List Value} {c:Bool} (i:Nat),1<=i->bQ s.heap xs us->bQ s.heap ys vs->
  (∀x∈xs,∀y∈ys,∀u v,Lies s.heap x u->Lies s.heap y v->SeqAt.EqAt A s u v (cF x y)/\∀b,lt x y=some b->x8 A s u v b)->fin=decide (us.length<vs.length)->cN lt xs ys=some c->C c s->KatLex prog w A true fin C (us.zip vs) i s:=by
 intro xs
 induction xs with
 |nil=>
  intro ys us vs c i hi h1 h2 hk hf h hC;cases h1;cases h2<;>(cases h;exact kat_nil (by rw[hf];exact hC))
 | cons x xs ih=>
  intro ys us vs c i hi h1 h2 hk hf h hC;cases h1 with
  | cons r1 rr1=>
   cases h2 with
   |nil=>cases h;exact kat_nil (by rw[hf];exact hC)
   | @cons y _ ys _ r2 rr2=>
    obtain⟨he,hl⟩:=hk x mem_cons_self y mem_cons_self _ _ r1 r2;refine kat_cons (he prog w _ _ ?_);unfold cN at h;cases e:cF x y with
    |true=>
     rw[if_pos e]at h;exact kat_yes (ih (i+1) (by omega) rr1 rr2 (fun a ha b hb=>hk a (mem_cons_of_mem _ ha) b (mem_cons_of_mem _ hb)) (by rw[hf];simp) h hC)
    |false=>
     rw[if_neg (by rw[e];exact Bool.false_ne_true)]at h;refine kat_no ?_;have e0:(true && i==0)=false:=by simp;omega
     rw[e0];exact kat_one _ _ (hl c h prog w _ _ hC)
noncomputable def sD (b:Bool):PV->Bool
 | .tup (.str _::_)=>b
 | .tup (.int _::_)=>!b
 |_=>false
noncomputable def N6 (b:Bool):String:=if b then "str"else "int"
theorem RF {b:Bool} {n:Nat} {vs:List Value} (hl:bQ s.heap ps vs) (hu:A.units+n<cLine) (led:∀p∈ps,sD b p=true) (ok:∀p∈ps,kY (n+1) p=true)
  {i j:Nat} {c:Bool} {p q:PV} (hp:ps[i]? =some p) (hq:ps[j]? =some q) (hc:fJ (n+1) p q=some c) (hC:C c s):kas_ask prog w A (tuples' (Value.type (N6 b) !=Value.type "tuple")) vs i j C s:=by
 have kt:(Value.type (N6 b) !=Value.type "tuple")=true:=by cases b<;>decide
 obtain⟨u,hu1,lu⟩:∃u,vs[i]? =some u/\Lies s.heap p u:=by
  have hlt:i<vs.length:=by rw[<-hl.length];exact(List.getElem?_eq_some_iff.mp hp).1
  obtain⟨p',e,l⟩:=hl.get (getElem?_eq_getElem hlt);rw[hp]at e;cases e
  exact⟨_,getElem?_eq_getElem hlt,l⟩
 obtain⟨v,hv1,lv⟩:∃v,vs[j]? =some v/\Lies s.heap q v:=by
  have hlt:j<vs.length:=by rw[<-hl.length];exact(List.getElem?_eq_some_iff.mp hq).1
  obtain⟨p',e,l⟩:=hl.get (getElem?_eq_getElem hlt);rw[hq]at e;cases e
  exact⟨_,getElem?_eq_getElem hlt,l⟩
 have l1:=led p (mem_of_getElem? hp);have l2:=led q (mem_of_getElem? hq);have o1:=ok p (mem_of_getElem? hp);have o2:=ok q (mem_of_getElem? hq);show wpAny _ _ (keyLt' _ (vs.getD i Value.none) (vs.getD j Value.none)) C _ s;rw[getD_eq_getElem?_getD,hu1,getD_eq_getElem?_getD,hv1,kt];cases lu with
 | @tup _ us xs t1 r1=>
  cases lv with
  | @tup _ vs' ys t2 r2=>
   obtain⟨oa,ga,_,na,da⟩:=t1;obtain⟨ob,gb,_,nb,db⟩:=t2;refine kat_lt ga da gb db ?_;have o1:xs.all (kY n)=true:=o1;have o2:ys.all (kY n)=true:=o2;have key:∀x∈xs,∀y∈ys,∀u v,Lies s.heap x u->Lies s.heap y v->SeqAt.EqAt A s u v (cF x y)/\∀b,fJ n x y=some b->x8 A s u v b:=fun x hx y hy u v a b=>
    ⟨z6 n A hu (all_eq_true.mp o1 x hx) (all_eq_true.mp o2 y hy) a b,fun c hc=>G9 n A hu (all_eq_true.mp o1 x hx) (all_eq_true.mp o2 y hy) a b hc⟩
   have hc:cN (fJ n) xs ys=some c:=hc;cases r1 with
   |nil=>cases l1
   | @cons x u0 xs us a1 a2=>
    cases r2 with
    |nil=>cases l2
    | @cons y v0 ys vs' b1 b2=>
     obtain⟨he,_⟩:=key x mem_cons_self y mem_cons_self _ _ a1 b1;refine kat_cons (he prog w _ _ ?_);unfold cN at hc;cases e:cF x y with
     |true=>
      rw[if_pos e]at hc;exact kat_yes (E7 1 (le_refl _) a2 b2 (fun a ha b hb=>key a (mem_cons_of_mem _ ha) b (mem_cons_of_mem _ hb)) (by simp) hc hC)
     | false=>
      rw[if_neg (by rw[e];exact Bool.false_ne_true)]at hc;refine kat_no ?_;cases x with
      | str x=>
       cases y with
       |str y=>
        have hc:some (decide (x.cps.toList<y.cps.toList))=some c:=by cases n<;>exact hc
        cases hc;cases a1;cases b1;exact oneLt_str hC
       |int y=>cases b<;>cases l1<;>cases l2
       |_=>cases l2
      | int x=>
       cases y with
       |int y=>
        have hc:some (decide (x<y))=some c:=by cases n<;>exact hc
        cases hc;cases a1;cases b1;exact oneLt_int hC
       |str y=>cases b<;>cases l1<;>cases l2
       |_=>cases l2
      |_=>cases l1
  |_=>cases l2
 |_=>cases l1
end
noncomputable def nY:Nat->PV->Bool
 |_,.aU=>true
 |_,.int _=>true
 |_,.str _=>true
 |n+1,.tup ps=>ps.all (nY n)
 |_,_=>false
theorem p0:∀{n:Nat} {p:PV},nY n p=true->kY n p=true:=by
 intro n
 induction n with
 |zero=>intro p h;cases p<;>first|rfl|cases h
 |succ n ih=>
  intro p h;cases p with
  |tup ps=>exact all_eq_true.mpr fun x hx=>ih (all_eq_true.mp h x hx)
  |lst ps=>cases h
  |DE ps=>cases h
  |ty x=>cases h
  |bl x=>cases h
  |_=>rfl
theorem AM (ih:∀{p q:PV},nY n p=true->nY n q=true->cF p q=true->p=q):∀{xs ys:List PV},xs.all (nY n)=true->ys.all (nY n)=true->eE xs ys=true->xs=ys
 |[],[],_,_,_=>rfl
 |[],_::_,_,_,h=>by simp[eE]at h
 |_::_,[],_,_,h=>by simp[eE]at h
 |x::xs,y::ys,h1,h2,h=>by
  simp only[eE,and_eq_true]at h;rw[all_cons,and_eq_true]at h1 h2;rw[ih h1.1 h2.1 h.1,AM ih h1.2 h2.2 h.2]
theorem y6:∀{n:Nat} {p q:PV},nY n p=true->nY n q=true->cF p q=true->p=q:=by
 intro n
 induction n with
 |zero=>
  intro p q h1 h2 h;cases p<;>cases q<;>first|rfl|(cases h1;done)|(cases h2;done)|(simp[cF]at h;try subst h;try rfl)
 | succ n ih=>
  intro p q h1 h2 h;cases p with
  |tup xs=>
   cases q with
   |tup ys=>rw[nE]at h;rw[AM ih h1 h2 h]
   |_=>simp[cF]at h
  |lst xs=>cases h1
  |DE xs=>cases h1
  |ty xs=>cases h1
  |bl xs=>cases h1
  |aU=>cases q<;>first|rfl|(simp[cF]at h)
  |int i=>cases q<;>first|(cases h2;done)|(simp[cF]at h;try subst h;try rfl)
  |str i=>cases q<;>first|(cases h2;done)|(simp[cF]at h;try subst h;try rfl)
theorem tE (ih:∀{p:PV},nY n p=true->cF p p=true):∀{xs:List PV},xs.all (nY n)=true->eE xs xs=true
 |[],_=>by simp[eE]
 |x::xs,h=>by
  rw[all_cons,and_eq_true]at h;simp only[eE,and_eq_true];exact⟨ih h.1,tE ih h.2⟩
theorem D8:∀{n:Nat} {p:PV},nY n p=true->cF p p=true:=by
 intro n
 induction n with
 |zero=>intro p h;cases p<;>first|(simp[cF];done)|cases h
 |succ n ih=>
  intro p h;cases p with
  |tup xs=>rw[nE];exact tE ih h
  |lst xs=>cases h
  |DE xs=>cases h
  |ty xs=>cases h
  |bl xs=>cases h
  |_=>simp[cF]
noncomputable def code:Nat->PV->List Int
 |_,.str x=>x.cps.toList.map (fun c:Nat=>(c:Int)+1)++[0]
 |_,.int i=>[i]
 |n+1,.tup xs=>xs.flatMap (fun x=>1::code n x)++[0]
 |_,_=>[0]
noncomputable abbrev gI:List Int->List Int->Bool:=iD zE
theorem uE (a r r':List Int):gI (a++r) (a++r')=gI r r':=by
 induction a with
 |nil=>rfl
 |cons x a ih=>
  show fQ zE x x (gI (a++r) (a++r'))=_;exact(fO (A:=zE) (a:=x)).trans ih
theorem gC {x y:Int} {r r':List Int}:gI (x::r) (y::r')=if x=y then gI r r' else decide (x<y):=by
 show fQ zE x y (gI r r')=_;rcases eS (A:=zE) x y with⟨a,b⟩|⟨a,b⟩|a
 .rw[eD a];have a:=of_decide_eq_true a;rw[if_neg (by omega),decide_eq_true a]
 .rw[iP a];have a:=of_decide_eq_true a;rw[if_neg (by omega),decide_eq_false (by omega)]
 .subst a;rw[if_pos rfl];exact fO (A:=zE) (a:=x)
theorem CB:∀(a b:List Nat) (r r':List Int),gI ((a.map fun c:Nat=>(c:Int)+1)++[0]++r) ((b.map fun c:Nat=>(c:Int)+1)++[0]++r')=if a=b then gI r r' else decide (a<b)
 |[],[],r,r'=>by
  rw[if_pos rfl];exact uE [0] r r'
 |[],y::b,r,r'=>by
  rw[if_neg (by simp)];show gI (0::r) (((y:Int)+1)::_)=_;rw[gC,if_neg (by omega),decide_eq_true (by omega)];exact(decide_eq_true (by simp)).symm
 |x::a,[],r,r'=>by
  rw[if_neg (by simp)];show gI (((x:Int)+1)::_) (0::r')=_;rw[gC,if_neg (by omega),decide_eq_false (by omega)];exact(decide_eq_false (by simp)).symm
 | x::a,y::b,r,r'=>by
  show gI (((x:Int)+1)::((a.map fun c:Nat=>(c:Int)+1)++[0]++r)) (((y:Int)+1)::((b.map fun c:Nat=>(c:Int)+1)++[0]++r'))=_;rw[gC,CB a b r r']
  by_cases e:x=y
  .subst e;rw[if_pos rfl]
   by_cases e2:a=b
   .subst e2;rw[if_pos rfl,if_pos rfl]
   .rw[if_neg e2,if_neg (by simpa using e2)];congr 1;simp[List.cons_lt_cons_iff]
  .rw[if_neg (by omega),if_neg (by intro z;exact e (List.cons.inj z).1)]
   by_cases h:x<y
   .rw[decide_eq_true (show(x:Int)+1<y+1 by omega)];exact(decide_eq_true (List.cons_lt_cons_iff.mpr (.inl h))).symm
   .rw[decide_eq_false (show¬(x:Int)+1<y+1 by omega)];refine(decide_eq_false fun z=>?_).symm;rcases List.cons_lt_cons_iff.mp z with z|z
    .exact h z
    .exact e z.1
theorem wF (ih:∀{p q:PV} {b:Bool} (r r':List Int),nY n p=true->nY n q=true->fJ n p q=some b->gI (code n p++r) (code n q++r')=if cF p q=true then gI r r' else b):
  ∀{xs ys:List PV} {b:Bool} (r r':List Int),xs.all (nY n)=true->ys.all (nY n)=true->cN (fJ n) xs ys=some b->
   gI (xs.flatMap (fun x=>1::code n x)++[0]++r) (ys.flatMap (fun x=>1::code n x)++[0]++r')=if eE xs ys=true then gI r r' else b
 |[],[],b,r,r',_,_,h=>by
  rw[if_pos (by simp[eE])];exact uE [0] r r'
 |[],y::ys,b,r,r',_,_,h=>by
  cases h;rw[if_neg (by simp[eE])];show gI (0::r) (1::_)=_;rw[gC];rfl
 |x::xs,[],b,r,r',_,_,h=>by
  cases h;rw[if_neg (by simp[eE])];show gI (1::_) (0::r')=_;rw[gC];rfl
 | x::xs,y::ys,b,r,r',h1,h2,h=>by
  rw[all_cons,and_eq_true]at h1 h2;have e1:∀(z:PV) (zs:List PV) (w:List Int),(z::zs).flatMap (fun x=>1::code n x)++[0]++w=1::(code n z++(zs.flatMap (fun x=>1::code n x)++[0]++w)):=fun z zs w=>by simp
  rw[e1,e1,gC,if_pos rfl];unfold cN at h;cases e:cF x y with
  |true=>
   rw[if_pos e]at h;have exy:=y6 h1.1 h2.1 e;subst exy;rw[uE,wF ih r r' h1.2 h2.2 h];simp only[eE,e,Bool.true_and]
  |false=>
   rw[if_neg (by rw[e];exact Bool.false_ne_true)]at h;rw[ih _ _ h1.1 h2.1 h,if_neg (by rw[e];exact Bool.false_ne_true),if_neg (by simp[eE,e])]
theorem JZ:∀{n:Nat} {p q:PV} {b:Bool} (r r':List Int),nY n p=true->nY n q=true->fJ n p q=some b->gI (code n p++r) (code n q++r')=if cF p q=true then gI r r' else b:=by
 have str:∀{n:Nat} {x y:Str} {b:Bool} (r r':List Int),fJ n (.str x) (.str y)=some b->gI (code n (.str x)++r) (code n (.str y)++r')=if cF (.str x) (.str y)=true then gI r r' else b:=fun{n x y b} r r' h=>by
  have h:some (decide (x.cps.toList<y.cps.toList))=some b:=by cases n<;>exact h
  cases h;have e1:∀z:Str,code n (.str z)=z.cps.toList.map (fun c:Nat=>(c:Int)+1)++[0]:=fun z=>by cases n<;>rfl
  rw[e1,e1,CB]
  by_cases e:x=y
  .subst e;rw[if_pos rfl,if_pos (by simp[cF])]
  .rw[if_neg (fun z=>e (BJ z)),if_neg (by simpa [cF]using e)]
 have int:∀{n:Nat} {x y:Int} {b:Bool} (r r':List Int),fJ n (.int x) (.int y)=some b->gI (code n (.int x)++r) (code n (.int y)++r')=if cF (.int x) (.int y)=true then gI r r' else b:=fun{n x y b} r r' h=>by
  have h:some (decide (x<y))=some b:=by cases n<;>exact h
  cases h;have e1:∀z:Int,code n (.int z)=[z]:=fun z=>by cases n<;>rfl
  rw[e1,e1];show gI (x::r) (y::r')=_;rw[gC]
  by_cases e:x=y
  .subst e;rw[if_pos rfl,if_pos (by simp[cF])]
  .rw[if_neg e,if_neg (by simpa [cF]using e)]
 intro n
 induction n with
 | zero=>
  intro p q b r r' h1 h2 h;cases p with
  |str x=>cases q with
   |str y=>exact str r r' h
   |_=>cases h
  |int x=>cases q with
   |int y=>exact int r r' h
   |_=>cases h
  |_=>cases q<;>cases h
 | succ n ih=>
  intro p q b r r' h1 h2 h;cases p with
  |str x=>cases q with
   |str y=>exact str r r' h
   |_=>cases h
  |int x=>cases q with
   |int y=>exact int r r' h
   |_=>cases h
  | tup xs=>cases q with
   |tup ys=>
    rw[nE];exact wF ih r r' h1 h2 h
   |_=>cases h
  |_=>cases q<;>cases h
theorem BP (ih:∀{p q:PV},fJ n p q=some false->fJ n q p=some false->cF p q=true) (sym:∀p q:PV,cF p q=cF q p):∀{xs ys:List PV},cN (fJ n) xs ys=some false->cN (fJ n) ys xs=some false->eE xs ys=true
 |[],[],_,_=>by simp[eE]
 |[],_::_,h,_=>by cases h
 |_::_,[],_,h=>by cases h
 | x::xs,y::ys,h,h'=>by
  unfold cN at h h';rw[sym y x]at h';cases e:cF x y with
  |true=>
   rw[if_pos e]at h h';simp only[eE,e,Bool.true_and];exact BP ih sym h h'
  |false=>
   rw[if_neg (by rw[e];exact Bool.false_ne_true)]at h h';rw[ih h h']at e;cases e
mutual
theorem AW:∀p q:PV,cF p q=cF q p
 | .aU,q=>by cases q<;>simp[cF]
 | .bl a,q=>by cases q<;>simp only[cF]<;>(rw[Bool.eq_iff_iff,beq_iff_eq,beq_iff_eq];exact eq_comm)
 | .int a,q=>by cases q<;>simp only[cF]<;>(rw[Bool.eq_iff_iff,beq_iff_eq,beq_iff_eq];exact eq_comm)
 | .str a,q=>by cases q<;>simp only[cF]<;>(rw[Bool.eq_iff_iff,beq_iff_eq,beq_iff_eq];exact eq_comm)
 | .ty a,q=>by cases q<;>simp[cF]
 | .DE a,q=>by cases q<;>simp[cF]
 | .tup xs,q=>by
  cases q with
  |tup ys=>simp only[cF];exact pS xs ys
  |_=>simp[cF]
 | .lst xs,q=>by
  cases q with
  |lst ys=>simp only[cF];exact pS xs ys
  |_=>simp[cF]
theorem pS:∀xs ys:List PV,eE xs ys=eE ys xs
 |[],ys=>by cases ys<;>simp[eE]
 |x::xs,[]=>by simp[eE]
 |x::xs,y::ys=>by simp only[eE];rw[AW x y,pS xs ys]
end
theorem R9:∀{n:Nat} {p q:PV},fJ n p q=some false->fJ n q p=some false->cF p q=true:=by
 have str:∀{x y:Str},¬x.cps.toList<y.cps.toList->¬y.cps.toList<x.cps.toList->cF (.str x) (.str y)=true:=fun h h'=>by
  have e:=List.le_antisymm (not_lt.mp h') (not_lt.mp h);rw[BJ e];simp[cF]
 have int:∀{x y:Int},¬x<y->¬y<x->cF (.int x) (.int y)=true:=fun h h'=>by
  have e:_=_:=Int.le_antisymm (Int.not_lt.mp h') (Int.not_lt.mp h);rw[e];simp[cF]
 intro n
 induction n with
 | zero=>
  intro p q h h';cases p with
  |str x=>cases q with
   |str y=>exact str (of_decide_eq_false (Option.some.inj h)) (of_decide_eq_false (Option.some.inj h'))
   |_=>cases h
  |int x=>cases q with
   |int y=>exact int (of_decide_eq_false (Option.some.inj h)) (of_decide_eq_false (Option.some.inj h'))
   |_=>cases h
  |_=>cases q<;>cases h
 | succ n ih=>
  intro p q h h';cases p with
  |str x=>cases q with
   |str y=>exact str (of_decide_eq_false (Option.some.inj h)) (of_decide_eq_false (Option.some.inj h'))
   |_=>cases h
  |int x=>cases q with
   |int y=>exact int (of_decide_eq_false (Option.some.inj h)) (of_decide_eq_false (Option.some.inj h'))
   |_=>cases h
  |tup xs=>cases q with
   |tup ys=>rw[nE];exact BP ih AW h h'
   |_=>cases h
  |_=>cases q<;>cases h
noncomputable def bV (n:Nat) (ps:List PV):Bool:=ps.all fun p=>nY n p && ps.all fun q=>(fJ n p q).isSome
noncomputable abbrev mH:KeyOrd:=OP zE
noncomputable def kK (n:Nat) (a b:PV):Bool:=!gI (code n b) (code n a)
noncomputable def tR (n:Nat) (ps:List PV):List PV:=ps.mergeSort (kK n)
theorem tN (a b c:PV) (h1:kK n a b=true) (h2:kK n b c=true):kK n a c=true:=by
 unfold kK at*;rw[not_eq_true']at*;exact KeyOrd.kle_trans (O:=mH) h1 h2
theorem DL {n:Nat} (a b:PV):(kK n a b||kK n b a)=true:=by
 unfold kK;rcases eS (A:=mH) (code n a) (code n b)with⟨x,y⟩|⟨x,y⟩|x
 .rw[show gI (code n b) (code n a)=false from y];rfl
 .rw[show gI (code n a) (code n b)=false from y];simp
 .rw[x,show gI (code n b) (code n b)=false from mH.irrefl _];rfl
theorem dG (n:Nat) (ps:List PV):(tR n ps).Perm ps:=List.mergeSort_perm ps (kK n)
theorem iT (n:Nat) (ps:List PV):(tR n ps).Pairwise fun a b=>kK n a b=true:=List.pairwise_mergeSort tN DL ps
theorem j3:∀{a b:List PV},a.Pairwise (fun x y=>kK n x y=true)->b.Pairwise (fun x y=>kK n x y=true)->a.Perm b->(∀x∈a,∀y∈a,kK n x y=true->kK n y x=true->x=y)->a=b
 |[],b,_,_,p,_=>List.Perm.nil_eq p
 |x::a,[],_,_,p,_=>absurd p.symm.nil_eq (by simp)
 | x::a,y::b,ha,hb,p,an=>by
  have hx:=(pairwise_cons.mp ha).1;have hy:=(pairwise_cons.mp hb).1;have e:x=y:=by
   rcases mem_cons.mp (p.mem_iff.mp mem_cons_self)with z|z
   .exact z
   .rcases mem_cons.mp (p.mem_iff.mpr mem_cons_self)with w|w
    .exact w.symm
    .exact an x mem_cons_self y (mem_cons_of_mem _ w) (hx y w) (hy x z)
  subst e;rw[j3 (pairwise_cons.mp ha).2 (pairwise_cons.mp hb).2 p.cons_inv fun u hu v hv=>an u (mem_cons_of_mem _ hu) v (mem_cons_of_mem _ hv)]
theorem mO (h:bV n ps=true) {p q:PV} (hp:p∈ps) (hq:q∈ps):fJ n p q=some (gI (code n p) (code n q)):=by
 have a:=all_eq_true.mp h p hp;have b:=all_eq_true.mp h q hq;rw[and_eq_true]at a b;have c:=all_eq_true.mp a.2 q hq;obtain⟨v,e⟩:=isSome_iff_exists.mp c;have c':=all_eq_true.mp b.2 p hp;obtain⟨v',e'⟩:=isSome_iff_exists.mp c';have k:=JZ [] [] a.1 b.1 e;rw[append_nil,append_nil]at k;rw[e,k];cases z:cF p q with
 |false=>rw[if_neg Bool.false_ne_true]
 | true=>
  rw[if_pos rfl];have epq:=y6 a.1 b.1 z;subst epq;rw[e]at e';cases e';show some v=some false;have irr:∀{m:Nat} {p:PV} {v:Bool},nY m p=true->fJ m p p=some v->v=false:=by
   intro m p v hp h;cases v with
   |false=>rfl
   | true=>
    exfalso;cases m with
    |zero=>
     cases p with
     |str x=>exact absurd (of_decide_eq_true (Option.some.inj h)) (lt_irrefl _)
     |int x=>exact absurd (of_decide_eq_true (Option.some.inj h)) (by omega)
     |_=>cases h
    | succ m=>
     cases p with
     |str x=>exact absurd (of_decide_eq_true (Option.some.inj h)) (lt_irrefl _)
     |int x=>exact absurd (of_decide_eq_true (Option.some.inj h)) (by omega)
     | tup xs=>
      have key:∀{l:List PV},l.all (nY m)=true->cN (fJ m) l l=some false:=by
       intro l
       induction l with
       |nil=>intro _;rfl
       |cons x l ih=>
        intro hl;rw[all_cons,and_eq_true]at hl;unfold cN;rw[if_pos (D8 hl.1)];exact ih hl.2
      have:=key (show xs.all (nY m)=true from hp);rw[show cN (fJ m) xs xs=some true from h]at this;cases this
     |_=>cases h
  rw[irr a.1 e]
theorem qK (h:bV n ps=true) {p q:PV} (hp:p∈ps) (hq:q∈ps) (h1:kK n p q=true) (h2:kK n q p=true):p=q:=by
 have a:=all_eq_true.mp h p hp;have b:=all_eq_true.mp h q hq;rw[and_eq_true]at a b;unfold kK at h1 h2;rw[not_eq_true']at h1 h2;refine y6 a.1 b.1 (R9 (n:=n) ?_ ?_)
 .rw[mO h hp hq,h2]
 .rw[mO h hq hp,h1]
section
variable {X:Cx} {k:Nat}
def MX (K:Frag):List V->Hp->VK->Prop:=fun xs H Q=>∃p ys ps b,xs=[.ref p]/\bM K H p ys/\fR K CI H ps ys/\ys.length<64/\(∀x∈ps,sD b x=true)/\bV 3 ps=true/\
 ∀l (ix:List Nat),ix.Perm (List.range ps.length)->(ix.map fun i=>ps.getD i .aU).Pairwise (fun a b=>kK 3 a b=true)->H l=none->Q (.ref l) (upd H l (.lst (ix.map fun i=>ys.getD i .aU)))
theorem sQ {b:Bool}:∀{ps:List PV} {vs:List Value},bQ s.heap ps vs->(∀x∈ps,sD b x=true)->∃fs,KatTups s.heap vs fs/\fs.length=vs.length/\∀v∈fs,(∃x t,b=true/\v= .str x t)\/ ∃x t,b=false/\v= .int x t
 |[],_,.nil,_=>⟨[],.nil,rfl,fun _ h=>nomatch h⟩
 | p::ps,_,.cons l r,h=>by
  obtain⟨fs,h1,h2,h3⟩:=sQ r fun z hz=>h z (mem_cons_of_mem _ hz)
  have hp:=h p mem_cons_self;cases l with
  | tup t1 r1=>
   obtain⟨o,g1,g2,m,g3⟩:=t1;cases r1 with
   |nil=>cases hp
   | cons a1 a2=>
    cases a1 with
    |str x t=>
     refine⟨.str x t::fs,.cons g1 g2 g3 (by simp) h1,by rw[length_cons,length_cons,h2],fun v hv=>?_⟩;rcases mem_cons.mp hv with e|e
     .exact .inl ⟨x,t,hp,e⟩
     .exact h3 v e
    |int x t=>
     refine⟨.int x t::fs,.cons g1 g2 g3 (by simp) h1,by rw[length_cons,length_cons,h2],fun v hv=>?_⟩;rcases mem_cons.mp hv with e|e
     .exact .inr ⟨x,t,by simpa [sD]using hp,e⟩
     .exact h3 v e
    |_=>cases hp
  |_=>cases hp
theorem yQ {P:Program} {b:Bool} {vs:List Value} (hL:bQ s.heap ps vs) (hu:A.units+2<cLine) (led:∀x∈ps,sD b x=true) (ok:∀x∈ps,kY 3 x=true) (cmp:bV 3 ps=true) (h2:2<=vs.length):
  jW P w A vs (fun p=>iS mH (fun i=>code 3 (ps.getD i .aU)) p vs.length) s:=by
 have hl:=hL.length;obtain⟨fs,k1,k2,k3⟩:=sQ hL led;refine⟨tuples' (Value.type (N6 b) !=Value.type "tuple"),fun Q E q=>kat_kind k1 (by omega) (fun v hv=>?_) (by cases b<;>decide) q,fun G hG=>oD.run (n:=vs.length) (ans:=BG mH (fun i=>code 3 (ps.getD i .aU))) (fun i j C hi hj hC=>?_) (fun p h1 h2=>hG p h1 h2) (J5 (by omega)) (N8 (by omega))⟩
 .rcases k3 v hv with⟨x,t,rfl,rfl⟩|⟨x,t,rfl,rfl⟩
  .exact Looks.of_pure rfl
  .exact Looks.of_pure rfl
 .have e1:ps[i]? =some ps[i]:=getElem?_eq_getElem (by omega);have e2:ps[j]? =some ps[j]:=getElem?_eq_getElem (by omega);refine RF (n:=2) hL hu led ok e1 e2 (mO cmp (getElem_mem _) (getElem_mem _)) ?_;have hC:C (mH.blt (code 3 (ps.getD i .aU)) (code 3 (ps.getD j .aU))) _:=hC;rw[getD_eq_getElem?_getD,e1,getD_eq_getElem?_getD,e2]at hC;exact hC
theorem E8 {p:Array Nat} {m:Nat} (h:iS mH (fun i=>code 3 (ps.getD i .aU)) p m) (hm:p.toList.length=m):(p.toList.map fun i=>ps.getD i .aU).Pairwise (fun a b=>kK 3 a b=true):=by
 rw[pairwise_iff_getElem];intro i j hi hj hij;rw[length_map]at hi hj;have h:=h i j (by omega) (by omega);rw[List.getElem_map,List.getElem_map];have ky:∀(i:Nat) (hi:i<p.toList.length),Ky mH (fun i=>code 3 (ps.getD i .aU)) p i=code 3 (ps.getD p.toList[i] .aU):=fun i hi=>by
  unfold Ky;rw[getD_eq_getD_getElem?,<-getElem?_toList,getElem?_eq_getElem hi];rfl
 rw[ky i hi,ky j hj]at h;show(!gI _ _)=true;rw[not_eq_true'];exact h
theorem NT (K:Frag) (hr:eL k X.A) (hK:X.K=K:=by rfl):eU X (.builtin "sorted") (MX K):=by
 subst hK;intro pins s σ H xs us Q I r ⟨p,ys,ps,b,e,hq,rp,h64,led,cmp,q⟩;subst e;obtain⟨u,rfl,rx⟩:=vals1 r;cases rx;obtain⟨vs,rv,pl,hz⟩:=I.list hq;have hlen:=rv.length;have hpl:=rp.length;have ok:∀x∈ps,kY 3 x=true:=fun x hx=>by
  have:=all_eq_true.mp cmp x hx;rw[and_eq_true]at this;exact p0 this.1
 refine xI (R:=fun p=>iS mH (fun i=>code 3 (ps.getD i .aU)) p vs.length) pl.isList (by omega) (fun l2 h' kp=>?_) (fun h2 i j a b=>?_) fun out p h1 h2 h3=>?_
 .have I':=I.kept (t':=s.toks) kp;have hL:bQ h' ps vs:=fR.lies I' (n:=3) (all_eq_true.mpr ok) rp rv;exact yQ (s:={s with heap:=h'}) hL (by have:=hr.un;show X.A.units+1+1+2<_;omega) led ok cmp l2
 .rw[show i=j by omega];exact KeyOrd.kle_refl _
 .have hp:p.toList.Perm (List.range vs.length):=by simpa using perm_iff_toList_perm.mp h1
  have hlt:∀i∈p.toList,i<vs.length:=fun i hi=>mem_range.mp (hp.mem_iff.mp hi)
  have z2:=mC rv p.toList hlt;rw[<-h3]at z2;have hpz:p.toList.length=vs.length:=by rw[hp.length_eq,length_range]
  obtain⟨c,hat⟩:=sortedAll_at s.heap vs out;refine⟨.ref (s.heap.objs.size+1),_,I.laid (t':=s.toks) (o:=.lst (p.toList.map fun i=>ys.getD i .aU)) (fun b o e=>sortedAll_old e) (le_succ _) ⟨by rw[length_map,hpz,<-hlen];exact hz,out.toList,c,z2,hat⟩,rfl,q _ _ (by rw[hpl,hlen];exact hp) (E8 h2 hpz) (I.aW.fresh (le_succ _))⟩
end
end Mr
namespace L2
open PySem PySem.Spec PyProof.Rows
variable {a l:Addr} {h:Heap} {H:Hp} {k m n:Nat}
inductive NK where
 |k (x:Key)
 |t (xs:List NK)
noncomputable instance:DecidableEq NK:=fun a b=>Classical.propDecidable _
mutual
inductive u7 (h:Heap):NK->Value->Prop
 |k {x:Key} {v:Value}:eN x v=true->u7 h (.k x) v
 |t {xs:List NK} {a:Addr} {us:List Value}:IsTup h a us.toArray->IsL h xs us->u7 h (.t xs) (.ref a)
inductive IsL (h:Heap):List NK->List Value->Prop
 |nil:IsL h [] []
 |cons {x:NK} {v:Value} {xs:List NK} {vs:List Value}:u7 h x v->IsL h xs vs->IsL h (x::xs) (v::vs)
end
mutual
noncomputable def o8:NK->Nat
 | .k _=>0
 | .t xs=>nP xs+1
noncomputable def nP:List NK->Nat
 |[]=>0
 |x::xs=>max (o8 x) (nP xs)
end
mutual
noncomputable def bI (w:World):NK->Int
 | .k x=>QC w x
 | .t xs=>reduceHash (Builtin.Tuple.tupleHashOf (kQ w xs))
noncomputable def kQ (w:World):List NK->List Int
 |[]=>[]
 |x::xs=>bI w x::kQ w xs
end
mutual
noncomputable def HW:NK->Nat
 | .k _=>1
 | .t xs=>ER xs+1
noncomputable def ER:List NK->Nat
 |[]=>0
 |x::xs=>HW x+ER xs
end
theorem JQ (w:World) (x:NK) (xs:List NK):kQ w (x::xs)=bI w x::kQ w xs:=by rw[kQ]
theorem KL (w:World):kQ w []=[]:=by rw[kQ]
theorem PU (x:NK) (xs:List NK):ER (x::xs)=HW x+ER xs:=by rw[ER]
theorem O9:ER []=0:=by rw[ER]
theorem FR (x:NK) (xs:List NK):nP (x::xs)=max (o8 x) (nP xs):=by rw[nP]
theorem m8 (xs:List NK):o8 (.t xs)=nP xs+1:=by rw[o8]
theorem JL (w:World) (xs:List NK):bI w (.t xs)=reduceHash (Builtin.Tuple.tupleHashOf (kQ w xs)):=by rw[bI]
theorem OR (xs:List NK):HW (.t xs)=ER xs+1:=by rw[HW]
theorem IsL.length:∀{xs:List NK} {vs:List Value},IsL h xs vs->xs.length=vs.length
 |_,_,.nil=>rfl
 |_,_,.cons _ r=>by rw[length_cons,length_cons,r.length]
theorem IsL.get:∀{xs:List NK} {vs:List Value} {j:Nat} {v:Value},IsL h xs vs->vs[j]? =some v->∃x,xs[j]? =some x/\u7 h x v
 |_,_,_,_,.nil,e=>by simp at e
 |_,_,0,_,.cons i _,e=>by simp at e;subst e;exact⟨_,rfl,i⟩
 |_,_,j+1,_,.cons _ r,e=>by simpa using r.get (j:=j) (by simpa using e)
theorem zM {x:NK}:∀{xs:List NK},x∈xs->o8 x<=nP xs
 |y::xs,h=>by
  unfold nP;rcases mem_cons.mp h with rfl|h
  .exact Nat.le_max_left _ _
  .exact le_trans (zM h) (Nat.le_max_right _ _)
theorem GJ {us vs:List Value} (x:IsTup h a us.toArray) (y:IsTup h a vs.toArray):us=vs:=by
 obtain⟨o,e,c,n,d⟩:=x;obtain⟨o',e',c',n',d'⟩:=y;rw[e]at e';cases e'
 rw[d]at d';cases d';rfl
theorem BC {a b:Key} {v:Value} (ha:eN a v=true) (hb:eN b v=true):a=b:=by
 rcases aV ha with⟨i,t,rfl,rfl⟩|⟨x,t,rfl,rfl⟩<;>rcases aV hb with⟨j,u,rfl,e⟩|⟨y,u,rfl,e⟩<;>cases e<;>rfl
theorem nJ {a:Key} (h:eN a (.ref l)=true):False:=by rcases aV h with⟨_,_,_,e⟩|⟨_,_,_,e⟩<;>cases e
theorem u7.inj:∀{n:Nat} {x y:NK} {v:Value},o8 x<=n->u7 h x v->u7 h y v->x=y:=by
 intro n
 induction n with
 | zero=>
  intro x y v hd hx hy;cases hx with
  |k hk=>
   cases hy with
   |k hk'=>rw[BC hk hk']
   |t _ _=>exact(nJ hk).elim
  |t p l=>unfold o8 at hd;omega
 | succ n ih=>
  intro x y v hd hx hy;cases hx with
  |k hk=>
   cases hy with
   |k hk'=>rw[BC hk hk']
   |t _ _=>exact(nJ hk).elim
  | @t xs a us p l=>
   cases hy with
   |k hk=>exact(nJ hk).elim
   | @t ys _ vs p' l'=>
    obtain rfl:=GJ p p';have hd':nP xs<=n:=by unfold o8 at hd;omega
    have key:∀{xs ys:List NK} {us:List Value},nP xs<=n->IsL h xs us->IsL h ys us->xs=ys:=by
     intro xs
     induction xs with
     |nil=>intro ys us _ l1 l2;cases l1;cases l2;rfl
     | cons x xs ihx=>
      intro ys us hd l1 l2;cases l1 with
      | cons i1 r1=>
       cases l2 with
       |cons i2 r2=>
        unfold nP at hd;rw[ih (by omega) i1 i2,ihx (by omega) r1 r2]
    rw[key hd' l l']
section
variable {prog:Program} {w:World}
theorem KP:∀(n:Nat) {A:Around} {E:Value->Shared->Prop} {s:Shared} {x:NK} {v:Value} {Q:Int->Shared->Prop},o8 x<=n->A.units+n<cLine->u7 s.heap x v->Q (bI w x) {s with toks:=s.toks+HW x}->wpAny (model prog w) A (pyHash v) Q E s:=by
 intro n
 induction n with
 |zero=>
  intro A E s x v Q hd hu hx h;cases hx with
  |k hk=>exact(aX prog w).pyHash hk (by unfold bI HW at h;exact h)
  |t p l=>unfold o8 at hd;omega
 | succ n ih=>
  intro A E s x v Q hd hu hx h;cases hx with
  |k hk=>exact(aX prog w).pyHash hk (by unfold bI HW at h;exact h)
  | @t xs a us p l=>
   have hT:s.TypeIs (.ref a) "tuple":=let⟨o,e,c,_⟩:=p;⟨o,e,c⟩
   have hd':nP xs<=n:=by unfold o8 at hd;omega
   obtain⟨o,ho,_,m,hdt⟩:=p;unfold pyHash
   first|unfold pyHashByItsType|skip
   first|refine wpAny_bind (wpAny_cRoomFor_or (.inr (by omega)) ?_)|skip
   refine wpAny_bind (wpAny_specialOf hT F.slot_tuple_hash.lookup ?_);show wpAny _ _ (if(some (Value.builtin "tuple.__hash__")==some Value.none)=true then _ else _) Q E s;rw[if_neg (show¬((some (Value.builtin "tuple.__hash__")==some Value.none)=true) by rw[beq_builtin_none];exact Bool.false_ne_true)];refine wpAny_bind (wpAny_specialOf hT F.slot_tuple_hash.lookup ?_);show wpAny _ _ (callSpecialIfBoundUnlessNone? (.ref a) "__hash__" _>>=_) Q E s;refine wpAny_bind (wpAny_callSpecialIfBoundUnlessNone?_slot hT F.slot_tuple_hash (wpAny_call_entry F.slot_tuple_hash hT F.entry_tuple_hash ?_ (F.args_tuple_hash_1 _)));show wpAny _ _ (Builtin.Tuple.tupleItemsOf (.ref a)>>=_) _ _ s;refine wpAny_bind (wpAny_tupleItemsOf ho hdt (wpAny_bind ?_));rw[<-forIn_toList];have hin:A.in1.units=A.units+1:=rfl;refine wpAny_forIn_list _ (fun rest (b:Array Int) s'=>∃left,nP left<=n/\IsL s.heap left rest/\kQ w xs=b.toList++kQ w left/\∃tk,s'={s with toks:=tk}/\tk+ER left=s.toks+ER xs) _ ?_ ?_ _ _ ⟨xs,hd',l,rfl,s.toks,rfl,rfl⟩
   .rintro y rest b s' ⟨left,hdl,hl,hb,tk,rfl,ht⟩;cases hl with
    | @cons z _ zs _ i r=>
     rw[FR]at hdl;refine wpAny_bind (ih (s:={s with toks:=tk}) (x:=z) (by omega) (by omega) i ?_);rw[JQ]at hb;rw[PU]at ht
     first
      |exact wpAny_pure ⟨zs,by omega,r,by rw[hb,toList_push];simp,tk+HW z,rfl,by omega⟩
      |exact wpAny_bind (wpAny_pure (wpAny_pure ⟨zs,by omega,r,by rw[hb,toList_push];simp,tk+HW z,rfl,by omega⟩))
   .rintro b s' ⟨left,hdl,hl,hb,tk,rfl,ht⟩;cases hl;rw[KL,append_nil]at hb;rw[O9]at ht;show wpAny _ _ (retInt (Builtin.Tuple.tupleHashOf b.toList)) _ _ _;rw[JL,OR,hb]at h;unfold reduceHash at h;refine wpAny_ret_mkInt ?_;show wpAny _ _ (if(decide (-(2:Int)^63<=Builtin.Tuple.tupleHashOf b.toList) && decide (Builtin.Tuple.tupleHashOf b.toList<2^63))=true then _ else _) Q E _;have e1:tk+1=s.toks+(ER xs+1):=by omega
    by_cases hr:(decide (-(2:Int)^63<=Builtin.Tuple.tupleHashOf b.toList) && decide (Builtin.Tuple.tupleHashOf b.toList<2^63))=true
    .rw[if_pos hr]at h⊢
     exact wpAny_pure (by rw[<-e1]at h;exact h)
    .rw[if_neg hr]at h⊢
     exact wpAny_bind (wpAny_rule (wpAny_pure (by rw[<-e1]at h;exact h)))
theorem OY:∀(n:Nat) {A:Around} {s:Shared} {x y:NK} {u v:Value},o8 x<=n->o8 y<=n->A.units+n<cLine->u7 s.heap x u->u7 s.heap y v->SeqAt.EqAt A s u v (decide (x=y)):=by
 intro n;have flat:∀{A:Around} {s:Shared} {a b:Key} {u v:Value},eN a u=true->eN b v=true->SeqAt.EqAt A s u v (decide (NK.k a=NK.k b)):=by
  intro A s a b u v ha hb prog w E Q q;have e:decide (NK.k a=NK.k b)=decide (a=b):=by
   by_cases h:a=b
   .rw[h];simp
   .rw[decide_eq_false h,decide_eq_false fun z=>h (NK.k.inj z)]
  rw[e]at q;exact(aX prog w).eqBool ha hb q
 have mixL:∀{A:Around} {s:Shared} {a:Key} {xs:List NK} {u:Value} {l:Addr} {us:List Value},A.units<cLine->eN a u=true->IsTup s.heap l us.toArray->SeqAt.EqAt A s u (.ref l) (decide (NK.k a=NK.t xs))/\SeqAt.EqAt A s (.ref l) u (decide (NK.t xs=NK.k a)):=by
  intro A s a xs u l us hu ha p;rw[decide_eq_false (fun z=>nomatch z),decide_eq_false (fun z=>nomatch z)];rcases aV ha with⟨i,t,rfl,rfl⟩|⟨z,t,rfl,rfl⟩
  .exact⟨SeqAt.EqAt.int_tuple i t p hu,SeqAt.EqAt.tuple_int i t p hu⟩
  .exact⟨SeqAt.EqAt.str_tuple z t p hu,SeqAt.EqAt.tuple_str z t p hu⟩
 induction n with
 | zero=>
  intro A s x y u v hx hy hu ix iy;cases ix with
  |k ha=>cases iy with
   |k hb=>exact flat ha hb
   |t p l=>unfold o8 at hy;omega
  |t p l=>unfold o8 at hx;omega
 | succ n ih=>
  intro A s x y u v hx hy hu ix iy;cases ix with
  |k ha=>cases iy with
   |k hb=>exact flat ha hb
   |t p l=>exact(mixL (by omega) ha p).1
  | @t xs a us p l=>cases iy with
   |k hb=>exact(mixL (by omega) hb p).2
   | @t ys b vs p' l'=>
    have hdx:nP xs<=n:=by unfold o8 at hx;omega
    have hdy:nP ys<=n:=by unfold o8 at hy;omega
    have hin:A.in1.units=A.units+1:=rfl
    by_cases hab:a=b
    .subst hab;have e:NK.t xs=NK.t ys:=u7.inj (n:=n+1) hx (.t p l) (.t p' l');rw[decide_eq_true e];exact SeqAt.EqAt.same _
    .have l1:=l.length;have l2:=l'.length;have e:decide (NK.t xs=NK.t ys)=((List.range (min us.toArray.size vs.toArray.size)).all (fun j=>decide (xs[j]? =ys[j]?)) && us.toArray.size==vs.toArray.size):=by
      rw[size_toArray,size_toArray,<-l1,<-l2]
      by_cases hxy:xs=ys
      .subst hxy;simp
      .rw[decide_eq_false fun z=>hxy (NK.t.inj z)];symm;rw[Bool.and_eq_false_iff]
       by_cases hl:xs.length=ys.length
       .left;rw[List.all_eq_false];apply Classical.byContradiction;intro hno;apply hxy;apply ext_getElem?;intro j
        by_cases hj:j<xs.length
        .apply Classical.byContradiction;intro hne;exact hno ⟨j,mem_range.mpr (by omega),by simpa using hne⟩
        .rw[getElem?_eq_none (by omega),getElem?_eq_none (by omega)]
       .right;simpa using hl
     rw[e];refine SeqAt.EqAt.of_refs hab (SeqAt.RcAt.tuples (e:=fun j=>decide (xs[j]? =ys[j]?)) p p' (by omega) fun j h1 h2=>?_);obtain⟨x',ex,jx⟩:=l.get (j:=j) (v:=us.toArray[j]) (by simp at h1⊢);obtain⟨y',ey,jy⟩:=l'.get (j:=j) (v:=vs.toArray[j]) (by simp at h2⊢);have hh:=ih (A:=A.in1) (s:=s) (le_trans (zM (mem_of_getElem? ex)) hdx) (le_trans (zM (mem_of_getElem? ey)) hdy) (by omega) jx jy;have e2:decide (xs[j]? =ys[j]?)=decide (x'=y'):=by rw[ex,ey];simp
     show SeqAt.EqAt A.in1 s _ _ (decide (xs[j]? =ys[j]?));rw[e2];exact hh
end
section
variable {prog:Program} {w:World}
mutual
theorem u7.keeps {h h':Heap} (k:∀a us,IsTup h a us->IsTup h' a us):∀{x:NK} {v:Value},u7 h x v->u7 h' x v
 |_,_,.k e=>.k e
 |_,_,.t p l=>.t (k _ _ p) (l.keeps k)
theorem IsL.keeps {h h':Heap} (k:∀a us,IsTup h a us->IsTup h' a us):∀{xs:List NK} {vs:List Value},IsL h xs vs->IsL h' xs vs
 |_,_,.nil=>.nil
 |_,_,.cons i r=>.cons (i.keeps k) (r.keeps k)
end
theorem wY:∀(m:Nat) {A:Around} {E:Value->Shared->Prop} {s:Shared} {x:NK} {v:Value} {Q:Bool->Shared->Prop},o8 x<=m->u7 s.heap x v->Q true s->wpAny (model prog w) A (eqIsQuiet m v) Q E s:=by
 have flat:∀{m:Nat} {A:Around} {E:Value->Shared->Prop} {s:Shared} {x:Key} {v:Value} {Q:Bool->Shared->Prop},eN x v=true->Q true s->wpAny (model prog w) A (eqIsQuiet m v) Q E s:=by
  intro m A E s x v Q hk h;rw[eqIsQuiet_byValue m ((aX prog w).byValue x v hk)];exact wpAny_pure h
 intro m
 induction m with
 |zero=>
  intro A E s x v Q hd hx h;cases hx with
  |k hk=>exact flat hk h
  |t p l=>rw[m8]at hd;omega
 | succ m ih=>
  intro A E s x v Q hd hx h;cases hx with
  |k hk=>exact flat hk h
  | @t xs a us p l=>
   have hT:s.TypeIs (.ref a) "tuple":=let⟨o,e,c,_⟩:=p;⟨o,e,c⟩
   have hd':nP xs<=m:=by rw[m8]at hd;omega
   obtain⟨o,ho,_,n,hdt⟩:=p;unfold eqIsQuiet;refine wpAny_bind (wpAny_specialOf hT F.slot_tuple_eq.lookup ?_);show wpAny _ _ (isInstance (.ref a) (.type "tuple")>>=_) _ _ s;refine wpAny_bind (wpAny_isInstance hT isSubtype_tuple_tuple ?_);simp only[Bool.not_true,false_eq_true,if_false];refine wpAny_bind (wpAny_seqItems ho hdt ?_);refine wpAny_bind ?_;show wpAny _ _ (forIn us.toArray _ _) _ _ s;rw[<-forIn_toList];refine wpAny_forIn_list _ (fun rest r s'=>r.1=none/\s'=s/\∃left,nP left<=m/\IsL s.heap left rest) _ ?_ ?_ _ _ ⟨rfl,rfl,xs,hd',l⟩
   .rintro v rest r s' ⟨hr,rfl,left,hdl,hl⟩;cases hl with
    | @cons z _ zs _ i t=>
     rw[FR]at hdl;refine wpAny_bind (ih (x:=z) (by omega) i ?_);simp only[Bool.not_true,false_eq_true,if_false];exact wpAny_pure ⟨rfl,rfl,zs,by omega,t⟩
   .rintro⟨r1,r2⟩ s' ⟨hr,rfl,_⟩;simp only at hr;subst hr;exact wpAny_pure h
end
mutual
inductive N2 (H:Hp):NK->V->Prop
 |k {x:Key}:N2 H (.k x) (kV x)
 |t {xs:List NK} {a:Addr} {us:List V}:H a=some (.tup us)->MN H xs us->N2 H (.t xs) (.ref a)
inductive MN (H:Hp):List NK->List V->Prop
 |nil:MN H [] []
 |cons {x:NK} {v:V} {xs:List NK} {vs:List V}:N2 H x v->MN H xs vs->MN H (x::xs) (v::vs)
end
section
variable {P:Program} {w:World} {H:Hp} {h:Heap}
mutual
theorem N2.is (ok:jE P w H h):∀{x:NK} {v:V} {u:Value},N2 H x v->RelV v u->u7 h x u
 |_,_,_,.k,r=>.k (jX (P:=P) (w:=w) r)
 |_,_,_,.t p l,r=>by
  obtain⟨_,its,rs,q,_⟩:=(show cV P w H h _ (.tup _)from ok _ _ p);cases(show _=Value.ref _ from r);exact .t q (l.is ok rs)
theorem MN.is (ok:jE P w H h):∀{xs:List NK} {vs:List V} {us:List Value},MN H xs vs->Vals vs us->IsL h xs us
 |_,_,_,.nil,.nil=>.nil
 |_,_,_,.cons i r,.cons a b=>.cons (i.is ok a) (r.is ok b)
end
end
abbrev NE:=List NK×Addr×V
abbrev KN:List NE->List (List NK×Addr×Value)->Prop:=Paired fun p q=>p.1=q.1/\p.2.1=q.2.1/\RelV p.2.2 q.2.2
noncomputable def DN (w:World) (a:Addr) (kvs:List NE) (ep:Nat):HO:=.ext fun h=>(a==sysModules)=false/\kvs.length<=sizeLine/\∃xs,KN kvs xs/\∃o es,h.get? a=some o/\o.ExactDict/\o.data= .dict es ep/\es.toList=xs.map (fun x=>(⟨bI w (.t x.1),.ref x.2.1,x.2.2⟩:DictEntry))/\(xs.map (·.1)).Nodup
mutual
inductive FG (H:Hp):PyData->V->Prop
 |aU:FG H .none .aU
 |int (i:Int):FG H (.int i) (.int i)
 |str (x:Str):FG H (.str x) (.str x)
 |tup {a:Addr} {us:List V} {ds:List PyData}:H a=some (.tup us)->OG H ds us->FG H (.tuple ds) (.ref a)
inductive OG (H:Hp):List PyData->List V->Prop
 |nil:OG H [] []
 |cons {d:PyData} {v:V} {ds:List PyData} {vs:List V}:FG H d v->OG H ds vs->OG H (d::ds) (v::vs)
end
section
variable {P:Program} {w:World} {H:Hp} {h:Heap}
mutual
theorem FG.reads (ok:jE P w H h):∀{d:PyData} {v:V} {u:Value},FG H d v->RelV v u->∃as,Reads h u d as
 |_,_,_,.aU,r=>by cases(show _=Value.none from r);exact⟨_,.none⟩
 |_,_,_,.int i,r=>by obtain⟨t,e⟩:=(show∃t,_=Value.int i t from r);subst e;exact⟨_,.int i t⟩
 |_,_,_,.str x,r=>by obtain⟨t,e⟩:=(show∃t,_=Value.str x t from r);subst e;exact⟨_,.str x t⟩
 |_,_,_,.tup p l,r=>by
  obtain⟨_,its,rs,⟨o,h1,h2,n,h3⟩,_⟩:=(show cV P w H h _ (.tup _)from ok _ _ p);cases(show _=Value.ref _ from r);obtain⟨as,q⟩:=l.reads ok rs;exact⟨as,.tuple h1 h2 h3 (by simpa using q)⟩
theorem OG.reads (ok:jE P w H h):∀{ds:List PyData} {vs:List V} {us:List Value},OG H ds vs->Vals vs us->∃as,ReadsAll h us ds as
 |_,_,_,.nil,.nil=>⟨_,.nil⟩
 |_,_,_,.cons i r,.cons a b=>let⟨_,q⟩:=i.reads ok a;let⟨_,q2⟩:=r.reads ok b;⟨_,.cons q q2⟩
end
end
structure Sm (n k:Nat) (d:PyData):Prop where
 len:d.shown.length<=n
 sh:d.showable=true
 nd:d.hasDict=false
 dp:d.depth<=k
theorem Sm.mono {j:Nat} {d:PyData} (h:Sm n k d) (a:n<=m) (b:k<=j):Sm m j d:=⟨le_trans h.len a,h.sh,h.nd,le_trans h.dp b⟩
theorem Sm.aU:Sm 4 0 .none:=⟨by simp only[PyData.shown];decide,by simp[PyData.showable],by simp only[PyData.hasDict],by simp only[PyData.depth,le_refl]⟩
theorem Sm.str {x:Str} (h:∀c∈x.cps.toList,c<16^8) (hl:x.length<=n):Sm (10*n+2) 0 (.str x):=by
 refine⟨?_,by simp[PyData.showable],by simp only[PyData.hasDict],by simp only[PyData.depth,le_refl]⟩;simp only[PyData.shown];have:=StrLaws.reprText_len x h;omega
theorem A3:∀{ds:List PyData},(∀d∈ds,Sm n k d)->(PyData.showableAll ds=true/\PyData.hasDictAll ds=false/\PyData.depthAll ds<=k)/\(Str.join ", " (PyData.shownAll ds)).length<=ds.length*(n+2)
 |[],_=>by
  refine⟨⟨by simp[PyData.showableAll],by simp only[PyData.hasDictAll],by simp only[PyData.depthAll,zero_le]⟩,?_⟩;simp only[PyData.shownAll,length_nil,Nat.zero_mul];show(Str.join ", " []).length<=0
  decide
 | d::ds,h=>by
  have h1:=h d mem_cons_self;obtain⟨⟨a,b,c⟩,e⟩:=A3 fun x hx=>h x (mem_cons_of_mem _ hx)
  have h3:=h1.dp;refine⟨⟨by simp[PyData.showableAll,h1.sh,a],by simp only[PyData.hasDictAll,h1.nd,b,Bool.or_self],by simp only[PyData.depthAll];omega⟩,?_⟩;have h2:=h1.len;cases ds with
  |nil=>
   simp only[PyData.shownAll,length_cons,length_nil];show d.shown.length<=_;omega
  |cons d2 ds=>
   simp only[PyData.shownAll]at e⊢
   show(d.shown++", "++Str.join ", " (d2.shown::PyData.shownAll ds)).length<=_;rw[strLen_append,strLen_append];have e3:(", ":Str).length=2:=by decide
   rw[e3,length_cons,Nat.succ_mul];simp only[length_cons]at e⊢
   omega
theorem Sm.tup {ds:List PyData} (h:∀d∈ds,Sm n k d) (hl:ds.length<=m):Sm (m*(n+2)+3) (k+1) (.tuple ds):=by
 obtain⟨⟨a,b,c⟩,e⟩:=A3 h;refine⟨?_,by simpa [PyData.showable]using a,by simpa only[PyData.hasDict]using b,by simp only[PyData.depth];omega⟩;simp only[PyData.shown];unfold tupleText;rw[strLen_append,strLen_append];have h1:("(":Str).length=1:=by decide
 have h2:(if((PyData.shownAll ds).length==1)=true then(",)":String)else ")":String).length<=2:=by split<;>decide
 have h3:ds.length*(n+2)<=m*(n+2):=Nat.mul_le_mul_right _ hl;have h4:(Str.ofString (if((PyData.shownAll ds).length==1)=true then(",)":String)else ")":String)).length<=2:=by split<;>decide
 have h5:((if((PyData.shownAll ds).length==1)=true then(",)":String)else ")":String):Str).length<=2:=h4;omega
def lB:List V->Hp->VK->Prop:=fun xs H Q=>∃a d,xs=[.ref a]/\FG H d (.ref a)/\Sm 16000000 40 d/\Q (.str d.shown) H
theorem kF {X:Cx} (hr:eL k X.A):eU X (.builtin "repr") lB:=by
 intro pins s σ H xs us Q I r h;obtain⟨a,d,rfl,hd,hs,q⟩:=h;obtain⟨u,rfl,ru⟩:=vals1 r;cases ru;obtain⟨as,rd⟩:=hd.reads I.aW (show RelV (.ref a) (.ref a)from rfl);have h1:=hs.dp;have h2:=hr.un;have h3:=hs.len;refine repr_of_reads' rd hs.sh (PyData.noDict_hsm hs.nd) hr.gd (by omega) (fun _ _ e=>e) (fun h' u tk hk=>⟨.str d.shown,H,I.kept (t':=tk) hk,⟨_,rfl⟩,q⟩) (le_trans h3 (by unfold sizeLine;decide))
def eP (H H':Hp):Prop:=∀a us,H a=some (.tup us)->H' a=some (.tup us)
theorem aG.kt {H':Hp} (s:aG H H'):eP H H':=fun a us e=>s a _ e
theorem eP.trans {H1 H2:Hp} (a:eP H H1) (b:eP H1 H2):eP H H2:=fun c us e=>b c us (a c us e)
theorem eP.upd {xs ys:List V} (e:H l=some (.lst xs)):eP H (upd H l (.lst ys)):=fun a us h=>by rw[aH (yJ h e (fun z=>nomatch z))];exact h
section
variable {k:Nat} {cA:List Nat} {g:TG} {tt:TT} {te:TE} {σ:St} {H:Hp} {Q:VK} {l:Addr}
theorem oA {α:Type} (J:It) (es:List α) (x:α->V) (p:α->Bool) (R:Hp->α->V->Prop) (Good:St->Prop) (h0:Good (bS k cA σ)) (hl:H l=none) (hlen:es.length<sizeLine)
  (hstop:∀H',aG H H'->J.stop es.length H') (hgo:∀i H',i<es.length->aG H H'->J.go i H')
  (hyld:∀i H1 v H2,i<es.length->aG H H1->J.yR i H1 v H2->H2=H1/\∃e,es[i]? =some e/\v=x e)
  (m:∀H1 H2 e v,eP H1 H2->R H1 e v->R H2 e v)
  (ht:∀e σ H1 ys (N:St->Hp->Prop),e∈es->Good σ->aG H H1->H1 l=some (.lst ys)->ys.length<sizeLine->(p e=false->∀σ',Good σ'->N σ' H1)->
   (p e=true->∀σ' v H2,Good σ'->aG H1 H2->R H2 e v->N σ' (upd H2 l (.lst (ys++[v]))))->dD g tt te l (x e) σ H1 N)
  (hd:∀H' ys,aG H H'->Paired (R H') (es.filter p) ys->H' l=some (.lst ys)->Q (.ref l) H'):mX J g tt te l (bS k cA σ) (upd H l (.lst [])) Q:=by
 refine mI J es.length (fun i σ' H'=>i<=es.length/\Good σ'/\aG H H'/\∃ys,Paired (R H') ((es.take i).filter p) ys/\H' l=some (.lst ys)) ⟨zero_le _,h0,aG.upd hl,[],.nil,aB⟩
  (fun σ' H' ⟨_,_,s,_⟩=>hstop H' s) (fun i σ' H' hi ⟨_,_,s,_⟩=>hgo i H' hi s) (fun i σ' H' v H'' hi ⟨_,gd,s,ys,py,e⟩ y=>?_) (fun σ' H' ⟨_,_,s,ys,py,e⟩=>?_)
 .obtain⟨e1,en,he,ev⟩:=hyld i H' v H'' hi s y;subst e1 ev;have hz:ys.length<sizeLine:=by
   rw[<-Paired.length py];have a1:=length_filter_le p (es.take i);rw[length_take]at a1;omega
  refine ht en σ' _ ys _ (mem_of_getElem? he) gd s e hz (fun hp σ2 g2=>⟨hi,g2,s,ys,?_,e⟩) (fun hp σ2 v H2 g2 s2 r=>⟨hi,g2,fun b o hb=>?_,ys++[v],?_,aB⟩)
  .rw[jY he,if_neg (by rw[hp];exact Bool.false_ne_true),append_nil];exact py
  .rw[aH (aF hb hl)];exact s2 _ _ (s _ _ hb)
  .rw[jY he,if_pos hp];have k2:=eP.upd (ys:=ys++[v]) (s2 _ _ e);exact Paired.snoc (Paired.dP py fun a b r=>m _ _ a b (s2.kt.trans k2) r) (m _ _ _ _ k2 r)
 .rw[take_length]at py;exact hd H' ys s py e
end
theorem DZ {K:Frag} {xs:List V} {g:TG} {tb:TS} {D:Ends} {σ:St} {H:Hp} (Pv:Nat->St->Hp->Prop) (h0:Pv 0 σ H) (hl:∀i σ H,i<=xs.length->Pv i σ H->bM K H a xs)
  (hs:∀i x t σ H,xs[i]? =some x->H t=none->Pv i σ H->g (.ref t) σ (upd H t (.tup [.int i,x])) fun σ2 H2=>tb {D with nx:=Pv (i+1),ct:=Pv (i+1),bk:=D.nx} σ2 H2) (hd:∀σ H,Pv xs.length σ H->D.nx σ H):
  ∃W:Nat->Nat->St->Hp->Prop,(∃m,W 0 m σ H)/\∀i m σ H,W i m σ H->
   ((GV K a).stop i H/\D.nx σ H)\/ ((GV K a).go i H/\∃N:St->Hp->Prop,(∀σ' H',N σ' H'->∃m',m'<m/\W (i+1) m' σ' H')/\∀x H',(GV K a).yR i H x H'->g x σ H' fun σ2 H2=>tb {D with nx:=N,ct:=N,bk:=D.nx} σ2 H2):=by
 refine⟨fun i m σ H=>m=xs.length - i/\i<=xs.length/\Pv i σ H,⟨xs.length,by simp,zero_le _,h0⟩,?_⟩;rintro i m σ H ⟨rfl,hi,p⟩;have q:=hl i σ H hi p
 by_cases hlt:i<xs.length
 .refine .inr ⟨⟨xs,xs[i],q,by simp[hlt]⟩,Pv (i+1),fun σ' H' p'=>⟨xs.length - (i+1),by omega,rfl,hlt,p'⟩,fun x H' y=>?_⟩;obtain⟨t,ht,rfl,y⟩:=y;obtain⟨x,hx,rfl⟩:=y xs q;exact hs i x t σ H hx ht p
 .have e:i=xs.length:=by omega
  subst e;exact .inl ⟨⟨xs,q,rfl⟩,hd σ H p⟩
end L2
namespace L2
open PySem PySem.Spec PyProof.Rows Mr
variable {H:Hp} {ps:List PV}
mutual
inductive Tr (H:Hp):PV->V->Prop
 |aU:Tr H .aU .aU
 |bl (b:Bool):Tr H (.bl b) (.bl b)
 |int (i:Int):Tr H (.int i) (.int i)
 |str (x:Str):Tr H (.str x) (.str x)
 |tup {a:Addr} {us:List V} {ps:List PV}:H a=some (.tup us)->g9 H ps us->Tr H (.tup ps) (.ref a)
inductive g9 (H:Hp):List PV->List V->Prop
 |nil:g9 H [] []
 |cons {p:PV} {v:V} {ps:List PV} {vs:List V}:Tr H p v->g9 H ps vs->g9 H (p::ps) (v::vs)
end
mutual
theorem Tr.kp {H H':Hp} (k:eP H H'):∀{p:PV} {v:V},Tr H p v->Tr H' p v
 |_,_,.aU=>.aU
 |_,_,.bl b=>.bl b
 |_,_,.int b=>.int b
 |_,_,.str b=>.str b
 |_,_,.tup h r=>.tup (k _ _ h) (r.kp k)
theorem g9.kp {H H':Hp} (k:eP H H'):∀{p:List PV} {v:List V},g9 H p v->g9 H' p v
 |_,_,.nil=>.nil
 |_,_,.cons h r=>.cons (h.kp k) (r.kp k)
end
mutual
theorem Tr.rep {K:Frag} {Z:lN} {H:Hp}:∀{p:PV} {v:V},Tr H p v->Rep K Z H p v
 |_,_,.aU=>.aU
 |_,_,.bl b=>.bl b
 |_,_,.int b=>.int b
 |_,_,.str b=>.str b
 |_,_,.tup h r=>.tup (.inl h) r.rep
theorem g9.rep {K:Frag} {Z:lN} {H:Hp}:∀{p:List PV} {v:List V},g9 H p v->fR K Z H p v
 |_,_,.nil=>.nil
 |_,_,.cons h r=>.cons h.rep r.rep
end
theorem Tr.P1 {v:V} (h:Tr H (.tup ps) v):∃a us,v= .ref a/\H a=some (.tup us)/\g9 H ps us:=by
 cases h with|tup h r=>exact⟨_,_,rfl,h,r⟩
theorem g9.length:∀{ps:List PV} {vs:List V},g9 H ps vs->ps.length=vs.length
 |_,_,.nil=>rfl
 |_,_,.cons _ r=>by rw[length_cons,length_cons,r.length]
theorem g9.get':∀{ps:List PV} {vs:List V} {i:Nat} {p:PV},g9 H ps vs->ps[i]? =some p->∃v,vs[i]? =some v/\Tr H p v
 |_,_,_,_,.nil,e=>by simp at e
 |_,_,0,_,.cons h _,e=>by simp at e;subst e;exact⟨_,rfl,h⟩
 |_,_,i+1,p,.cons _ r,e=>by
  obtain⟨v,h1,h2⟩:=r.get' (i:=i) (p:=p) (by simpa using e);exact⟨v,by simpa using h1,h2⟩
theorem g9.strs:∀{xs:List Str},g9 H (xs.map PV.str) (xs.map V.str)
 |[]=>.nil
 |x::xs=>.cons (.str x) g9.strs
mutual
noncomputable def iO:PV->NK
 | .str x=>.k (.inr x)
 | .int i=>.k (.inl i)
 | .tup ps=>.t (j5 ps)
 |_=>.k (.inl 0)
noncomputable def j5:List PV->List NK
 |[]=>[]
 |p::ps=>iO p::j5 ps
end
mutual
noncomputable def keyed:PV->Bool
 | .str _=>true
 | .int _=>true
 | .tup ps=>jK ps
 |_=>false
noncomputable def jK:List PV->Bool
 |[]=>true
 |p::ps=>keyed p && jK ps
end
mutual
theorem Tr.nk {H:Hp}:∀{p:PV} {v:V},Tr H p v->keyed p=true->N2 H (iO p) v
 |_,_,.aU,h=>by simp[keyed]at h
 |_,_,.bl b,h=>by simp[keyed]at h
 |_,_,.int i,_=>by simp only[iO];exact .k (x:=.inl i)
 |_,_,.str x,_=>by simp only[iO];exact .k (x:=.inr x)
 |_,_,.tup h r,q=>by simp only[iO];exact .t h (r.nk (by simpa [keyed]using q))
theorem g9.nk {H:Hp}:∀{p:List PV} {v:List V},g9 H p v->jK p=true->MN H (j5 p) v
 |_,_,.nil,_=>by simp only[j5];exact .nil
 |_,_,.cons h r,q=>by
  simp only[jK,and_eq_true]at q;simp only[j5];exact .cons (h.nk q.1) (r.nk q.2)
end
mutual
noncomputable def QW:PV->PyData
 | .str x=>.str x
 | .int i=>.int i
 | .tup ps=>.tuple (LS ps)
 |_=>.none
noncomputable def LS:List PV->List PyData
 |[]=>[]
 |p::ps=>QW p::LS ps
end
mutual
noncomputable def P8:PV->Bool
 | .str _=>true
 | .int _=>true
 | .aU=>true
 | .tup ps=>EN ps
 |_=>false
noncomputable def EN:List PV->Bool
 |[]=>true
 |p::ps=>P8 p && EN ps
end
def hV (K:Frag):List V->Hp->VK->Prop:=fun xs H Q=>∃p ys ps,xs=[.ref p]/\bM K H p ys/\g9 H ps ys/\ys.length<64/\(∀x∈ps,sD true x=true)/\bV 3 ps=true/\
 ∀l zs,g9 H (tR 3 ps) zs->H l=none->Q (.ref l) (upd H l (.lst zs))
theorem g9.pick {ys:List V} (r:g9 H ps ys):∀{ix:List Nat},(∀i∈ix,i<ps.length)->g9 H (ix.map fun i=>ps.getD i .aU) (ix.map fun i=>ys.getD i .aU)
 |[],_=>.nil
 |i::ix,h=>by
  have hi:=h i mem_cons_self;have e:=getElem?_eq_getElem hi;obtain⟨v,ev,rv⟩:=r.get' e;refine .cons ?_ (g9.pick r fun j hj=>h j (mem_cons_of_mem _ hj));dsimp only;rw[getD_eq_getElem?_getD,getD_eq_getElem?_getD,e,ev];exact rv
theorem K9 {X:Cx} {k:Nat} (K:Frag) (hr:eL k X.A) (hK:X.K=K:=by rfl):eU X (.builtin "sorted") (hV K):=by
 intro pins s σ H xs us Q I r ⟨p,ys,ps,e,hq,rp,h64,led,cmp,q⟩;refine NT K hr hK pins s σ H xs us Q I r ⟨p,ys,ps,true,e,hq,rp.rep,h64,led,cmp,fun l ix h1 h2 hl=>q l _ ?_ hl⟩;have hix:∀i∈ix,i<ps.length:=fun i hi=>mem_range.mp (h1.mem_iff.mp hi)
 have pm:(ix.map fun i=>ps.getD i .aU).Perm ps:=by
  have:=h1.map fun i=>ps.getD i PV.aU
  have e:(List.range ps.length).map (fun i=>ps.getD i PV.aU)=ps:=by
   apply ext_getElem
   .simp
   .intro i a1 a2;simp[getElem?_eq_getElem a2]
  rw[e]at this;exact this
 have es:tR 3 ps=ix.map fun i=>ps.getD i .aU:=
  j3 (iT 3 ps) h2 ((dG 3 ps).trans pm.symm) fun x hx y hy=>qK cmp ((dG 3 ps).mem_iff.mp hx) ((dG 3 ps).mem_iff.mp hy)
 rw[es];exact rp.pick hix
noncomputable instance RY:DecidableEq PV:=fun a b=>Classical.propDecidable _
structure En where
 w:Str
 t:PV
 r:List PV
 b:Bool
end L2
namespace L2
open PySem PySem.Spec PyProof.Rows
variable {a p:Addr} {ob:HO} {H H':Hp} {c d:Nat}
def J8 (c:Nat) (o:Option HO):Prop:=∃a b i:Int,o=some (.lst [.int a,.int b,.int i])/\0<=a/\0<=b/\b<2305843009213693951/\0<=i/\i<=c
abbrev Box (c:Nat) (H:Hp) (p:Addr):Prop:=J8 c (H p)
theorem Box.same (h:Box c H p) (s:aG H H'):Box c H' p:=let⟨a,b,i,e,r⟩:=h;⟨a,b,i,s _ _ e,r⟩
theorem Box.up (h:Box c H p) (hl:c<=d):Box d H p:=let⟨a,b,i,e,h1,h2,h3,h4,h5⟩:=h;⟨a,b,i,e,h1,h2,h3,h4,by omega⟩
theorem Box.ne (h:Box c H p) {l:Addr} (n:H l=none):p≠l:=let⟨_,_,_,e,_⟩:=h;aF e n
theorem OO (h:Box c H p) (h':Box d H' p) (b:eO p H H'):Kp H H':=fun a o e=>by
 by_cases z:a=p
 .subst z;obtain⟨i,j,k,e1,_⟩:=h;obtain⟨i',j',k',e2,_⟩:=h';rw[e1]at e;cases e;exact .inr ⟨_,_,rfl,e2⟩
 .exact .inl (b a o e z)
def DC:Sp:=fun vs H Q _=>∃(p:Addr) (n:Int) (c:Nat),vs=[.ref p,.int n]/\Box c H p/\c<1000000/\0<n/\n<1073741824/\∀d H',0<=d->d<n->Box (c+1) H' p->eO p H H'->Q (.int d) H'
section
variable {k:Nat} {cA:List Nat} {gg:TG} {tt:TT} {te:TE} {σ:St} {H:Hp} {Q:VK} {l:Addr}
theorem pU (lo:Int) (n:Nat) (p:Addr) (c wt:Nat) (R:Hp->V->Prop) (Good:St->Prop) (h0:Good (bS k cA σ)) (hp:Box c H p) (hl:H l=none) (hlen:n<=1000000)
  (m:∀H1 H2 y,Kp H1 H2->R H1 y->R H2 y)
  (ht:∀i σ H1 xs (N:St->Hp->Prop),i<n->Good σ->Box (c+wt*i) H1 p->H1 l=some (.lst xs)->xs.length=i->eO p H H1->
   (∀σ' y H2,Good σ'->R H2 y->Box (c+wt*i+wt) H2 p->eO p H1 H2->∃xs,H2 l=some (.lst xs)/\xs.length<sizeLine/\N σ' (upd H2 l (.lst (xs++[y]))))->dD gg tt te l (.int (lo+i)) σ H1 N)
  (hd:∀ys H1,ys.length=n->(∀y∈ys,R H1 y)->H1 l=some (.lst ys)->Box (c+wt*n) H1 p->eO p H H1->Q (.ref l) H1):mX (JD lo n) gg tt te l (bS k cA σ) (upd H l (.lst [])) Q:=by
 have pl:p≠l:=Box.ne hp hl;refine AE lo n (fun i σ' H'=>Good σ'/\∃ys:List V,H' l=some (.lst ys)/\ys.length=i/\(∀y∈ys,R H' y)/\Box (c+wt*i) H' p/\eO p H H') ⟨h0,[],aB,rfl,(fun _ h=>nomatch h),Box.same (p:=p) hp (aG.upd hl),eO.of (aG.upd hl)⟩
  (fun i σ' H' hi ⟨gd,ys,e,hy,hR,hp',b⟩=>?_) (fun σ' H' ⟨_,ys,e,hy,hR,hp',b⟩=>hd ys H' hy hR e hp' b)
 refine ht i σ' H' ys _ hi gd hp' e hy b fun σ2 y H2 g2 ry p2 b2=>?_
 have e2:H2 l=some (.lst ys):=b2 l _ e pl.symm;refine⟨ys,e2,iQ (by omega),g2,ys++[y],aB,by simp[hy],fun z hz=>?_,?_,fun d o h n1=>?_⟩
 .rcases mem_append.mp hz with r|r
  .exact m _ _ _ (Kp.lst e2) (m _ _ _ (OO hp' p2 b2) (hR z r))
  .rw[mem_singleton.mp r];exact m _ _ _ (Kp.lst e2) ry
 .show J8 _ (upd H2 l _ p);rw[aH pl,mul_succ,<-Nat.add_assoc];exact p2
 .rw[aH (aF h hl)];exact b2 d o (b d o h n1) n1
end
theorem Box.kt {c d:Nat} {H H':Hp} {p:Addr} (h:Box c H p) (b:eO p H H'):eP H H':=fun a us e=>b a _ e fun z=>by subst z;obtain⟨i,j,k,e1,_⟩:=h;rw[e1]at e;cases e
def NM:Sp:=fun vs H Q _=>∃(p l:Addr) (c:Nat) (xs:List V),vs=[.ref p,.ref l]/\Box c H p/\c<100000/\H l=some (.lst xs)/\l≠p/\1<=xs.length/\xs.length<=60/\∀(x:V) H',x∈xs->Box (c+1) H' p->eO p H H'->Q x H'
def B6 (K:Frag):Sp:=fun vs H Q _=>∃(a:Addr) (ns:List Int),vs=[.ref a]/\bM K H a (ns.map V.int)/\ns.length<=63/\∀p H',H p=none->Box 0 H' p->aG H H'->Q (.ref p) H'
theorem eP.dn {w:World} {kvs:List NE} {ep:Nat} (e:H a=some (DN w a kvs ep)):eP H (L2.upd H a ob):=fun c us h=>by rw[aH (yJ h e (fun z=>by unfold DN at z;cases z))];exact h
theorem eP.dk {kvs:List (Key×V)} (e:bY H a kvs):eP H (L2.upd H a ob):=fun c us h=>by obtain⟨ep,e⟩:=e;rw[aH (yJ h e (fun z=>nomatch z))];exact h
theorem Paired.jI {α β:Type} {R:α->β->Prop}:∀{xs:List α} {ys:List β} {i:Nat} {y:β},Paired R xs ys->ys[i]? =some y->∃x,xs[i]? =some x/\R x y
 |_,_,_,_,.nil,e=>by simp at e
 |_,_,0,_,.cons h _,e=>by simp at e;subst e;exact⟨_,rfl,h⟩
 |_,_,i+1,y,.cons _ r,e=>by
  obtain⟨x,h1,h2⟩:=Paired.jI (i:=i) (y:=y) r (by simpa using e);exact⟨x,by simpa using h1,h2⟩
end L2
namespace My
open PySem L2 Mr PyProof.Rows PySem.Builtin.Str
noncomputable abbrev S (l:List Nat):Str:=⟨l.toArray⟩
end My
namespace L2
open PySem PySem.Spec PyProof.Rows PySem.W
section
variable {prog:Program} {w:World} {A:Around} {E:Value->Shared->Prop} {s:Shared}
theorem i5.trans {s s1 s2:Shared} (a:i5 s s1) (b:i5 s1 s2):i5 s s2:=by
 obtain⟨h1,t1,d1,rfl,z1,k1⟩:=a;obtain⟨h2,t2,d2,rfl,z2,k2⟩:=b;exact⟨h2,t2,d2,rfl,le_trans z1 z2,fun x o e=>k2 x o (k1 x o e)⟩
theorem jC {v:Value} {Ok:List Value->Shared->Prop} {R:List Value->Array Nat->Prop} {Q:Value->Shared->Prop}
  (hcol:∀(E':Value->Shared->Prop) (Q':List Value->Shared->Prop),(∀vs s1,i5 s s1->Ok vs s1->Q' vs s1)->wpAny (model prog w) A.in1 (collect v) Q' E' s) (h64:∀vs s1,Ok vs s1->vs.length<64)
  (hk:∀vs s1,i5 s s1->Ok vs s1->2<=vs.length->∀h':Heap,(∀b o,s1.heap.get? b=some o->h'.get? b=some o)->jW prog w A.in1.in1 vs (R vs) {s1 with heap:=h'}) (hR:∀vs s1,Ok vs s1->vs.length<2->R vs (List.range vs.length).toArray)
  (hq:∀(a:Addr) s1 s2 (out:Array Value) c vs (p:Array Nat),i5 s s1->Ok vs s1->i5 s1 s2->s1.heap.objs.size<=a->s2.heap.get? a=some (seqObj "list" out c)->lI vs.length p->R vs p->out.toList=p.toList.map (fun i=>vs.getD i Value.none)->Q (.ref a) s2):
  wpAny (model prog w) A (call (.builtin "sorted") [v]) Q E s:=by
 refine Calls.call_function_entry kind_sorted plain_sorted entry_sorted (args_sorted1 _) ?_;unfold Builtin.«sorted»;refine wpAny_bind (m:=checkCount "sorted" 1 1 _) (wpAny_pure (wpAny_bind (hcol _ _ fun vs s1 g ok=>?_)));have hl:=h64 vs s1 ok;refine wpAny_bind (wpAny_newList ?_ (by simp only[sizeLine_eq];omega));have e1:(s1.heap.push (seqObj "list" vs.toArray 0)).get? s1.heap.objs.size=some (seqObj "list" vs.toArray 0):=get?_push_size _ rfl;refine wpAny_bind (wpAny_holding (wpAny_call_entry slot_list_sort ⟨_,e1,rfl⟩ entry_list_sort ?bd (args_list_sort _)))
 case bd=>
  refine tX e1 hl (fun l2 h' kp=>hk vs s1 g ok l2 h' fun b o gb=>kp b o (ne_of_lt (lt_size gb)) (get?_push_of_some _ gb)) (hR vs s1 ok) fun out p p1 p2 p3=>⟨_,rfl,wpAny_pure ⟨_,rfl,?_⟩⟩
  obtain⟨c,hc⟩:=sortedHeap_at (out:=out) e1;refine hq s1.heap.objs.size s1 _ out c vs p g ok ?_ (le_refl _) hc p1 p2 p3;refine⟨_,s1.toks,s1.drawn,rfl,le_of_lt (lt_size hc),fun b o e=>?_⟩;have hb:=lt_size e;rw[sortedHeap_old (ne_of_lt hb) (by rw[size_push'];exact lt_succ_of_lt hb)];exact get?_push_of_some _ e
theorem rN {K:Type} [DecidableEq K] {knd:KeyKind prog w K} {r d:Addr} {kvs:List (K×Value)} {ep:Nat} {Q:List Value->Shared->Prop} (hh:A.handled=none) (hv:s.heap.IsItemsView r d) (hm:s.heap.DictAt knd d kvs ep) (hn:kvs.length<=sizeLine)
  (hq:∀s1 (as:List Addr),i5 s s1->as.length=kvs.length->KdxG knd kvs s.heap.objs.size s1.heap as->Q (as.map Value.ref) s1):wpAny (model prog w) A (collect (.ref r)) Q E s:=by
 have hr:r<s.heap.objs.size:=let⟨_,ho,_⟩:=hv;lt_size ho
 have hd:d<s.heap.objs.size:=hm.lt_size;have fin:∀(h':Heap) (tk:Nat) (acc:Array Value) (c:Nat) (as:List Addr),(∀b o,s.heap.get? b=some o->h'.get? b=some o)->
   h'.get? s.heap.objs.size=some {cls:=.type "list",dict:=none,data:=.seq acc c,slots:= #[]}->as.length=kvs.length->KdxG knd kvs s.heap.objs.size h' as->acc.toList=as.map Value.ref->
   wpAny (model prog w) A (match Value.ref s.heap.objs.size with
    | Value.ref a=>do
     match(<-load a).data with
      |Data.seq xs _=>pure xs.toList
      |_=>unsupported "internal:collect"
    |_=>unsupported "internal:collect") Q E {s with heap:=h',toks:=tk}:=fun h' tk acc c as kp hS hl hG ea=>by
  show wpAny _ A (load s.heap.objs.size>>=_) _ _ _;refine wpAny_bind (wpAny_load hS (wpAny_pure ?_));show Q acc.toList _;rw[ea];exact hq _ as ⟨h',tk,s.drawn,rfl,le_of_lt (lt_size hS),kp⟩ hl hG
 unfold collect;refine wpAny_bind (wpAny_runValue (codeAny_builtin F.entry_proto_collect ?_));rw[Around.under_plainId F.plain_proto_collect _];refine wpAny_bind (m:=newList []) (wpAny_newObj_type ?_);refine wpAny_pure ⟨plainId_quiet F.plain_list_iadd _,codeAny_builtin F.entry_list_iadd ?_⟩;rw[Around.under_plainId F.plain_list_iadd _];have e0:(s.heap.push {cls:=.type "list",data:=.seq ([]:List Value).toArray}).get? s.heap.objs.size=some {cls:=.type "list",data:=.seq #[] 0}:=get?_push_size _ rfl;have key:=kdx_extend (A:=A) (knd:=knd) (kvs:=kvs) (ep:=ep) (s:={s with heap:=s.heap.push {cls:=.type "list",data:=.seq ([]:List Value).toArray}}) (R:=fun rs s'=>∃h' tk acc c as,rs= .ok (.ret (.ref s.heap.objs.size))/\s'={s with heap:=h',toks:=tk}/\(∀b o,s.heap.get? b=some o->h'.get? b=some o)/\h'.get? s.heap.objs.size=some {cls:=.type "list",dict:=none,data:=.seq acc c,slots:= #[]}/\as.length=kvs.length/\KdxG knd kvs s.heap.objs.size h' as/\acc.toList=as.map Value.ref)
  hh (let⟨o,ho,x⟩:=hv;⟨o,get?_push_of_some _ ho,x⟩) (hm.push _) s.heap.objs.size (ne_of_gt hr) (ne_of_lt hd) (.ref s.heap.objs.size) 0 e0
  (fun h' tk acc c as kp hS hl hG ea=>⟨h',tk,acc,c,as,rfl,rfl,fun b o e=>kp b o (ne_of_lt (lt_size e)) (get?_push_of_some _ e),hS,hl,hG.low (by rw[size_push];exact le_succ _),ea⟩) hn
 refine wpAny_mono key (fun f s' h=>?_) fun e s' h=>?_
 .cases f with
  |done f=>
   obtain⟨h',tk,acc,c,as,e1,rfl,kp,hS,hl,hG,ea⟩:=h;cases e1;exact fin h' tk acc c as kp hS hl hG ea
  |again c'=>
   refine⟨h.1,codeAny_mono h.2 fun rs s2 hr=>?_⟩;obtain⟨h',tk,acc,c,as,rfl,rfl,kp,hS,hl,hG,ea⟩:=hr;exact fin h' tk acc c as kp hS hl hG ea
 .obtain⟨h',tk,acc,c,as,e1,_⟩:=h;cases e1
theorem Inv.O4 {X:Cx} {pins:List (Addr×Obj)} {σ:L2.St} {H H':Hp} {s s':Shared} (I:Inv X pins σ H s) (g:i5 s s') (he:∀b,b<s.heap.objs.size->H' b=H b) (new:∀a o,s.heap.objs.size<=a->H' a=some o->cV X.prog X.w H' s'.heap a o):Inv X pins σ H' s':=by
 obtain⟨h',tk,dr,rfl,_,k⟩:=g;have old:∀a o,H a=some o->H' a=some o:=fun a o e=>by rw[he a (I.aW.lt e)];exact e
 refine I.call (g':=s.gens) (d':=dr) (t':=tk) (ch:=[]) ⟨fun b u q _ _ _=>k b u q,fun b u q _ _ _=>⟨u.slots,k b u q⟩,fun b u q n _=>by rw[he b (lt_size q)];exact n,fun b u q _=>⟨u,k b u q⟩,fun b xs q=>old b _ q,fun b u xs q=>old b _ q,fun b ps q=>⟨#[],by rw[old b _ q];simp⟩⟩ (fun a o e=>?_) I.bare fun _ z=>nomatch z
 by_cases ha:a<s.heap.objs.size
 .rw[he a ha]at e;exact(I.aW a o e).mW (fun c v _ q=>k c v q) (fun c q=>old c _ q) fun c xs q=>old c _ q
 .exact new a o (le_of_not_lt ha) e
end
section
variable {X:Cx}
noncomputable def LX (v d:Addr):HO:=.ext fun h=>h.IsItemsView v d
def iA (to:TE):TE:=fun σ H Q=>to σ H fun x H1=>∃a kvs,x= .ref a/\D4 H1 a kvs/\∀v,H1 v=none->Q (.ref v) (upd H1 v (LX v a))
theorem wK {o:Expr} {to:TE} {apos cpos:Pos} (ho:PE X o to) (hbase:attributeBase o "items" X.env (eval o X.env)=eval o X.env:=by rfl) (hline:(apos.endLine==cpos.line)=true:=by rfl):
  PE X (.Call (.Attribute o "items" apos) [] [] cpos) (iA to):=by
 intro pins s σ H Q I h;refine wpAny_Call_method0_late hbase hline (cG (ho pins s σ H _ I h) fun v s1 ⟨x,H1,I1,r1,a,kvs,ex,ha,q1⟩=>?_);subst ex;obtain rfl:v=Value.ref a:=r1;obtain⟨hz,hd,vs,rel,dd⟩:=gQ I1.aW ha;refine⟨"dict","dict.items",plainAttrs_dict,PySem.F.slot_dict_items,PySem.F.type_dict_items,dd.typeIs,dd.mapOf.noDict,Calls.callWith_builtin rfl (PySem.evalArgs_none ?_)⟩;refine call_meetsIn PySem.F.slot_dict_items dd.typeIs PySem.F.entry_dict_items (PySem.F.args_dict_items_1 _) (meets_dict_items (aX X.prog X.w) a hd) ⟨⟨vs,dd⟩,?_⟩;have e0:(s1.heap.push {cls:=.type "dict_items",data:=.fields #[.ref a]}).get? s1.heap.objs.size=some {cls:=.type "dict_items",data:=.fields #[.ref a]}:=get?_push_size _ rfl;exact⟨.ref s1.heap.objs.size,_,I1.laid (t':=s1.toks) (o:=LX s1.heap.objs.size a) (fun b u e=>get?_push_of_some _ e) (le_refl _) ⟨⟨_,e0,rfl,rfl⟩,⟨_,e0⟩,fun h1 h2 ⟨u,e,c⟩ k=>⟨u,k u e,c⟩⟩,rfl,q1 _ (I1.aW.fresh (le_refl _))⟩
end
end L2
namespace Mr
open PySem PySem.Spec L2 PyProof.Rows PySem.W
noncomputable def iO:Key->PV
 | .inl i=>.int i
 | .inr x=>.str x
theorem tM {h:Heap} {k:Key} {v:Value} (e:eN k v=true):Lies h (iO k) v/\RelV (kV k) v:=by
 rcases aV e with⟨i,t,rfl,rfl⟩|⟨x,t,rfl,rfl⟩
 .exact⟨.int i t,t,rfl⟩
 .exact⟨.str x t,t,rfl⟩
noncomputable def g0 (kvs:List (Key×PV)):List PV:=kvs.map fun z=>.tup [iO z.1,z.2]
section
variable {X:Cx} {k:Nat}
def NI (K:Frag):List V->Hp->VK->Prop:=fun xs H Q=>∃v a ys kvs b,xs=[.ref v]/\H v=some (LX v a)/\D4 H a ys/\PJ K CI H kvs ys/\kvs.length<64/\(∀x∈g0 kvs,sD b x=true)/\bV 3 (g0 kvs)=true/\
 ∀l H' (as:List Addr) (ix:List Nat),aG H H'->(∀(j:Nat) t q,as[j]? =some t->ys[j]? =some q->H' t=some (.tup [kV q.1,q.2]))->as.length=ys.length->ix.Perm (List.range kvs.length)->(ix.map fun i=>(g0 kvs).getD i .aU).Pairwise (fun a b=>kK 3 a b=true)->H l=none->H' l=some (.lst (ix.map fun i=>.ref (as.getD i 0)))->Q (.ref l) H'
theorem wM {h:Heap}:∀{ps:List PV} {vs:List Value},ps.length=vs.length->(∀(j:Nat) p v,ps[j]? =some p->vs[j]? =some v->Lies h p v)->bQ h ps vs
 |[],[],_,_=>.nil
 |[],_::_,h,_=>by cases h
 |_::_,[],h,_=>by cases h
 |p::ps,v::vs,h,k=>.cons (k 0 p v rfl rfl) (wM (by simpa using h) fun j p v a b=>k (j+1) p v (by simpa using a) (by simpa using b))
theorem sortI (K:Frag) (hr:eL k X.A) (hK:X.K=K:=by rfl) (hc:X.calm=true:=by rfl):eU X (.builtin "sorted") (NI K):=by
 subst hK;intro pins s σ H xs us Q I r ⟨v,a,ys,kvs,b,e,hv,ha,rd,h64,led,cmp,q⟩;subst e;obtain⟨u,rfl,rx⟩:=vals1 r;cases rx;obtain⟨hz,hd,vs,rel,dd⟩:=gQ I.aW ha;obtain⟨ep,dd⟩:=dd.dictAt;have hlen:kvs.length=ys.length:=by have:=congrArg List.length rd.1;simpa using this.symm
 have hlen2:=rel.len;have ok:∀x∈g0 kvs,kY 3 x=true:=fun x hx=>by
  have:=all_eq_true.mp cmp x hx;rw[and_eq_true]at this;exact p0 this.1
 refine jC (s:=s) (Ok:=fun ws s1=>∃as:List Addr,ws=as.map Value.ref/\as.length=vs.length/\KdxG (aX X.prog X.w) vs s.heap.objs.size s1.heap as) (R:=fun ws p=>iS mH (fun i=>code 3 ((g0 kvs).getD i .aU)) p ws.length) (fun E' Q' kk=>?_) ?_ ?_ ?_ ?_
 .exact rN (by exact I.ok.hd hc) (I.aW v _ hv).1 dd (by rw[<-hlen2];exact hz) fun s1 as gr hl g=>kk _ s1 gr ⟨as,rfl,hl,g⟩
 .rintro ws s1 ⟨as,rfl,hl,g⟩;rw[length_map];omega
 .rintro ws s1 gr ⟨as,rfl,hl,g⟩ l2 h' kp;have I':Inv X pins σ H {s1 with heap:=h'}:=(I.NW gr).kept (t':=s1.toks) kp;have okv:(kvs.map (·.2)).all (kY 2)=true:=all_eq_true.mpr fun p hp=>by
   obtain⟨z,hz,rfl⟩:=mem_map.mp hp;have:=ok (.tup [iO z.1,z.2]) (mem_map.mpr ⟨z,hz,rfl⟩);have this:([iO z.1,z.2].all (kY 2))=true:=this;rw[all_cons,all_cons,and_eq_true,and_eq_true]at this;exact this.2.1
  have lv:bQ h' (kvs.map (·.2)) (vs.map (·.2)):=fR.lies I' (n:=2) okv rd.2 rel.vals;have hL:bQ h' (g0 kvs) (as.map Value.ref):=by
   refine wM (by unfold g0;rw[length_map,length_map];omega) fun j p v hp hv=>?_
   rw[getElem?_map]at hv;obtain⟨t,ht,rfl⟩:=map_eq_some_iff.mp hv;unfold g0 at hp;rw[getElem?_map]at hp;obtain⟨z,hz',rfl⟩:=map_eq_some_iff.mp hp;obtain⟨key,kk,x,e1,e2,e3⟩:=g.pairs j t ht;have ek:kk=z.1:=by
    have a1:(vs.map (·.1))[j]? =some kk:=by rw[getElem?_map,e1];rfl
    have a2:(kvs.map (·.1))[j]? =some z.1:=by rw[getElem?_map,hz'];rfl
    rw[<-rel.keys,rd.1,a2]at a1;exact(Option.some.inj a1).symm
   subst ek;obtain⟨p',h1,h2⟩:=lv.get (show(vs.map (·.2))[j]? =some x by rw[getElem?_map,e1];rfl);rw[getElem?_map,hz']at h1;cases h1;exact .tup ⟨_,kp _ _ e3,rfl,0,rfl⟩ (.cons (tM (show eN z.1 key=true from e2)).1 (.cons h2 .nil))
  exact yQ (s:={s1 with heap:=h'}) hL (by have:=hr.un;show X.A.units+1+1+2<_;omega) led ok cmp l2
 .rintro ws s1 ⟨as,rfl,hl,g⟩ h2 i j a b;rw[show i=j by omega];exact KeyOrd.kle_refl _
 .rintro l s1 s2 out c ws p gr ⟨as,rfl,hl,g⟩ g2 hla hat h1 h2 h3;have hp:p.toList.Perm (List.range as.length):=by
   have:=perm_iff_toList_perm.mp h1;rw[length_map]at this;simpa using this
  have hlt:∀i∈p.toList,i<as.length:=fun i hi=>mem_range.mp (hp.mem_iff.mp hi)
  have above:∀t∈as,s.heap.objs.size<=t:=fun t ht=>le_of_lt (g.above t ht)
  have nl:l∉as:=fun z=>absurd (g.there z) (Nat.not_lt.mpr hla)
  have hls:s.heap.objs.size<=l:=le_trans gr.size hla
  let H':Hp:=fun x=>if x=l then some (.lst (p.toList.map fun i=>V.ref (as.getD i 0)))else match as.findIdx? (fun t=>t==x)with
   |some j=>(ys[j]?).map fun q=>HO.tup [kV q.1,q.2]
   |none=>H x
  have hl':H' l=some (.lst (p.toList.map fun i=>V.ref (as.getD i 0))):=if_pos rfl;have hno:∀x,x≠l->x∉as->H' x=H x:=fun x h1 h2=>by
   show(if x=l then _ else _)=_;rw[if_neg h1];have:as.findIdx? (fun t=>t==x)=none:=List.findIdx?_eq_none_iff.mpr fun t ht=>by
    cases c:t==x with
    |false=>rfl
    |true=>exact absurd (by rw[<-eq_of_beq c];exact ht) h2
   rw[this]
  have hat':∀(j:Nat) t q,as[j]? =some t->ys[j]? =some q->H' t=some (.tup [kV q.1,q.2]):=fun j t q hj hq=>by
   have hm:=mem_of_getElem? hj;show(if t=l then _ else _)=_;rw[if_neg (fun z:t=l=>nl (by rw[<-z];exact hm))];have:as.findIdx? (fun u=>u==t)=some j:=by
    rw[List.findIdx?_eq_some_iff_getElem];obtain⟨hjl,ej⟩:=List.getElem?_eq_some_iff.mp hj;refine⟨hjl,by simp[ej],fun i hi=>?_⟩;have:=pairwise_iff_getElem.mp g.rise i j (by omega) hjl hi;rw[ej]at this;simpa using ne_of_lt this
   rw[this];show(ys[j]?).map _=_;rw[hq];rfl
  have same:aG H H':=fun x o e=>by
   have hx:=I.aW.lt e;rw[hno x (fun z:x=l=>absurd (by rw[<-z];exact hx) (Nat.not_lt.mpr hls)) (fun z=>absurd hx (Nat.not_lt.mpr (above x z)))];exact e
  have I2:Inv X pins σ H' s2:=by
   refine I.O4 (gr.trans g2) (fun x hx=>hno x (fun z:x=l=>absurd (by rw[<-z];exact hx) (Nat.not_lt.mpr hls)) (fun z=>absurd hx (Nat.not_lt.mpr (above x z)))) fun x o hx e=>?_
   by_cases hxl:x=l
   .subst hxl;rw[hl']at e;cases e;refine⟨by rw[length_map,hp.length_eq,length_range,hl,<-hlen2];exact hz,out.toList,c,?_,hat⟩;rw[h3];have:∀(ix:List Nat),(∀i∈ix,i<as.length)->Vals (ix.map fun i=>V.ref (as.getD i 0)) (ix.map fun i=>(as.map Value.ref).getD i Value.none):=by
     intro ix
     induction ix with
     |nil=>intro _;exact .nil
     |cons i ix ih=>
      intro hi;refine .cons ?_ (ih fun j hj=>hi j (mem_cons_of_mem _ hj));have:=hi i mem_cons_self;dsimp only;rw[getD_eq_getElem?_getD,getD_eq_getElem?_getD,getElem?_map,getElem?_eq_getElem this];rfl
    exact this _ hlt
   .by_cases hxa:x∈as
    .obtain⟨j,hj⟩:=List.mem_iff_getElem?.mp hxa;have hjl:=(List.getElem?_eq_some_iff.mp hj).1;have hy:ys[j]? =some (ys[j]'(by omega)):=getElem?_eq_getElem (by omega);rw[hat' j x _ hj hy]at e;cases e;obtain⟨key,kk,y,e1,e2,e3⟩:=g.pairs j x hj;have rl:=rel;obtain⟨t1,t2,t3,t4,t5,t6⟩:=g2;subst t4;have rj:∀{l1:List (Key×V)} {l2:List (Key×Value)} {j:Nat} {a b},KV l1 l2->l1[j]? =some a->l2[j]? =some b->a.1=b.1/\RelV a.2 b.2:=by
      intro l1 l2 j a b r;unfold KV at r
      induction r generalizing j with
      |nil=>intro h;simp at h
      |cons h t ih=>
       intro h1 h2;cases j with
       |zero=>simp at h1 h2;subst h1 h2;exact h
       |succ j=>exact ih (by simpa using h1) (by simpa using h2)
     obtain⟨q1,q2⟩:=rj rel hy e1;refine⟨by show 2<=sizeLine;decide,[key,y],.cons ?_ (.cons q2 .nil),nX.of (t6 _ _ e3)⟩;have q1:(ys[j]'(by omega)).1=kk:=q1;rw[q1];exact(tM (h:=s1.heap) (show eN kk key=true from e2)).2
    .rw[hno x hxl hxa]at e;exact absurd (I.aW.lt e) (Nat.not_lt.mpr hx)
  have hk:as.length=kvs.length:=by omega
  refine⟨.ref l,H',I2,rfl,q l H' as p.toList same hat' (by omega) (by rw[<-hk];exact hp) (E8 h2 (by rw[hp.length_eq,length_range,length_map])) (I.aW.fresh hls) hl'⟩
end
end Mr
namespace L2
open PySem PySem.Spec PyProof.Rows PySem.W
section
variable {X:Cx}
def QG:List V->Hp->VK->Prop:=fun xs H Q=>∃a kvs,xs=[.ref a]/\D4 H a kvs/\Q (.int kvs.length) H
theorem RI:eU X (.builtin "len") QG:=by
 intro pins s σ H xs us Q I r ⟨a,kvs,e,ha,q⟩;subst e;obtain⟨u,rfl,rx⟩:=vals1 r;cases rx;obtain⟨hz,hd,vs,rel,dd⟩:=gQ I.aW ha;refine call_len_dict hd dd (by have:=rel.len;rw[sizeLine_eq]at hz;omega) ?_;exact⟨.int kvs.length,H,I.tok _,⟨s.toks+1,by rw[rel.len]⟩,q⟩
end
section
variable {prog:Program} {w:World} {A:Around} {R:Result->Shared->Prop} {I:Addr} {fp wr:List Addr} {n:Nat} {Pz:Nat->Value->Prop} {Sz:Nat->Heap->Prop}
def FI (prog:Program) (w:World) (A:Around) (ok:Heap->Prop) (Pz:Nat->Value->Prop) (bt:Nat->Nat->Bool):Prop:=
 ∀i j vi vj (s:Shared) (Q:Value->Shared->Prop) (E:Value->Shared->Prop),ok s.heap->Pz i vi->Pz j vj->Q (.bool (bt i j)) s->wpAny (model prog w) A (richCompare .Lt vi vj) Q E s
theorem nW:(toString "min"++toString ".loop":String)="min.loop":=by decide
theorem wQ {ok:Heap->Prop} (W:Walks prog w A.in1 I fp wr n Pz Sz) (bt:Nat->Nat->Bool) (hcmp:FI prog w A.in1 ok Pz bt) (S:Addr) (nf:S∉fp) (okk:∀h h',ok h->(∀b o,b∉wr->b≠S->h.get? b=some o->h'.get? b=some o)->ok h'):
  ∀(k j:Nat) (s:Shared) (vb:Value) (c:Nat),n - (j+1)=k->j+1<=n->ok s.heap->Sz (j+1) s.heap->Pz (argBest bt j) vb->s.heap.get? S=some {cls:=.type "list",dict:=none,data:=.seq #[vb,vb] c,slots:= #[]}->
  (∀v h' tk,Pz (argBest bt (n - 1)) v->(∀b o,b∉wr->b≠S->s.heap.get? b=some o->h'.get? b=some o)->R (.ok (.ret v)) {s with heap:=h',toks:=tk})->codeAny (model prog w) A (.builtin "min.loop" ⟨[.ref I,.none,.ref S],[]⟩) R s:=by
 have nw:S∉wr:=fun h=>nf (W.sub _ h)
 intro k
 induction k with
 |zero=>
  intro j s vb c hk hj aW st hb gS hR;have e:j+1=n:=by omega
  refine codeAny_builtin F.entry_min_loop ?_;rw[Around.under_plainId F.plain_min_loop _];refine wpAny_bind (m:=seqItems? (.ref S)) (wpAny_seqItems gS rfl ?_);refine wpAny_bind (m:=tryCatch (pyNext (.ref I)) _) (wpAny_tryCatch (W.done s _ _ (e▸st) fun h' tk kp=>?_));have gS':=kp S _ nw gS;refine wpAny_bind (m:=updateSeq S (fun _=> #[])) (wpAny_updateSeq gS' rfl (wpAny_bind (wpAny_letGo (wpAny_pure ?_))));exact hR vb _ tk (by rw[<-e];exact hb) fun b o h1 h2 q=>(get?_update_other _ _ (Ne.symm h2)).trans (kp b o h1 q)
 | succ k ih=>
  intro j s vb c hk hj aW st hb gS hR;have hlt:j+1<n:=by omega
  refine codeAny_builtin F.entry_min_loop ?_;rw[Around.under_plainId F.plain_min_loop _];refine wpAny_bind (m:=seqItems? (.ref S)) (wpAny_seqItems gS rfl ?_);refine wpAny_bind (m:=tryCatch (pyNext (.ref I)) _) (wpAny_tryCatch (W.item (j+1) s _ _ hlt st fun v h' tk hP st' kp=>?_));have gS':=kp S _ nw gS;have ok':ok h':=okk _ _ aW fun b o h1 _ q=>kp b o h1 q
  refine wpAny_bind (m:=tryCatch (holding [v,v] (richCompare .Lt v vb>>=_)) _) (wpAny_tryCatch (wpAny_holding (wpAny_bind (hcmp (j+1) (argBest bt j) v vb {s with heap:=h',toks:=tk} _ _ ok' hP hb ?_))));refine wpAny_bind (wpAny_holding (wpAny_truthy_bool (wpAny_bind (wpAny_letGo (wpAny_pure ?_)))));cases hbt:bt (j+1) (argBest bt j)with
  |true=>
   simp only[if_true];refine wpAny_bind (wpAny_updateSeq gS' rfl (wpAny_bind (wpAny_letGo ?_)));rw[nW];have ne:∀{b:Addr} {o:Obj},b≠S->h'.get? b=some o->(h'.update S (Obj.mapSeq fun _=> #[v,v])).get? b=some o:=fun h q=>(get?_update_other _ _ (Ne.symm h)).trans q
   refine wpAny_pure ⟨plainId_quiet F.plain_min_loop _,ih (j+1) _ v _ (by omega) hlt (okk _ _ ok' fun b o _ h2 q=>ne h2 q) (W.frame _ _ _ st' fun b hbf o q=>ne (fun z=>nf (by rw[<-z];exact hbf)) q) (by simp only[argBest,hbt,if_true];exact hP) (get?_update_self _ gS' rfl) fun v' h2 tk2 hP' kp2=>?_⟩;exact hR v' h2 tk2 hP' fun b o h1 h3 q=>kp2 b o h1 h3 (ne h3 (kp b o h1 q))
  |false=>
   simp only[false_eq_true,if_false];refine wpAny_bind (wpAny_letGo ?_);rw[nW];refine wpAny_pure ⟨plainId_quiet F.plain_min_loop _,ih (j+1) _ vb c (by omega) hlt ok' st' (by simp only[argBest,hbt,false_eq_true,if_false];exact hb) gS' fun v' h2 tk2 hP' kp2=>?_⟩;exact hR v' h2 tk2 hP' fun b o h1 h3 q=>kp2 b o h1 h3 (kp b o h1 q)
theorem min_list {E:Value->Shared->Prop} {s:Shared} {l:Addr} {vs:List Value} {Q:Value->Shared->Prop} {ok:Heap->Prop} (bt:Nat->Nat->Bool) (hh:A.handled=none) (hl:s.heap.IsList l vs.toArray) (hn:0<vs.length)
  (aW:∀h',(∀b o,s.heap.get? b=some o->h'.get? b=some o)->ok h') (okk:∀h h':Heap,ok h->(∀b o,b<s.heap.objs.size->h.get? b=some o->h'.get? b=some o)->ok h') (hcmp:FI prog w A.in1 ok (fun i v=>vs[i]? =some v) bt)
  (hq:∀v h' tk,vs[argBest bt (vs.length - 1)]? =some v->(∀b o,s.heap.get? b=some o->h'.get? b=some o)->Q v {s with heap:=h',toks:=tk}):wpAny (model prog w) A (call (.builtin "min") [.ref l]) Q E s:=by
 have lS:l<s.heap.objs.size:=let⟨_,e,_⟩:=hl;lt_size e
 refine call_function_tree F.kind_min F.plain_min F.entry_min (F.args_min1 _) ?_;refine wpAny_bind (m:=Builtin.Builtins.bindParams "min" ["key","default"] 0 ⟨[],[]⟩) (wpAny_of_eq (show Builtin.Builtins.bindParams "min" ["key","default"] 0 ⟨[],[]⟩=pure [none,none]from rfl) (wpAny_bind (wpAny_pure ?_)));refine wpAny_bind (wpAny_pyIter_list hl ?_);refine wpAny_bind (wpAny_newObj_type ?_);rw[nW];generalize hX:(s.heap.push {cls:=.type "list_iterator",data:=.fields #[.ref l,.int 0 0]})=h1;have z1:h1.objs.size=s.heap.objs.size+1:=by rw[<-hX];exact size_push ..
 have k1:∀b o,s.heap.get? b=some o->h1.get? b=some o:=fun b o e=>by rw[<-hX];exact get?_push_of_some _ e
 have e1:h1.get? s.heap.objs.size=some {cls:=.type "list_iterator",data:=.fields #[.ref l,.int 0 0]}:=by rw[<-hX];exact get?_push_size _ rfl
 have nI:l≠s.heap.objs.size:=ne_of_lt lS;have W:=Walks.list (prog:=prog) (w:=w) (A:=A.in1) (by exact hh) s.heap.objs.size l nI vs.toArray;have gS:(h1.push {cls:=.type "list",data:=.seq ([]:List Value).toArray}).get? h1.objs.size=some {cls:=.type "list",dict:=none,data:=.seq #[] 0,slots:= #[]}:=get?_push_size _ rfl;have nf:h1.objs.size∉[s.heap.objs.size,l]:=by
  rw[z1];simp only[mem_cons,not_mem_nil,or_false,not_or];exact⟨ne_of_gt (lt_succ_self _),ne_of_gt (lt_succ_of_lt lS)⟩
 have nw:h1.objs.size∉[s.heap.objs.size]:=fun z=>nf (by simp at z⊢;exact .inl z)
 have st0:(h1.push {cls:=.type "list",data:=.seq ([]:List Value).toArray}).IsListIter s.heap.objs.size l 0/\(h1.push {cls:=.type "list",data:=.seq ([]:List Value).toArray}).IsList l vs.toArray:=by
  refine⟨⟨_,get?_push_of_some _ e1,rfl,rfl⟩,?_⟩;obtain⟨o,e,r⟩:=hl;exact⟨o,get?_push_of_some _ (k1 _ _ e),r⟩
 refine wpAny_pure ⟨plainId_quiet F.plain_min_loop _,?_⟩;refine codeAny_builtin F.entry_min_loop ?_;rw[Around.under_plainId F.plain_min_loop _];refine wpAny_bind (m:=seqItems? (.ref h1.objs.size)) (wpAny_seqItems gS rfl ?_);refine wpAny_bind (m:=tryCatch (pyNext (.ref s.heap.objs.size)) _) (wpAny_tryCatch (W.item 0 {s with heap:=h1.push {cls:=.type "list",data:=.seq ([]:List Value).toArray}} _ _ (by simpa using hn) st0 fun v h' tk hP st' kp=>?_));have gS':=kp h1.objs.size _ nw gS;refine wpAny_bind (m:=updateSeq h1.objs.size (fun _=> #[v,v])) (wpAny_updateSeq gS' rfl ?_);rw[nW];have ne:∀{b:Addr} {o:Obj},b≠h1.objs.size->h'.get? b=some o->(h'.update h1.objs.size (Obj.mapSeq fun _=> #[v,v])).get? b=some o:=fun h q=>(get?_update_other _ _ (Ne.symm h)).trans q
 have ltS:∀{b:Addr} {o:Obj},s.heap.get? b=some o->b∉[s.heap.objs.size]/\b≠h1.objs.size:=fun e=>by
  have:=lt_size e;rw[z1];exact⟨by simp;exact ne_of_lt this,ne_of_lt (lt_succ_of_lt this)⟩
 have kq:∀b o,s.heap.get? b=some o->(h'.update h1.objs.size (Obj.mapSeq fun _=> #[v,v])).get? b=some o:=fun b o e=>ne (ltS e).2 (kp b o (ltS e).1 (get?_push_of_some _ (k1 b o e)))
 refine wpAny_pure ⟨plainId_quiet F.plain_min_loop _,wQ (ok:=ok) W bt (fun i j vi vj s Q E h1 h2 h3 h4=>hcmp i j vi vj s Q E h1 (by simpa using h2) (by simpa using h3) h4) h1.objs.size nf (fun h h2 o k=>okk h h2 o fun b u hb q=>k b u (by simp;exact ne_of_lt hb) (by rw[z1];exact ne_of_lt (lt_succ_of_lt hb)) q) _ 0 _ v _ rfl (by simp;omega) (aW _ kq) (W.frame _ _ _ st' fun b hbf o q=>ne (fun z=>nf (by rw[<-z];exact hbf)) q) (by simpa [argBest]using hP) (get?_update_self _ gS' rfl) fun v' h2 tk2 hP' kp2=>?_⟩;exact hq v' h2 tk2 (by simpa using hP') fun b o e=>kp2 b o (ltS e).1 (ltS e).2 (kq b o e)
end
end L2
namespace Mr
open PySem PySem.Spec L2 PyProof.Rows PySem.W
noncomputable def xB (ps:List PV) (i j:Nat):Bool:=gI (code 3 (ps.getD i .aU)) (code 3 (ps.getD j .aU))
noncomputable def JS (ps:List PV):PV:=ps.getD (argBest (xB ps) (ps.length - 1)) .aU
theorem gJ (bt:Nat->Nat->Bool):∀k,argBest bt k<=k
 |0=>le_refl _
 |k+1=>by
  have:=gJ bt k;unfold argBest;split<;>omega
theorem AR {ps:List PV} {k:Nat} (hk:k<ps.length):∀i,i<=k->kK 3 (ps.getD (argBest (xB ps) k) .aU) (ps.getD i .aU)=true:=by
 induction k with
 |zero=>
  intro i hi;have:i=0:=by omega
  subst this;unfold kK argBest;rw[show gI (code 3 (ps.getD 0 .aU)) (code 3 (ps.getD 0 .aU))=false from mH.irrefl _];rfl
 | succ k ih=>
  intro i hi;have ih:=ih (by omega);unfold argBest;cases e:xB ps (k+1) (argBest (xB ps) k)with
  | true=>
   rw[if_pos rfl]
   by_cases h:i=k+1
   .subst h;unfold kK;rw[show gI (code 3 (ps.getD (k+1) .aU)) (code 3 (ps.getD (k+1) .aU))=false from mH.irrefl _];rfl
   .refine tN _ (ps.getD (argBest (xB ps) k) .aU) _ ?_ (ih i (by omega));unfold kK;rw[show gI (code 3 (ps.getD (argBest (xB ps) k) .aU)) (code 3 (ps.getD (k+1) .aU))=false from uY (A:=mH) e];rfl
  | false=>
   rw[if_neg Bool.false_ne_true]
   by_cases h:i=k+1
   .subst h;unfold kK;rw[show gI (code 3 (ps.getD (k+1) .aU)) (code 3 (ps.getD (argBest (xB ps) k) .aU))=false from e];rfl
   .exact ih i (by omega)
theorem lQ {ps:List PV} {q:PV} (hq:q∈ps):kK 3 (JS ps) q=true:=by
 obtain⟨i,hi,rfl⟩:=List.mem_iff_getElem.mp hq;have:=AR (ps:=ps) (k:=ps.length - 1) (by omega) i (by omega);rw[show ps.getD i .aU=ps[i] by rw[getD_eq_getElem?_getD,getElem?_eq_getElem hi];rfl]at this;exact this
section
variable {X:Cx} {k:Nat}
def OZ (K:Frag):List V->Hp->VK->Prop:=fun xs H Q=>∃p ys ps,xs=[.ref p]/\bM K H p ys/\fR K CI H ps ys/\0<ps.length/\bV 3 ps=true/\Q (ys.getD (argBest (xB ps) (ps.length - 1)) .aU) H
theorem JU (K:Frag) (hr:eL k X.A) (hK:X.K=K:=by rfl) (hc:X.calm=true:=by rfl):eU X (.builtin "min") (OZ K):=by
 subst hK;intro pins s σ H xs us Q I r ⟨p,ys,ps,e,hq,rp,h0,cmp,q⟩;subst e;obtain⟨u,rfl,rx⟩:=vals1 r;cases rx;obtain⟨vs,rv,pl,hz⟩:=I.list hq;have hlen:=rv.length;have hpl:=rp.length;have ok:∀x∈ps,kY 3 x=true:=fun x hx=>by
  have:=all_eq_true.mp cmp x hx;rw[and_eq_true]at this;exact p0 this.1
 refine min_list (ok:=fun h=>∀b o,s.heap.get? b=some o->h.get? b=some o) (xB ps) (by exact I.ok.hd hc) pl.isList (by omega) (fun h' kp=>kp) (fun h h' o kk b u e=>kk b u (lt_size e) (o b u e)) (fun i j vi vj s' Q E aW h1 h2 hQ=>?_) fun v h' tk hv kp=>?_
 .have hL:bQ s'.heap ps vs:=fR.lies (I.kept (t':=s.toks) aW) (n:=3) (all_eq_true.mpr ok) rp rv;obtain⟨p1,e1,l1⟩:=hL.get h1;obtain⟨p2,e2,l2⟩:=hL.get h2;have m1:=mem_of_getElem? e1;have m2:=mem_of_getElem? e2;refine G9 (s:=s') 3 X.A.in1 (by have:=hr.un;show X.A.units+1+3<_;omega) (ok p1 m1) (ok p2 m2) l1 l2 (mO cmp m1 m2) _ _ _ _ ?_;have hQ:Q (.bool (gI (code 3 (ps.getD i .aU)) (code 3 (ps.getD j .aU)))) s':=hQ;rw[getD_eq_getElem?_getD,e1,getD_eq_getElem?_getD,e2]at hQ;exact hQ
 .obtain⟨y,hy,ry⟩:=rv.get' hv;refine⟨y,H,I.kept (t':=tk) kp,ry,?_⟩;rw[getD_eq_getElem?_getD,show ps.length=vs.length by omega,hy]at q;exact q
end
end Mr
namespace L2
open PySem
section
variable {X:Cx} {pins:List (Addr×Obj)} {σ:St} {H:Hp} {s:Shared} {a:Addr} {y d:V} {u r:Value} {A:Around} {E:Value->Shared->Prop}
theorem GW {kvs:List (Key×V)} {k:Key} {Q:Value->Shared->Prop} (I:Inv X pins σ H s) (e:bY H a kvs) (ry:RelV (kV k) u) (rd:RelV d r) (hz:kvs.length<sizeLine)
  (h1:∀v w' s',bG kvs k=some v->Inv X pins σ H s'->RelV v w'->Q w' s') (h2:∀ep s',bG kvs k=none->Inv X pins σ (upd H a (.dK (putK kvs k d) ep)) s'->Q r s'):
  wpAny (model X.prog X.w) A (call (.builtin "dict.setdefault") [.ref a,u,r]) Q E s:=by
 obtain⟨z,hd,vs,rel,dd⟩:=EO I.aW e;have hz':vs.length<=sizeLine:=by rw[<-rel.length];exact z
 have rv:=rel.val k;refine call_meetsIn PySem.F.slot_dict_setdefault dd.typeIs PySem.F.entry_dict_setdefault (PySem.F.args_dict_setdefault_3 _ _ _) (kt_meets_setdefault (aX X.prog X.w) a (jX ry) hd r) ⟨vs,dd,hz',fun v hv=>?_,fun hn h' dd' hs=>?_⟩
 .rw[hv]at rv;cases c:bG kvs k with
  |none=>rw[c]at rv;exact rv.elim
  |some v'=>rw[c]at rv;exact h1 v' v _ c (I.tok _) rv
 .rw[hn]at rv;cases c:bG kvs k with
  |some v'=>rw[c]at rv;exact rv.elim
  |none=>
   have hl:(putK kvs k d).length<=sizeLine:=by have:=gN kvs k d;omega
   have he:∃q,h'.get? a=some q:=let⟨q,_,_,hq,_⟩:=dd';⟨q,hq⟩
   obtain⟨ep,da⟩:=dd'.dictAt;exact h2 ep _ c (pG I e.QZ hs he (zQ hl hd (rel.put k rd) da))
end
def D7 (td ty tx:TE):TE:=fun σ H Q=>td σ H fun x H1=>∃a,x= .ref a/\QO H1 a/\ty σ H1 fun y H2=>tx σ H2 fun z H3=>∃kvs k,bY H3 a kvs/\y=kV k/\kvs.length<sizeLine/\
 (∀v,bG kvs k=some v->Q v H3)/\(∀ep,bG kvs k=none->Q z (upd H3 a (.dK (putK kvs k z) ep)))
section
variable {X:Cx} {o e f:Expr} {apos cpos:Pos} {td ty tx:TE}
theorem mE (ho:PE X o td) (he:PE X e ty) (hf:PE X f tx) (m:M2 X o "setdefault" apos e f cpos):PE X (.Call (.Attribute o "setdefault" apos) [e,f] [] cpos) (D7 td ty tx):=by
 intro pins s σ H Q I h;refine wpAny_Call_method m.base m.JG m.line plainAttrs_dict PySem.F.slot_dict_setdefault PySem.F.type_dict_setdefault (cG (ho pins s σ H _ I h) fun u s1 ⟨x,H1,I1,rx,a,ex,d,q1⟩=>?_);subst ex;obtain rfl:u=Value.ref a:=rx;obtain⟨t1,t2,_⟩:=y1 I1 d;refine⟨t1,t2,?_⟩;rw[m.trees];refine Calls.callWith_builtin rfl (Calls.evalArgs_plain (Calls.spliced_cons (cG (he pins s1 σ H1 _ I1 q1) fun iv s2 ⟨y,H2,I2,ry,q2⟩=>
  Calls.spliced_cons (cG (hf pins s2 σ H2 _ I2 q2) fun fv s3 ⟨z,H3,I3,rz,kvs,k,ea,ey,hz,g1,g2⟩=>Calls.spliced_nil ?_))))
 subst ey;exact GW I3 ea ry rz hz (fun v w' s' c I' r'=>⟨v,H3,I',r',g1 v c⟩) fun ep s' c I'=>⟨z,_,I',rz,g2 ep c⟩
end
end L2
namespace Mr
open PySem L2
abbrev Tr:=List (Key×Addr×List PV)
end Mr
namespace L2
open PySem
section
variable {prog:Program} {w:World} {A:Around} {R:Result->Shared->Prop} {s:Shared}
theorem DH {kx vx target iter:Expr} {ifs:List Expr} {scope:Scope} {pos:Pos} {it:Value} {D:Addr} {env:Env} (I:Nat->Shared->Prop)
  (turn:∀n s,I n s->wpAny (model prog w) A (pyNext it) (fun r s₁=>match r with
   |none=>R (.ok .next) s₁
   | some v=>wpAny (model prog w) A (letOwnedTupleGo target it v) (fun _ s₁'=>wpAny (model prog w) A (assign target env v) (fun _ s₂=>
     wpAny (model prog w) A (forIn ifs true fun c r=>if r=true then do let ok<-isTrue c env (eval c env);pure (ForInStep.yield ok)else pure (ForInStep.yield r)) (fun ok s₃=>
      if ok=true then wpAny (model prog w) A (eval kx env) (fun kv s₄=>wpAny (model prog w) A (eval vx env) (fun vv s₅=>
       wpAny (model prog w) A (dictSet D kv vv) (fun _ s₆=>∃m,m<n/\I m s₆) (fun _ _=>False) s₅) (fun _ _=>False) s₄) (fun _ _=>False) s₃
      else∃m,m<n/\I m s₃) (fun _ _=>False) s₂) (fun _ _=>False) s₁') (fun _ _=>False) s₁) (fun _ _=>False) s)
  (n:Nat) (h:I n s):
  codeAny (model prog w) A (.compLoop (.DictComp kx vx [⟨target,iter,ifs,0⟩] scope pos) 0 it (.ref D) env) R s:=by
 refine codeAny_loop rfl I (fun n s hI=>?_) n h;show wpAny _ A ((compTurn (.DictComp kx vx [⟨target,iter,ifs,0⟩] scope pos) 0 it (.ref D) env).onRaise (fun x=>do noteFrame x env;theTreesLotGoes x)) _ _ s;refine wpAny_noted ?_;refine wpAny_mono (E:=fun _ _=>False) ?_ (fun _ _ q=>q) (fun _ _ z=>z.elim);rw[compTurn_dict];refine wpAny_bind (wpAny_standAt (wpAny_bind (wpAny_mono (turn n s hI) (fun r s₁ h₁=>?_) fun _ _ h'=>h')));cases r with
 |none=>exact wpAny_pure h₁
 | some v=>
  refine wpAny_bind (wpAny_mono h₁ (fun _ s₁' h₁'=>?_) fun _ _ h'=>h');refine wpAny_bind (wpAny_mono h₁' (fun _ s₂ h₂=>wpAny_bind (wpAny_mono h₂ (fun ok s₃ h₃=>?_) fun _ _ h'=>h')) fun _ _ h'=>h');cases ok with
  |false=>exact wpAny_pure ⟨rfl,h₃⟩
  |true=>
   exact wpAny_bind (wpAny_bind (wpAny_mono h₃ (fun kv s₄ h₄=>wpAny_bind (wpAny_holding (wpAny_mono h₄ (fun vv s₅ h₅=>wpAny_bind (wpAny_standAt (wpAny_holding (wpAny_mono h₅ (fun _ s₆ h₆=>wpAny_pure ⟨rfl,h₆⟩) fun _ _ h'=>h')))) fun _ _ h'=>h'))) fun _ _ h'=>h'))
end
def BO (J:It) (g:TG) (tt:TT) (tk te:TE) (l:Addr) (σ0:St) (H0:Hp) (Q:VK):Prop:=
 ∃W:Nat->Nat->St->Hp->Prop,(∃m,W 0 m σ0 H0)/\
   ∀i m σ' H2,W i m σ' H2->(J.stop i H2/\Q (.ref l) H2)\/ (J.go i H2/\∃N:St->Hp->Prop,(∀σ3 H3,N σ3 H3->∃m',m'<m/\W (i+1) m' σ3 H3)/\
    ∀x H3,J.yR i H2 x H3->g x σ' H3 fun σ4 H4=>tt σ4 H4 fun b H5=>if b=true then tk σ4 H5 fun kv H6=>te σ4 H6 fun y H7=>∃kvs key,bY H7 l kvs/\kv=kV key/\kvs.length<sizeLine/\∀ep,N σ4 (upd H7 l (.dK (putK kvs key y) ep))else N σ4 H5)
def G8 (wi:TI) (k:Nat) (cA:List Nat) (g:TG) (tt:TT) (tk te:TE):TE:=fun σ H Q=>wi σ H fun J H1=>∀l,H1 l=none->BO J g tt tk te l (bS k cA σ) (upd H1 l (.dK [] 0)) Q
section
variable {X:Cx} {kx vx tg iter:Expr} {ifs:List Expr} {scope:Scope} {pos:Pos} {wi:TI} {g:TG} {tt:TT} {tk te:TE} {N:List Str} {k:Nat} {cA:List Nat}
theorem GF {pins:List (Addr×Obj)} {σ:St} {H2:Hp} {s2:Shared} {cl:List (Str×Addr)} {C:Addr} {fp:List Addr} {h1:Heap} {tk:Nat} {m0:Str->Option Value} (S:fG X scope N k cA) (I2:Inv X pins σ H2 s2)
  (hcl1:∀y c,cl.lookup y=some c->X.env.cells.lookup y=some c) (hcl2:∀y,(y,NameKind.free)∈scope.names->(cl.lookup y).isSome=true) (hC:C=s2.heap.objs.size+1)
  (hf:∀b∈fp,mG X pins H2 b) (ho:∀b∈fp,b<s2.heap.objs.size) (hk:∀b o,s2.heap.get? b=some o->h1.get? b=some o) (hD:h1.get? s2.heap.objs.size=some {cls:=.type "dict",data:=.dict #[]}) (hns:h1.Ns C m0):
  Inv (aT X scope N ⟨cl,C,s2,H2,fp⟩) [] (bS k cA σ) (upd H2 s2.heap.objs.size (.dK [] 0)) {s2 with heap:=h1,toks:=tk}:=by
 have fr:H2 s2.heap.objs.size=none:=I2.aW.fresh (le_refl _);have hCf:H2 C=none:=I2.aW.fresh (hC▸le_succ _);refine⟨qQ S I2 hcl1 hcl2 (hC▸le_succ _) hf ho,rfl,I2.bare,Un.laid hk (le_refl _) fr,⟨m0,hns,fun i y v e1 e2 e3=>?_⟩,fun x c e=>?_,?_,fun x c e=>?_,fun p hp=>absurd (show p∈([]:List (Addr×Obj))from hp) (by simp),I2.aW.laid hk (le_refl _) ?_,?_⟩
 .obtain⟨q,j,rfl,hj,hv⟩:=tH e2;obtain⟨z,hz1,hz2,hz3⟩:=S.cA q j hj;have e1':N[k+q]? =some y:=e1;rw[hz1]at e1';cases e1';obtain⟨m,hn,hl⟩:=I2.loc;have hfr:=S.free (y,.free) (PySem.mem_of_lookup hz3) rfl;obtain⟨u,r,l⟩:=hl j y v hz2 hv (by rcases hfr with z|z;exact .inr (.inl z);exact .inr (.inr z));refine⟨u,r,.inr ⟨eA (env:=X.env) hz3,?_⟩⟩;obtain⟨c,hc⟩:=isSome_iff_exists.mp (hcl2 y (PySem.mem_of_lookup hz3));rcases l with⟨hk',_⟩|⟨_,c',hc',hcell⟩
  .rcases hfr with z|z<;>(rw[hk']at z;cases z)
  .have e:=hcl1 y c hc;rw[hc']at e;cases e;obtain⟨o,ho',hd⟩:=hcell;exact⟨_,hc,o,hk _ _ ho',hd⟩
 .obtain⟨v,o,ho',hd⟩:=I2.cell x c (hcl1 x c e);exact⟨v,o,hk _ _ ho',hd⟩
 .show upd H2 s2.heap.objs.size (.dK [] 0) C=none;rw[aH (ne_of_gt (hC▸lt_succ_self _))];exact hCf
 .have e':=hcl1 x c e;obtain⟨v,q⟩:=I2.cell x c e';rw[aH (ne_of_lt q.lt)];exact I2.jR x c e'
 .exact⟨zero_le _,beq_eq_false_iff_ne.mpr (Ne.symm (ne_of_lt I2.big)),[],.nil,⟨_, #[],hD,⟨rfl,rfl,rfl⟩,rfl,(fun _ h=>absurd h (by simp)),.nil,nodup_nil⟩⟩
 .show(bS k cA σ).length=N.length;unfold bS;rw[length_append,length_replicate,length_map,S.len]
theorem E5 (hc:X.calm=true) (S:fG X scope N k cA) (hi:PI X tg iter wi) (hg:∀c,PG (aT X scope N c) tg g) (ht:∀c,K2 (aT X scope N c) ifs tt) (hk:∀c,PE (aT X scope N c) kx tk) (he:∀c,PE (aT X scope N c) vx te)
  (hs:∀x,foldedSetIterable iter X.env x=pure x:=by intro _;rfl):PE X (.DictComp kx vx [⟨tg,iter,ifs,0⟩] scope pos) (G8 wi k cA g tt tk te):=by
 intro pins s σ H Q I h;rw[arm_eval_DictComp];obtain⟨cl,hclos,hcl1,hcl2⟩:=g6 (scope:=scope) (env:=X.env) (fun p hp hf=>I.ok.has p.1 (S.free p hp hf));refine wpAny_comprehension_free (use:=none) rfl hs hclos S.kind S.names (cG (hi pins s σ H _ I h) fun v s1 h1=>cG h1 fun itv s2 h2=>?_);obtain⟨it,fp,tn,J,H2,e,I2,T,st2,f2,q2⟩:=h2;subst e;obtain⟨W,⟨m0,w0⟩,turn⟩:=q2 s2.heap.objs.size (I2.aW.fresh (le_refl _));have hob:∀b∈fp,b<s2.heap.objs.size:=fun b hb=>let⟨o,e,_⟩:=T.obj _ _ st2 b hb;lt_size e
 refine wpAny_newObj_type (wpAny_newFunctionEnv S.cell (by intro y hy;simp at hy) (fun h₁ hns₁ hsb₁=>?_) S.kind);dsimp only at hns₁ hsb₁⊢
 generalize hHH:s2.heap.push {cls:=.type "dict",dict:=none,data:=.dict #[]}=HH at hns₁ hsb₁⊢
 have hCC:HH.objs.size=s2.heap.objs.size+1:=by rw[<-hHH,size_push]
 have old:∀b o,s2.heap.get? b=some o->h₁.get? b=some o:=fun b o e=>hsb₁.extBut b o (ne_of_lt (hCC▸lt_succ_of_lt (lt_size e))) (get?_push_of_some _ (hHH▸get?_push_of_some _ e))
 have hD:h₁.get? s2.heap.objs.size=some {cls:=.type "dict",data:=.dict #[]}:=hsb₁.extBut _ _ (ne_of_lt (hCC▸lt_succ_self _)) (get?_push_of_some _ (hHH▸get?_push_size _ rfl));have I4:=fun tk=>GF (tk:=tk) S I2 hcl1 hcl2 hCC f2 hob old hD hns₁
 have X':=aT X scope N ⟨cl,HH.objs.size,s2,H2,fp⟩;have stat:∀{H':Hp},(∀b∈fp,H' b=none)->∀b∈fp,mG (aT X scope N ⟨cl,HH.objs.size,s2,H2,fp⟩) [] H' b:=fun hn b hb=>
  ⟨hn b hb,ne_of_lt (hCC▸lt_succ_of_lt (hob b hb)),(qQ S I2 hcl1 hcl2 (hCC▸le_succ _) f2 hob).wL b hb,.inl hb,fun x c e=>(f2 b hb).2.2.2.2.1 x c (hcl1 x c e),fun p hp=>absurd (show p∈([]:List (Addr×Obj))from hp) (by simp)⟩
 have loop:∀s₃:Shared,s₃={s2 with heap:=h₁,toks:=s2.toks+([]:List (Str×Value)).length}->
   codeAny (model X.prog X.w) X.A (.compLoop (.DictComp kx vx [⟨tg,iter,ifs,0⟩] scope pos) 0 (.ref it) (.ref s2.heap.objs.size) (compEnvC scope cl HH.objs.size X.env))
    (compPost (model X.prog X.w) X.A X.xe none (EP X pins σ Q) (.ref s2.heap.objs.size) HH.objs.size) s₃:=by
  rintro s₃ rfl;refine DH (fun n s'=>∃i σ' H',Inv (aT X scope N ⟨cl,HH.objs.size,s2,H2,fp⟩) [] σ' H' s'/\tn i s'.heap/\(∀b∈fp,H' b=none)/\W i n σ' H') ?_ m0
   ⟨0,bS k cA σ,_,I4 _,T.keep _ _ _ st2 fun b _ o e=>old b o e,fun b hb=>by rw[aH (ne_of_lt (hob b hb))];exact(f2 b hb).1,w0⟩
  rintro n s3 ⟨i,σ3,H3,I3,st3,fr3,w3⟩;rcases turn i n σ3 H3 w3 with⟨stop,qn⟩|⟨go,NN,hN,step⟩
  .refine cG (T.done (aT X scope N ⟨cl,HH.objs.size,s2,H2,fp⟩) rfl rfl rfl hc i [] s3 σ3 H3 _ I3 (stat fr3) st3 stop) fun r s4 ⟨hr,J4⟩=>?_
   subst hr;obtain⟨m,hn,_⟩:=J4.loc;refine⟨m,hn,fun h' hs'=>?_⟩;have keepC:∀b o,b≠HH.objs.size->s4.heap.get? b=some o->h'.get? b=some o:=fun b o hb e=>hs'.extBut b o hb e
   have gI:∀b o,s2.heap.get? b=some o->b≠HH.objs.size:=fun b o e=>ne_of_lt (hCC▸lt_succ_of_lt (lt_size e))
   have u:=J4.base;have u':Un (DF X.stack) fp H2 H3 s2.heap h':=⟨fun b o q n hb hx=>keepC b o (gI b o q) (u.keep b o q n hb hx),fun b o q n hb hx=>by
     obtain⟨sl,e⟩:=u.slot b o q n hb hx;exact⟨sl,keepC b _ (gI b o q) e⟩,u.free,fun b o q hx=>by
     obtain⟨o',e⟩:=u.there b o q hx;exact⟨o',keepC b _ (gI b o q) e⟩,u.rZ,u.pV,u.rS⟩
   refine⟨.ref s2.heap.objs.size,H3,I2.FL (ch:=fp) J4.os u' (J4.aW.but J4.free keepC) J4.bare fun b hb=>?_,rfl,qn⟩;obtain⟨_,f1,_,f3,f4,f5⟩:=f2 b hb;exact⟨f3,f1,f4,f5⟩
  .refine cG (T.item (aT X scope N ⟨cl,HH.objs.size,s2,H2,fp⟩) rfl rfl rfl hc i [] s3 σ3 H3 _ I3 (stat fr3) st3 go) fun r s4 ⟨u,hr,h4⟩=>?_
   subst hr;refine cG h4 fun _ s5 ⟨x,H5,I5,r5,y5,st5,fr5⟩=>?_
   have I5':=I5.pinned (stat fr5) (T.obj _ _ st5);have again:∀{s7:Shared} {σ7:St} {H7:Hp},Inv (aT X scope N ⟨cl,HH.objs.size,s2,H2,fp⟩) ([]++lM fp s5.heap) σ7 H7 s7->NN σ7 H7->
     ∃m,m<n/\∃i σ' H',Inv (aT X scope N ⟨cl,HH.objs.size,s2,H2,fp⟩) [] σ' H' s7/\tn i s7.heap/\(∀b∈fp,H' b=none)/\W i m σ' H':=fun{s7 σ7 H7} I7 n7=>by
    obtain⟨m',hm,w7⟩:=hN σ7 H7 n7;refine⟨m',hm,i+1,σ7,H7,I7.iK,T.keep _ _ _ st5 fun b hb o e=>(I7.pin (b,o) (mem_append_right _ (mem_append_right _ (d7 hb e)))).1,fun b hb=>?_,w7⟩;obtain⟨o,e,d⟩:=T.obj _ _ st5 b hb;exact(I7.pin (b,o) (mem_append_right _ (mem_append_right _ (d7 hb e)))).2.1
   refine cG (hg _ _ s5 σ3 H5 x u _ I5' r5 (step x H5 y5)) fun _ s6 ⟨σ6,H6,I6,q6⟩=>?_
   refine cG (ht _ _ s6 σ6 H6 _ I6 q6) fun b s7 ⟨H7,I7,q7⟩=>?_
   cases b with
   |false=>exact again I7 q7
   |true=>
    refine cG (hk _ _ s7 σ6 H7 _ I7 q7) fun kv s8 ⟨kx',H8,I8,r8,q8⟩=>?_
    refine cG (he _ _ s8 σ6 H8 _ I8 q8) fun y s9 ⟨yv,H9,I9,r9,kvs,key,hl,ek,hz,n9⟩=>?_
    subst ek;obtain⟨z,hd,vs,rel,dd⟩:=EO I9.aW hl;have hz':vs.length<=sizeLine:=by rw[<-rel.length];exact z
    have hl':(putK kvs key yv).length<=sizeLine:=by have:=gN kvs key yv;omega
    refine wpAny_dictSet_pairs (hsz:=hz') (jX r8) dd fun h' dd' hs'=>?_
    have hx':∃q,h'.get? s2.heap.objs.size=some q:=let⟨q,_,_,hq,_⟩:=dd';⟨q,hq⟩
    obtain⟨ep,da⟩:=dd'.dictAt;exact again (pG I9 hl.QZ hs' hx' (zQ hl' hd (rel.put key r9) da)) (n9 ep)
 exact codeAny_compStart_dict (loop _ rfl) (T.self X.A 0 _ _ _ (T.keep _ _ _ st2 fun b _ o e=>old b o e) (loop _ rfl))
theorem qU (N:List Str) (k:Nat) (cA:List Nat) (XN:List Str) (xs:Scope) (hc:X.calm=true) (hN:X.N=XN) (hx:X.env.scope=xs) (hi:PI X tg iter wi) (chk:m9 XN xs scope N k cA=true)
  (hg:∀c,PG (aT X scope N c) tg g) (ht:∀c,K2 (aT X scope N c) ifs tt) (hk:∀c,PE (aT X scope N c) kx tk) (he:∀c,PE (aT X scope N c) vx te)
  (hs:∀x,foldedSetIterable iter X.env x=pure x:=by intro _;rfl):PE X (.DictComp kx vx [⟨tg,iter,ifs,0⟩] scope pos) (G8 wi k cA g tt tk te):=E5 hc (i4 hN hx chk) hi hg ht hk he hs
end
end L2
namespace L2
open PySem PyProof.Rows
section
variable {X:Cx}
def IC (K:Frag):V->List V->Hp->VK->Prop:=fun x vs H Q=>∃(l:Addr) (zs:List Str) (y:Str),x= .ref l/\vs=[.str y]/\bM K H l (zs.map V.str)/\y∈zs/\zs.length<1000000/\Q (.int (zs.idxOf y:Nat)) H
theorem lO (k:Str):∀{vs:List Value} {ys:List Str},StrsAre vs ys->∀(j:Nat) (h1:j<vs.length) (h2:j<ys.length),isStrOf k vs[j]=(ys[j]==k)
 |_,_,.cons n t h,0,_,_=>rfl
 |_,_,.cons n t h,j+1,h1,h2=>lO k h j (by simpa using h1) (by simpa using h2)
theorem wH:∀{vs:List Value} {ys:List Str},StrsAre vs ys->vs.length=ys.length
 |_,_,.nil=>rfl
 |_,_,.cons n t h=>by rw[length_cons,length_cons,wH h]
theorem sS (K:Frag) (hK:X.K=K:=by rfl):O2 X "list.index" (IC K):=by
 subst hK;intro pins s σ H x vs v us Q I rx rv h;obtain⟨l,zs,y,rfl,rfl,hq,hy,hz,q⟩:=h;cases rx;obtain⟨u,rfl,t,rfl⟩:=vals1 rv;obtain⟨its,r,pl,_⟩:=I.list hq;have hi:StrsAre its zs:=vA r;have hl:=pl.isList;obtain⟨⟨cls,dd,data,sl⟩,ho,hc,n,hd⟩:=id hl;simp only at hc hd;subst hc hd;have hlen:=wH hi;have hj:zs.idxOf y<zs.length:=List.idxOf_lt_length_iff.mpr hy;refine call_meets slot_list_index ⟨_,ho,rfl⟩ PySem.F.entry_list_index (PySem.F.args_list_index_2 _ _)
  (SeqAt.list_indexAt l its.toArray n dd sl (.str y t) (isStrOf y) (zs.idxOf y) (by simpa [hlen]using hj) (by omega) ?_ ?_) ⟨ho,fun w hw=>(eq_isStrOf y t hi w (by simpa using hw)).at _ _,⟨.int (zs.idxOf y:Nat),H,I.tok _,⟨_,rfl⟩,q⟩⟩
 .show isStrOf y its[zs.idxOf y]=true;rw[lO y hi _ (by omega) hj];simpa using List.getElem_idxOf hj
 .intro j hjs hlt;show isStrOf y its[j]=false;rw[lO y hi j (by simpa using hjs) (by omega)];have:=List.not_of_lt_findIdx (p:=(·==y)) (xs:=zs) (i:=j) hlt;simpa using this
end
end L2
namespace L2
open PySem PySem.Spec PyProof.Rows
variable {l tg:Expr} {elts:List Expr} {K:Frag} {tl:TE} {w:World}
theorem Paired.NL {α β:Type} {F:α->β->Prop}:∀{l:List α} {m:List β} {i:Nat} {x:α},Paired F l m->l[i]? =some x->∃y,m[i]? =some y/\F x y
 |_,_,_,_,.nil,h=>by simp at h
 |_,_,0,_,.cons h _,e=>by simp at e;subst e;exact⟨_,rfl,h⟩
 |_,_,i+1,_,.cons _ r,e=>by
  obtain⟨y,h1,h2⟩:=Paired.NL (i:=i) r (by simpa using e);exact⟨y,by simpa using h1,h2⟩
theorem E4 {k:Key} {v:Value} (e:eN k v=true):RelV (kV k) v:=by
 rcases aV e with⟨i,t,rfl,rfl⟩|⟨x,t,rfl,rfl⟩
 .exact⟨t,rfl⟩
 .exact⟨t,rfl⟩
noncomputable def QR (a:Addr) (kvs:List (Key×V)) (ep:Nat):It:=
 ⟨fun i H=>Rd H a (.dK kvs ep)/\i<kvs.length,fun i H x H'=>H'=H/\∀kv,kvs[i]? =some kv->x=kV kv.1,fun i H=>Rd H a (.dK kvs ep)/\i=kvs.length⟩
theorem C0 {P:Program} (a it:Addr) (kvs:List (Key×V)) (ep:Nat):Turn P w K tg (QR a kvs ep) [it] it (fun i h=>h.IsKeyIter it a i kvs.length ep)where
 mem:=by simp
 obj:=fun i h st b hb=>by
  have e:b=it:=by simpa using hb
  subst e;obtain⟨o,e,c,d⟩:=st;exact⟨o,e,fun v z=>by rw[d]at z;cases z⟩
 keep:=fun i h h' st k=>st.at fun o e=>k it (by simp) o e
 item:=by
  intro X hP hw hK hc i pins s σ H E I hf st hg;subst hP hw hK;obtain⟨hr,hi⟩:=hg;obtain⟨_,_,vs,rel,dd⟩:=qH I.aW hr;have hl:kvs.length=vs.length:=Paired.length rel;obtain⟨q,hq,rq⟩:=Paired.NL rel (getElem?_eq_getElem hi);rw[hl]at st;obtain⟨f0,f1,f2,f3,f4,f5⟩:=hf it (by simp);refine wpAny_pyNext_dict_item st dd (k:=q.1) (v:=q.2) hq fun key h' hk st' sb=>?_
  have I1:Inv X pins σ H {s with heap:=h'}:=I.turned (t':=s.toks) (fun b o hb e=>(sb.2 b hb).trans e) f0 f1 f3 f4 f5;obtain⟨o,e,c,d⟩:=id st';rw[<-hl]at st';refine⟨key,rfl,BH (s:={s with heap:=h'}) e c d (by decide) ⟨kV q.1,H,I1,E4 hk,⟨rfl,fun kv hkv=>?_⟩,st',fun b hb=>(hf b hb).1⟩⟩;rw[getElem?_eq_getElem hi]at hkv;cases hkv;rw[rq.1]
 done:=by
  intro X hP hw hK hc i pins s σ H E I hf st hg;subst hP hw hK;obtain⟨hr,hi⟩:=hg;obtain⟨_,_,vs,rel,dd⟩:=qH I.aW hr;have hl:kvs.length=vs.length:=Paired.length rel;rw[hl]at st;obtain⟨f0,f1,f2,f3,f4,f5⟩:=hf it (by simp);exact wpAny_pyNext_dict_end (I.ok.hd hc) st dd (List.getElem?_eq_none_iff.mpr (by omega)) fun h' eb=>⟨rfl,I.turned (t':=s.toks) (fun b o hb e=>eb b o hb e) f0 f1 f3 f4 f5⟩
 self:=fun _ _ _ _ _ st h=>wpAny_pyIter_keyiter st h
noncomputable def QM (a:Addr) (kvs:List (Key×V)) (ep:Nat):It:=
 ⟨fun i H=>Rd H a (.dK kvs ep)/\i<kvs.length,fun i H v H'=>∃t,H t=none/\v= .ref t/\∀kv,kvs[i]? =some kv->H'=upd H t (.tup [kV kv.1,kv.2]),fun i H=>Rd H a (.dK kvs ep)/\i=kvs.length⟩
theorem z9 {P:Program} {x1} {pos:Pos} (a it:Addr) (kvs:List (Key×V)) (ep:Nat):Turn P w K (.Tuple elts x1 pos) (QM a kvs ep) [it] it (fun i h=>∃ok ov,IsItemIter h it a i kvs.length ep ok ov)where
 mem:=by simp
 obj:=fun i h st b hb=>by
  have e:b=it:=by simpa using hb
  subst e;obtain⟨_,_,e⟩:=st;exact⟨_,e,fun v z=>by cases z⟩
 keep:=fun i h h' st k=>let⟨ok,ov,e⟩:=st;⟨ok,ov,k it (by simp) _ e⟩
 item:=by
  intro X hP hw hK hc i pins s σ H E I hf st hg;subst hP hw hK;obtain⟨hr,hi⟩:=hg;obtain⟨ok,ov,st⟩:=st;obtain⟨_,_,vs,rel,dd⟩:=qH I.aW hr;have hl:kvs.length=vs.length:=Paired.length rel;obtain⟨q,hq,rq⟩:=Paired.NL rel (getElem?_eq_getElem hi);rw[hl]at st;refine wpAny_pyNext_items_item st dd (k:=q.1) (v:=q.2) hq fun key h' hk ho' htup hsz hkp=>?_
  refine⟨_,rfl,wpAny_letOwnedTupleGo_items (s:={s with heap:=h'}) ho' fun h2 he2 sb=>?_⟩;have hT:s.heap.objs.size≠it:=fun z=>by
   have:=lt_size st;rw[<-z]at this;exact Nat.lt_irrefl _ this
  have hk2:∀b o,b∉[it]->s.heap.get? b=some o->h2.get? b=some o:=fun b o hb q=>
   sb.extBut b o (fun z=>hb (by simp[z])) (hkp b o (fun z=>hb (by simp[z])) q)
  have hfr:H s.heap.objs.size=none:=I.aW.fresh (le_refl _);have htup2:h2.get? s.heap.objs.size=some {cls:=.type "tuple",data:=.seq #[key,q.2]}:=sb.extBut _ _ hT htup;have I2:Inv X pins σ (upd H s.heap.objs.size (.tup [kV q.1,kvs[i].2])) {s with heap:=h2,toks:=s.toks}:=by
   refine I.Q4 hk2 hf hfr (by simp[hT]) ⟨by show 2<=sizeLine;decide,[key,q.2],.cons (E4 hk) (.cons rq.2 .nil),nX.of htup2⟩ (fun b hb o q=>?_);have r:b=it:=by simpa using hb
   subst r;exact⟨_,he2⟩
  refine⟨.ref s.heap.objs.size,_,I2,rfl,⟨s.heap.objs.size,hfr,rfl,fun kv hkv=>?_⟩,⟨_,_,by rw[hl];exact he2⟩,fun b hb=>?_⟩
  .rw[getElem?_eq_getElem hi]at hkv;cases hkv;rw[rq.1]
  .have r:b=it:=by simpa using hb
   rw[aH (by rw[r];exact Ne.symm hT)];exact(hf b hb).1
 done:=by
  intro X hP hw hK hc i pins s σ H E I hf st hg;subst hP hw hK;obtain⟨hr,hi⟩:=hg;obtain⟨ok,ov,st⟩:=st;obtain⟨_,_,vs,rel,dd⟩:=qH I.aW hr;have hl:kvs.length=vs.length:=Paired.length rel;rw[hl]at st;obtain⟨f0,f1,f2,f3,f4,f5⟩:=hf it (by simp);exact wpAny_pyNext_items_end (I.ok.hd hc) st dd (List.getElem?_eq_none_iff.mpr (by omega)) fun h' eb=>⟨rfl,I.turned (t':=s.toks) (fun b o hb e=>eb b o hb e) f0 f1 f3 f4 f5⟩
 self:=fun _ _ _ _ _ st h=>by
  obtain⟨_,_,e⟩:=st;exact PySem.W.kcp_self e h
section
variable {X:Cx}
def kO (tl:TE):TI:=fun σ H R=>tl σ H fun x H1=>∃a kvs ep,x= .ref a/\Rd H1 a (.dK kvs ep)/\R (QR a kvs ep) H1
theorem pC (hl:PE X l tl):PI X tg l (kO tl):=by
 intro pins s σ H R I h;refine cG (hl pins s σ H _ I h) fun v s1 ⟨x,H1,I1,r1,a,kvs,ep,e,hr,q⟩=>?_
 subst e;cases r1;obtain⟨_,hd,vs,rel,dd⟩:=qH I1.aW hr;refine wpAny_pyIter_dict hd dd ?_;refine⟨s1.heap.objs.size,[s1.heap.objs.size],_,_,H1,rfl,I1.kept (t':=s1.toks) fun b o e=>get?_push_of_some _ e,C0 a _ kvs ep,⟨_,get?_push_size _ rfl,rfl,by rw[show kvs.length=vs.length from Paired.length rel];rfl⟩,fun b hb=>?_,q⟩;have e:b=s1.heap.objs.size:=by simpa using hb
 subst e;exact I1.uR (le_refl _) (I1.aW.fresh (le_refl _))
def hJ (te:TE):TI:=fun σ H R=>te σ H fun x H1=>∃v a kvs ep,x= .ref v/\H1 v=some (LX v a)/\Rd H1 a (.dK kvs ep)/\R (QM a kvs ep) H1
theorem HF {x1} {tpos:Pos} (hl:PE X l tl):PI X (.Tuple elts x1 tpos) l (hJ tl):=by
 intro pins s σ H R I h;refine cG (hl pins s σ H _ I h) fun v s1 ⟨x,H1,I1,r1,vw,a,kvs,ep,e,hv,hr,q⟩=>?_
 subst e;cases r1;obtain⟨_,hd,vs,rel,dd⟩:=qH I1.aW hr;have vi:s1.heap.IsItemsView vw a:=(show cV X.prog X.w H1 s1.heap vw (LX vw a)from I1.aW vw _ hv).1;refine wpAny_pyIter_items vi dd ?_;refine⟨s1.heap.objs.size,[s1.heap.objs.size],_,_,H1,rfl,I1.kept (t':=s1.toks) fun b o e=>get?_push_of_some _ e,z9 a _ kvs ep,⟨.none,.none,by rw[show kvs.length=vs.length from Paired.length rel];exact get?_push_size _ rfl⟩,fun b hb=>?_,q⟩;have e:b=s1.heap.objs.size:=by simpa using hb
 subst e;exact I1.uR (le_refl _) (I1.aW.fresh (le_refl _))
end
end L2
namespace L2
open PySem PySem.Spec PyProof.Rows PySem.W
section
variable {prog:Program} {w:World} {A:Around}
theorem FO {E:Value->Shared->Prop} {s0:Shared} {x y:Value} {Q:Value->Shared->Prop} {ok:Heap->Prop} (bt:Nat->Nat->Bool) (hh:A.handled=none)
  (aW:∀h',(∀b o,s0.heap.get? b=some o->h'.get? b=some o)->ok h') (okk:∀h h':Heap,ok h->(∀b o,b<s0.heap.objs.size->h.get? b=some o->h'.get? b=some o)->ok h') (hcmp:FI prog w A.in1 ok (fun i v=>[x,y][i]? =some v) bt)
  (hq:∀v h' tk,[x,y][argBest bt ([x,y].length - 1)]? =some v->(∀b o,s0.heap.get? b=some o->h'.get? b=some o)->Q v {s0 with heap:=h',toks:=tk}):wpAny (model prog w) A (call (.builtin "min") [x,y]) Q E s0:=by
 refine call_function_tree F.kind_min F.plain_min F.entry_min (F.args_min2 _ _) ?_;refine wpAny_bind (m:=Builtin.Builtins.bindParams "min" ["key","default"] 0 ⟨[],[]⟩) (wpAny_of_eq (show Builtin.Builtins.bindParams "min" ["key","default"] 0 ⟨[],[]⟩=pure [none,none]from rfl) ?_);show wpAny _ A.in1 (newTuple [x,y]>>=_) _ _ s0;refine wpAny_bind (wpAny_newObj_type ?_)
 let s:Shared:={s0 with heap:=s0.heap.push {cls:=.type "tuple",data:=.seq #[x,y]}}
 let l:Addr:=s0.heap.objs.size
 let vs:List Value:=[x,y]
 have lS0:s0.heap.objs.size<(s0.heap.push {cls:=.type "tuple",data:=.seq #[x,y]}).objs.size:=by rw[size_push];exact lt_succ_self _
 have hl:s.heap.IsTuple l vs.toArray:=⟨_,get?_push_size _ rfl,rfl,0,rfl⟩;have hn:0<vs.length:=by show 0<2;decide
 have hsz:s0.heap.objs.size<s.heap.objs.size:=lS0;have lS:l<s.heap.objs.size:=let⟨_,e,_⟩:=hl;lt_size e
 have k0:∀b o,s0.heap.get? b=some o->s.heap.get? b=some o:=fun b o e=>get?_push_of_some _ e
 refine wpAny_bind (wpAny_pyIter_tuple (s:=s) hl ?_);refine wpAny_bind (wpAny_newObj_type ?_);rw[nW];generalize hX:(s.heap.push {cls:=.type "tuple_iterator",data:=.fields #[.ref l,.int 0 0]})=h1;have z1:h1.objs.size=s.heap.objs.size+1:=by rw[<-hX];exact size_push ..
 have k1:∀b o,s.heap.get? b=some o->h1.get? b=some o:=fun b o e=>by rw[<-hX];exact get?_push_of_some _ e
 have e1:h1.get? s.heap.objs.size=some {cls:=.type "tuple_iterator",data:=.fields #[.ref l,.int 0 0]}:=by rw[<-hX];exact get?_push_size _ rfl
 have nI:l≠s.heap.objs.size:=ne_of_lt lS;have W:=Walks.tuple (prog:=prog) (w:=w) (A:=A.in1) (by exact hh) s.heap.objs.size l nI vs.toArray;have gS:(h1.push {cls:=.type "list",data:=.seq ([]:List Value).toArray}).get? h1.objs.size=some {cls:=.type "list",dict:=none,data:=.seq #[] 0,slots:= #[]}:=get?_push_size _ rfl;have nf:h1.objs.size∉[s.heap.objs.size,l]:=by
  rw[z1];simp only[mem_cons,not_mem_nil,or_false,not_or];exact⟨ne_of_gt (lt_succ_self _),ne_of_gt (lt_succ_of_lt lS)⟩
 have nw:h1.objs.size∉[s.heap.objs.size]:=fun z=>nf (by simp at z⊢;exact .inl z)
 have st0:(h1.push {cls:=.type "list",data:=.seq ([]:List Value).toArray}).IsTupleIter s.heap.objs.size l 0/\(h1.push {cls:=.type "list",data:=.seq ([]:List Value).toArray}).IsTuple l vs.toArray:=by
  refine⟨⟨_,get?_push_of_some _ e1,rfl,rfl⟩,?_⟩;obtain⟨o,e,r⟩:=hl;exact⟨o,get?_push_of_some _ (k1 _ _ e),r⟩
 refine wpAny_pure ⟨plainId_quiet F.plain_min_loop _,?_⟩;refine codeAny_builtin F.entry_min_loop ?_;rw[Around.under_plainId F.plain_min_loop _];refine wpAny_bind (m:=seqItems? (.ref h1.objs.size)) (wpAny_seqItems gS rfl ?_);refine wpAny_bind (m:=tryCatch (pyNext (.ref s.heap.objs.size)) _) (wpAny_tryCatch (W.item 0 {s with heap:=h1.push {cls:=.type "list",data:=.seq ([]:List Value).toArray}} _ _ (by simpa using hn) st0 fun v h' tk hP st' kp=>?_));have gS':=kp h1.objs.size _ nw gS;refine wpAny_bind (m:=updateSeq h1.objs.size (fun _=> #[v,v])) (wpAny_updateSeq gS' rfl ?_);rw[nW];have ne:∀{b:Addr} {o:Obj},b≠h1.objs.size->h'.get? b=some o->(h'.update h1.objs.size (Obj.mapSeq fun _=> #[v,v])).get? b=some o:=fun h q=>(get?_update_other _ _ (Ne.symm h)).trans q
 have ltS:∀{b:Addr} {o:Obj},s.heap.get? b=some o->b∉[s.heap.objs.size]/\b≠h1.objs.size:=fun e=>by
  have:=lt_size e;rw[z1];exact⟨by simp;exact ne_of_lt this,ne_of_lt (lt_succ_of_lt this)⟩
 have kq:∀b o,s.heap.get? b=some o->(h'.update h1.objs.size (Obj.mapSeq fun _=> #[v,v])).get? b=some o:=fun b o e=>ne (ltS e).2 (kp b o (ltS e).1 (get?_push_of_some _ (k1 b o e)))
 refine wpAny_pure ⟨plainId_quiet F.plain_min_loop _,wQ (ok:=ok) W bt (fun i j vi vj s Q E h1 h2 h3 h4=>hcmp i j vi vj s Q E h1 (by simpa using h2) (by simpa using h3) h4) h1.objs.size nf (fun h h2 o k=>okk h h2 o fun b u hb q=>k b u (by simp;exact ne_of_lt (lt_trans hb hsz)) (by rw[z1];exact ne_of_lt (lt_succ_of_lt (lt_trans hb hsz))) q) _ 0 _ v _ rfl (by simp;omega) (aW _ fun b o e=>kq b o (k0 b o e)) (W.frame _ _ _ st' fun b hbf o q=>ne (fun z=>nf (by rw[<-z];exact hbf)) q) (by simpa [argBest]using hP) (get?_update_self _ gS' rfl) fun v' h2 tk2 hP' kp2=>?_⟩;exact hq v' h2 tk2 (by have h9:vs[argBest bt (vs.length - 1)]? =some v':=(by simpa using hP');exact h9) fun b o e=>kp2 b o (ltS (k0 b o e)).1 (ltS (k0 b o e)).2 (kq b o (k0 b o e))
end
end L2
namespace My
open PySem L2
variable {A B:Prop}
noncomputable abbrev HK:Str:=Str.ofString "abcdefghijklmnopqrstuvwxyz0123456789"
noncomputable def QY (c:Nat):Bool:=!(Builtin.Str.occurrences HK ⟨#[c]⟩ 0 HK.length 1).isEmpty
noncomputable def eM (x:Str):Bool:=decide (1<=(x.length:Int)) && decide ((x.length:Int)<=12) && x.cps.toList.all QY
theorem uK (h:A):if(!false)=true then A else B:=by rw[if_pos (show(!false)=true from rfl)];exact h
theorem vE (h:B):if(!true)=true then A else B:=by rw[if_neg (show¬(!true)=true from Bool.false_ne_true)];exact h
theorem DM {c:V} {r:List V}:D2 (c::r) 0=some c:=dW (j:=0) rfl
end My
namespace My
open PySem L2 Mr PySem.NumText
variable {x:Str}
structure Lt where
 n:Str
 d:Int
 h:Str
 row:List Str
noncomputable def Lt.P (x:Lt):PV:=.tup [.str x.n,.int x.d,.str x.h,.tup (x.row.map .str)]
theorem AN (c:Nat):QY c=true↔c∈HK.cps.toList:=by unfold QY;rw[StrLaws.found_one];exact decide_eq_true_iff
theorem OA:∀c∈HK.cps.toList,c≠32/\c≠44/\c≠10/\c≠45/\32<=c/\c<=126:=by decide+kernel
theorem G2 (h:eM x=true):∀c∈x.cps.toList,c≠32/\c≠44/\c≠10/\c≠45/\32<=c/\c<=126:=by
 unfold eM at h;rw[and_eq_true,all_eq_true]at h;exact fun c hc=>OA c ((AN c).mp (h.2 c hc))
theorem DU (h:eM x=true):1<=x.length/\x.length<=12:=by
 unfold eM at h;rw[and_eq_true,and_eq_true]at h;have h1:=of_decide_eq_true h.1.1;have h2:=of_decide_eq_true h.1.2;omega
theorem FZ (h1:1<=x.length) (h2:x.length<=12) (h:∀c∈x.cps.toList,c∈HK.cps.toList):eM x=true:=by
 unfold eM;rw[and_eq_true,and_eq_true,all_eq_true];exact⟨⟨decide_eq_true (by omega),decide_eq_true (by omega)⟩,fun c hc=>(AN c).mpr (h c hc)⟩
theorem jZ (y:Str) (ps:List Str):Txt.join y ps=Str.join y ps:=by
 show Builtin.Str.glued _ ps=_;rw[StrLaws.glued_eq_join]
theorem tV (a b:Str):(a++b).cps.toList=a.cps.toList++b.cps.toList:=by rw[Str.cps_append,Array.toList_append]
structure Lt.Ok (x:Lt):Prop where
 nm:eM x.n=true
 d0:0<=x.d
 d1:x.d<=99999999
 hd:x.h.length<=60/\∀c∈x.h.cps.toList,32<=c/\c<=126
 lr:x.row.length<=9
 nF:∀z∈x.row,eM z=true
theorem CJ (y:Str):Txt.join y []=Str.empty:=by rw[jZ];rfl
theorem mem_join {y:Str} {c:Nat}:∀{ps:List Str},c∈(Txt.join y ps).cps.toList->c∈y.cps.toList\/ ∃p∈ps,c∈p.cps.toList
 |[],h=>by rw[CJ]at h;cases h
 |[p],h=>by rw[jZ]at h;exact .inr ⟨p,mem_cons_self,h⟩
 | p::q::r,h=>by
  have ih:=mem_join (y:=y) (c:=c) (ps:=q::r);rw[jZ]at h ih;have h:c∈(p++y++Str.join y (q::r)).cps.toList:=h;rw[tV,tV,mem_append,mem_append]at h;rcases h with(h|h)|h
  .exact .inr ⟨p,mem_cons_self,h⟩
  .exact .inl h
  .rcases ih h with h|⟨z,h1,h2⟩
   .exact .inl h
   .exact .inr ⟨z,mem_cons_of_mem _ h1,h2⟩
end My
namespace L2
open PySem PySem.Spec PyProof.Rows
theorem BL:entryFor table "dict.update.loop"=some Builtin.«dict.update.loop»:=entryFor_of_tree (by kernel_rfl)
theorem kD:plainId "dict.update.loop"=true:=by decide+kernel
section
variable {prog:Program} {w:World} {A:Around} {R:Result->Shared->Prop} {I:Addr} {fp wr:List Addr} {n:Nat} {Pz:Nat->Value->Prop} {Sz:Nat->Heap->Prop} {K:Type} [DecidableEq K] {knd:KeyKind prog w K}
def vR (knd:KeyKind prog w K) (h:Heap) (v:Value) (z:K×Value):Prop:=∃r key c dd sl,v= .ref r/\h.get? r=some {cls:=.type "tuple",dict:=dd,data:=.seq #[key,z.2] c,slots:=sl}/\knd.is z.1 key=true
theorem E1 {ok:Heap->Prop} {ps:List (K×Value)} (W:Walks prog w A.in1 I fp wr n Pz Sz) (D:Addr) (nf:D∉fp) (hn:ps.length=n) (okk:∀h h',ok h->(∀b o,b∉wr->b≠D->h.get? b=some o->h'.get? b=some o)->ok h')
  (hpair:∀(h:Heap) (j:Nat) (v:Value),ok h->Pz j v->∃z,ps[j]? =some z/\vR knd h v z):
  ∀(m i:Nat) (s:Shared) (kvs:List (K×Value)) (tk:Tok),n - i=m->i<=n->ok s.heap->Sz i s.heap->s.heap.DictOf knd D kvs->kvs.length+m<=sizeLine->
  (∀h' tk',h'.DictOf knd D ((ps.drop i).foldl (fun d z=>stored d z.1 z.2) kvs)->(∀b o,b∉wr->b≠D->s.heap.get? b=some o->h'.get? b=some o)->R (.ok (.ret .none)) {s with heap:=h',toks:=tk'})->
  codeAny (model prog w) A (.builtin "dict.update.loop" ⟨[.ref D,.ref I,.int (i:Int) tk,.none],[]⟩) R s:=by
 have nw:D∉wr:=fun h=>nf (W.sub _ h)
 intro m
 induction m with
 |zero=>
  intro i s kvs tk hm hi aW st hd hz hR;have e:i=n:=by omega
  refine codeAny_builtin BL ?_;rw[Around.under_plainId kD _];refine wpAny_bind (m:=pyNext (.ref I)) (W.done s _ _ (e▸st) fun h' tk kp=>?_);refine wpAny_bind (m:=Builtin.Dict.addKeywords D []) (wpAny_pure (wpAny_pure ?_));refine hR h' tk ?_ fun b o h1 _ q=>kp b o h1 q
  rw[List.drop_of_length_le (by omega)];obtain⟨o,es,ep,ho,rest⟩:=hd;exact⟨o,es,ep,kp D o nw ho,rest⟩
 | succ m ih=>
  intro i s kvs tk hm hi aW st hd hz hR;have hlt:i<n:=by omega
  refine codeAny_builtin BL ?_;rw[Around.under_plainId kD _];refine wpAny_bind (m:=pyNext (.ref I)) (W.item i s _ _ hlt st fun v h' tk' hP st' kp=>?_);have ok':ok h':=okk _ _ aW fun b o h1 _ q=>kp b o h1 q
  obtain⟨z,hz1,r,key,c,dd,sl,rfl,hr,hk⟩:=hpair h' i v ok' hP;have hd':h'.DictOf knd D kvs:=by
   obtain⟨o,es,ep,ho,rest⟩:=hd;exact⟨o,es,ep,kp D o nw ho,rest⟩
  refine wpAny_bind (wpAny_holding ?_);refine wpAny_bind (wpAny_tryCatch ?_);unfold Builtin.Dict.pairItems;refine wpAny_bind (wpAny_typeOf (s:={s with heap:=h',toks:=tk'}) (T:="tuple") ⟨_,hr,rfl⟩ ?_);rw[if_pos (by decide)];refine wpAny_bind (wpAny_seqItems hr rfl (wpAny_pure ?_));refine wpAny_holding (wpAny_dictSet_pairs (hsz:=by omega) hk hd' fun h2 hd2 hs2=>?_);have ne:∀{b:Addr} {o:Obj},b≠D->h'.get? b=some o->h2.get? b=some o:=fun hb q=>hs2.extBut _ _ hb q
  have hl:=stored_length_le kvs z.1 z.2;refine wpAny_pure ⟨plainId_quiet kD _,?_⟩;have:=ih (i+1) {s with heap:=h2,toks:=tk'+1} (stored kvs z.1 z.2) 0 (by omega) (by omega) (okk _ _ ok' fun b o _ hb q=>ne hb q) (W.frame _ _ _ st' fun b hbf o q=>ne (fun e=>nf (by rw[<-e];exact hbf)) q) hd2 (by omega) fun h3 tk3 hd3 kp3=>?_
  .rw[show((i+1:Nat):Int)=(i:Int)+1 by omega]at this;exact this
  .refine hR h3 tk3 ?_ fun b o h1 h4 q=>kp3 b o h1 h4 (ne h4 (kp b o h1 q))
   rw[drop_eq_getElem_cons (by omega),foldl_cons];have:ps[i]'(by omega)=z:=by
    have e:=getElem?_eq_getElem (l:=ps) (i:=i) (by omega);rw[hz1]at e;exact(Option.some.inj e).symm
   rw[this];exact hd3
theorem vG {E:Value->Shared->Prop} {s:Shared} {t:Addr} {T it:String} {ot:Obj} {vs:List Value} {Sz:Addr->Nat->Heap->Prop} {ps:List (K×Value)} {Q:Value->Shared->Prop} (hh:A.handled=none) (eo:s.heap.get? t=some ot) (hc:ot.cls= .type T) (hT:(Value.type T !=Value.type "dict")=true)
  (hky:∀{A:Around} {E:Value->Shared->Prop} {s:Shared} {Q:Option Value->Shared->Prop},s.heap.get? t=some ot->A.handled=none->(∀h' tk,(∀b u,s.heap.get? b=some u->h'.get? b=some u)->Q none {s with heap:=h',toks:=tk})->wpAny (model prog w) A (getAttr? (.ref t) "keys") Q E s)
  (hit:∀{A:Around} {E:Value->Shared->Prop} {s:Shared} {Q:Value->Shared->Prop},s.heap.get? t=some ot->Q (.ref s.heap.objs.size) {s with heap:=s.heap.push {cls:=.type it,data:=.fields #[.ref t,.int 0 0]}}->wpAny (model prog w) A (pyIter (.ref t)) Q E s)
  (hw:∀{A:Around} (I:Addr),A.handled=none->t≠I->Walks prog w A I [I,t] [I] vs.toArray.size (fun i v=>vs.toArray[i]? =some v) (Sz I))
  (hs:∀{h:Heap} {I:Addr},h.get? I=some {cls:=.type it,data:=.fields #[.ref t,.int 0 0]}->h.get? t=some ot->Sz I 0 h) (hz:ps.length<=sizeLine)
  (hp:∀(j:Nat) (v:Value),vs[j]? =some v->∃z,ps[j]? =some z/\vR knd s.heap v z) (hl:ps.length=vs.length)
  (hq:∀h' tk,h'.DictOf knd s.heap.objs.size (ps.foldl (fun d z=>stored d z.1 z.2) [])->(∀b o,s.heap.get? b=some o->h'.get? b=some o)->Q (.ref s.heap.objs.size) {s with heap:=h',toks:=tk}):
  wpAny (model prog w) A (call (.type "dict") [.ref t]) Q E s:=by
 refine callType_codes (Q₁:=fun obj s₁=>obj= .ref s.heap.objs.size/\s₁={s with heap:=s.heap.push {cls:=.type "dict",data:=.dict #[]}}) F.kt_called_dict (F.kt_typeCall_dict_1 _) F.entry_dict_init (kt_code_dict_new _ ⟨rfl,rfl⟩) ?_;rintro obj s₁ ⟨rfl,rfl⟩;have hnew:(s.heap.push {cls:=.type "dict",data:=.dict #[]}).DictOf knd s.heap.objs.size []:=Heap.DictOf.new s.heap;refine⟨hnew.typeIs,F.args_dict_init_2 _ _,?_⟩;unfold Builtin.«dict.__init__»;refine wpAny_bind ?_;unfold Builtin.Dict.selfAndRest;refine wpAny_bind (wpAny_notOrdered_dict hnew.typeIs ?_);show wpAny _ _ (pure (s.heap.objs.size,[Value.ref t])) _ _ _;refine wpAny_pure ?_;show wpAny _ _ (Builtin.Dict.updateFrom "dict.__init__" s.heap.objs.size (.ref t) [] .none) _ _ _;unfold Builtin.Dict.updateFrom;have lt:t<s.heap.objs.size:=lt_size eo;have ht1:(s.heap.push {cls:=.type "dict",data:=.dict #[]}).get? t=some ot:=get?_push_of_some _ eo;refine wpAny_bind (wpAny_typeOf (s:={s with heap:=s.heap.push {cls:=.type "dict",data:=.dict #[]}}) (T:=T) ⟨_,ht1,hc⟩ ?_);rw[if_pos hT];refine wpAny_bind (hky (s:={s with heap:=s.heap.push {cls:=.type "dict",data:=.dict #[]}}) ht1 (by exact hh) fun h1 tk1 k1=>?_);simp only[Option.isNone_none,if_true];refine wpAny_bind (wpAny_rule ?_);refine wpAny_bind (hit (s:={s with heap:=h1,toks:=tk1}) (k1 _ _ ht1) ?_);refine wpAny_pure ⟨plainId_quiet kD _,?_⟩;obtain⟨od,es,ep,hod,rest⟩:=hnew;have hD1:=k1 _ _ hod;have OJ:s.heap.objs.size<h1.objs.size:=lt_size hD1;have old:∀b o,s.heap.get? b=some o->b<s.heap.objs.size:=fun b o e=>lt_size e
 have keep:∀b o,s.heap.get? b=some o->(h1.push {cls:=.type it,data:=.fields #[.ref t,.int 0 0]}).get? b=some o:=fun b o e=>get?_push_of_some _ (k1 _ _ (get?_push_of_some _ e))
 have W:=hw (A:=A.in1.in1) h1.objs.size (by exact hh) (ne_of_lt (lt_trans lt OJ));refine E1 (A:=A.in1) (knd:=knd) (ps:=ps) (ok:=fun h=>∀b o,s.heap.get? b=some o->h.get? b=some o) W s.heap.objs.size ?_ (by rw[size_toArray];exact hl) (fun h h' o kk b u e=>kk b u ?_ ?_ (o b u e)) (fun h j v o hv=>?_) _ 0 _ [] 0 rfl (zero_le _) keep ?_ ⟨od,es,ep,get?_push_of_some _ hD1,rest⟩ ?_ fun h' tk' hd' kp=>?_
 .simp only[mem_cons,not_mem_nil,or_false,not_or];exact⟨ne_of_lt OJ,ne_of_gt lt⟩
 .simp only[mem_cons,not_mem_nil,or_false];exact ne_of_lt (lt_trans (old b u e) OJ)
 .exact ne_of_lt (old b u e)
 .obtain⟨z,h1,r,key,c,dd,sl,e,g,k⟩:=hp j v (by simpa using hv);exact⟨z,h1,r,key,c,dd,sl,e,o _ _ g,k⟩
 .exact hs (get?_push_size _ rfl) (get?_push_of_some _ (k1 _ _ ht1))
 .rw[size_toArray,<-hl];simp;exact hz
 .refine⟨rfl,hq h' tk' hd' fun b o e=>kp b o ?_ (ne_of_lt (old b o e)) (keep b o e)⟩;simp only[mem_cons,not_mem_nil,or_false];exact ne_of_lt (lt_trans (old b o e) OJ)
end
end L2
namespace Mr
open PySem PySem.Spec L2
inductive tZ (K:Frag) (H:Hp):List V->List (Key×V)->Prop
 |nil:tZ K H [] []
 |cons {r:Addr} {k:Key} {x:V} {vs:List V} {kvs:List (Key×V)}:bO K H r [kV k,x]->tZ K H vs kvs->tZ K H (.ref r::vs) ((k,x)::kvs)
section
variable {X:Cx}
theorem pairs_at {K:Frag} {pins:List (Addr×Obj)} {s:Shared} {σ:St} {H:Hp} (hK:X.K=K) (I:Inv X pins σ H s):∀{ys:List V} {kvs:List (Key×V)} {us:List Value},tZ K H ys kvs->Vals ys us->∃ps:List (Key×Value),KV kvs ps/\ps.length=us.length/\∀(j:Nat) (v:Value),us[j]? =some v->∃z,ps[j]? =some z/\vR (aX X.prog X.w) s.heap v z
 |_,_,_,.nil,.nil=>⟨[],.nil,rfl,fun _ _ h=>by simp at h⟩
 | _,_,_,.cons (k:=k) (x:=x) h r,.cons rv rr=>by
  obtain⟨ps,h1,h2,h3⟩:=pairs_at hK I r rr;subst hK;obtain⟨its,v2,⟨o,eo,hc,n,hd⟩,_⟩:=I.tuple h;obtain⟨u1,u2,e,r1,r2⟩:=vals2 v2;subst e;cases rv;refine⟨(k,u2)::ps,.cons ⟨rfl,r2⟩ h1,by simp[h2],fun j v hj=>?_⟩;cases j with
  |zero=>
   simp at hj;subst hj;obtain⟨c,dd,dt,sl⟩:=o;simp only at hc hd;subst hc hd;exact⟨_,rfl,_,u1,n,dd,sl,rfl,eo,jX r1⟩
  |succ j=>
   obtain⟨z,e1,e2⟩:=h3 j v (by simpa using hj);exact⟨z,by simpa using e1,e2⟩
theorem B3:∀{kvs:List (Key×V)} {ps:List (Key×Value)} {d:List (Key×V)} {d':List (Key×Value)},KV kvs ps->KV d d'->KV (kvs.foldl (fun d z=>putK d z.1 z.2) d) (ps.foldl (fun d z=>stored d z.1 z.2) d')
 |_,_,_,_,.nil,h=>h
 |_,_,_,_,.cons (a:=x) (b:=y) h r,h'=>by
  obtain⟨k,v⟩:=x;obtain⟨k',v'⟩:=y;obtain⟨e,hv⟩:=h;have e:k=k':=e;subst e;rw[foldl_cons,foldl_cons];exact B3 r (KV.put h' k hv)
theorem w8:∀(kvs d:List (Key×V)),(kvs.foldl (fun d z=>putK d z.1 z.2) d).length<=d.length+kvs.length
 |[],d=>le_refl _
 |z::kvs,d=>by
  have h:=w8 kvs (putK d z.1 z.2);have l:(putK d z.1 z.2).length<=d.length+1:=by unfold putK;split<;>simp
  rw[foldl_cons,length_cons];omega
end
end Mr
namespace L2
open PySem PySem.Spec PyProof.Rows
variable {E:Value->Shared->Prop}
theorem zY:typeLookup (.type "list") "keys"=pure none:=by rw[typeLookup_type,builtinLookup_eq_fast];kernel_rfl
theorem y7 {prog:Program} {w:World} {A:Around} {s:Shared} {a:Addr} {o:Obj} {xs:Array Value} {k:Nat} {Q:Option Value->Shared->Prop}
  (hx:s.heap.get? a=some o) (hc:o.cls= .type "list") (hdat:o.data= .seq xs k) (hd:o.dict=none) (hA:A.handled=none)
  (h:∀h' tk,(∀b u,s.heap.get? b=some u->h'.get? b=some u)->Q none {s with heap:=h',toks:=tk}):wpAny (model prog w) A (getAttr? (.ref a) "keys") Q E s:=by
 obtain⟨c,DE,dat,sl⟩:=o;simp only at hc hdat hd;subst hc hdat hd;obtain⟨hp,g,d,tk,os⟩:=s;have hT:∀tk',(⟨hp,g,d,tk',os⟩:Shared).TypeIs (.ref a) "list":=fun _=>⟨_,hx,rfl⟩
 have f1:=sub_AttributeError;have f3:=F.slot_list_getattribute.lookup;have f4:=F.slot_list_getattribute.bind (.ref a);have f5:=am_list_getattr_none;unfold getAttr? getAttrBy? getAttrBy
 repeat(any_goals(first|assumption|exact hT _|((with_reducible show wpAny _ _ (call (Value.builtin "list.__getattribute__") _ _) _ _ _);refine call_meets F.slot_list_getattribute (hT _) am_entry_list_getattribute (F.args_list_getattribute_2 _ _) (meets_getattribute_miss_list a xs k sl "keys" _ zY (by decide+kernel) (by decide)) ⟨hx,hA,fun h' tk' e hx'=>?_⟩)|wp_step))
 obtain⟨t',u',he⟩:=hx'.there;show wpAny _ _ (getattributeRaised _ _ _ _ _ _ _) _ _ _;unfold getattributeRaised
 repeat(any_goals(first|assumption|wp_step))
 exact h h' tk' hx'.keeps
section
variable {prog:Program} {w:World} {A:Around} {R:Result->Shared->Prop} {I:Addr} {fp wr:List Addr} {n:Nat} {Pz:Nat->Value->Prop} {Sz:Nat->Heap->Prop} {K:Type} [DecidableEq K] {knd:KeyKind prog w K}
theorem oB {s:Shared} {t:Addr} {vs:List Value} {ps:List (K×Value)} {Q:Value->Shared->Prop} (hh:A.handled=none) (ht:s.heap.IsList t vs.toArray) (nd:∀o,s.heap.get? t=some o->o.dict=none) (hz:ps.length<=sizeLine)
  (hp:∀(j:Nat) (v:Value),vs[j]? =some v->∃z,ps[j]? =some z/\vR knd s.heap v z) (hl:ps.length=vs.length)
  (hq:∀h' tk,h'.DictOf knd s.heap.objs.size (ps.foldl (fun d z=>stored d z.1 z.2) [])->(∀b o,s.heap.get? b=some o->h'.get? b=some o)->Q (.ref s.heap.objs.size) {s with heap:=h',toks:=tk}):
  wpAny (model prog w) A (call (.type "dict") [.ref t]) Q E s:=by
 obtain⟨ot,eo,hc,c,hd⟩:=ht;exact vG (knd:=knd) (it:="list_iterator") hh eo hc (by decide) (fun e1 e2 q=>y7 e1 hc hd (nd _ eo) e2 q) (fun e q=>wpAny_pyIter_list ⟨ot,e,hc,c,hd⟩ q) (fun I h n=>Walks.list h I t n vs.toArray) (fun e1 e2=>⟨⟨_,e1,rfl,rfl⟩,⟨ot,e2,hc,c,hd⟩⟩) hz hp hl hq
end
end L2
namespace Mr
open PySem PySem.Spec L2
def M5 (K:Frag):List V->Hp->VK->Prop:=fun xs H Q=>∃(t:Addr) (ys:List V) (kvs:List (Key×V)),xs=[.ref t]/\bM K H t ys/\tZ K H ys kvs/\kvs.length<=sizeLine/\∀p ep,H p=none->Q (.ref p) (upd H p (.dK (kvs.foldl (fun d z=>putK d z.1 z.2) []) ep))
section
variable {X:Cx}
theorem MS (K:Frag) (hK:X.K=K:=by rfl) (hc:X.calm=true:=by rfl):eU X (.type "dict") (M5 K):=by
 intro pins s σ H xs us Q I r ⟨t,ys,kvs,e,ht,hp,hz,q⟩;subst e;obtain⟨u,rfl,rx⟩:=vals1 r;cases rx;obtain⟨its,v2,tt,_⟩:=I.list (hK▸ht);obtain⟨ps,h1,h2,h3⟩:=pairs_at hK I hp v2;refine oB (knd:=aX X.prog X.w) (ps:=ps) (by exact I.ok.hd hc) tt.isList (fun o e=>?_) (by rw[<-h1.length];exact hz) h3 h2 fun h' tk dd kp=>?_
 .obtain⟨c,n,hx,_,hd,_⟩:=tt;rw[hx]at e;cases e;exact hd
 obtain⟨ep,da⟩:=dd.dictAt;have hb:=I.big;refine⟨.ref s.heap.objs.size,_,I.laid (t':=tk) (o:=.dK (kvs.foldl (fun d z=>putK d z.1 z.2) []) ep) kp (le_refl _) ⟨?_,?_,_,B3 h1 .nil,da⟩,rfl,q _ ep (I.aW.fresh (le_refl _))⟩
 .have:=w8 kvs [];rw[length_nil]at this;omega
 .exact beq_eq_false_iff_ne.mpr (ne_of_gt hb)
end
end Mr
namespace My
open PySem L2 Mr
variable {H:Hp} {x:Lt} {v:V}
noncomputable abbrev EM:Str:=Str.ofString ""
theorem GQ:EM.cps.toList=[]:=by decide+kernel
structure nH (H:Hp) (v:V) (x:Lt):Prop where
 tr:Tr H x.P v
 ok:x.Ok
theorem nH.kp {H':Hp} (h:nH H v x) (k:eP H H'):nH H' v x:=⟨h.tr.kp k,h.ok⟩
theorem rB:∀{row:List Str} {vs:List V},g9 H (row.map PV.str) vs->vs=row.map V.str
 |[],_,.nil=>rfl
 |x::xs,_,.cons h r=>by cases h;rw[rB r];rfl
theorem nH.at' (h:nH H v x):∃a r,v= .ref a/\H a=some (.tup [.str x.n,.int x.d,.str x.h,.ref r])/\H r=some (.tup (x.row.map V.str)):=by
 obtain⟨a,us,e,ha,hu⟩:=h.tr.P1;cases hu with
 | cons h1 hu=>cases hu with
  | cons h2 hu=>cases hu with
   | cons h3 hu=>cases hu with
    |cons h4 hu=>
     cases hu;cases h1;cases h2;cases h3
     obtain⟨r,ws,e2,hr,hw⟩:=h4.P1;subst e2;rw[rB hw]at hr;exact⟨a,r,e,ha,hr⟩
theorem nH.of {a r:Addr} (ha:H a=some (.tup [.str x.n,.int x.d,.str x.h,.ref r])) (hr:H r=some (.tup (x.row.map V.str))) (ok:x.Ok):nH H (.ref a) x:=
 ⟨.tup ha (.cons (.str _) (.cons (.int _) (.cons (.str _) (.cons (.tup hr g9.strs) .nil)))),ok⟩
theorem s0:EM.length=0:=by decide+kernel
theorem P2 (a b:Str):(a++b).length=a.length+b.length:=strLen_append a b
theorem join_le (z:Str) (ys:List Str):(Txt.join z ys).length<=(ys.map (·.length)).sum+ys.length*z.length:=by
 rw[jZ];exact StrLaws.join_length_le z ys
theorem G3 {z:Str} {ys:List Str} (h:ys≠[]) (h1:∀y∈ys,1<=y.length):1<=(Txt.join z ys).length:=by
 rw[jZ]
 match ys,h,h1 with
 |[x],_,h1=>exact h1 x mem_cons_self
 |x::y::r,_,h1=>
  show 1<=(x++z++Str.join z (y::r)).length;rw[P2,P2];have:=h1 x mem_cons_self;omega
theorem qC {Pr:Str->Prop}:∀{ys:List V},(∀y∈ys,∃x:Str,y= .str x/\Pr x)->∃zs:List Str,ys=zs.map V.str/\(∀z∈zs,Pr z)
 |[],_=>⟨[],rfl,fun _ h=>nomatch h⟩
 |y::ys,h=>by
  obtain⟨zs,e,hz⟩:=qC (ys:=ys) fun z hz=>h z (mem_cons_of_mem _ hz)
  obtain⟨x,rfl,hx⟩:=h y mem_cons_self;refine⟨x::zs,by rw[e];rfl,fun z hz'=>?_⟩;rcases mem_cons.mp hz' with r|r
  .rw[r];exact hx
  .exact hz z r
theorem DQ {Z:Str} {zs:List Str} (hZ:∀c∈Z.cps.toList,c∈HK.cps.toList) (hz:∀z∈zs,z.length=1/\∀c∈z.cps.toList,c∈Z.cps.toList) (h0:1<=zs.length) (h1:zs.length<=12):eM (Txt.join EM zs)=true:=by
 refine FZ (G3 (by intro z;rw[z]at h0;simp at h0) fun y hy=>by rw[(hz y hy).1];exact le_refl _) ?_ fun c hc=>?_
 .have h:=join_le EM zs;rw[wO fun y hy=>(hz y hy).1,s0]at h;omega
 .rcases mem_join hc with h|⟨q,hq,h⟩
  .rw[GQ]at h;cases h
  .exact hZ c ((hz q hq).2 c h)
theorem strAt {row:List Str} {i:Nat} {x:V} (h:(row.map V.str)[i]? =some x):∃n,row[i]? =some n/\x= .str n:=by
 rw[getElem?_map]at h;cases e:row[i]? with
 |none=>rw[e]at h;cases h
 |some n=>rw[e]at h;exact⟨n,rfl,(Option.some.inj h).symm⟩
theorem P5:nY 3 x.P=true/\kY 8 x.P=true:=by
 have h:∀n,nY (n+2) x.P=true:=fun n=>by
  show([PV.str x.n,PV.int x.d,PV.str x.h,PV.tup (x.row.map PV.str)]).all (nY (n+1))=true;have hr:nY (n+1) (PV.tup (x.row.map PV.str))=true:=all_eq_true.mpr fun p hp=>by obtain⟨z,_,rfl⟩:=mem_map.mp hp;cases n<;>rfl
  simp only[all_cons,List.all_nil,hr,Bool.and_true];rfl
 exact⟨h 1,p0 (h 6)⟩
theorem lG (n:Nat):∀xs ys:List Str,(cN (fJ n) (xs.map PV.str) (ys.map PV.str)).isSome=true
 |[],[]=>rfl
 |[],_::_=>rfl
 |_::_,[]=>rfl
 |x::xs,y::ys=>by
  rw[map_cons,map_cons];unfold cN;split
  .exact lG n xs ys
  .cases n<;>rfl
theorem QF (l k:Lt):(fJ 3 l.P k.P).isSome=true:=by
 show(cN (fJ 2) [PV.str l.n,PV.int l.d,PV.str l.h,PV.tup (l.row.map PV.str)] [PV.str k.n,PV.int k.d,PV.str k.h,PV.tup (k.row.map PV.str)]).isSome=true;unfold cN;split
 .unfold cN;split
  .unfold cN;split
   .unfold cN;split
    .rfl
    .exact lG 1 _ _
   .rfl
  .rfl
 .rfl
theorem FW (ls:List Lt):bV 3 (ls.map Lt.P)=true:=all_eq_true.mpr fun p hp=>by
 obtain⟨l,_,rfl⟩:=mem_map.mp hp;rw[and_eq_true];refine⟨P5.1,all_eq_true.mpr fun q hq=>?_⟩;obtain⟨k,_,rfl⟩:=mem_map.mp hq;exact QF l k
theorem sZ:∀{ps:List PV} {ls:List Lt},ps.Perm (ls.map Lt.P)->∃ks:List Lt,ks.Perm ls/\ps=ks.map Lt.P
 |[],ls,h=>by have:=h.nil_eq;rw[List.eq_nil_of_map_eq_nil this.symm];exact⟨[],.refl _,rfl⟩
 | p::ps,ls,h=>by
  obtain⟨a,l,b,e⟩:∃a l b,ls=a++l::b/\l.P=p:=by
   obtain⟨l,hl,e⟩:=mem_map.mp (h.mem_iff.mp mem_cons_self);obtain⟨a,b,e2⟩:=List.append_of_mem hl;exact⟨a,l,b,e2,e⟩
  obtain⟨e,rfl⟩:=e;have hp:ls.Perm (l::(a++b)):=by rw[e];exact List.perm_middle
  obtain⟨ks,k1,k2⟩:=sZ (ps:=ps) (ls:=a++b) ((h.trans (hp.map _)).cons_inv);exact⟨l::ks,(k1.cons l).trans hp.symm,by rw[k2];rfl⟩
end My
namespace Rg
variable {α:Type}
noncomputable def cJ (up:α->Option α):Nat->α->Option α
 |0,x=>some x
 |n+1,x=>(up x).bind (cJ up n)
def jD (up:α->Option α) (x:α):Prop:=∃n,cJ up (n+1) x=some x
def Path (up:α->Option α):List α->Option α->Prop
 |[],_=>True
 |[x],e=>up x=e
 |x::y::l,e=>up x=some y/\Path up (y::l) e
structure Ring (up:α->Option α) (l:List α):Prop where
 ne:l≠[]
 nd:l.Nodup
 path:Path up l l.head?
def uH (up:α->Option α) (T:α->Prop):Prop:=∀x y,T x->up x=some y->T y
variable {up:α->Option α}
theorem fB:∀(m n:Nat) (x:α),cJ up (m+n) x=(cJ up m x).bind (cJ up n)
 |0,n,x=>by rw[zero_add];rfl
 |m+1,n,x=>by
  rw[Nat.add_right_comm];show(up x).bind (cJ up (m+n))=((up x).bind (cJ up m)).bind (cJ up n);cases up x with
  |none=>rfl
  |some y=>exact fB m n y
theorem uH.walk {T:α->Prop} (h:uH up T):∀(n:Nat) {x y:α},T x->cJ up n x=some y->T y
 |0,_,_,hx,e=>by cases e;exact hx
 |n+1,x,y,hx,e=>by
  cases c:up x with
  |none=>rw[cJ,c]at e;cases e
  |some z=>rw[cJ,c]at e;exact h.walk n (h x z hx c) e
theorem AS {x:α} {n:Nat} (h:cJ up n x=some x):∀k,cJ up (k*n) x=some x
 |0=>by rw[Nat.zero_mul];rfl
 |k+1=>by rw[Nat.succ_mul,fB,AS h k];exact h
theorem jD.back {x:α} (h:jD up x) (m:Nat):∃y j,cJ up m x=some y/\cJ up j y=some x:=by
 obtain⟨n,h⟩:=h;have k:=AS h m;have e:m*(n+1)=m+m*n:=by rw[mul_succ,add_comm]
 rw[e,fB]at k;cases c:cJ up m x with
 |none=>rw[c]at k;cases k
 |some y=>rw[c]at k;exact⟨y,_,rfl,k⟩
theorem Path.nZ:∀{l:List α} {e:Option α} {i:Nat} {x:α},Path up l e->l[i]? =some x->cJ up (l.length - i) x=e
 |[],_,_,_,_,h=>by simp at h
 |[a],e,0,x,p,h=>by
  cases h;show(up a).bind (cJ up 0)=e;rw[show up a=e from p];cases e<;>rfl
 |[a],e,i+1,x,p,h=>by simp at h
 |a::b::l,e,0,x,p,h=>by
  cases h;show(up a).bind (cJ up (b::l).length)=e;rw[p.1];exact Path.nZ (l:=b::l) (i:=0) p.2 rfl
 |a::b::l,e,i+1,x,p,h=>by
  have:=Path.nZ (l:=b::l) (i:=i) p.2 (by simpa using h);simpa using this
theorem Path.drop:∀{l:List α} {e:Option α} (n:Nat),Path up l e->Path up (l.drop n) e
 |_,_,0,p=>p
 |[],_,_+1,p=>p
 |[a],_,n+1,p=>by simp[Path]
 |a::b::l,e,n+1,p=>by
  rw[List.drop_succ_cons];exact Path.drop n p.2
theorem Path.snoc:∀{l:List α} {x:α} {e:Option α},Path up l (some x)->up x=e->Path up (l++[x]) e
 |[],x,e,_,h=>h
 |[a],x,e,p,h=>⟨p,h⟩
 |a::b::l,x,e,p,h=>⟨p.1,Path.snoc (l:=b::l) p.2 h⟩
theorem Path.step:∀{l:List α} {e:Option α} {x:α},Path up l e->x∈l->(∃y∈l,up x=some y)\/ up x=e
 |[],_,_,_,h=>by simp at h
 |[a],e,x,p,h=>by
  rw[mem_singleton.mp h];exact .inr p
 | a::b::l,e,x,p,h=>by
  rcases mem_cons.mp h with rfl|h
  .exact .inl ⟨b,by simp,p.1⟩
  .rcases Path.step (l:=b::l) p.2 h with⟨y,hy,e⟩|e
   .exact .inl ⟨y,mem_cons_of_mem _ hy,e⟩
   .exact .inr e
theorem Path.no {l:List α} {e:Option α} {x:α} (p:Path up l e) (hx:x∈l) (h:∀y,e=some y->∀j,cJ up j y≠some x):¬jD up x:=fun c=>by
 obtain⟨i,hi⟩:=getElem?_of_mem hx;obtain⟨y,j,h1,h2⟩:=c.back (l.length - i);rw[p.nZ hi]at h1;exact h y h1 j h2
theorem Ring.closed {l:List α} (r:Ring up l):uH up fun x=>x∈l:=fun x y hx e=>by
 rcases r.path.step hx with⟨z,hz,e'⟩|e'
 .rw[e]at e';cases e';exact hz
 .rw[e]at e';cases l with
  |nil=>exact absurd rfl r.ne
  |cons a l=>cases e';simp
theorem Ring.turn {l:List α} (r:Ring up l) {x:α} (hx:x∈l):cJ up l.length x=some x:=by
 cases l with
 |nil=>exact absurd rfl r.ne
 | cons a l=>
  obtain⟨i,hi⟩:=getElem?_of_mem hx;have hl:i<(a::l).length:=(List.getElem?_eq_some_iff.mp hi).1;have h1:=r.path.nZ hi;have h0:=r.path.nZ (l:=a::l) (i:=0) (x:=a) rfl;have ha:∀j,j<=(a::l).length->∀z,(a::l)[j]? =some z->cJ up j a=some z:=by
   intro j
   induction j with
   |zero=>intro _ z hz;cases hz;rfl
   |succ j ih=>
    intro hj z hz;have hj':j<(a::l).length:=by omega
    have e1:=ih (by omega) _ (getElem?_eq_getElem hj');rw[fB j 1,e1];have e2:=r.path.nZ (getElem?_eq_getElem hj');have e3:=r.path.nZ hz;have hlt:j+1<(a::l).length:=(List.getElem?_eq_some_iff.mp hz).1;have:Path up ((a::l).drop j) (a::l).head?:=r.path.drop j;rw[drop_eq_getElem_cons hj',drop_eq_getElem_cons hlt]at this;show(up _).bind (cJ up 0)=_;rw[this.1];rw[getElem?_eq_getElem hlt]at hz;cases hz;rfl
  have e2:=ha i (by omega) x hi;have e3:cJ up ((a::l).length - i+i) x=some x:=by
   rw[fB,h1];exact e2
  have:(a::l).length - i+i=(a::l).length:=by omega
  rw[this]at e3;exact e3
theorem Ring.jD {l:List α} (r:Ring up l) {x:α} (hx:x∈l):jD up x:=by
 refine⟨l.length - 1,?_⟩;have:0<l.length:=length_pos_of_mem hx;rw[show l.length - 1+1=l.length by omega];exact r.turn hx
structure Found (up:α->Option α) (S:List α) (F:List (List α)):Prop where
 cl:uH up fun x=>x∈S
 ring:∀R∈F,Ring up R
 sub:∀R∈F,∀x∈R,x∈S
 nd:F.flatten.Nodup
 all:∀x∈S,jD up x->x∈F.flatten
theorem Found.nil:Found up [] []:=⟨fun x y h=>by simp at h,by simp,by simp,by simp,by simp⟩
theorem Found.out {S:List α} {F:List (List α)} {l:List α} {e:Option α} (f:Found up S F) (p:Path up l e) (hd:∀x∈l,x∉S) (h:∀y,e=some y->y∈S):Found up (S++l) F where
 cl:=fun x y hx u=>by
  rcases mem_append.mp hx with hx|hx
  .exact mem_append_left _ (f.cl x y hx u)
  .rcases p.step hx with⟨z,hz,e'⟩|e'
   .rw[u]at e';cases e';exact mem_append_right _ hz
   .rw[u]at e';exact mem_append_left _ (h y e'.symm)
 ring:=f.ring
 sub:=fun R hR x hx=>mem_append_left _ (f.sub R hR x hx)
 nd:=f.nd
 all:=fun x hx c=>by
  rcases mem_append.mp hx with hx|hx
  .exact f.all x hx c
  .exact absurd c (p.no hx fun y ey j ej=>hd x hx (f.cl.walk j (h y ey) ej))
theorem Found.QD {S:List α} {F:List (List α)} {p r:List α} (f:Found up S F) (hr:r≠[]) (hp:Path up (p++r) r.head?) (nd:(p++r).Nodup) (hd:∀x∈p++r,x∉S):Found up (S++(p++r)) (F++[r]):=by
 obtain⟨nd1,nd2,nd3⟩:=nodup_append.mp nd;have R:Ring up r:=⟨hr,nd2,by have:=hp.drop p.length;rwa[List.drop_left]at this⟩;refine⟨fun x y hx u=>?_,fun Q hQ=>?_,fun Q hQ x hx=>?_,?_,fun x hx c=>?_⟩
 .rcases mem_append.mp hx with hx|hx
  .exact mem_append_left _ (f.cl x y hx u)
  .rcases hp.step hx with⟨z,hz,e'⟩|e'
   .rw[u]at e';cases e';exact mem_append_right _ hz
   .rw[u]at e';cases r with
    |nil=>exact absurd rfl hr
    |cons a r=>cases e';exact mem_append_right _ (mem_append_right _ (by simp))
 .rcases mem_append.mp hQ with h|h
  .exact f.ring Q h
  .rw[mem_singleton.mp h];exact R
 .rcases mem_append.mp hQ with h|h
  .exact mem_append_left _ (f.sub Q h x hx)
  .rw[mem_singleton.mp h]at hx;exact mem_append_right _ (mem_append_right _ hx)
 .rw[List.flatten_append];refine nodup_append.mpr ⟨f.nd,by simpa using nd2,fun x hx y hy e=>?_⟩;subst e;obtain⟨Q,hQ,hx⟩:=mem_flatten.mp hx;exact hd x (mem_append_right _ (by simpa using hy)) (f.sub Q hQ x hx)
 .rw[List.flatten_append];rcases mem_append.mp hx with hx|hx
  .exact mem_append_left _ (f.all x hx c)
  .rcases mem_append.mp hx with hx|hx
   .refine absurd c (Path.no (l:=p++r) hp (mem_append_left _ hx) fun y ey j ej=>?_);have hy:y∈r:=by
     cases r with
     |nil=>cases ey
     |cons a r=>cases ey;simp
    exact nd3 x hx x (R.closed.walk j hy ej) rfl
   .exact mem_append_right _ (by simpa using hx)
end Rg
namespace My
open PySem L2
variable {ab:Hl} {o:Option Str} {x y:Str}
abbrev Hl:=List (Str×Option Str)
noncomputable def oV:Option Str->V
 |none=>.aU
 |some s=>.str s
theorem M4:∀{a b:Option Str},oV a=oV b->a=b
 |none,none,_=>rfl
 |some _,some _,h=>by cases h;rfl
 |none,some _,h=>by cases h
 |some _,none,h=>by cases h
noncomputable def bK (ab:Hl):List (Key×V):=ab.map fun z=>(Sum.inr z.1,oV z.2)
noncomputable abbrev ks (ab:Hl):List Str:=ab.map (·.1)
noncomputable def aS (ab:Hl) (x:Str):Option Str:=(ab.find? fun z=>decide (z.1=x)).bind (·.2)
noncomputable def cD (ab:Hl) (x:Str) (o:Option Str):Hl:=if x∈ks ab then ab.map (fun z=>if z.1=x then(z.1,o)else z)else ab++[(x,o)]
theorem kE (x:Str):∀ab:Hl,bG (bK ab) (Sum.inr x)=(ab.find? fun z=>decide (z.1=x)).map fun z=>oV z.2
 |[]=>rfl
 |z::ab=>by
  have ih:=kE x ab
  by_cases h:z.1=x
  .rw[show bK (z::ab)=(Sum.inr z.1,oV z.2)::bK ab from rfl,bJ (show(Sum.inr z.1:Key)=Sum.inr x by rw[h]),find?_cons,decide_eq_true h];rfl
  .rw[show bK (z::ab)=(Sum.inr z.1,oV z.2)::bK ab from rfl,bD (show¬(Sum.inr z.1:Key)=Sum.inr x from fun e=>h (Sum.inr.inj e)),find?_cons,decide_eq_false h,ih]
theorem A8 (x:Str):∀ab:Hl,(ab.find? fun z=>decide (z.1=x)).isSome=decide (x∈ks ab)
 |[]=>rfl
 | z::ab=>by
  rw[find?_cons]
  by_cases h:z.1=x
  .rw[decide_eq_true h,decide_eq_true (show x∈ks (z::ab) by rw[<-h];exact mem_cons_self)];rfl
  .rw[decide_eq_false h];show(ab.find? fun z=>decide (z.1=x)).isSome=_;rw[A8 x ab];exact decide_eq_decide.mpr ⟨fun hx=>mem_cons_of_mem _ hx,fun hx=>(mem_cons.mp hx).elim (fun e=>absurd e.symm h) id⟩
theorem nN (ab:Hl) (x:Str):(bG (bK ab) (Sum.inr x)).isSome=decide (x∈ks ab):=by
 rw[kE,isSome_map];exact A8 x ab
theorem pI (ab:Hl) (x:Str):(bG (bK ab) (Sum.inr x)).getD .aU=oV (aS ab x):=by
 rw[kE];unfold aS;cases ab.find? fun z=>decide (z.1=x)<;>rfl
theorem lY {ab:Hl} {x:Str} (h:x∈ks ab):bG (bK ab) (Sum.inr x)=some (oV (aS ab x)):=by
 have h1:=nN ab x;have h2:=pI ab x;rw[decide_eq_true h]at h1;cases e:bG (bK ab) (Sum.inr x)with
 |none=>rw[e]at h1;cases h1
 |some v=>rw[e]at h2;exact congrArg some h2
theorem M6 {ab:Hl} {x:Str} (h:x∉ks ab):bG (bK ab) (Sum.inr x)=none:=by
 have h1:=nN ab x;rw[decide_eq_false h]at h1;cases e:bG (bK ab) (Sum.inr x)with
 |none=>rfl
 |some v=>rw[e]at h1;cases h1
theorem i9 (ab:Hl) (x:Str) (o:Option Str):putK (bK ab) (Sum.inr x) (oV o)=bK (cD ab x o):=by
 unfold putK cD;have h1:=nN ab x;rw[<-L2.eF]at h1;rw[h1]
 by_cases h:x∈ks ab
 .rw[decide_eq_true h,if_pos rfl,if_pos h];unfold bK;rw[map_map,map_map];refine map_congr_left fun z _=>?_
  show(if(Sum.inr z.1:Key)=Sum.inr x then _ else _)=_
  by_cases e:z.1=x
  .rw[if_pos (by rw[e])];show _=(fun z:Str×Option Str=>((Sum.inr z.1:Key),oV z.2)) (if z.1=x then _ else _);rw[if_pos e]
  .rw[if_neg (fun q=>e (Sum.inr.inj q))];show _=(fun z:Str×Option Str=>((Sum.inr z.1:Key),oV z.2)) (if z.1=x then _ else _);rw[if_neg e]
 .rw[decide_eq_false h,if_neg Bool.false_ne_true,if_neg h];unfold bK;rw[map_append];rfl
theorem fM {ab:Hl} {x:Str} (h:aS ab x=some y):(x,some y)∈ab:=by
 unfold aS at h;cases c:ab.find? fun z=>decide (z.1=x)with
 |none=>rw[c]at h;cases h
 |some z=>
  rw[c]at h;have h1:z.1=x:=of_decide_eq_true (List.find?_some (p:=fun z:Str×Option Str=>decide (z.1=x)) c);have h2:=List.mem_of_find?_eq_some c;obtain⟨a,b⟩:=z;cases h1;have h:b=some y:=h;rw[<-h];exact h2
theorem iZ (h:aS ab x=some y):x∈ks ab:=mem_map.mpr ⟨_,fM h,rfl⟩
theorem zX {ab:Hl} (nd:(ks ab).Nodup) (h:(x,o)∈ab):aS ab x=o:=by
 induction ab with
 |nil=>cases h
 | cons z ab ih=>
  unfold aS;have nd':=nodup_cons.mp nd;rw[find?_cons];rcases mem_cons.mp h with e|h
  .rw[<-e,decide_eq_true rfl];rfl
  .have ne:¬z.1=x:=fun e=>nd'.1 (mem_map.mpr ⟨(x,o),h,e.symm⟩)
   rw[decide_eq_false ne];exact ih nd'.2 h
theorem eY (ab:Hl) (x y:Str) (o:Option Str):aS (cD ab x o) y=if y=x then o else aS ab y:=by
 apply M4;rw[<-pI,<-i9,GY]
 by_cases e:y=x
 .rw[if_pos (by rw[e]),if_pos e];rfl
 .rw[if_neg (fun q=>e (Sum.inr.inj q)),if_neg e,pI]
theorem uU (ab:Hl) (x:Str) (o:Option Str):ks (cD ab x o)=if x∈ks ab then ks ab else ks ab++[x]:=by
 unfold cD
 by_cases h:x∈ks ab
 .rw[if_pos h,if_pos h];unfold ks;rw[map_map];refine map_congr_left fun z _=>?_
  show(if z.1=x then(z.1,o)else z).1=z.1;split<;>rfl
 .rw[if_neg h,if_neg h];unfold ks;rw[map_append];rfl
theorem iU:y∈ks (cD ab x o)↔y∈ks ab\/ y=x:=by
 rw[uU]
 by_cases h:x∈ks ab
 .rw[if_pos h];exact⟨.inl,fun z=>z.elim id fun e=>by rw[e];exact h⟩
 .rw[if_neg h,mem_append,mem_singleton]
theorem yV (nd:(ks ab).Nodup):(ks (cD ab x o)).Nodup:=by
 rw[uU]
 by_cases h:x∈ks ab
 .rw[if_pos h];exact nd
 .rw[if_neg h];refine nodup_append.mpr ⟨nd,by simp,fun u hu w hw e=>?_⟩;rw[mem_singleton.mp hw]at e;exact h (by rw[<-e];exact hu)
theorem dX {α:Type} [DecidableEq α]:∀{xs ys:List α},xs.Nodup->(∀x∈xs,x∈ys)->xs.length<=ys.length
 |[],_,_,_=>zero_le _
 |x::xs,ys,nd,h=>by
  rw[nodup_cons]at nd;have hx:=h x mem_cons_self;have h1:=dX (xs:=xs) (ys:=ys.erase x) nd.2 fun y hy=>(List.mem_erase_of_ne fun e=>nd.1 (by rw[<-e];exact hy)).mpr (h y (mem_cons_of_mem _ hy))
  rw[List.length_erase_of_mem hx]at h1;have h2:=length_pos_of_mem hx;rw[length_cons];omega
theorem dU (ab:Hl):(bK ab).length=ab.length:=length_map ..
end My
namespace L2
open PySem
section
variable {a:Addr} {kvs:List (Key×V)} {ep:Nat} {g:TG} {tb:TS} {D:Ends} {σ:St} {H:Hp}
def OL (J:It) (g:TG) (tb:TS) (D:Ends) (σ:St) (H:Hp):Prop:=∃W:Nat->Nat->St->Hp->Prop,(∃m,W 0 m σ H)/\∀i m σ H,W i m σ H->
 (J.stop i H/\D.nx σ H)\/ (J.go i H/\∃N:St->Hp->Prop,(∀σ' H',N σ' H'->∃m',m'<m/\W (i+1) m' σ' H')/\∀x H',J.yR i H x H'->g x σ H' fun σ2 H2=>tb {D with nx:=N,ct:=N,bk:=D.nx} σ2 H2)
theorem II {J:It} (n:Nat) (Pv:Nat->St->Hp->Prop) (h0:Pv 0 σ H) (hst:∀σ H,Pv n σ H->J.stop n H) (hgo:∀i σ H,i<n->Pv i σ H->J.go i H)
  (hs:∀i x H' σ H,i<n->Pv i σ H->J.yR i H x H'->g x σ H' fun σ2 H2=>tb {D with nx:=Pv (i+1),ct:=Pv (i+1),bk:=D.nx} σ2 H2) (hd:∀σ H,Pv n σ H->D.nx σ H):OL J g tb D σ H:=by
 refine⟨fun i m σ H=>m=n - i/\i<=n/\Pv i σ H,⟨n,by simp,zero_le _,h0⟩,?_⟩;rintro i m σ H ⟨rfl,hi,p⟩
 by_cases hlt:i<n
 .exact .inr ⟨hgo i σ H hlt p,Pv (i+1),fun σ' H' p'=>⟨n - (i+1),by omega,rfl,hlt,p'⟩,fun x H' y=>hs i x H' σ H hlt p y⟩
 .have e:i=n:=by omega
  subst e;exact .inl ⟨hst σ H p,hd σ H p⟩
theorem qW (Pv:Nat->St->Hp->Prop) (h0:Pv 0 σ H) (hl:∀i σ H,i<=kvs.length->Pv i σ H->Rd H a (.dK kvs ep))
  (hs:∀i kv σ H,kvs[i]? =some kv->Pv i σ H->g (kV kv.1) σ H fun σ2 H2=>tb {D with nx:=Pv (i+1),ct:=Pv (i+1),bk:=D.nx} σ2 H2) (hd:∀σ H,Pv kvs.length σ H->D.nx σ H):OL (QR a kvs ep) g tb D σ H:=by
 refine II kvs.length Pv h0 (fun σ H p=>⟨hl _ σ H (le_refl _) p,rfl⟩) (fun i σ H hi p=>⟨hl i σ H (le_of_lt hi) p,hi⟩) (fun i x H' σ H hi p ⟨e,y⟩=>?_) hd;subst e;rw[y _ (getElem?_eq_getElem hi)];exact hs i _ σ _ (getElem?_eq_getElem hi) p
end
end L2
namespace My
open PySem L2
variable {M ab:Hl} {H H':Hp} {F:List (List Str)} {l:List Str} {o:Option Str} {s st x:Str}
theorem cC {d:Addr} {kvs:List (Key×V)} (h:bY H d kvs) (s:aG H H'):bY H' d kvs:=let⟨ep,e⟩:=h;⟨ep,s _ _ e⟩
noncomputable def lA (S:List Str):List (Key×V):=S.map fun s=>(Sum.inr s,V.bl true)
noncomputable def nQ (S:List Str) (s:Str):List Str:=if s∈S then S else S++[s]
theorem pE (S:List Str):(lA S).length=S.length:=length_map ..
theorem GN (S:List Str):(lA S).map (·.1)=S.map Sum.inr:=by
 unfold lA;rw[map_map];rfl
theorem zL (x:Str):∀S:List Str,(bG (lA S) (Sum.inr x)).isSome=decide (x∈S)
 |[]=>rfl
 | s::S=>by
  by_cases h:s=x
  .rw[show lA (s::S)=(Sum.inr s,V.bl true)::lA S from rfl,bJ (show(Sum.inr s:Key)=Sum.inr x by rw[h]),decide_eq_true (show x∈s::S by rw[h];exact mem_cons_self)];rfl
  .rw[show lA (s::S)=(Sum.inr s,V.bl true)::lA S from rfl,bD (show¬(Sum.inr s:Key)=Sum.inr x from fun e=>h (Sum.inr.inj e)),zL x S];exact decide_eq_decide.mpr ⟨fun hx=>mem_cons_of_mem _ hx,fun hx=>(mem_cons.mp hx).elim (fun e=>absurd e.symm h) id⟩
theorem pD (S:List Str) (s:Str):putK (lA S) (Sum.inr s) (.bl true)=lA (nQ S s):=by
 unfold putK nQ;have h1:=zL s S;rw[<-L2.eF]at h1;rw[h1]
 by_cases h:s∈S
 .rw[decide_eq_true h,if_pos rfl,if_pos h];unfold lA;rw[map_map];refine map_congr_left fun z _=>?_
  show(if(Sum.inr z:Key)=Sum.inr s then((Sum.inr z:Key),V.bl true)else(Sum.inr z,V.bl true))=_;split<;>rfl
 .rw[decide_eq_false h,if_neg Bool.false_ne_true,if_neg h];unfold lA;rw[map_append];rfl
theorem mZ {S:List Str}:x∈nQ S s↔x∈S\/ x=s:=by
 unfold nQ;split
 .exact⟨.inl,fun z=>z.elim id fun e=>by rw[e];assumption⟩
 .rw[mem_append,mem_singleton]
theorem kJ {S:List Str} (h:S.Nodup):(nQ S s).Nodup:=by
 unfold nQ;split
 .exact h
 .rename_i hs;refine nodup_append.mpr ⟨h,by simp,fun u hu w hw e=>?_⟩;rw[mem_singleton.mp hw]at e;exact hs (by rw[<-e];exact hu)
noncomputable def pO:Option Str->Mr.PV
 |none=>.aU
 |some s=>.str s
noncomputable def QN (z:Str×Option Str):Mr.PV:=.tup [.str z.1,pO z.2]
theorem PX:∀o:Option Str,Tr H (pO o) (oV o)
 |none=>.aU
 |some s=>.str s
theorem MD (o:Option Str):Mr.cF (pO o) (pO o)=true:=by
 cases o with
 |none=>rfl
 |some s=>show(s==s)=true;exact beq_self_eq_true s
theorem DO (h:∀x∈ab,∀y∈ab,x.1=y.1->x.2=y.2):Mr.bV 3 (ab.map QN)=true:=by
 unfold Mr.bV;rw[all_eq_true];intro p hp;obtain⟨x,hx,rfl⟩:=mem_map.mp hp;rw[and_eq_true,all_eq_true];refine⟨by unfold QN;cases x.2<;>rfl,fun q hq=>?_⟩;obtain⟨y,hy,rfl⟩:=mem_map.mp hq;show(Mr.fJ 3 (.tup [.str x.1,pO x.2]) (.tup [.str y.1,pO y.2])).isSome=true;show(Mr.cN (Mr.fJ 2) [.str x.1,pO x.2] [.str y.1,pO y.2]).isSome=true
 by_cases e:x.1=y.1
 .rw[<-h x hx y hy e,<-e];show(if Mr.cF (.str x.1) (.str x.1)=true then Mr.cN (Mr.fJ 2) [pO x.2] [pO x.2]else _).isSome=true;rw[if_pos (show Mr.cF (.str x.1) (.str x.1)=true from beq_self_eq_true x.1)];show(if Mr.cF (pO x.2) (pO x.2)=true then Mr.cN (Mr.fJ 2) [] []else _).isSome=true;rw[if_pos (MD _)];rfl
 .show(if Mr.cF (.str x.1) (.str y.1)=true then _ else Mr.fJ 2 (.str x.1) (.str y.1)).isSome=true;rw[if_neg (show¬Mr.cF (.str x.1) (.str y.1)=true from fun z=>e (eq_of_beq (show(x.1==y.1)=true from z)))];rfl
theorem CT (ab:Hl):∀x∈ab.map QN,Mr.sD true x=true:=fun x hx=>by
 obtain⟨z,_,rfl⟩:=mem_map.mp hx;rfl
theorem gO {α β:Type} {f:α->β} {l:List β} {m:List β} (p:l.Perm m):∀{S:List α},m=S.map f->∃S':List α,S'.Perm S/\l=S'.map f:=by
 induction p with
 |nil=>
  intro S e;cases S with
  |nil=>exact⟨[],.nil,rfl⟩
  |cons a b=>cases e
 | cons x p ih=>
  intro S e;cases S with
  |nil=>cases e
  |cons a S=>
   obtain⟨e1,e2⟩:=List.cons.inj e;obtain⟨S',h1,h2⟩:=ih e2;exact⟨a::S',.cons _ h1,by rw[map_cons,h2,e1]⟩
 | swap x y l=>
  intro S e
  match S,e with
  |a::b::S,e=>
   obtain⟨e1,e2⟩:=List.cons.inj e;obtain⟨e2,e3⟩:=List.cons.inj e2;exact⟨b::a::S,.swap _ _ _,by rw[map_cons,map_cons,e1,e2,e3]⟩
 |trans p q ih1 ih2=>
  intro S e;obtain⟨S1,h1,h2⟩:=ih2 e;obtain⟨S2,h3,h4⟩:=ih1 h2;exact⟨S2,h3.trans h1,h4⟩
def FT (H:Hp) (z:Str×Option Str) (u:V):Prop:=∃b,u= .ref b/\H b=some (.tup [.str z.1,oV z.2])
theorem FT.kt (k:eP H H') {z:Str×Option Str} {u:V} (h:FT H z u):FT H' z u:=let⟨b,e,q⟩:=h;⟨b,e,k _ _ q⟩
def BY (ab:Hl):Prop:=∀x y,aS ab x=some y->y∈ks ab
def iI (H:Hp) (v:V) (ab:Hl):Prop:=∃t us,v= .ref t/\H t=some (.tup us)/\Paired (FT H) ab us
theorem iI.kt {v:V} (k:eP H H') (h:iI H v ab):iI H' v ab:=let⟨t,us,e,ht,p⟩:=h;⟨t,us,e,k _ _ ht,L2.Paired.dP p fun _ _ q=>q.kt k⟩
theorem fW {up:Str->Option Str} (m n:Nat) (x:Str):Rg.cJ up (m+n) x=(Rg.cJ up m x).bind (Rg.cJ up n):=Rg.fB m n x
structure Cl (ab:Hl) (x:Str) (l:List Str):Prop where
 ne:l≠[]
 at':∀i (h:i<l.length),Rg.cJ (aS ab) i x=some l[i]
structure C2 (ab M:Hl) (S l:List Str) (st:Str) (o:Option Str):Prop where
 km:ks M=S++l
 path:Rg.Path (aS ab) l o
 nd:(S++l).Nodup
 old:∀x∈S,aS M x≠some st
 new:∀x∈l,aS M x=some st
theorem C2.start {S:List Str} (k:ks M=S) (nd:S.Nodup) (old:∀x∈S,aS M x≠some st):C2 ab M S [] st (some st):=
 ⟨by rw[append_nil];exact k,trivial,by rw[append_nil];exact nd,old,fun _ h=>nomatch h⟩
theorem C2.step {S:List Str} (c:C2 ab M S l st (some x)) (hx:x∉ks M):C2 ab (cD M x (some st)) S (l++[x]) st (aS ab x):=by
 have hS:x∉S:=fun h=>hx (by rw[c.km];exact mem_append_left _ h)
 have hl:x∉l:=fun h=>hx (by rw[c.km];exact mem_append_right _ h)
 refine⟨?_,Rg.Path.snoc c.path rfl,?_,fun y hy=>?_,fun y hy=>?_⟩
 .rw[uU,if_neg hx,c.km,append_assoc]
 .rw[<-append_assoc];refine nodup_append.mpr ⟨c.nd,by simp,fun u hu w hw e=>?_⟩;rw[mem_singleton.mp hw]at e;exact hx (by rw[c.km,<-e];exact hu)
 .rw[eY,if_neg fun e=>hS (by rw[<-e];exact hy)];exact c.old y hy
 .rw[eY];rcases mem_append.mp hy with h|h
  .rw[if_neg fun e=>hl (by rw[<-e];exact h)];exact c.new y h
  .rw[if_pos (mem_singleton.mp h)]
theorem EI {l:List Str} (h:x∈l):∃p r,l=p++x::r/\x∉p:=by
 induction l with
 |nil=>exact absurd h (by simp)
 | cons y l ih=>
  by_cases e:y=x
  .exact⟨[],l,by rw[e];rfl,by simp⟩
  .obtain⟨p,r,e2,n⟩:=ih ((mem_cons.mp h).resolve_left fun z=>e z.symm);exact⟨y::p,r,by rw[e2];rfl,fun z=>(mem_cons.mp z).elim (fun z=>e z.symm) n⟩
theorem C2.ring {S p r:List Str} (c:C2 ab M S (p++x::r) st (some x)) (f:Rg.Found (aS ab) S F):Rg.Found (aS ab) (S++(p++x::r)) (F++[x::r]):=by
 obtain⟨n1,n2,n3⟩:=nodup_append.mp c.nd;exact f.QD (by simp) c.path n2 fun y hy hs=>n3 y hs y hy rfl
theorem C2.out {S:List Str} (c:C2 ab M S l st o) (f:Rg.Found (aS ab) S F) (h:∀y,o=some y->y∈S):Rg.Found (aS ab) (S++l) F:=by
 obtain⟨n1,n2,n3⟩:=nodup_append.mp c.nd;exact f.out c.path (fun y hy hs=>n3 y hs y hy rfl) h
theorem C2.met {S:List Str} (c:C2 ab M S l st o) (hx:x∈ks M):(aS M x=some st/\x∈l)\/ (aS M x≠some st/\x∈S):=by
 rw[c.km]at hx;rcases mem_append.mp hx with h|h
 .exact .inr ⟨c.old x h,h⟩
 .exact .inl ⟨c.new x h,h⟩
noncomputable def univ (ab:Hl):List Str:=ks ab++ab.filterMap (·.2)
theorem wZ (ab:Hl):(univ ab).length<=2*ab.length:=by
 unfold univ;rw[length_append,length_map];have:=List.length_filterMap_le (fun z:Str×Option Str=>z.2) ab;omega
theorem KI {y:Str} (h:aS ab x=some y):y∈univ ab:=mem_append_right _ (mem_filterMap.mpr ⟨_,fM h,rfl⟩)
theorem FD (h:x∈ks ab):x∈univ ab:=mem_append_left _ h
end My
namespace L2
open PySem
section
variable {k:Nat} {cA:List Nat} {g:TG} {tt:TT} {tk te:TE} {σ:St} {H:Hp} {Q:VK} {l:Addr}
def kP (g:TG) (tt:TT) (tk te:TE) (l:Addr) (x:V) (σ:St) (H:Hp) (N:St->Hp->Prop):Prop:=
 g x σ H fun σ4 H4=>tt σ4 H4 fun b H5=>if b=true then tk σ4 H5 fun kv H6=>te σ4 H6 fun y H7=>∃kvs key,bY H7 l kvs/\kv=kV key/\kvs.length<sizeLine/\∀ep,N σ4 (upd H7 l (.dK (putK kvs key y) ep))else N σ4 H5
end
end L2
namespace My
open PySem L2
variable {c f p:Addr} {M M' ab:Hl} {H H':Hp} {kv:Key×V} {xs:List Lt} {l:List Str} {us:List V} {x:Lt} {i:Nat} {o:Option Str} {st:Str} {α:Type}
section
variable {k:Nat} {cA:List Nat} {g:TG} {tt:TT} {tk te:TE} {σ:St} {H:Hp} {Q:VK} {l:Addr}
theorem BR {z:Str×Option Str} (h:z.1∉ks ab):putK (bK ab) (Sum.inr z.1) (oV z.2)=bK (ab++[z]):=by
 rw[i9];unfold cD;rw[if_neg h]
theorem Q9 {H:Hp} {l:Addr} {o o':HO}:upd (upd H l o) l o'=upd H l o':=by
 funext b
 by_cases e:b=l
 .rw[e,aB,aB]
 .rw[aH e,aH e,aH e]
theorem NF {K:Frag} {a:Addr} (hS:bO K H a us) (hp:Paired (FT H) ab us) (nd:(ks ab).Nodup) (hlen:ab.length<sizeLine) (hl:H l=none) (Good:St->Prop) (h0:Good (bS k cA σ))
  (ht:∀z u σ H1 kvs (N:St->Hp->Prop),Good σ->FT H1 z u->bY H1 l kvs->kvs.length<sizeLine->(∀σ' ep,Good σ'->N σ' (upd H1 l (.dK (putK kvs (.inr z.1) (oV z.2)) ep)))->kP g tt tk te l u σ H1 N)
  (hd:∀ep,Q (.ref l) (upd H l (.dK (bK ab) ep))):BO (J0 K a) g tt tk te l (bS k cA σ) (upd H l (.dK [] 0)) Q:=by
 have hlv:ab.length=us.length:=hp.length;refine⟨fun i m σ' H'=>m=us.length - i/\i<=us.length/\Good σ'/\∃ep,H'=upd H l (.dK (bK (ab.take i)) ep),⟨us.length,by simp,zero_le _,h0,0,rfl⟩,?_⟩;rintro i m σ' H2 ⟨rfl,hi,gd,ep,rfl⟩;have hS2:bO K (upd H l (.dK (bK (ab.take i)) ep)) a us:=hS.RR hl
 by_cases hlt:i<us.length
 .refine .inr ⟨⟨us,us[i],hS2,by simp[hlt]⟩,fun σ' H'=>i+1<=us.length/\Good σ'/\∃ep,H'=upd H l (.dK (bK (ab.take (i+1))) ep),fun σ3 H3 n=>⟨us.length - (i+1),by omega,rfl,n.1,n.2⟩,fun x H3 y=>?_⟩;obtain⟨e1,hx⟩:=y;subst e1;have hx:=hx us hS2;obtain⟨z,hz,r⟩:=L2.Paired.jI hp hx;have s0:aG H (upd H l (.dK (bK (ab.take i)) ep)):=aG.upd hl;have hnew:z.1∉ks (ab.take i):=fun hm=>by
   have e1:ks (ab.take (i+1))=ks (ab.take i)++[z.1]:=by
    rw[take_succ,hz];unfold ks;rw[map_append];rfl
   have:(ks (ab.take (i+1))).Nodup:=by
    unfold ks;rw[map_take];exact List.Nodup.sublist (take_sublist ..) nd
   rw[e1]at this;exact(nodup_append.mp this).2.2 z.1 hm z.1 (by simp) rfl
  refine ht z x σ' _ (bK (ab.take i)) _ gd (r.kt s0.kt) ⟨ep,aB⟩ ?_ fun σ3 ep3 g3=>⟨hlt,g3,ep3,?_⟩
  .rw[dU,length_take];omega
  .rw[Q9,BR hnew,take_succ,hz];rfl
 .have e:i=us.length:=by omega
  subst e;refine .inl ⟨⟨us,hS2,le_refl _⟩,?_⟩;rw[<-hlv,take_length];exact hd ep
end
theorem take_snoc {l:List α} {x:α} (h:l[i]? =some x):l.take (i+1)=l.take i++[x]:=by
 rw[take_succ,h];rfl
noncomputable def z4 (acc:List Lt) (x:Lt):List Lt:=if(acc.any fun y=>decide (y.n=x.n))=true then acc else acc++[x]
noncomputable def aP (xs:List Lt):List Lt:=xs.foldl z4 []
theorem oW (h:xs[i]? =some x):aP (xs.take (i+1))=z4 (aP (xs.take i)) x:=by
 unfold aP;rw[take_snoc h,List.foldl_append];rfl
theorem dC (xs:List Lt):(aP xs).length<=xs.length:=by
 have key:∀(l:List Lt) (k:List Lt),(l.foldl z4 k).length<=k.length+l.length:=by
  intro l
  induction l with
  |nil=>intro k;exact le_refl _
  | cons x l ih=>
   intro k;have h1:=ih (z4 k x);have h2:(z4 k x).length<=k.length+1:=by
    unfold z4;split
    .omega
    .rw[length_append];exact le_refl _
   rw[foldl_cons,length_cons];omega
 have:=key xs [];simpa [aP]using this
def tW (H:Hp) (x:Lt) (kv:Key×V):Prop:=kv.1= .inr x.n/\nH H kv.2 x
def gM (H:Hp) (v:V) (xs:List Lt):Prop:=∃a us,v= .ref a/\H a=some (.tup us)/\Paired (fun x u=>nH H u x) xs us/\xs.length<=1000
theorem tW.same (s:aG H H') (h:tW H x kv):tW H' x kv:=⟨h.1,h.2.kp s.kt⟩
theorem tW.any {n:Str}:∀{acc:List Lt} {kvs:List (Key×V)},Paired (tW H) acc kvs->(kvs.any fun kv=>decide (kv.1=Sum.inr n))=acc.any fun y=>decide (y.n=n)
 |_,_,.nil=>rfl
 |_,_,.cons h r=>by
  rw[any_cons,any_cons,tW.any r,h.1];congr 1;exact decide_eq_decide.mpr ⟨fun e=>Sum.inr.inj e,fun e=>congrArg _ e⟩
theorem tW.vals:∀{acc:List Lt} {kvs:List (Key×V)},Paired (tW H) acc kvs->Paired (fun x u=>nH H u x) acc (kvs.map (·.2))
 |_,_,.nil=>.nil
 |_,_,.cons h r=>.cons h.2 (tW.vals r)
theorem tW.snoc {β:Type} {R:α->β->Prop}:∀{xs:List α} {ys zs:List β} {x:α} {y:β},Paired R xs ys->R x y->zs=ys++[y]->Paired R (xs++[x]) zs
 |_,_,_,_,_,.nil,h,e=>by rw[e];exact .cons h .nil
 |_,_,_,_,_,.cons g r,h,e=>by rw[e];exact .cons g (tW.snoc r h rfl)
theorem xW {ab:Hl} {i:Nat} (h:(bK ab)[i]? =some kv):∃x,(ks ab)[i]? =some x/\kv.1= .inr x/\kv.2=oV (ab.map (·.2))[i]?.join:=by
 unfold bK at h;rw[getElem?_map]at h;cases e:ab[i]? with
 |none=>rw[e]at h;cases h
 |some z=>
  rw[e]at h;have h:=Option.some.inj h;subst h;exact⟨z.1,by unfold ks;rw[getElem?_map,e];rfl,rfl,by rw[getElem?_map,e];rfl⟩
structure y4 (ab M M':Hl) (us:List V) (p f c:Addr) (st:Str) (H H':Hp) (l:List Str) (o:Option Str):Prop where
 s:aG H H'
 dm:bY H' p (bK M')
 hu:H' f=some (.lst us)
 hc:H' c=some (.lst (l.map V.str))
 cl:C2 ab M' (ks M) l st o
 un:∀x∈ks M',x∈univ ab
 ou:∀y,o=some y->y∈univ ab
 QV:o=some st\/ st∈l
 kp:∀x∈ks M,aS M' x=aS M x
theorem y4.len (w:y4 ab M M' us p f c st H H' l o):(ks M').length<=2*ab.length:=
 le_trans (dX (by rw[w.cl.km];exact w.cl.nd) w.un) (wZ ab)
theorem y4.step {y:Str} (w:y4 ab M M' us p f c st H H' l (some y)) (hy:y∉ks M') (ep:Nat) (hp:H p=none) (hc0:H c=none) (ncp:c≠p) (ncf:c≠f) (npf:p≠f):
  y4 ab M (cD M' y (some st)) us p f c st H (upd (upd H' p (.dK (putK (bK M') (.inr y) (.str st)) ep)) c (.lst (l.map V.str++[.str y]))) (l++[y]) (aS ab y)where
 s:=fun b o h=>by
  rw[aH (aF h hc0),aH (aF h hp)];exact w.s b o h
 dm:=⟨ep,by rw[aH ncp.symm,aB];exact congrArg (fun z=>some (HO.dK z ep)) (i9 M' y (some st))⟩
 hu:=by rw[aH ncf.symm,aH npf.symm];exact w.hu
 hc:=by rw[aB,map_append];rfl
 cl:=w.cl.step hy
 un:=fun x hx=>(iU.mp hx).elim (w.un x) fun e=>by rw[e];exact w.ou y rfl
 ou:=fun z e=>KI e
 QV:=.inr (w.QV.elim (fun e=>by cases e;simp) fun h=>mem_append_left _ h)
 kp:=fun x hx=>by
  rw[eY,if_neg fun e=>hy (by rw[w.cl.km,<-e];exact mem_append_left _ hx)];exact w.kp x hx
theorem y4.val {T:List Str} (w:y4 ab M M' us p f c st H H' l o) (hval:∀x∈ks M,∃s∈T,aS M x=some s):∀x∈ks M',∃s∈T++[st],aS M' x=some s:=fun x hx=>by
 rw[w.cl.km]at hx;rcases mem_append.mp hx with h|h
 .obtain⟨s,hs,e⟩:=hval x h;exact⟨s,mem_append_left _ hs,by rw[w.kp x h];exact e⟩
 .exact⟨st,by simp,w.cl.new x h⟩
noncomputable def LK (x:Lt) (i:Nat):Str:=(x.row[i]?).getD (Str.ofString "")
noncomputable def keepR (x:Lt) (i:Nat):Bool:=!decide (LK x i=x.n) && !((x.row.drop (i+1)).contains (LK x i))
noncomputable def aR (x:Lt):List Str:=((List.range x.row.length).filter (keepR x)).map (LK x)
theorem JY {xs:List V} {i:Nat}:iM xs (some (i:Int)) none=xs.drop i:=by
 cases i with
 |zero=>
  unfold iM;rw[HT.wC];show(xs.take xs.length).drop (HT.d4 xs.length 0 (some 0))=_;rw[take_length];unfold HT.d4;simp
 |succ i=>exact rE
theorem gM.kt (k:eP H H') {v:V} (h:gM H v xs):gM H' v xs:=let⟨a,us,e,ha,hp,hl⟩:=h;⟨a,us,e,k _ _ ha,L2.Paired.dP hp fun _ _ q=>q.kp k,hl⟩
theorem IS {xs:List α} {x:α}:D2 (xs++[x]) (-1)=some x:=by
 unfold D2 LI;have e:(xs++[x]).length=xs.length+1:=by rw[length_append];rfl
 rw[e,if_neg (by decide),if_pos (by omega),show(-1+((xs.length+1:Nat):Int))=(xs.length:Int) by omega];simp
theorem yX {e:Str} (h:e∈aR x):e∈x.row:=by
 unfold aR at h;obtain⟨i,hi,rfl⟩:=mem_map.mp h;have hi:=mem_range.mp (mem_filter.mp hi).1;unfold LK;rw[getElem?_eq_getElem hi];exact getElem_mem hi
theorem y2 (x:Lt):(aR x).length<=x.row.length:=by
 unfold aR;rw[length_map];have:=length_filter_le (keepR x) (List.range x.row.length);rwa[length_range]at this
theorem oP:∀row:List Str,jK (row.map Mr.PV.str)=true
 |[]=>by simp[jK]
 |x::xs=>by simp[jK,keyed,oP xs]
theorem GO (x:Lt):keyed x.P=true:=by
 unfold Lt.P;simp[keyed,jK,oP]
theorem xT:∀row:List Str,nP (j5 (row.map Mr.PV.str))=0
 |[]=>by simp[j5,nP]
 |x::xs=>by simp[j5,iO,nP,o8,xT xs]
theorem NB (x:Lt):∃ks,iO x.P= .t ks/\nP ks<=4:=by
 refine⟨_,by unfold Lt.P;simp only[iO];rfl,?_⟩;simp[j5,iO,nP,o8,xT]
theorem FC:∀{xs:List Lt} {vs:List V},g9 H (xs.map Lt.P) vs->(∀x∈xs,x.Ok)->Paired (fun x u=>nH H u x) xs vs
 |[],_,.nil,_=>.nil
 |_::_,_,.cons h r,k=>.cons ⟨h,k _ mem_cons_self⟩ (FC r fun x hx=>k x (mem_cons_of_mem _ hx))
theorem CD {t u:TS} {D:Ends} {σ:St} (N:St->Hp->Prop) (h:∀n:St->Hp->Prop,(∀σ' H',N σ' H'->n σ' H')->t {D with nx:=n} σ H) (hu:∀σ' H',N σ' H'->u D σ' H'):vB t u D σ H:=h (u D) hu
theorem mD:∀(xs acc:List Lt),(acc.map (·.n)).Nodup->((xs.foldl z4 acc).map (·.n)).Nodup/\∀x∈xs.foldl z4 acc,x∈acc\/ x∈xs
 |[],acc,h=>⟨h,fun _ hx=>.inl hx⟩
 | y::xs,acc,h=>by
  have h2:((z4 acc y).map (·.n)).Nodup:=by
   unfold z4;split
   .exact h
   .rename_i hno;rw[map_append];refine nodup_append.mpr ⟨h,by simp,fun u hu w hw e=>?_⟩;have hw:w=y.n:=by simpa using hw
    obtain⟨z,hz,rfl⟩:=mem_map.mp hu;exact hno (any_eq_true.mpr ⟨z,hz,decide_eq_true (e.trans hw)⟩)
  obtain⟨a,b⟩:=mD xs (z4 acc y) h2;refine⟨a,fun x hx=>(b x hx).elim (fun h3=>?_) fun h3=>.inr (mem_cons_of_mem _ h3)⟩;unfold z4 at h3;split at h3
  .exact .inl h3
  .rcases mem_append.mp h3 with h3|h3
   .exact .inl h3
   .exact .inr (by rw[mem_singleton.mp h3];exact mem_cons_self)
theorem fZ (xs:List Lt):((aP xs).map (·.n)).Nodup:=(mD xs [] nodup_nil).1
theorem qJ (xs:List Lt):∀x∈aP xs,x∈xs:=fun x hx=>((mD xs [] nodup_nil).2 x hx).elim (fun h=>nomatch h) id
theorem FP {xs:List V} (k:Nat):iM xs none (some (k:Int))=xs.take k:=by
 unfold iM;rw[HT.KQ,HT.wC,List.drop_zero,Nat.sub_zero]
 by_cases h:k<=xs.length
 .rw[Nat.min_eq_left h]
 .rw[Nat.min_eq_right (by omega),take_of_length_le (le_refl _),take_of_length_le (by omega)]
end My
namespace L2
open PySem
variable {α:Type}
section
variable {k:Nat} {cA:List Nat} {g:TG} {tt:TT} {tk te:TE} {σ:St} {H:Hp} {Q:VK} {l:Addr}
theorem BZ (J:It) (es:List α) (x:α->V) (key:α->Str) (R:Hp->α->V->Prop) (Good:St->Prop) (h0:Good (bS k cA σ)) (hl:H l=none) (hlen:es.length<sizeLine) (nd:(es.map key).Nodup)
  (hstop:∀H',aG H H'->J.stop es.length H') (hgo:∀i H',i<es.length->aG H H'->J.go i H')
  (hyld:∀i H1 v H2,i<es.length->aG H H1->J.yR i H1 v H2->H2=H1/\∃e,es[i]? =some e/\v=x e)
  (m:∀H1 H2 e v,eP H1 H2->R H1 e v->R H2 e v)
  (ht:∀e σ H1 kvs (N:St->Hp->Prop),e∈es->Good σ->aG H H1->bY H1 l kvs->kvs.length<sizeLine->
   (∀σ' v H2 ep,Good σ'->aG H1 H2->R H2 e v->N σ' (upd H2 l (.dK (putK kvs (.inr (key e)) v) ep)))->kP g tt tk te l (x e) σ H1 N)
  (hd:∀H' kvs,aG H H'->bY H' l kvs->Paired (fun e kv=>kv.1=Sum.inr (key e)/\R H' e kv.2) es kvs->Q (.ref l) H'):BO J g tt tk te l (bS k cA σ) (upd H l (.dK [] 0)) Q:=by
 refine⟨fun i n σ' H'=>n=es.length - i/\i<=es.length/\Good σ'/\aG H H'/\∃kvs,bY H' l kvs/\Paired (fun e kv=>kv.1=Sum.inr (key e)/\R H' e kv.2) (es.take i) kvs,⟨es.length,by simp,zero_le _,h0,aG.upd hl,[],⟨0,aB⟩,.nil⟩,?_⟩;rintro i n σ' H2 ⟨rfl,hi,gd,s2,kvs,hk,pr⟩
 by_cases hlt:i<es.length
 .refine .inr ⟨hgo i H2 hlt s2,fun σ' H'=>i+1<=es.length/\Good σ'/\aG H H'/\∃kvs,bY H' l kvs/\Paired (fun e kv=>kv.1=Sum.inr (key e)/\R H' e kv.2) (es.take (i+1)) kvs,fun σ3 H3 n=>⟨es.length - (i+1),by omega,rfl,n.1,n.2⟩,fun v H3 y=>?_⟩;obtain⟨rfl,e,he,rfl⟩:=hyld i H2 v H3 hlt s2 y;have hz:kvs.length<sizeLine:=by
   rw[<-Paired.length pr,length_take];omega
  have et:es.take (i+1)=es.take i++[e]:=by rw[take_succ,he];rfl
  have hno:(kvs.any fun kv=>decide (kv.1=Sum.inr (key e)))=false:=by
   rw[Bool.eq_false_iff];intro ha;obtain⟨kv,hkv,hc⟩:=any_eq_true.mp ha;have hc:=of_decide_eq_true hc;obtain⟨j,hj⟩:=getElem?_of_mem hkv;obtain⟨e',he',h1,_⟩:=Paired.jI pr hj;have h2:key e'=key e:=Sum.inr.inj (h1.symm.trans hc);have h3:((es.take (i+1)).map key).Nodup:=by
    rw[map_take];exact List.Nodup.sublist (take_sublist ..) nd
   rw[et,map_append]at h3;exact(nodup_append.mp h3).2.2 (key e') (mem_map.mpr ⟨e',mem_of_getElem? he',rfl⟩) (key e) (by simp) h2
  refine ht e σ' _ kvs _ (mem_of_getElem? he) gd s2 hk hz fun σ3 v H3 ep g3 s3 r=>⟨hlt,g3,fun b o h=>?_,_,⟨ep,aB⟩,?_⟩
  .rw[aH (aF h hl)];exact s3 _ _ (s2 _ _ h)
  .have kt:eP H3 (upd H3 l (.dK (putK kvs (.inr (key e)) v) ep)):=by
    obtain⟨e1,h1⟩:=hk;have h2:=s3 _ _ h1;exact fun c us h=>by rw[aH (yJ h h2 (fun z=>nomatch z))];exact h
   have ep2:putK kvs (Sum.inr (key e)) v=kvs++[(Sum.inr (key e),v)]:=by unfold putK;rw[hno,if_neg Bool.false_ne_true]
   rw[ep2]at kt⊢
   rw[et];exact Paired.snoc (Paired.dP pr fun _ _ q=>⟨q.1,m _ _ _ _ (s3.kt.trans kt) q.2⟩) ⟨rfl,m _ _ _ _ kt r⟩
 .have e:i=es.length:=by omega
  subst e;rw[take_length]at pr;exact .inl ⟨hstop H2 s2,hd H2 kvs s2 hk pr⟩
theorem p9 {K:Frag} {a:Addr} {us:List V} {es:List α} {P:Hp->α->V->Prop} (hS:bO K H a us) (hp:Paired (P H) es us) (key:α->Str) (R:Hp->α->V->Prop) (Good:St->Prop) (h0:Good (bS k cA σ)) (hl:H l=none) (hlen:es.length<sizeLine) (nd:(es.map key).Nodup)
  (m:∀H1 H2 e v,eP H1 H2->R H1 e v->R H2 e v)
  (ht:∀e u σ H1 kvs (N:St->Hp->Prop),e∈es->P H e u->Good σ->aG H H1->bY H1 l kvs->kvs.length<sizeLine->
   (∀σ' v H2 ep,Good σ'->aG H1 H2->R H2 e v->N σ' (upd H2 l (.dK (putK kvs (.inr (key e)) v) ep)))->kP g tt tk te l u σ H1 N)
  (hd:∀H' kvs,aG H H'->bY H' l kvs->Paired (fun e kv=>kv.1=Sum.inr (key e)/\R H' e kv.2) es kvs->Q (.ref l) H'):BO (J0 K a) g tt tk te l (bS k cA σ) (upd H l (.dK [] 0)) Q:=by
 have hlv:es.length=us.length:=hp.length;have hzl:(es.zip us).length=es.length:=by rw[length_zip,hlv,min_self]
 have hm1:(es.zip us).map (·.1)=es:=map_fst_zip (by omega);refine BZ (J0 K a) (es.zip us) (·.2) (fun z=>key z.1) (fun H z v=>R H z.1 v) Good h0 hl (by omega) (by rw[show(es.zip us).map (fun z=>key z.1)=((es.zip us).map (·.1)).map key from(map_map ..).symm,hm1];exact nd) (fun H' s=>⟨us,hS.same s,by omega⟩) (fun i H' hi s=>⟨us,us[i]'(by omega),hS.same s,by simp⟩) (fun i H1 v H2 hi s y=>?_) (fun _ _ _ _ k r=>m _ _ _ _ k r) (fun z σ H1 kvs N hz gd s hk hzz hN=>?_) (fun H' kvs s hk pr=>hd H' kvs s hk ?_)
 .have hv:=y.2 us (hS.same s);exact⟨y.1,(es[i]'(by omega),us[i]'(by omega)),by rw[getElem?_eq_getElem hi,getElem_zip],by rw[getElem?_eq_getElem (by omega)]at hv;exact(Option.some.inj hv).symm⟩
 .obtain⟨j,hj⟩:=getElem?_of_mem hz;have h1:es[j]? =some z.1/\us[j]? =some z.2:=by rw[List.getElem?_zip_eq_some]at hj;exact hj
  obtain⟨e',he',hP⟩:=Paired.jI hp h1.2;rw[h1.1]at he';cases he';exact ht z.1 z.2 σ H1 kvs N (mem_of_getElem? h1.1) hP gd s hk hzz hN
 .have key2:∀{zs:List (α×V)} {kvs:List (Key×V)},Paired (fun z kv=>kv.1=Sum.inr (key z.1)/\R H' z.1 kv.2) zs kvs->Paired (fun e kv=>kv.1=Sum.inr (key e)/\R H' e kv.2) (zs.map (·.1)) kvs:=by
   intro zs kvs h
   induction h with
   |nil=>exact .nil
   |cons a _ ih=>exact .cons a ih
  have:=key2 pr;rwa[hm1]at this
end
end L2
namespace Rg
variable {α:Type} {up up':α->Option α}
theorem qL (h:∀x y,up' x=some y->up x=some y):∀(n:Nat) {x y:α},cJ up' n x=some y->cJ up n x=some y
 |0,_,_,e=>e
 | n+1,x,y,e=>by
  cases c:up' x with
  |none=>rw[cJ,c]at e;cases e
  |some z=>
   rw[cJ,c]at e;show(up x).bind (cJ up n)=some y;rw[h x z c];exact qL h n e
theorem jD.mono (h:∀x y,up' x=some y->up x=some y) {x:α} (c:jD up' x):jD up x:=let⟨n,e⟩:=c;⟨n,qL h _ e⟩
theorem Ring.reach {l:List α} (r:Ring up l) {x c:α} (hx:x∈l) (hc:c∈l):∃k,cJ up k x=some c:=by
 cases l with
 |nil=>exact absurd rfl r.ne
 | cons a l=>
  obtain⟨i,hi⟩:=getElem?_of_mem hx;obtain⟨j,hj⟩:=getElem?_of_mem hc;have h1:=r.path.nZ hi;have ha:∀j,j<=(a::l).length->∀z,(a::l)[j]? =some z->cJ up j a=some z:=by
   intro j
   induction j with
   |zero=>intro _ z hz;cases hz;rfl
   |succ j ih=>
    intro hj z hz;have hj':j<(a::l).length:=by omega
    have e1:=ih (by omega) _ (getElem?_eq_getElem hj');rw[fB j 1,e1];have hlt:j+1<(a::l).length:=(List.getElem?_eq_some_iff.mp hz).1;have:Path up ((a::l).drop j) (a::l).head?:=r.path.drop j;rw[drop_eq_getElem_cons hj',drop_eq_getElem_cons hlt]at this;show(up _).bind (cJ up 0)=_;rw[this.1];rw[getElem?_eq_getElem hlt]at hz;cases hz;rfl
  have hjl:j<(a::l).length:=(List.getElem?_eq_some_iff.mp hj).1;refine⟨(a::l).length - i+j,?_⟩;rw[fB,h1];exact ha j (by omega) c hj
theorem JN {S:List α} {F:List (List α)} (f:Found up S F) (hS:∀x,jD up x->x∈S) (h:∀x y,up' x=some y->up x=some y) (hc:∀R∈F,∃c∈R,up' c=none) (x:α):¬jD up' x:=fun c=>by
 have c1:=c.mono h;obtain⟨R,hR,hx⟩:=mem_flatten.mp (f.all x (hS x c1) c1);obtain⟨d,hd,e⟩:=hc R hR;obtain⟨k,hk⟩:=(f.ring R hR).reach hx hd;obtain⟨y,j,h1,_⟩:=c.back k;have h2:=qL h _ h1;rw[hk]at h2;cases h2;obtain⟨z,j2,h3,_⟩:=c.back (k+1);rw[fB,h1]at h3;have:(up' d).bind (cJ up' 0)=some z:=h3;rw[e]at this;cases this
theorem Ring.held {l:List α} (r:Ring up l) {hm:α->Option α} (h:∀x∈l,up x=hm x) {x:α} (hx:x∈l):Rg.jD hm x:=by
 have key:∀(n:Nat) {x:α},x∈l->cJ hm n x=cJ up n x:=by
  intro n
  induction n with
  |zero=>intro x _;rfl
  |succ n ih=>
   intro x hx;show(hm x).bind (cJ hm n)=(up x).bind (cJ up n);rw[<-h x hx];cases c:up x with
   |none=>rfl
   |some y=>exact ih (r.closed x y hx c)
 obtain⟨n,e⟩:=r.jD hx;exact⟨n,by rw[key _ hx];exact e⟩
end Rg
namespace My
open PySem L2
variable {b:Addr} {H:Hp} {n:Str} {α β:Type}
theorem G7:∀{ab:Hl} {kvs:List (Key×V)},Paired (fun(z:Str×Option Str) (kv:Key×V)=>kv.1=Sum.inr z.1/\kv.2=oV z.2) ab kvs->kvs=bK ab
 |_,_,.nil=>rfl
 |z::ab,(k,v)::kvs,.cons h r=>by
  have h1:k=Sum.inr z.1:=h.1;have h2:v=oV z.2:=h.2;rw[h1,h2,G7 r];rfl
theorem AB {d:Addr} {H H':Hp} (s:aG H H') (h:H' d=none):H d=none:=by
 cases e:H d with
 |none=>rfl
 |some o=>rw[s _ _ e]at h;cases h
theorem oE:∀ns:List Str,Paired (fun(n:Str) u=>u=V.str n) ns (ns.map V.str)
 |[]=>.nil
 |_::ns=>.cons rfl (oE ns)
theorem iY {f:α->β}:∀{S:List α},(S.map f).Nodup->∀{x y:α},x∈S->y∈S->f x=f y->x=y
 |[],_,_,_,hx,_,_=>nomatch hx
 |z::S,nd,x,y,hx,hy,e=>by
  rw[map_cons,nodup_cons]at nd;rcases mem_cons.mp hx with h1|h1<;>rcases mem_cons.mp hy with h2|h2
  .rw[h1,h2]
  .exact absurd (mem_map.mpr ⟨y,h2,by rw[<-e,h1]⟩) nd.1
  .exact absurd (mem_map.mpr ⟨x,h1,by rw[e,h2]⟩) nd.1
  .exact iY nd.2 h1 h2 e
abbrev A4:=Int×Str×Nat
def jS (H:Hp) (c:A4) (u:V):Prop:=∃b,u= .ref b/\H b=some (.tup [.int c.1,.str c.2.1,.int (c.2.2:Int)])
section
variable {κ:Type} {cR:Hp->κ->V->Prop}
def RA (cR:Hp->κ->V->Prop) (H:Hp) (cs:List κ) (v:V):Prop:=∃l us,v= .ref l/\H l=some (.lst us)/\Paired (cR H) cs us
def yU (cR:Hp->κ->V->Prop) (H:Hp) (z:Str×List κ) (kv:Key×V):Prop:=kv.1= .inr z.1/\RA cR H z.2 kv.2
structure o4 (cR:Hp->κ->V->Prop) (H H':Hp) (p:Addr) (kvs:List (Key×V)) (C:List (Str×List κ)):Prop where
 s:aG H H'
 d:bY H' p kvs
 pr:Paired (yU cR H') C kvs
 nd:(C.map (·.1)).Nodup
 fr:∀kv∈kvs,∀l,kv.2= .ref l->H l=none/\l≠p
 un:(kvs.map (·.2)).Nodup
 ne:∀z∈C,z.2≠[]
noncomputable def rM (C:List (Str×List κ)) (n:Str) (c:κ):List (Str×List κ):=if n∈C.map (·.1)then C.map (fun z=>if z.1=n then(z.1,z.2++[c])else z)else C++[(n,[c])]
theorem oI {R R':α->β->Prop} {f:α->α}:∀{xs:List α} {ys:List β},Paired R xs ys->(∀x y,x∈xs->y∈ys->R x y->R' (f x) y)->Paired R' (xs.map f) ys
 |_,_,.nil,_=>.nil
 |_,_,.cons h r,k=>.cons (k _ _ mem_cons_self mem_cons_self h) (oI r fun x y hx hy=>k x y (mem_cons_of_mem _ hx) (mem_cons_of_mem _ hy))
theorem yU.keys:∀{C:List (Str×List κ)} {kvs:List (Key×V)},Paired (yU cR H) C kvs->kvs.map (·.1)=(C.map (·.1)).map Sum.inr
 |_,_,.nil=>rfl
 |_,_,.cons h r=>by rw[map_cons,map_cons,map_cons,h.1,yU.keys r]
theorem yU.val {n:Str}:∀{C:List (Str×List κ)} {kvs:List (Key×V)},Paired (yU cR H) C kvs->(bG kvs (.inr n)=none/\n∉C.map (·.1))\/ ∃z∈C,z.1=n/\∃kv∈kvs,kv.1= .inr n/\bG kvs (.inr n)=some kv.2/\RA cR H z.2 kv.2
 |_,_,.nil=>.inl ⟨rfl,fun h=>nomatch h⟩
 | x::xs,(k,v)::kvs,.cons ⟨h1,h2⟩ r=>by
  by_cases e:x.1=n
  .exact .inr ⟨x,mem_cons_self,e,(k,v),mem_cons_self,by rw[h1,e],bJ (show(k,v).1=_ by rw[h1,e]),h2⟩
  .have ne:¬(k,v).1=Sum.inr n:=fun z=>e (Sum.inr.inj (h1.symm.trans z))
   rcases yU.val (n:=n) r with⟨a,b⟩|⟨y,hy,ey,kv,hkv,e2,hu,ht'⟩
   .exact .inl ⟨by rw[bD ne];exact a,fun hm=>(mem_cons.mp hm).elim (fun z=>e z.symm) b⟩
   .exact .inr ⟨y,mem_cons_of_mem _ hy,ey,kv,mem_cons_of_mem _ hkv,e2,by rw[bD ne];exact hu,ht'⟩
theorem o4.nil {p:Addr} (hp:H p=none):o4 cR H (upd H p (.dK [] 0)) p [] []:=⟨aG.upd hp,⟨0,aB⟩,.nil,nodup_nil,(fun _ h=>nomatch h),nodup_nil,fun _ h=>nomatch h⟩
section
variable {H H':Hp} {p:Addr} {kvs:List (Key×V)} {C:List (Str×List κ)} (m:∀{H H':Hp} {c:κ} {u:V},eP H H'->cR H c u->cR H' c u)
include m
theorem o4.same {H2:Hp} (i:o4 cR H H' p kvs C) (s2:aG H' H2):o4 cR H H2 p kvs C:=
 ⟨i.s.trans s2,cC i.d s2,L2.Paired.dP i.pr fun _ _ ⟨e,l,us,e2,h,q⟩=>⟨e,l,us,e2,s2 _ _ h,L2.Paired.dP q fun _ _ r=>m s2.kt r⟩,i.nd,i.fr,i.un,i.ne⟩
theorem o4.old (i:o4 cR H H' p kvs C) {z:Str×List κ} {kv:Key×V} {l:Addr} {us:List V} {c:κ} (hz:z∈C) (hkv:kv∈kvs) (hk:kv.1= .inr z.1) (hl:kv.2= .ref l) (hus:H' l=some (.lst us)) (hc:cR H' c (.ref b)):
  o4 cR H (upd H' l (.lst (us++[.ref b]))) p kvs (rM C z.1 c):=by
 obtain⟨hl0,hlp⟩:=i.fr kv hkv l hl;have kt:eP H' (upd H' l (.lst (us++[.ref b]))):=eP.upd hus;have ndk:(kvs.map (·.1)).Nodup:=by
  rw[yU.keys i.pr];exact List.Pairwise.map _ (fun a b h e=>h (Sum.inr.inj e)) i.nd
 unfold rM;rw[if_pos (mem_map.mpr ⟨z,hz,rfl⟩)];refine⟨fun a o h=>by rw[aH (aF h hl0)];exact i.s a o h,?_,oI i.pr fun x kx hx hkx r=>?_,?_,i.fr,i.un,fun x hx=>?_⟩
 .obtain⟨ep,e⟩:=i.d;exact⟨ep,by rw[aH hlp.symm];exact e⟩
 .obtain⟨e1,l2,us2,e2,h2,q⟩:=r
  by_cases ex:x.1=z.1
  .rw[if_pos ex];have:kx=kv:=iY ndk hkx hkv (by rw[e1,hk,ex]);subst this;have:l2=l:=by rw[e2]at hl;exact V.ref.inj hl
   subst this;rw[hus]at h2;cases h2;exact⟨e1,l2,_,e2,aB,tW.snoc (L2.Paired.dP q fun _ _ r=>m kt r) (m kt hc) rfl⟩
  .rw[if_neg ex];have ne:l2≠l:=fun e=>by
    have:kx=kv:=iY i.un hkx hkv (by rw[e2,hl,e]);rw[this,hk]at e1;exact ex (Sum.inr.inj e1).symm
   exact⟨e1,l2,us2,e2,by rw[aH ne];exact h2,L2.Paired.dP q fun _ _ r=>m kt r⟩
 .rw[map_map];rw[show C.map ((fun x=>x.1)∘fun x=>if x.1=z.1 then(x.1,x.2++[c])else x)=C.map (·.1)from map_congr_left fun x _=>by show(if x.1=z.1 then(x.1,x.2++[c])else x).1=x.1;split<;>rfl];exact i.nd
 .obtain⟨y,hy,rfl⟩:=mem_map.mp hx;split
  .simp
  .exact i.ne y hy
theorem o4.new (i:o4 cR H H' p kvs C) (hp:H p=none) {l:Addr} {c:κ} (hn:n∉C.map (·.1)) (hv:bG kvs (.inr n)=none) (hl:H' l=none) {H1:Hp} {ep:Nat} (h1:∀a o,H' a=some o->a≠p->H1 a=some o) (h2:H1 p=some (.dK (putK kvs (.inr n) (.ref l)) ep)) (h3:H1 l=some (.lst [])) (hc:cR H1 c (.ref b)):
  o4 cR H (upd H1 l (.lst [.ref b])) p (kvs++[(.inr n,.ref l)]) (rM C n c):=by
 have hl0:=AB i.s hl;obtain⟨e0,hd0⟩:=i.d;have hlp:l≠p:=(aF hd0 hl).symm;have kt:eP H' (upd H1 l (.lst [.ref b])):=fun a us h=>by
  have ha:a≠p:=fun e=>by rw[e,hd0]at h;cases h
  rw[aH (aF h hl)];exact h1 a _ h ha
 have kt1:eP H1 (upd H1 l (.lst [.ref b])):=eP.upd h3;have epk:putK kvs (Sum.inr n) (V.ref l)=kvs++[(Sum.inr n,V.ref l)]:=by
  unfold putK;rw[eF,hv];rfl
 unfold rM;rw[if_neg hn];refine⟨fun a o h=>?_,⟨ep,?_⟩,tW.snoc (L2.Paired.dP i.pr fun x kx ⟨e1,l2,us2,e2,hh,q⟩=>?_) ⟨rfl,l,_,rfl,aB,.cons (m kt1 hc) .nil⟩ rfl,?_,fun kv hkv l2 e=>?_,?_,fun x hx=>?_⟩
 .rw[aH (aF h hl0)];exact h1 a o (i.s a o h) (aF h hp)
 .rw[aH hlp.symm,h2,epk]
 .have ne:l2≠l:=aF hh hl;have n2:l2≠p:=fun e=>by rw[e,hd0]at hh;cases hh
  exact⟨e1,l2,us2,e2,by rw[aH ne];exact h1 _ _ hh n2,L2.Paired.dP q fun _ _ r=>m kt r⟩
 .rw[map_append];refine nodup_append.mpr ⟨i.nd,by simp,fun a ha b hb e=>?_⟩;have hb:b=n:=by simpa using hb
  exact hn (by rw[<-hb,<-e];exact ha)
 .rcases mem_append.mp hkv with h|h
  .exact i.fr kv h l2 e
  .rw[mem_singleton.mp h]at e;have e:l=l2:=V.ref.inj e;subst e;exact⟨hl0,hlp⟩
 .rw[map_append];refine nodup_append.mpr ⟨i.un,by simp,fun a ha b hb e=>?_⟩;have hb:b=V.ref l:=by simpa using hb
  obtain⟨kx,hkx,rfl⟩:=mem_map.mp ha;obtain⟨x,_,_,l2,us2,e2,hh,_⟩:∃x,x∈C/\yU cR H' x kx:=by
   obtain⟨j,hj⟩:=getElem?_of_mem hkx;obtain⟨x,hx,r⟩:=L2.Paired.jI i.pr hj;exact⟨x,mem_of_getElem? hx,r⟩
  rw[e2,hb]at e;have e:=V.ref.inj e;rw[e,hl]at hh;cases hh
 .rcases mem_append.mp hx with h|h
  .exact i.ne x h
  .rw[mem_singleton.mp h];simp
end
theorem qO {C:List (Str×List κ)} {k:Str} {c d:κ}:(∃z∈rM C n c,z.1=k/\d∈z.2)↔(∃z∈C,z.1=k/\d∈z.2)\/ (k=n/\d=c):=by
 unfold rM
 by_cases h:n∈C.map (·.1)
 .rw[if_pos h];constructor
  .rintro⟨z,hz,e,hd⟩;obtain⟨y,hy,rfl⟩:=mem_map.mp hz
   by_cases ey:y.1=n
   .rw[if_pos ey]at e hd;rcases mem_append.mp hd with h1|h1
    .exact .inl ⟨y,hy,e,h1⟩
    .exact .inr ⟨e.symm.trans ey,mem_singleton.mp h1⟩
   .rw[if_neg ey]at e hd;exact .inl ⟨y,hy,e,hd⟩
  .rintro(⟨z,hz,e,hd⟩|⟨rfl,rfl⟩)
   .by_cases ez:z.1=n
    .exact⟨(z.1,z.2++[c]),mem_map.mpr ⟨z,hz,if_pos ez⟩,e,mem_append_left _ hd⟩
    .exact⟨z,mem_map.mpr ⟨z,hz,if_neg ez⟩,e,hd⟩
   .obtain⟨z,hz,ez⟩:=mem_map.mp h;exact⟨(z.1,z.2++[d]),mem_map.mpr ⟨z,hz,if_pos ez⟩,ez,by simp⟩
 .rw[if_neg h];constructor
  .rintro⟨z,hz,e,hd⟩;rcases mem_append.mp hz with h1|h1
   .exact .inl ⟨z,h1,e,hd⟩
   .rw[mem_singleton.mp h1]at e hd;exact .inr ⟨e.symm,mem_singleton.mp hd⟩
  .rintro(⟨z,hz,e,hd⟩|⟨rfl,rfl⟩)
   .exact⟨z,mem_append_left _ hz,e,hd⟩
   .exact⟨_,mem_append_right _ (mem_singleton.mpr rfl),rfl,by simp⟩
end
end My
namespace L2
open PySem
theorem CF {K:Frag} {a:Addr} {xs:List V} {g:TG} {tb:TS} {D:Ends} {σ:St} {H:Hp} (Pv:Nat->St->Hp->Prop) (h0:Pv 0 σ H) (hl:∀i σ H,i<=xs.length->Pv i σ H->bO K H a xs)
  (hs:∀i x t σ H,xs[i]? =some x->H t=none->Pv i σ H->g (.ref t) σ (upd H t (.tup [.int i,x])) fun σ2 H2=>tb {D with nx:=Pv (i+1),ct:=Pv (i+1),bk:=D.nx} σ2 H2) (hd:∀σ H,Pv xs.length σ H->D.nx σ H):
  ∃W:Nat->Nat->St->Hp->Prop,(∃m,W 0 m σ H)/\∀i m σ H,W i m σ H->
   ((N7 K a).stop i H/\D.nx σ H)\/ ((N7 K a).go i H/\∃N:St->Hp->Prop,(∀σ' H',N σ' H'->∃m',m'<m/\W (i+1) m' σ' H')/\∀x H',(N7 K a).yR i H x H'->g x σ H' fun σ2 H2=>tb {D with nx:=N,ct:=N,bk:=D.nx} σ2 H2):=by
 refine⟨fun i m σ H=>m=xs.length - i/\i<=xs.length/\Pv i σ H,⟨xs.length,by simp,zero_le _,h0⟩,?_⟩;rintro i m σ H ⟨rfl,hi,p⟩;have q:=hl i σ H hi p
 by_cases hlt:i<xs.length
 .refine .inr ⟨⟨xs,xs[i],q,by simp[hlt]⟩,Pv (i+1),fun σ' H' p'=>⟨xs.length - (i+1),by omega,rfl,hlt,p'⟩,fun x H' y=>?_⟩;obtain⟨t,ht,rfl,y⟩:=y;obtain⟨x,hx,rfl⟩:=y xs q;exact hs i x t σ H hx ht p
 .have e:i=xs.length:=by omega
  subst e;exact .inl ⟨⟨xs,q,rfl⟩,hd σ H p⟩
end L2
namespace My
open PySem L2
variable {f p:Addr} {H H1:Hp} {pp rr:List Str} {o:Option Str} {y:Str}
theorem wX {κ:Type} {C:List (Str×List κ)} {n:Str} {c:κ} {m:Nat} (h:∀z∈C,z.2.length<=m) (hC:C.length<=m):(∀z∈rM C n c,z.2.length<=m+1)/\(rM C n c).length<=m+1:=by
 unfold rM;split
 .refine⟨fun z hz=>?_,by rw[length_map];omega⟩;obtain⟨y,hy,rfl⟩:=mem_map.mp hz;have:=h y hy;split
  .rw[length_append];show y.2.length+1<=_;omega
  .omega
 .refine⟨fun z hz=>?_,by rw[length_append];show C.length+1<=_;omega⟩;rcases mem_append.mp hz with h1|h1
  .have:=h z h1;omega
  .rw[mem_singleton.mp h1];show 1<=m+1;omega
def RW (H:Hp) (p f:Addr) (R:List Str) (u:V):Prop:=∃b,u= .ref b/\H b=some (.lst (R.map V.str))/\b≠p/\b≠f
structure HC (ab:Hl) (H H':Hp) (p f:Addr) (i:Nat) (F:List (List Str)) (M:Hl) (us:List V):Prop where
 s:aG H H'
 dm:bY H' p (bK M)
 hu:H' f=some (.lst us)
 pr:Paired (RW H' p f) F us
 fi:F.length<=i
 fd:Rg.Found (aS ab) (ks M) F
 nd:(ks M).Nodup
 st:∀x∈(ks ab).take i,x∈ks M
 vl:∀x∈ks M,∃s∈(ks ab).take i,aS M x=some s
 un:∀x∈ks M,x∈univ ab
noncomputable def jB (H:Hp) (p f:Addr):Hp:=fun b=>if b=p\/ b=f then none else H b
theorem mM {b:Addr} (h1:b≠p) (h2:b≠f):jB H p f b=H b:=if_neg fun h=>h.elim h1 h2
theorem p7 (s:aG H H1) (hp:H p=none) (hf:H f=none):aG H (jB H1 p f):=fun b o h=>by
 rw[mM (aF h hp) (aF h hf)];exact s b o h
theorem DR (b:Addr) (o:HO) (h:jB H1 p f b=some o):H1 b=some o:=by
 unfold jB at h;split at h
 .cases h
 .exact h
section
variable {ab M M':Hl} {us:List V} {F:List (List Str)} {p f c:Addr} {st:Str} {H H1 H':Hp} {l:List Str} {i:Nat}
theorem HC.more (k:HC ab H H1 p f i F M us) (s:aG (jB H1 p f) H'):Paired (RW H' p f) F us:=
 L2.Paired.dP k.pr fun _ _ ⟨b,e,h,n1,n2⟩=>⟨b,e,s _ _ (by rw[mM n1 n2];exact h),n1,n2⟩
theorem HC.all (k:HC ab H H1 p f i F M us) (w:y4 ab M M' us p f c st (jB H1 p f) H' l o) (ho:∀y,o=some y->y∈ks M\/ y∈l) (hst0:(ks ab)[i]? =some st):∀x∈(ks ab).take (i+1),x∈ks M':=fun x hx=>by
 have kk:=w.cl.km;rw[take_succ,hst0]at hx;rw[kk,mem_append];rcases mem_append.mp hx with h|h
 .exact .inl (k.st x h)
 .have e:x=st:=by simpa using h
  subst e;exact w.QV.elim (fun h=>ho _ h) .inr
theorem HC.end (k:HC ab H H1 p f i F M us) (w:y4 ab M M' us p f c st (jB H1 p f) H' l o) (hp:H p=none) (hf:H f=none) (ho:∀y,o=some y->y∈ks M) (hst0:(ks ab)[i]? =some st)
  (hval:∀x∈ks M',∃s∈(ks ab).take (i+1),aS M' x=some s):HC ab H H' p f (i+1) F M' us:=
 ⟨(p7 k.s hp hf).trans w.s,w.dm,w.hu,k.more w.s,Nat.le_succ_of_le k.fi,by rw[w.cl.km];exact w.cl.out k.fd ho,by rw[w.cl.km];exact w.cl.nd,k.all w (fun y e=>.inl (ho y e)) hst0,hval,w.un⟩
theorem HC.ring (k:HC ab H H1 p f i F M us) (w:y4 ab M M' us p f c st (jB H1 p f) H' l (some y)) (hp:H p=none) (hf:H f=none) (npf:p≠f) (hy:y∈l) (hst0:(ks ab)[i]? =some st)
  (hval:∀x∈ks M',∃s∈(ks ab).take (i+1),aS M' x=some s) {r:Addr} (el:l=pp++y::rr) (hr:H' r=none):
  HC ab H (upd (upd H' r (.lst ((y::rr).map V.str))) f (.lst (us++[.ref r]))) p f (i+1) (F++[y::rr]) M' (us++[.ref r]):=by
 subst el;obtain⟨ep,em⟩:=w.dm;have hrf:=aF w.hu hr;have hrp:=aF em hr;refine⟨fun b o h=>?_,⟨ep,?_⟩,aB,tW.snoc (L2.Paired.dP (k.more w.s) fun _ _ ⟨b,e,h,n1,n2⟩=>⟨b,e,?_,n1,n2⟩) ⟨r,rfl,?_,hrp.symm,hrf.symm⟩ rfl,by rw[length_append];have:=k.fi;show F.length+1<=_;omega,by rw[w.cl.km];exact w.cl.ring k.fd,by rw[w.cl.km];exact w.cl.nd,k.all w (fun z e=>.inr (by cases e;exact hy)) hst0,hval,w.un⟩
 .have h2:=((p7 k.s hp hf).trans w.s) b o h;rw[aH (aF h hf),aH (aF h2 hr)];exact h2
 .rw[aH npf,aH hrp];exact em
 .rw[aH n2,aH (aF h hr)];exact h
 .rw[aH hrf.symm];exact aB
end
theorem BU {l:List Str} (e:l=pp++y::rr) (n:y∉pp):iM (l.map V.str) (some (l.idxOf y:Int)) none=(y::rr).map V.str:=by
 rw[JY];subst e;have hi:(pp++y::rr).idxOf y=pp.length:=by
  rw[List.idxOf_append,if_neg n,List.idxOf_cons_self,zero_add]
 rw[hi,<-map_drop,List.drop_left]
end My
namespace L2
open PySem
section
variable {k:Nat} {cA:List Nat} {g:TG} {tt:TT} {te:TE} {σ:St} {H:Hp} {Q:VK} {l:Addr}
theorem iN {K:Frag} {a:Addr} {ss:List Str} (hS:bM K H a (ss.map V.str)) (p:Str->Bool) (R:Hp->Str->V->Prop) (Good:St->Prop) (h0:Good (bS k cA σ)) (hl:H l=none) (hlen:ss.length<sizeLine)
  (m:∀H1 H2 e v,eP H1 H2->R H1 e v->R H2 e v)
  (ht:∀n σ H1 ys (N:St->Hp->Prop),n∈ss->Good σ->aG H H1->H1 l=some (.lst ys)->ys.length<sizeLine->(p n=false->∀σ',Good σ'->N σ' H1)->
   (p n=true->∀σ' v H2,Good σ'->aG H1 H2->R H2 n v->N σ' (upd H2 l (.lst (ys++[v]))))->dD g tt te l (.str n) σ H1 N)
  (hd:∀H' ys,aG H H'->Paired (R H') (ss.filter p) ys->H' l=some (.lst ys)->Q (.ref l) H'):mX (LC K a) g tt te l (bS k cA σ) (upd H l (.lst [])) Q:=by
 refine oA (LC K a) ss V.str p R Good h0 hl hlen (fun H' s=>⟨_,hS.same s,by rw[length_map];exact le_refl _⟩) (fun i H' hi s=>⟨_,.str ss[i],hS.same s,by rw[getElem?_map,getElem?_eq_getElem hi];rfl⟩) (fun i H1 v H2 hi s y=>⟨y.1,ss[i],getElem?_eq_getElem hi,?_⟩) m ht hd;have h1:=y.2 _ (hS.same s);rw[getElem?_map,getElem?_eq_getElem hi]at h1;exact(Option.some.inj h1).symm
end
end L2
namespace Mr
open PySem PySem.Spec L2 PyProof.Rows PySem.W
variable {s:Shared}
noncomputable def ltQ:Nat->PV->PV->Option Bool
 |_,.str a,.str b=>some (decide (a.cps.toList<b.cps.toList))
 |_,.int a,.int b=>some (decide (a<b))
 |_,.bl a,.bl b=>some (decide (b2i a<b2i b))
 |n+1,.tup xs,.tup ys=>cN (ltQ n) xs ys
 |_,_,_=>none
theorem MU:∀(n:Nat) (A:Around) {p q:PV} {v u:Value} {b:Bool},A.units+n<cLine->kY n p=true->kY n q=true->Lies s.heap p v->Lies s.heap q u->ltQ n p q=some b->x8 A s v u b:=by
 intro n
 induction n with
 | zero=>
  intro A p q v u b hu o1 o2 h1 h2 h;cases p with
  |str x=>cases q with
   |str y=>cases h;cases h1;cases h2;exact fun prog w E Q q=>PySem.P.lt_str q
   |_=>cases h
  |int x=>cases q with
   |int y=>cases h;cases h1;cases h2;exact fun prog w E Q q=>PyProof.Rows.lt_int q
   |_=>cases h
  |bl x=>cases q with
   |bl y=>cases h;cases h1;cases h2;exact fun prog w E Q q=>PyProof.Rows.lt_bool q
   |_=>cases h
  |_=>cases q<;>cases h
 | succ n ih=>
  intro A p q v u b hu o1 o2 h1 h2 h;cases p with
  |str x=>cases q with
   |str y=>cases h;cases h1;cases h2;exact fun prog w E Q q=>PySem.P.lt_str q
   |_=>cases h
  |int x=>cases q with
   |int y=>cases h;cases h1;cases h2;exact fun prog w E Q q=>PyProof.Rows.lt_int q
   |_=>cases h
  |bl x=>cases q with
   |bl y=>cases h;cases h1;cases h2;exact fun prog w E Q q=>PyProof.Rows.lt_bool q
   |_=>cases h
  | tup xs=>
   cases q with
   | tup ys=>
    cases h1 with
    | tup t1 l1=>
     cases h2 with
     |tup t2 l2=>
      have hin:A.in1.units=A.units+1:=rfl;have o1:xs.all (kY n)=true:=o1;have o2:ys.all (kY n)=true:=o2;refine GC t1 t2 (by omega) ?_;simpa using EE (A:=A.in1) (s:=s) l1 l2 (fun x hx y hy u v a b=>⟨z6 n A.in1 (by omega) (all_eq_true.mp o1 x hx) (all_eq_true.mp o2 y hy) a b,fun c hc=>ih A.in1 (by omega) (all_eq_true.mp o1 x hx) (all_eq_true.mp o2 y hy) a b hc⟩) rfl h
   |_=>cases h
  |_=>cases q<;>cases h
def LZ (ps:List PV):Prop:=∀p∈ps,kY 3 p=true/\∀q∈ps,(ltQ 3 p q).isSome=true
noncomputable def D3 (ps:List PV) (i j:Nat):Bool:=(ltQ 3 (ps.getD i .aU) (ps.getD j .aU)).getD false
section
variable {X:Cx} {k:Nat}
theorem IV {pins:List (Addr×Obj)} {σ:L2.St} {H:Hp} {s':Shared} {ps:List PV} {ys:List V} {vs:List Value} (hr:eL k X.A) (I:Inv X pins σ H s) (rp:fR X.K CI H ps ys) (rv:Vals ys vs) (cmp:LZ ps) (aW:∀b o,s.heap.get? b=some o->s'.heap.get? b=some o) {i j:Nat} {vi vj:Value} (h1:vs[i]? =some vi) (h2:vs[j]? =some vj):x8 X.A.in1 s' vi vj (D3 ps i j):=by
 have hL:bQ s'.heap ps vs:=fR.lies (I.kept (t':=s.toks) aW) (n:=3) (all_eq_true.mpr fun x hx=>(cmp x hx).1) rp rv;obtain⟨p1,e1,l1⟩:=hL.get h1;obtain⟨p2,e2,l2⟩:=hL.get h2;have m1:=mem_of_getElem? e1;have m2:=mem_of_getElem? e2;obtain⟨b,hb⟩:=isSome_iff_exists.mp ((cmp p1 m1).2 p2 m2);have e:D3 ps i j=b:=by unfold D3;rw[getD_eq_getElem?_getD,e1,getD_eq_getElem?_getD,e2];show(ltQ 3 p1 p2).getD false=b;rw[hb];rfl
 rw[e];exact MU (s:=s') 3 X.A.in1 (by have:=hr.un;show X.A.units+1+3<_;omega) (cmp p1 m1).1 (cmp p2 m2).1 l1 l2 hb
def MI (K:Frag):List V->Hp->VK->Prop:=fun xs H Q=>∃x y p q,xs=[x,y]/\fR K CI H [p,q] [x,y]/\LZ [p,q]/\Q (if D3 [p,q] 1 0=true then y else x) H
theorem MT (K:Frag) (hr:eL k X.A) (hK:X.K=K:=by rfl) (hc:X.calm=true:=by rfl):eU X (.builtin "min") (MI K):=by
 subst hK;intro pins s σ H xs us Q I r ⟨x,y,p,q,e,rp,cmp,qq⟩;subst e;obtain⟨u,v,rfl,rx,ry⟩:=vals2 r;have rv:Vals [x,y] [u,v]:=.cons rx (.cons ry .nil);refine FO (ok:=fun h=>∀b o,s.heap.get? b=some o->h.get? b=some o) (D3 [p,q]) (by exact I.ok.hd hc) (fun h' kp=>kp) (fun h h' o kk b u e=>kk b u (lt_size e) (o b u e)) (fun i j vi vj s' Q E aW h1 h2 hQ=>IV hr I rp rv cmp aW h1 h2 _ _ _ _ hQ) fun w h' tk hv kp=>?_
 have hv:[u,v][if D3 [p,q] 1 0 then 1 else 0]? =some w:=hv;refine⟨if D3 [p,q] 1 0=true then y else x,H,I.kept (t':=tk) kp,?_,qq⟩
 by_cases hb:D3 [p,q] 1 0=true
 .rw[if_pos hb]at hv⊢
  cases hv;exact ry
 .rw[if_neg hb]at hv⊢
  cases hv;exact rx
end
end Mr
namespace My
open PySem L2
variable {hm:Hl} {H:Hp} {r x y:Str}
theorem vQ {ab:Hl} (hac:∀x,¬Rg.jD (aS ab) x) (x:Str):Rg.cJ (aS ab) (ab.length+1) x=none:=by
 apply Classical.byContradiction;intro hne;have some_le:∀n,Rg.cJ (aS ab) (n+1) x≠none->Rg.cJ (aS ab) n x≠none:=fun n h e=>h (by rw[fW n 1 x,e]<;>rfl)
 have all:∀k,k<=ab.length+1->∃y,Rg.cJ (aS ab) k x=some y:=by
  have key:∀d k,k+d=ab.length+1->Rg.cJ (aS ab) k x≠none:=by
   intro d
   induction d with
   |zero=>intro k e;rw[show k=ab.length+1 by omega];exact hne
   |succ d ih=>intro k e;exact some_le k (ih (k+1) (by omega))
  intro k hk;exact Option.ne_none_iff_exists'.mp (key (ab.length+1 - k) k (by omega))
 let l:=(List.range (ab.length+1)).map fun i=>(Rg.cJ (aS ab) i x).getD x
 have hl:l.length=ab.length+1:=by simp[l]
 have c:Cl ab x l:=⟨(by intro e;rw[e]at hl;cases hl),fun i hi=>by
  obtain⟨y,hy⟩:=all i (by omega);simp[l,hy]⟩
 have nd:l.Nodup:=by
  rw[List.nodup_iff_pairwise_ne,pairwise_iff_getElem];intro i j hi hj hij e;refine hac l[i] ⟨j - i - 1,?_⟩;have h1:=c.at' i hi;have h2:=c.at' j hj;have e2:Rg.cJ (aS ab) (i+(j - i - 1+1)) x=some l[j]:=by rw[show i+(j - i - 1+1)=j by omega];exact h2
  rw[fW,h1,<-e]at e2;exact e2
 have sub:∀z∈l,z∈ks ab:=fun z hz=>by
  obtain⟨i,hi,rfl⟩:=List.mem_iff_getElem.mp hz;obtain⟨y,hy⟩:=all (i+1) (by omega);rw[fW i 1 x,c.at' i hi]at hy;have hy:(aS ab l[i]).bind (Rg.cJ (aS ab) 0)=some y:=hy;cases hu:aS ab l[i]with
  |none=>rw[hu]at hy;cases hy
  |some w=>exact iZ hu
 have h1:=dX nd sub;have h2:(ks ab).length=ab.length:=length_map ..;omega
noncomputable def GP (up:Str->Option Str) (N:Nat) (x:Str):Nat:=((List.range (N+1)).filter fun n=>(Rg.cJ up n x).isSome).length
theorem ET {up:Str->Option Str} {N:Nat} (e:up x=some y) (hN:Rg.cJ up N y=none):GP up N x=GP up N y+1:=by
 have h1:GP up N x=1+((List.range N).filter fun n=>(Rg.cJ up n y).isSome).length:=by
  unfold GP;rw[List.range_succ_eq_map,filter_cons,if_pos (show(Rg.cJ up 0 x).isSome=true from rfl),length_cons,List.filter_map,length_map,add_comm];congr 2;apply List.filter_congr;intro n _;show((up x).bind (Rg.cJ up n)).isSome=_;rw[e];rfl
 have h2:GP up N y=((List.range N).filter fun n=>(Rg.cJ up n y).isSome).length:=by
  unfold GP;rw[List.range_succ,List.filter_append,length_append,filter_cons,if_neg (by rw[hN];exact Bool.false_ne_true)];rfl
 omega
def Top (up:Str->Option Str) (x r:Str):Prop:=(∃k,Rg.cJ up k x=some r)/\up r=none
theorem Top.uq {up:Str->Option Str} {r':Str} (h:Top up x r) (h':Top up x r'):r=r':=by
 obtain⟨⟨k,e⟩,h2⟩:=h;obtain⟨⟨k',e'⟩,h2'⟩:=h';have key:∀{k k':Nat} {r r':Str},k<=k'->Rg.cJ up k x=some r->up r=none->Rg.cJ up k' x=some r'->r=r':=by
  intro k k' r r' hk e h e';rw[show k'=k+(k' - k) by omega,fW,e]at e';cases c:k' - k with
  |zero=>rw[c]at e';cases e';rfl
  |succ n=>
   rw[c]at e';have e':(up r).bind (Rg.cJ up n)=some r':=e';rw[h]at e';cases e'
 rcases Nat.le_total k k' with h|h
 .exact key h e h2 e'
 .exact(key h e' h2' e).symm
theorem Top.up {up:Str->Option Str} (e:up x=some y) (h:Top up y r):Top up x r:=let⟨⟨k,q⟩,t⟩:=h;⟨⟨k+1,by show(up x).bind (Rg.cJ up k)=some r;rw[e];exact q⟩,t⟩
theorem Top.of {up:Str->Option Str} {k:Nat} (e:Rg.cJ up k x=some y) (h:Top up y r):Top up x r:=let⟨⟨j,q⟩,t⟩:=h;⟨⟨k+j,by rw[fW,e];exact q⟩,t⟩
theorem Top.self {up:Str->Option Str} (h:up x=none):Top up x x:=⟨⟨0,rfl⟩,h⟩
theorem N9 {ab:Hl} (hac:∀x,¬Rg.jD (aS ab) x):∀x,∃r,Top (aS ab) x r:=by
 have key:∀n x,GP (aS ab) (ab.length+1) x=n->∃r,Top (aS ab) x r:=by
  intro n
  induction n with
  |zero=>
   intro x h;unfold GP at h;rw[List.range_succ_eq_map,filter_cons,if_pos (show(Rg.cJ (aS ab) 0 x).isSome=true from rfl)]at h;cases h
  | succ n ih=>
   intro x h;cases c:aS ab x with
   |none=>exact⟨x,Top.self c⟩
   |some y=>
    rw[ET c (vQ hac y)]at h;obtain⟨r,hr⟩:=ih y (by omega);exact⟨r,hr.up c⟩
 exact fun x=>key _ x rfl
def qZ (up:Str->Option Str) (o:Option Str) (g:Str):Prop:=∃e k,o=some e/\Rg.cJ up k e=some g
theorem AG {ab:Hl} {n:Str} {v:Option Str} {z:Str×Option Str} (h:z∈cD ab n v):z∈ab\/ z=(n,v):=by
 unfold cD at h;split at h
 .obtain⟨y,hy,rfl⟩:=mem_map.mp h
  by_cases c:y.1=n
  .rw[if_pos c,c];exact .inr rfl
  .rw[if_neg c];exact .inl hy
 .exact(mem_append.mp h).imp id mem_singleton.mp
theorem KG (hac:∀x,¬Rg.jD (aS hm) x) (z:Str) (x:Str):¬Rg.jD (aS (cD hm z none)) x:=fun c=>hac x (c.mono fun x y e=>by
 rw[eY]at e;split at e
 .cases e
 .exact e)
theorem IU {hm:Hl} (hac:∀x,¬Rg.jD (aS hm) x) {z e:Str} (hg:¬qZ (aS hm) (some e) z) (x:Str):¬Rg.jD (aS (cD hm z (some e))) x:=fun c=>by
 have back:∀(k:Nat) {y:Str},Rg.cJ (aS (cD hm z (some e))) k y=some z->∃j,Rg.cJ (aS hm) j y=some z:=by
  intro k
  induction k with
  |zero=>intro y h;cases h;exact⟨0,rfl⟩
  | succ k ih=>
   intro y h
   by_cases c:y=z
   .exact⟨0,by rw[c];rfl⟩
   .have h:(aS (cD hm z (some e)) y).bind (Rg.cJ (aS (cD hm z (some e))) k)=some z:=h;rw[eY,if_neg c]at h;cases hu:aS hm y with
    |none=>rw[hu]at h;cases h
    |some w=>
     rw[hu]at h;obtain⟨j,hj⟩:=ih h;exact⟨j+1,by show(aS hm y).bind (Rg.cJ (aS hm) j)=some z;rw[hu];exact hj⟩
 have atz:∀n,Rg.cJ (aS (cD hm z (some e))) (n+1) z=some z->False:=fun n h=>by
  have h:(aS (cD hm z (some e)) z).bind (Rg.cJ (aS (cD hm z (some e))) n)=some z:=h;rw[eY,if_pos rfl]at h;obtain⟨j,hj⟩:=back n h;exact hg ⟨e,j,rfl,hj⟩
 by_cases hm':∃m,Rg.cJ (aS (cD hm z (some e))) m x=some z
 .obtain⟨m,hm'⟩:=hm';obtain⟨y,j,h1,h2⟩:=c.back m;rw[hm']at h1;cases h1;obtain⟨n,hn⟩:=c;have h3:Rg.cJ (aS (cD hm z (some e))) (j+((n+1)+m)) z=some z:=by
   rw[fW,h2];show Rg.cJ _ ((n+1)+m) x=some z;rw[fW,hn];exact hm'
  exact atz (j+n+m) (by rw[show j+n+m+1=j+((n+1)+m) by omega];exact h3)
 .obtain⟨n,hn⟩:=c;have same:∀k,Rg.cJ (aS (cD hm z (some e))) k x=Rg.cJ (aS hm) k x:=by
   intro k
   induction k with
   |zero=>rfl
   | succ k ih=>
    rw[fW k 1,fW k 1,<-ih];cases hk:Rg.cJ (aS (cD hm z (some e))) k x with
    |none=>rfl
    |some w=>
     show(aS (cD hm z (some e)) w).bind _=(aS hm w).bind _;rw[eY,if_neg (fun c=>hm' ⟨k,by rw[hk,c]⟩)];rfl
  exact hac x ⟨n,by rw[<-same];exact hn⟩
theorem FH:∀ab:Hl,g9 H (ab.map fun z=>pO z.2) (ab.map fun z=>oV z.2)
 |[]=>.nil
 |z::ab=>.cons (PX z.2) (FH ab)
theorem JT {K:Frag} (ab:Hl):Mr.PJ K Mr.CI H (ab.map fun z=>((Sum.inr z.1:Key),pO z.2)) (bK ab):=
 ⟨by unfold bK;rw[map_map,map_map];rfl,by unfold bK;rw[map_map,map_map];exact(FH ab).rep⟩
noncomputable abbrev OF:Str×Option Str:=(Str.ofString "",none)
theorem picked {as:List Addr} (hal:as.length=(bK hm).length) (has:∀(j:Nat) t q,as[j]? =some t->(bK hm)[j]? =some q->H t=some (.tup [kV q.1,q.2])):∀{ix:List Nat},(∀i∈ix,i<hm.length)->Paired (FT H) (ix.map fun i=>hm.getD i OF) (ix.map fun i=>V.ref (as.getD i 0))
 |[],_=>.nil
 | i::ix,h=>by
  have hi:=h i mem_cons_self;rw[dU]at hal;have e1:=getElem?_eq_getElem (by omega:i<as.length);have e2:=getElem?_eq_getElem hi;have e3:(bK hm)[i]? =some (Sum.inr hm[i].1,oV hm[i].2):=by unfold bK;rw[getElem?_map,e2];rfl
  refine .cons ⟨as[i],?_,?_⟩ (picked (by rw[dU];exact hal) has fun j hj=>h j (mem_cons_of_mem _ hj))
  .show V.ref (as.getD i 0)=_;rw[getD_eq_getElem?_getD,e1];rfl
  .have:=has i _ _ e1 e3;show H as[i]=some (.tup [.str (hm.getD i OF).1,oV (hm.getD i OF).2]);rw[getD_eq_getElem?_getD,e2];exact this
theorem DD {α:Type} {l:List α} {d:α} {ix:List Nat} (h:ix.Perm (List.range l.length)):(ix.map fun i=>l.getD i d).Perm l:=by
 have h1:=h.map fun i=>l.getD i d
 have e:(List.range l.length).map (fun i=>l.getD i d)=l:=by
  apply ext_getElem
  .simp
  .intro i a1 a2;simp[getElem?_eq_getElem a2]
 rw[e]at h1;exact h1
end My
namespace St
open PySem
variable {es:Array El} {xs:Array Nat} {js:List Nat} {i j m:Nat} {p:Pb} {t:SetTable} {α:Type}
abbrev LL (l:List Nat):Prop:=l.Pairwise (·<·)
theorem J2 (xs:Array Nat) (j:Nat) (hr:LL xs.toList):∀(f lo hi:Nat),hi - lo<=f->lo<=hi->hi<=xs.size->(∀i,i<lo->xs.getD i 0<j)->(∀i,hi<=i->i<xs.size->j<=xs.getD i 0)->
  SetTable.below.go xs j f lo hi<=xs.size/\(∀i,i<SetTable.below.go xs j f lo hi->xs.getD i 0<j)/\∀i,SetTable.below.go xs j f lo hi<=i->i<xs.size->j<=xs.getD i 0:=by
 intro f;have mono:∀a b,a<b->b<xs.size->xs.getD a 0<xs.getD b 0:=fun a b h hb=>by
  have h1:=pairwise_iff_getElem.mp hr a b (by simpa using lt_trans h hb) (by simpa using hb) h;rw[getD_eq_getD_getElem?,getD_eq_getD_getElem?,Array.getElem?_eq_getElem (lt_trans h hb),Array.getElem?_eq_getElem hb];simpa using h1
 induction f with
 |zero=>
  intro lo hi h1 h2 h3 h4 h5;have:lo=hi:=by omega
  subst this;exact⟨h3,h4,h5⟩
 | succ f ih=>
  intro lo hi h1 h2 h3 h4 h5;unfold SetTable.below.go
  by_cases hlt:lo<hi
  .rw[if_pos hlt];dsimp only;have hm1:lo<=(lo+hi) / 2:=by omega
   have hm2:(lo+hi) / 2<hi:=by omega
   generalize(lo+hi) / 2=mid at hm1 hm2
   by_cases hc:xs.getD mid j<j
   .rw[if_pos hc];have hc':xs.getD mid 0<j:=by
     rw[getD_eq_getD_getElem?,Array.getElem?_eq_getElem (by omega)]at hc⊢
     exact hc
    refine ih (mid+1) hi (by omega) (by omega) h3 (fun i hi'=>?_) h5
    by_cases e:i=mid
    .rw[e];exact hc'
    .exact lt_trans (mono i mid (by omega) (by omega)) hc'
   .rw[if_neg hc];have hc':j<=xs.getD mid 0:=by
     rw[getD_eq_getD_getElem?,Array.getElem?_eq_getElem (by omega)]at hc⊢
     exact le_of_not_lt hc
    refine ih lo mid (by omega) hm1 (by omega) h4 fun i hi' hi2=>?_
    by_cases e:i=mid
    .rw[e];exact hc'
    .exact le_of_lt (lt_of_le_of_lt hc' (mono mid i (by omega) hi2))
  .rw[if_neg hlt];have:lo=hi:=by omega
   subst this;exact⟨h3,h4,h5⟩
theorem lJ (hr:LL xs.toList) (j:Nat):SetTable.below xs j<=xs.size/\(∀i,i<SetTable.below xs j->xs.getD i 0<j)/\∀i,SetTable.below xs j<=i->i<xs.size->j<=xs.getD i 0:=
 J2 xs j hr xs.size 0 xs.size (by omega) (zero_le _) (le_refl _) (fun i h=>absurd h (not_lt_zero _)) fun i h h2=>by omega
theorem below_at {xs:Array Nat} (hr:LL xs.toList) {i j:Nat} (h:xs[i]? =some j):SetTable.below xs j=i:=by
 obtain⟨h1,h2,h3⟩:=lJ hr j;have hi:i<xs.size:=(Array.getElem?_eq_some_iff.mp h).1;have hv:xs.getD i 0=j:=by rw[getD_eq_getD_getElem?,h];rfl
 have mono:∀a b,a<b->b<xs.size->xs.getD a 0<xs.getD b 0:=fun a b h hb=>by
  have h1:=pairwise_iff_getElem.mp hr a b (by simpa using lt_trans h hb) (by simpa using hb) h;rw[getD_eq_getD_getElem?,getD_eq_getD_getElem?,Array.getElem?_eq_getElem (lt_trans h hb),Array.getElem?_eq_getElem hb];simpa using h1
 rcases Nat.lt_trichotomy (SetTable.below xs j) i with c|c|c
 .have:=h3 _ (le_refl _) (lt_trans c hi);have:=mono _ _ c hi;omega
 .exact c
 .have:=h2 i c;omega
structure Tb (t:SetTable):Prop where
 L7:LL t.place.toList
 dm:t.dummies= #[]
 ms:t.mask=7\/ t.mask=31\/ t.mask=127
 le:∀j∈t.place.toList,j<=t.mask
theorem sX (h:Tb t) (e:t.place[i]? =some j):t.slot j= .live i:=by
 unfold SetTable.slot;dsimp only;rw[below_at h.L7 e,e];simp
theorem zS (h:Tb t) (n:j∉t.place.toList):t.slot j= .empty:=by
 unfold SetTable.slot;dsimp only;rw[if_neg,if_neg]
 .unfold SetTable.has;rw[h.dm];simp
 .intro c;have c:t.place[SetTable.below t.place j]? =some j:=by simpa using c
  exact n (mem_of_getElem? (by rw[<-getElem?_toList]at c;exact c))
abbrev Pb:=SetTable.Probe
noncomputable def yP (m:Nat) (p:Pb):Pb:=
 if p.more>0 then{p with j:=p.j+1,more:=p.more - 1}else
 {p with j:=(SetTable.leap m p.i p.perturb).1,more:=SetTable.runEnd m (SetTable.leap m p.i p.perturb).1 - (SetTable.leap m p.i p.perturb).1,i:=(SetTable.leap m p.i p.perturb).1,perturb:=(SetTable.leap m p.i p.perturb).2}
theorem NU (t:SetTable) (p:Pb):t.advance p=yP t.mask p:=rfl
noncomputable def start (m:Nat) (h:Int):Pb:={j:=SetTable.bits h % (m+1),more:=SetTable.runEnd m (SetTable.bits h % (m+1)) - SetTable.bits h % (m+1),i:=SetTable.bits h % (m+1),perturb:=SetTable.bits h,dummy:=none}
noncomputable def walk (m:Nat) (p:Pb):Nat->Pb
 |0=>p
 |n+1=>yP m (walk m p n)
theorem dO (m:Nat) (p:Pb) (a b:Nat):walk m (walk m p a) b=walk m p (a+b):=by
 induction b with
 |zero=>rfl
 |succ b ih=>show yP m (walk m (walk m p a) b)=_;rw[ih];rfl
theorem pT (m:Nat) (p:Pb) (hp:p.dummy=none) (n:Nat):(walk m p n).dummy=none:=by
 induction n with
 |zero=>exact hp
 |succ n ih=>show(yP m (walk m p n)).dummy=none;unfold yP;split<;>exact ih
structure Ok (m:Nat) (p:Pb):Prop where
 jm:p.j+p.more<=m
 mo:p.more<=9
 pt:p.perturb<2^64
theorem z7 (h:i<=m):SetTable.runEnd m i<=m/\SetTable.runEnd m i - i<=9/\i<=SetTable.runEnd m i:=by
 unfold SetTable.runEnd;split<;>omega
theorem qV (m:Nat) (h:Int):Ok m (start m h):=by
 have h1:SetTable.bits h % (m+1)<=m:=le_of_lt_succ (mod_lt _ (succ_pos _));have h2:=z7 h1;refine⟨?_,h2.2.1,?_⟩
 .show SetTable.bits h % (m+1)+(SetTable.runEnd m (SetTable.bits h % (m+1)) - SetTable.bits h % (m+1))<=m;omega
 .show SetTable.bits h<2^64;unfold SetTable.bits;have h3:0<=h % (2^64:Int):=emod_nonneg _ (by decide);have h4:h % (2^64:Int)<2^64:=emod_lt_of_pos _ (by decide);omega
theorem L3 (h:Ok m p):Ok m (yP m p):=by
 unfold yP;split
 .exact⟨by have:=h.jm;show p.j+1+(p.more - 1)<=m;omega,by have:=h.mo;show p.more - 1<=9;omega,h.pt⟩
 .have h1:(SetTable.leap m p.i p.perturb).1<=m:=le_of_lt_succ (mod_lt _ (succ_pos _));have h2:=z7 h1;refine⟨?_,h2.2.1,?_⟩
  .show(SetTable.leap m p.i p.perturb).1+(SetTable.runEnd m (SetTable.leap m p.i p.perturb).1 - (SetTable.leap m p.i p.perturb).1)<=m;omega
  .exact lt_of_le_of_lt (Nat.div_le_self _ _) h.pt
theorem pK (h:Ok m p):∀n,Ok m (walk m p n)
 |0=>h
 |n+1=>L3 (pK h n)
theorem pB {m:Nat}:∀{n:Nat} {p:Pb},p.more=n->walk m p (n+1)={p with j:=(SetTable.leap m p.i p.perturb).1,more:=SetTable.runEnd m (SetTable.leap m p.i p.perturb).1 - (SetTable.leap m p.i p.perturb).1,i:=(SetTable.leap m p.i p.perturb).1,perturb:=(SetTable.leap m p.i p.perturb).2}
 |0,p,e=>by show yP m p=_;unfold yP;rw[if_neg (by omega)]
 |n+1,p,e=>by
  have h1:walk m p 1={p with j:=p.j+1,more:=p.more - 1}:=by show yP m p=_;unfold yP;rw[if_pos (by omega)]
  have h2:=pB (m:=m) (n:=n) (p:={p with j:=p.j+1,more:=p.more - 1}) (by show p.more - 1=n;omega);rw[<-h1]at h2;rw[dO,add_comm 1 (n+1)]at h2;rw[h2,h1]
noncomputable def dS (m:Nat):Nat->Nat×Nat->Nat×Nat
 |0,z=>z
 |n+1,z=>dS m n (SetTable.leap m z.1 z.2)
theorem eJ (m:Nat):∀(n:Nat) (z:Nat×Nat),dS m (n+1) z=SetTable.leap m (dS m n z).1 (dS m n z).2
 |0,_=>rfl
 |n+1,z=>by show dS m (n+1) (SetTable.leap m z.1 z.2)=_;rw[eJ m n];rfl
theorem CA (h:Ok m p):∀n,∃k,k<=10*(n+1)/\(walk m p k).j=(dS m (n+1) (p.i,p.perturb)).1/\(walk m p k).i=(dS m (n+1) (p.i,p.perturb)).1/\(walk m p k).perturb=(dS m (n+1) (p.i,p.perturb)).2
 |0=>by
  have h1:=pB (m:=m) (p:=p) rfl;refine⟨p.more+1,by have:=h.mo;omega,?_⟩;rw[h1];exact⟨rfl,rfl,rfl⟩
 |n+1=>by
  obtain⟨k,hk,e1,e2,e3⟩:=CA h n;have h1:=pB (m:=m) (p:=walk m p k) rfl;have h2:=(pK h k).mo;refine⟨k+((walk m p k).more+1),by omega,?_⟩;rw[<-dO,h1,eJ];dsimp only;rw[e2,e3];exact⟨rfl,rfl,rfl⟩
theorem nO (m:Nat) (z:Nat×Nat):∀n,(dS m n z).2=z.2 / 32^n
 |0=>by show z.2=z.2 / 1;rw[Nat.div_one]
 |n+1=>by
  rw[eJ];show(dS m n z).2 / 32=_;rw[nO m z n,Nat.div_div_eq_div_mul,Nat.pow_succ]
noncomputable def BB (M:Nat):Nat->Nat->Nat
 |0,i=>i
 |n+1,i=>(BB M n i*5+1) % M
theorem nM (m:Nat) (i:Nat) (hi:i<m+1):∀n,dS m n (i,0)=(BB (m+1) n i,0)
 |0=>rfl
 |n+1=>by rw[eJ,nM m i hi n];simp[SetTable.leap,BB]
theorem u3 (M a b i:Nat):BB M (a+b) i=BB M b (BB M a i):=by
 induction b with
 |zero=>rfl
 |succ b ih=>show(BB M (a+b) i*5+1) % M=_;rw[ih];rfl
noncomputable def full (M:Nat):Bool:=((List.range M).all fun j=>((List.range M).map fun n=>BB M n 0).contains j) && BB M M 0==0
theorem FK:∀m,m=7\/ m=31\/ m=127->full (m+1)=true:=by
 rintro m (rfl|rfl|rfl)
 .kernel_rfl
 .kernel_rfl
 .kernel_rfl
theorem AY (hm:m=7\/ m=31\/ m=127) {i j:Nat} (hi:i<=m) (hj:j<=m):∃n,n<=m/\BB (m+1) n i=j:=by
 have hf:=FK m hm;unfold full at hf;rw[and_eq_true,all_eq_true]at hf;have h0:BB (m+1) (m+1) 0=0:=by simpa using hf.2
 have at':∀x,x<=m->∃n,n<=m/\BB (m+1) n 0=x:=fun x hx=>by
  have h1:=hf.1 x (mem_range.mpr (by omega));rw[List.contains_iff_mem]at h1;obtain⟨n,hn,e⟩:=mem_map.mp h1;exact⟨n,by have:=mem_range.mp hn;omega,e⟩
 obtain⟨a,ha,ea⟩:=at' i hi;obtain⟨b,hb,eb⟩:=at' j hj
 by_cases c:a<=b
 .refine⟨b - a,by omega,?_⟩;rw[<-ea,<-u3,show a+(b - a)=b by omega,eb]
 .refine⟨m+1+b - a,by omega,?_⟩;rw[<-ea,<-u3,show a+(m+1+b - a)=m+1+b by omega,u3,h0,eb]
theorem nR (m a:Nat):∀(b:Nat) (z:Nat×Nat),dS m (a+b) z=dS m b (dS m a z)
 |0,_=>rfl
 |b+1,z=>by
  show dS m (a+b+1) z=_;rw[eJ,nR m a b,eJ]
theorem yH (m:Nat) (z:Nat×Nat) (hz:z.1<=m):∀n,(dS m n z).1<=m
 |0=>hz
 |n+1=>by rw[eJ];exact le_of_lt_succ (mod_lt _ (succ_pos _))
theorem sub_len {xs ys:List Nat} (nd:xs.Nodup) (h:∀x∈xs,x∈ys):xs.length<=ys.length:=by
 induction xs generalizing ys with
 |nil=>exact zero_le _
 |cons x xs ih=>
  obtain⟨h1,h2⟩:=nodup_cons.mp nd;have h3:=h x mem_cons_self;have:=ih (ys:=ys.erase x) h2 fun y hy=>(List.mem_erase_of_ne (fun e=>h1 (by rw[<-e];exact hy))).mpr (h y (mem_cons_of_mem _ hy))
  rw[List.length_erase_of_mem h3]at this;have:=length_pos_of_mem h3;rw[length_cons];omega
theorem x9 {m:Nat} (hm:m=7\/ m=31\/ m=127) (h:Ok m p) (hi:p.i<=m) {occ:List Nat} (ho:occ.length<=m):∃k,k<10*(m+15)/\(walk m p k).j∉occ:=by
 obtain⟨j,hj,hno⟩:∃j,j<=m/\j∉occ:=Classical.byContradiction fun hc=>by
  have h1:=sub_len (xs:=List.range (m+1)) (ys:=occ) nodup_range fun x hx=>Classical.byContradiction fun hn=>hc ⟨x,by have:=mem_range.mp hx;omega,hn⟩
  rw[length_range]at h1;omega
 have e2:(dS m 13 (p.i,p.perturb)).2=0:=by
  rw[nO];exact Nat.div_eq_of_lt (lt_of_lt_of_le h.pt (by decide))
 have e1:=yH m (p.i,p.perturb) hi 13;obtain⟨n,hn,en⟩:=AY hm e1 hj;obtain⟨k,hk,ej,_⟩:=CA h (12+n);refine⟨k,by omega,?_⟩;rw[ej,show 12+n+1=13+n by omega,nR];generalize dS m 13 (p.i,p.perturb)=z at e1 e2 en⊢
 obtain⟨z1,z2⟩:=z;have e2:z2=0:=e2;subst e2;rw[nM m z1 (by have:z1<=m:=e1;omega)];show BB (m+1) n z1∉occ;rw[en];exact hno
theorem FY (hi:p.i<=m):∀n,(walk m p n).i<=m
 |0=>hi
 |n+1=>by
  show(yP m (walk m p n)).i<=m;unfold yP;split
  .exact FY hi n
  .exact le_of_lt_succ (mod_lt _ (succ_pos _))
section
variable {t:SetTable} (T:Tb t) (hash:Nat->Int) (h:Int)
def Passed (t:SetTable) (hash:Nat->Int) (h:Int) (p:Pb) (k:Nat):Prop:=∀l,l<k->∃i,t.place[i]? =some (walk t.mask p l).j/\hash i≠h
inductive Goes (t:SetTable) (hash:Nat->Int) (h:Int) (p:Pb):Option SetTable.Met->Prop
 |free (k:Nat):Passed t hash h p k->(walk t.mask p k).j∉t.place.toList->Goes t hash h p (some (.empty (walk t.mask p k).j none))
 |JM (k i:Nat):Passed t hash h p k->t.place[i]? =some (walk t.mask p k).j->hash i=h->Goes t hash h p (some (.candidate (walk t.mask p k).j i (walk t.mask p (k+1))))
include T
theorem nZ:∀(f:Nat) (p:Pb),p.dummy=none->(∃k,k<f/\(walk t.mask p k).j∉t.place.toList)->Goes t hash h p (SetTable.probe.go t hash h f p)
 |0,_,_,⟨k,hk,_⟩=>absurd hk (not_lt_zero _)
 | f+1,p,hd,⟨k,hk,hf⟩=>by
  unfold SetTable.probe.go
  by_cases hp:p.j∈t.place.toList
  .obtain⟨i,hi⟩:=getElem?_of_mem hp;rw[getElem?_toList]at hi;rw[sX T hi];dsimp only;have hk0:0<k:=Nat.pos_of_ne_zero fun e=>by rw[e]at hf;exact hf hp
   by_cases hh:hash i=h
   .rw[if_pos (by simpa using hh)];exact .JM 0 i (fun l hl=>absurd hl (not_lt_zero _)) hi hh
   .rw[if_neg (by simpa using hh)];have hw:∀n,walk t.mask (t.advance p) n=walk t.mask p (n+1):=fun n=>by
     have:=dO t.mask p 1 n;rw[add_comm 1 n]at this;exact this
    have ps:∀k,Passed t hash h (t.advance p) k->Passed t hash h p (k+1):=fun k hp' l hl=>by
     cases l with
     |zero=>exact⟨i,hi,hh⟩
     |succ l=>
      obtain⟨i',h1,h2⟩:=hp' l (by omega);rw[hw]at h1;exact⟨i',h1,h2⟩
    have hd':(t.advance p).dummy=none:=by rw[NU];exact pT t.mask p hd 1
    have ih:=nZ f (t.advance p) hd' ⟨k - 1,by omega,by rw[hw,show k - 1+1=k by omega];exact hf⟩;generalize SetTable.probe.go t hash h f (t.advance p)=r at ih;cases ih with
    |free k' h1 h2=>rw[hw]at h2⊢;exact .free (k'+1) (ps k' h1) h2
    |JM k' i' h1 h2 h3=>rw[hw]at h2;rw[hw,hw];exact .JM (k'+1) i' (ps k' h1) h2 h3
  .rw[zS T hp];dsimp only;rw[hd];exact .free 0 (fun l hl=>absurd hl (not_lt_zero _)) hp
end
abbrev El:=Int×Value
noncomputable def A1 (es:Array El) (i:Nat):Int:=(es[i]?.map (·.1)).getD 0
def uX (m:Nat) (occ:List Nat) (h:Int) (j:Nat):Prop:=∃k,(walk m (start m h) k).j=j/\∀l,l<k->(walk m (start m h) l).j∈occ
theorem uX.more {occ occ':List Nat} {h:Int} (c:uX m occ h j) (s:∀x∈occ,x∈occ'):uX m occ' h j:=let⟨k,e,q⟩:=c;⟨k,e,fun l hl=>s _ (q l hl)⟩
structure Tab (t:SetTable) (es:Array El):Prop where
 T:Tb t
 sz:es.size=t.place.size
 fd:∀i j,t.place[i]? =some j->uX t.mask t.place.toList (A1 es i) j
theorem pP (xs:Array α) (p:Nat) (x:α) (hp:p<=xs.size):(SetTable.insertAt xs p x).toList=xs.toList.take p++x::xs.toList.drop p:=by
 unfold SetTable.insertAt;simp[Array.toList_append,toList_push,Array.toList_extract,List.extract_eq_drop_take];exact take_of_length_le (by simp)
theorem BF (l:List α) (p:Nat) (x:α) (hp:p<=l.length) (i:Nat):(l.take p++x::l.drop p)[i]? =if i<p then l[i]? else if i=p then some x else l[i - 1]?:=by
 have h1:(l.take p).length=p:=by rw[length_take];omega
 by_cases c:i<p
 .rw[if_pos c,getElem?_append_left (by omega),List.getElem?_take_of_lt c]
 .rw[if_neg c,getElem?_append_right (by omega),h1]
  by_cases e:i=p
  .rw[if_pos e,e,Nat.sub_self];rfl
  .rw[if_neg e,show i - p=(i - p - 1)+1 by omega,getElem?_cons_succ,List.getElem?_drop,show p+(i - p - 1)=i - 1 by omega]
theorem IK {l:List Nat} (hr:LL l) {p:Nat} (h1:∀i x,i<p->l[i]? =some x->x<j) (h2:∀i x,p<=i->l[i]? =some x->j<x):LL (l.take p++j::l.drop p):=by
 refine List.pairwise_append.mpr ⟨hr.sublist (take_sublist ..),pairwise_cons.mpr ⟨fun x hx=>?_,hr.sublist (List.drop_sublist ..)⟩,fun a ha b hb=>?_⟩
 .obtain⟨i,hi⟩:=getElem?_of_mem hx;rw[List.getElem?_drop]at hi;exact h2 _ x (le_add_right _ _) hi
 .obtain⟨i,hi⟩:=getElem?_of_mem ha;have hip:i<p:=Nat.lt_of_not_le fun c=>by rw[List.getElem?_take_eq_none c]at hi;cases hi
  rw[List.getElem?_take_of_lt hip]at hi;have haj:=h1 i a hip hi;rcases mem_cons.mp hb with e|hb
  .rw[e];exact haj
  .obtain⟨i',hi'⟩:=getElem?_of_mem hb;rw[List.getElem?_drop]at hi';exact lt_trans haj (h2 _ b (le_add_right _ _) hi')
theorem AX {x:Nat} (h:xs.toList[i]? =some x):xs.getD i 0=x/\i<xs.size:=by
 rw[getElem?_toList]at h;exact⟨by rw[getD_eq_getD_getElem?,h];rfl,(Array.getElem?_eq_some_iff.mp h).1⟩
theorem Tab.put (h:Tab t es) {hx:Int} {x:Value} {j:Nat} (hj:j∉t.place.toList) (c:uX t.mask t.place.toList hx j) (hjm:j<=t.mask):
  Tab (t.put j).1 (SetTable.insertAt es (t.put j).2 (hx,x))/\(t.put j).1.place.size=t.place.size+1/\(t.put j).1.mask=t.mask/\(t.put j).1.dummies= #[]/\(t.put j).1.led=t.led/\(t.put j).1.plain=t.plain/\(t.put j).1.finger=t.finger/\(t.put j).1.moves=t.moves:=by
 obtain⟨b1,b2,b3⟩:=lJ h.T.L7 j;have e2:(t.put j).2=SetTable.below t.place j:=rfl;have e1:(t.put j).1.place=SetTable.insertAt t.place (SetTable.below t.place j) j:=rfl;have ed:(t.put j).1.dummies= #[]:=by
  show(if SetTable.has t.dummies j then _ else t.dummies)=_;rw[h.T.dm];rfl
 have em:(t.put j).1.mask=t.mask:=rfl;rw[e2];generalize SetTable.below t.place j=p at*;have hpl:p<=t.place.toList.length:=by simpa using b1
 have hpe:p<=es.size:=by rw[h.sz];exact b1
 have l1:(t.put j).1.place.toList=t.place.toList.take p++j::t.place.toList.drop p:=by rw[e1];exact pP _ _ _ b1
 have l2:=pP es p (hx,x) hpe;have hsub:∀y∈t.place.toList,y∈(t.put j).1.place.toList:=fun y hy=>by
  rw[l1];rw[<-List.take_append_drop p t.place.toList]at hy;rcases mem_append.mp hy with h|h
  .exact mem_append_left _ h
  .exact mem_append_right _ (mem_cons_of_mem _ h)
 have sz1:(t.put j).1.place.size=t.place.size+1:=by
  rw[<-length_toList,l1,length_append,length_cons,length_take,length_drop,length_toList];omega
 refine⟨⟨⟨?_,ed,by rw[em];exact h.T.ms,fun y hy=>?_⟩,?_,fun i y hy=>?_⟩,sz1,em,ed,rfl,rfl,rfl,rfl⟩
 .rw[l1];refine IK h.T.L7 (fun i x hi hx=>?_) fun i x hi hx=>?_
  .have:=b2 i hi;rw[(AX hx).1]at this;exact this
  .have h1:=AX hx;have:=b3 i hi h1.2;rw[h1.1]at this;exact Nat.lt_of_le_of_ne this fun e=>hj (by rw[e];exact mem_of_getElem? hx)
 .rw[em];rw[l1]at hy;rcases mem_append.mp hy with h'|h'
  .exact h.T.le _ (mem_of_mem_take h')
  .rcases mem_cons.mp h' with e|h'
   .rw[e];exact hjm
   .exact h.T.le _ (List.mem_of_mem_drop h')
 .rw[sz1,<-length_toList,l2,length_append,length_cons,length_take,length_drop,length_toList,h.sz];omega
 .rw[em];rw[<-getElem?_toList,l1,BF _ _ _ hpl]at hy;have hh:A1 (SetTable.insertAt es p (hx,x)) i=if i<p then A1 es i else if i=p then hx else A1 es (i - 1):=by
   unfold A1;rw[<-getElem?_toList,l2,BF _ _ _ (by simpa using hpe)];split
   .rw[getElem?_toList]
   .split
    .rfl
    .rw[getElem?_toList]
  rw[hh]
  by_cases c1:i<p
  .rw[if_pos c1]at hy⊢
   rw[getElem?_toList]at hy;exact(h.fd i y hy).more hsub
  .rw[if_neg c1]at hy⊢
   by_cases c2:i=p
   .rw[if_pos c2]at hy⊢
    cases hy;exact c.more hsub
   .rw[if_neg c2]at hy⊢
    rw[getElem?_toList]at hy;exact(h.fd (i - 1) y hy).more hsub
theorem xU:∀k,k<=p.more->walk m p k={p with j:=p.j+k,more:=p.more - k}
 |0,_=>rfl
 |k+1,h=>by
  show yP m (walk m p k)=_;rw[xU k (by omega)];unfold yP;rw[if_pos (by show p.more - k>0;omega)];show SetTable.Probe.mk (p.j+k+1) (p.more - k - 1) p.i p.perturb p.dummy=SetTable.Probe.mk (p.j+(k+1)) (p.more - (k+1)) p.i p.perturb p.dummy;rw[Nat.add_assoc,Nat.sub_sub]
noncomputable def at_ (m i pt:Nat):Pb:={j:=i,more:=SetTable.runEnd m i - i,i,perturb:=pt,dummy:=none}
structure Own (m:Nat) (ow:Array (Option Nat)) (js:List Nat):Prop where
 sz:ow.size=m+1
 nd:js.Nodup
 le:∀j∈js,j<=m
 at':∀j,j<=m->∀k,ow[j]? =some (some k)↔js[k]? =some j
theorem Own.none {ow:Array (Option Nat)} (o:Own m ow js) {j:Nat} (hj:j<=m):(ow.getD j (some 0)).isNone=true↔j∉js:=by
 have h1:j<ow.size:=by rw[o.sz];omega
 rw[getD_eq_getD_getElem?,Array.getElem?_eq_getElem h1];show(ow[j]).isNone=true↔_;cases e:ow[j]with
 |none=>
  refine⟨fun _ hm=>?_,fun _=>rfl⟩;obtain⟨k,hk⟩:=getElem?_of_mem hm;have:=(o.at' j hj k).mpr hk;rw[Array.getElem?_eq_getElem h1,e]at this;cases this
 |some k=>
  refine⟨fun h=>(nomatch h),fun hn=>absurd (mem_of_getElem? ((o.at' j hj k).mp ?_)) hn⟩;rw[Array.getElem?_eq_getElem h1,e]
theorem tO {m:Nat} {ow:Array (Option Nat)} (o:Own m ow js):∀(f i pt:Nat),i<=m->(∃L,L<f/\(dS m L (i,pt)).1∉js)->
  ∃k,SetTable.layClean.free m ow f i pt=some (walk m (at_ m i pt) k).j/\(walk m (at_ m i pt) k).j∉js/\(walk m (at_ m i pt) k).j<=m/\∀l,l<k->(walk m (at_ m i pt) l).j∈js
 |0,_,_,_,⟨L,h,_⟩=>absurd h (not_lt_zero _)
 | f+1,i,pt,hi,⟨L,hL,hf⟩=>by
  unfold SetTable.layClean.free;have hr:=z7 hi;have hw:∀k,k<=SetTable.runEnd m i - i->(walk m (at_ m i pt) k).j=i+k:=fun k hk=>by rw[xU k hk];rfl
  cases e:(List.range (SetTable.runEnd m i+1 - i)).find? fun k=>(ow.getD (i+k) (some 0)).isNone with
  | some k=>
   obtain⟨h1,h2⟩:=List.find?_range_eq_some.mp e;have hk:k<SetTable.runEnd m i+1 - i:=mem_range.mp (List.mem_of_find?_eq_some e);refine⟨k,by rw[hw k (by omega)],by rw[hw k (by omega)];exact(o.none (by omega)).mp h1,by rw[hw k (by omega)];omega,fun l hl=>?_⟩;rw[hw l (by omega)];have h3:=h2.2 l hl;exact Classical.byContradiction fun hn=>by
    rw[(o.none (by omega)).mpr hn]at h3;cases h3
  | none=>
   dsimp only;have hno:∀k,k<=SetTable.runEnd m i - i->i+k∈js:=fun k hk=>Classical.byContradiction fun hn=>by
    have h1:=find?_eq_none.mp e k (mem_range.mpr (by omega));exact h1 ((o.none (by omega)).mpr hn)
   have hL0:0<L:=Nat.pos_of_ne_zero fun c=>by
    rw[c]at hf;exact hf (by have:=hno 0 (zero_le _);show i∈js;simpa using this)
   have hl1:(SetTable.leap m i pt).1<=m:=le_of_lt_succ (mod_lt _ (succ_pos _));obtain⟨k,e1,e2,e3,e4⟩:=tO o f (SetTable.leap m i pt).1 (SetTable.leap m i pt).2 hl1 ⟨L - 1,by omega,by
    have:dS m L (i,pt)=dS m (L - 1) (SetTable.leap m i pt):=by rw[show L=(L - 1)+1 by omega];rfl
    rw[<-this];exact hf⟩
   have hl:=pB (m:=m) (p:=at_ m i pt) rfl;have hl:walk m (at_ m i pt) (SetTable.runEnd m i - i+1)=at_ m (SetTable.leap m i pt).1 (SetTable.leap m i pt).2:=hl;have hadd:∀k,walk m (at_ m (SetTable.leap m i pt).1 (SetTable.leap m i pt).2) k=walk m (at_ m i pt) (SetTable.runEnd m i - i+1+k):=fun k=>by rw[<-hl,dO]
   rw[hadd]at e1 e2 e3;refine⟨_,e1,e2,e3,fun l hl'=>?_⟩
   by_cases c:l<=SetTable.runEnd m i - i
   .rw[hw l c];exact hno l c
   .have:=e4 (l - (SetTable.runEnd m i - i+1)) (by omega);rw[hadd,show SetTable.runEnd m i - i+1+(l - (SetTable.runEnd m i - i+1))=l by omega]at this;exact this
theorem CV {m:Nat} (hm:m=7\/ m=31\/ m=127) {pt:Nat} (hi:i<=m) (hp:pt<2^64) {occ:List Nat} (ho:occ.length<=m):∃L,L<m+15/\(dS m L (i,pt)).1∉occ:=by
 obtain⟨j,hj,hno⟩:∃j,j<=m/\j∉occ:=Classical.byContradiction fun hc=>by
  have h1:=sub_len (xs:=List.range (m+1)) (ys:=occ) nodup_range fun x hx=>Classical.byContradiction fun hn=>hc ⟨x,by have:=mem_range.mp hx;omega,hn⟩
  rw[length_range]at h1;omega
 have e2:(dS m 13 (i,pt)).2=0:=by
  rw[nO];exact Nat.div_eq_of_lt (lt_of_lt_of_le hp (by decide))
 have e1:=yH m (i,pt) hi 13;obtain⟨n,hn,en⟩:=AY hm e1 hj;refine⟨13+n,by omega,?_⟩;rw[nR];generalize dS m 13 (i,pt)=z at e1 e2 en⊢
 obtain⟨z1,z2⟩:=z;have e2:z2=0:=e2;subst e2;rw[nM m z1 (by have:z1<=m:=e1;omega)];show BB (m+1) n z1∉occ;rw[en];exact hno
theorem Own.put {ow:Array (Option Nat)} (o:Own m ow js) (hj:j<=m) (hn:j∉js):Own m (ow.setIfInBounds j (some js.length)) (js++[j]):=by
 have hjs:j<ow.size:=by rw[o.sz];omega
 refine⟨by rw[Array.size_setIfInBounds];exact o.sz,nodup_append.mpr ⟨o.nd,by simp,fun a ha b hb e=>hn (by rw[<-mem_singleton.mp hb,<-e];exact ha)⟩,fun x hx=>?_,fun x hx k=>?_⟩
 .rcases mem_append.mp hx with h|h
  .exact o.le x h
  .rw[mem_singleton.mp h];exact hj
 .rw [Array.getElem?_setIfInBounds]
  by_cases e:j=x
  .subst e;rw[if_pos rfl,if_pos hjs];constructor
   .intro h;have h:js.length=k:=by simpa using h
    rw[<-h,getElem?_append_right (le_refl _),Nat.sub_self];rfl
   .intro h
    by_cases c:k<js.length
    .rw[getElem?_append_left c]at h;exact absurd (mem_of_getElem? h) hn
    .rw[getElem?_append_right (by omega)]at h;have:k - js.length=0:=by
      have h1:=(List.getElem?_eq_some_iff.mp h).1;simpa using h1
     rw[show k=js.length by omega]
  .rw[if_neg e,o.at' x hx k]
   by_cases c:k<js.length
   .rw[getElem?_append_left c]
   .rw[getElem?_append_right (by omega),getElem?_eq_none (by omega:js.length<=k)];constructor
    .intro h;cases h
    .intro h;have h1:=mem_of_getElem? h;exact absurd (mem_singleton.mp h1).symm e
noncomputable def pF (m:Nat) (acc:Option (Array (Option Nat)×Nat)) (h:Int):Option (Array (Option Nat)×Nat):=do
 let(owner,k)<-acc
 let j<-SetTable.layClean.free m owner (SetTable.turns m) (SetTable.bits h % (m+1)) (SetTable.bits h)
 pure (owner.setIfInBounds j (some k),k+1)
theorem xV (m:Nat) (hs:Array Int):SetTable.layClean m hs=(hs.toList.foldl (pF m) (some (Array.replicate (m+1) none,0))).map (·.1):=by
 unfold SetTable.layClean;rw[<-Array.foldl_toList];rfl
theorem ID (h:Int):SetTable.bits h<2^64:=by
 unfold SetTable.bits;have h3:0<=h % (2^64:Int):=emod_nonneg _ (by decide);have h4:h % (2^64:Int)<2^64:=emod_lt_of_pos _ (by decide);omega
theorem wW {m:Nat} (hm:m=7\/ m=31\/ m=127):∀(hs pre:List Int) (ow:Array (Option Nat)) (js:List Nat),Own m ow js->js.length=pre.length->(∀(k:Nat) (h:Int),pre[k]? =some h->∃j:Nat,js[k]? =some j/\uX m js h j)->pre.length+hs.length<=m->
  ∃(ow':Array (Option Nat)) (js':List Nat),hs.foldl (pF m) (some (ow,pre.length))=some (ow',(pre++hs).length)/\Own m ow' js'/\js'.length=(pre++hs).length/\∀(k:Nat) (h:Int),(pre++hs)[k]? =some h->∃j:Nat,js'[k]? =some j/\uX m js' h j
 |[],pre,ow,js,o,hl,hf,_=>⟨ow,js,by rw[append_nil];rfl,o,by rw[append_nil];exact hl,by rw[append_nil];exact hf⟩
 | x::hs,pre,ow,js,o,hl,hf,hz=>by
  have hz':pre.length+(hs.length+1)<=m:=hz;have h1:SetTable.bits x % (m+1)<=m:=le_of_lt_succ (mod_lt _ (succ_pos _));obtain⟨k,e1,e2,e3,e4⟩:=tO o (SetTable.turns m) _ (SetTable.bits x) h1 (CV hm h1 (ID x) (by omega));have hs1:at_ m (SetTable.bits x % (m+1)) (SetTable.bits x)=start m x:=rfl;rw[hs1]at e1 e2 e3 e4;have st:pF m (some (ow,pre.length)) x=some (ow.setIfInBounds (walk m (start m x) k).j (some pre.length),pre.length+1):=by
   show(do
    let j<-SetTable.layClean.free m ow (SetTable.turns m) (SetTable.bits x % (m+1)) (SetTable.bits x)
    pure (ow.setIfInBounds j (some pre.length),pre.length+1):Option (Array (Option Nat)×Nat))=_
   rw[e1];rfl
  have o':=o.put e3 e2;rw[hl]at o';have ih:=wW hm hs (pre++[x]) _ _ o' (by rw[length_append,length_append,hl];rfl) (fun i h hi=>?_) (by rw[length_append];show pre.length+1+hs.length<=m;omega)
  .obtain⟨ow',js',f1,f2,f3,f4⟩:=ih;have e5:pre++[x]++hs=pre++x::hs:=by simp
   rw[e5]at f1 f3 f4;refine⟨ow',js',?_,f2,f3,f4⟩;rw[foldl_cons,st];rw[length_append (as:=pre) (bs:=[x])]at f1;exact f1
  .have ms:∀y∈js,y∈js++[(walk m (start m x) k).j]:=fun y hy=>mem_append_left _ hy
   by_cases c:i<pre.length
   .rw[getElem?_append_left c]at hi;obtain⟨j,hj,hc⟩:=hf i h hi;exact⟨j,by rw[getElem?_append_left (by omega)];exact hj,hc.more ms⟩
   .rw[getElem?_append_right (by omega)]at hi;have h1:=(List.getElem?_eq_some_iff.mp hi).1;have h2:i - pre.length=0:=by simpa using h1
    rw[h2]at hi;have hi:x=h:=by simpa using hi
    subst hi;exact⟨(walk m (start m x) k).j,by rw[getElem?_append_right (by omega),hl,h2];rfl,k,rfl,fun l hl'=>ms _ (e4 l hl')⟩
theorem yM:∀(ord:List Nat),(∀k∈ord,k<es.size)->∃ys:List El,ord.filterMap (es[·]?)=ys/\ys.length=ord.length/\∀(i k:Nat),ord[i]? =some k->ys[i]? =es[k]?
 |[],_=>⟨[],rfl,rfl,fun _ _ h=>by simp at h⟩
 |k::ord,h=>by
  obtain⟨ys,e,hl,q⟩:=yM ord fun x hx=>h x (mem_cons_of_mem _ hx)
  have hk:=h k mem_cons_self;have e1:=Array.getElem?_eq_getElem hk;refine⟨es[k]::ys,by rw[filterMap_cons,e1,e],by rw[length_cons,length_cons,hl],fun i k' hi=>?_⟩;cases i with
  |zero=>cases hi;exact e1.symm
  |succ i=>exact q i k' hi
theorem ES {es:Array El}:(List.range es.size).filterMap (es[·]?)=es.toList:=by
 obtain⟨ys,e,hl,q⟩:=yM (es:=es) (List.range es.size) fun k hk=>mem_range.mp hk
 rw[e];refine ext_getElem? fun i=>?_
 by_cases c:i<es.size
 .rw[q i i (by rw[List.getElem?_range c])];exact getElem?_toList.symm
 .rw[getElem?_eq_none (by rw[hl,length_range];omega),getElem?_eq_none (by simpa using le_of_not_lt c)]
theorem C3 {es:Array El} {w:Nat} (hw:SetTable.sizeAbove w - 1=m) (hm:m=7\/ m=31\/ m=127) (hz:es.size<=m):
  ∃t' ord,t.relaid (es.map (·.1)) w=some (t',ord)/\Tab t' (ord.filterMap (es[·]?))/\(ord.filterMap (es[·]?)).toList.Perm es.toList/\t'.mask=m/\t'.led=t.led/\t'.plain=t.plain/\t'.place.size=es.size:=by
 have hown0:Own m (Array.replicate (m+1) none) []:=⟨Array.size_replicate,nodup_nil,(fun _ h=>nomatch h),fun j hj k=>⟨fun h=>(by
  rw[Array.getElem?_replicate]at h;split at h<;>cases h),fun h=>(by simp at h)⟩⟩
 obtain⟨ow,js,f1,o,f3,f4⟩:=wW hm (es.map (·.1)).toList [] _ [] hown0 rfl (fun _ _ h=>by simp at h) (by simpa using hz);rw[nil_append]at f1 f3 f4;have hlen:(es.map (·.1)).toList.length=es.size:=by simp
 rw[hlen]at f3
 let live:=(List.range (m+1)).filterMap fun j=>(ow.getD j none).map (j,·)
 have hlive:live=(List.range (m+1)).filterMap fun j=>(ow.getD j none).map (j,·):=rfl
 have hrel:t.relaid (es.map (·.1)) w=some ({mask:=m,place:=(live.map (·.1)).toArray,dummies:= #[],finger:=t.finger,led:=t.led,moves:=t.movedTo m,plain:=t.plain},(live.map (·.2)).toArray):=by
  unfold SetTable.relaid SetTable.laid;rw[hw,xV];have f1':(es.map (·.1)).toList.foldl (pF m) (some (Array.replicate (m+1) none,0))=_:=f1;rw[f1'];rfl
 have hmem:∀j k,(j,k)∈live↔js[k]? =some j:=fun j k=>by
  rw[hlive,mem_filterMap];constructor
  .rintro⟨x,hx,e⟩;have hx:=mem_range.mp hx;have h1:x<ow.size:=by rw[o.sz];omega
   rw[getD_eq_getD_getElem?,Array.getElem?_eq_getElem h1]at e;have e:(ow[x]).map (x,·)=some (j,k):=e;cases c:ow[x]with
   |none=>rw[c]at e;cases e
   |some y=>
    rw[c]at e;cases e;exact(o.at' j (by omega) k).mp (by rw[Array.getElem?_eq_getElem h1,c])
  .intro h;have hj:=o.le j (mem_of_getElem? h);refine⟨j,mem_range.mpr (by omega),?_⟩;rw[getD_eq_getD_getElem?,(o.at' j hj k).mpr h];rfl
 have hris:LL (live.map (·.1)):=by
  have key:∀l:List Nat,l.Pairwise (·<·)->LL ((l.filterMap fun j=>(ow.getD j none).map (j,·)).map (·.1))/\∀x∈(l.filterMap fun j=>(ow.getD j none).map (j,·)).map (·.1),x∈l:=by
   intro l
   induction l with
   |nil=>intro _;exact⟨List.Pairwise.nil,fun _ h=>nomatch h⟩
   | cons a l ih=>
    intro hp;obtain⟨h1,h2⟩:=pairwise_cons.mp hp;obtain⟨i1,i2⟩:=ih h2;rw[filterMap_cons];cases c:ow.getD a none with
    |none=>exact⟨i1,fun x hx=>mem_cons_of_mem _ (i2 x hx)⟩
    |some y=>
     refine⟨pairwise_cons.mpr ⟨fun x hx=>h1 x (i2 x hx),i1⟩,fun x hx=>?_⟩;rcases mem_cons.mp hx with e|hx
     .rw[e];exact mem_cons_self
     .exact mem_cons_of_mem _ (i2 x hx)
  exact(key _ List.pairwise_lt_range).1
 have hnd1:(live.map (·.1)).Nodup:=hris.imp fun h=>ne_of_lt h
 have hnd2:(live.map (·.2)).Nodup:=by
  have hl:live.Nodup:=(pairwise_map.mp hnd1).imp fun h e=>h (by rw[e])
  refine pairwise_map.mpr (hl.imp_of_mem fun{a b} ha hb hab e=>hab ?_);have h1:=(hmem a.1 a.2).mp ha;have h2:=(hmem b.1 b.2).mp hb;rw[e,h2]at h1;exact Prod.ext (Option.some.inj h1).symm e
 have hord:(live.map (·.2)).Perm (List.range es.size):=(List.perm_ext_iff_of_nodup hnd2 nodup_range).mpr fun k=>by
  rw[mem_range];constructor
  .intro h;obtain⟨z,hz',e⟩:=mem_map.mp h;have:=(List.getElem?_eq_some_iff.mp ((hmem z.1 z.2).mp hz')).1;omega
  .intro h;have h1:=getElem?_eq_getElem (by omega:k<js.length);exact mem_map.mpr ⟨(_,k),(hmem _ k).mpr h1,rfl⟩
 obtain⟨ys,ey,hyl,hy⟩:=yM (es:=es) (live.map (·.2)) fun k hk=>mem_range.mp (hord.mem_iff.mp hk)
 have ef:((live.map (·.2)).toArray.filterMap (es[·]?)).toList=ys:=by rw[<-ey];simp
 have hpe:ys.Perm es.toList:=by
  have:=hord.filterMap (es[·]?);rw[ey,ES]at this;exact this
 have hll:live.length=es.size:=by
  have:=hord.length_eq;rw[length_map,length_range]at this;exact this
 have hjl:∀j,j∈live.map (·.1)↔j∈js:=fun j=>by
  constructor
  .intro h;obtain⟨z,hz',rfl⟩:=mem_map.mp h;exact mem_of_getElem? ((hmem z.1 z.2).mp hz')
  .intro h;obtain⟨k,hk⟩:=getElem?_of_mem h;exact mem_map.mpr ⟨(j,k),(hmem j k).mpr hk,rfl⟩
 refine⟨_,_,hrel,⟨⟨?_,rfl,hm,fun j hj=>?_⟩,?_,fun i j hij=>?_⟩,by rw[ef];exact hpe,rfl,rfl,rfl,?_⟩
 .simpa using hris
 .exact o.le j ((hjl j).mp (by simpa using hj))
 .rw[<-length_toList,ef,hpe.length_eq];simpa using hll.symm
 .have hij:(live.map (·.1))[i]? =some j:=by simpa using hij
  rw[getElem?_map]at hij;obtain⟨z,hz1,hz2⟩:∃z,live[i]? =some z/\z.1=j:=by
   cases c:live[i]? with
   |none=>rw[c]at hij;cases hij
   |some z=>rw[c]at hij;exact⟨z,rfl,Option.some.inj hij⟩
  have hk:=(hmem z.1 z.2).mp (mem_of_getElem? hz1);have hyi:=hy i z.2 (by rw[getElem?_map,hz1];rfl);have hkn:z.2<es.size:=by have:=(List.getElem?_eq_some_iff.mp hk).1;omega
  have hh:A1 ((live.map (·.2)).toArray.filterMap (es[·]?)) i=(es[z.2]).1:=by
   unfold A1;rw[<-getElem?_toList,ef,hyi,Array.getElem?_eq_getElem hkn];rfl
  rw[hh];obtain⟨j',hj',hc⟩:=f4 z.2 (es[z.2]).1 (by rw[getElem?_toList,Array.getElem?_map,Array.getElem?_eq_getElem hkn];rfl);rw[hk]at hj';cases hj';rw[<-hz2];exact hc.more fun x hx=>by simpa using(hjl x).mpr hx
 .simpa using hll
end St
namespace L2
open PySem PySem.Spec PyProof.Rows PySem.W
variable {a:Addr} {es:Array St.El} {Q:Bool->Shared->Prop} {h h':Heap} {zs:List NZ} {z:NZ} {i:Nat} {t:SetTable}
section
variable {prog:Program} {w:World}
theorem GL:∀(m:Nat) {A:Around} {E:Value->Shared->Prop} {s:Shared} {x:NK} {v:Value} {Q:Bool->Shared->Prop},o8 x<=m->u7 s.heap x v->Q false s->wpAny (model prog w) A (ofAClassStatement m v) Q E s:=by
 have flat:∀{m:Nat} {A:Around} {E:Value->Shared->Prop} {s:Shared} {x:Key} {v:Value} {Q:Bool->Shared->Prop},eN x v=true->Q false s->wpAny (model prog w) A (ofAClassStatement m v) Q E s:=by
  intro m A E s x v Q hk h;rcases aV hk with⟨i,t,_,rfl⟩|⟨z,t,_,rfl⟩
  .cases m<;>exact wpAny_pure h
  .cases m<;>exact wpAny_pure h
 intro m
 induction m with
 |zero=>
  intro A E s x v Q hd hx h;cases hx with
  |k hk=>exact flat hk h
  |t p l=>rw[m8]at hd;omega
 | succ m ih=>
  intro A E s x v Q hd hx h;cases hx with
  |k hk=>exact flat hk h
  | @t xs a us p l=>
   have hT:s.TypeIs (.ref a) "tuple":=let⟨o,e,c,_⟩:=p;⟨o,e,c⟩
   have hd':nP xs<=m:=by rw[m8]at hd;omega
   obtain⟨o,ho,_,n,hdt⟩:=p;unfold ofAClassStatement;refine wpAny_bind (wpAny_typeOf hT ?_);dsimp only;refine wpAny_bind (wpAny_pure ?_);simp only[Bool.not_true,false_eq_true,if_false];refine wpAny_bind (wpAny_seqItems ho hdt ?_);dsimp only;refine wpAny_bind ?_;rw[<-forIn_toList];refine wpAny_forIn_list _ (fun rest r s'=>r.1=none/\s'=s/\∃left,nP left<=m/\IsL s.heap left rest) _ ?_ ?_ _ _ ⟨rfl,rfl,xs,hd',l⟩
   .rintro v rest r s' ⟨hr,rfl,left,hdl,hl⟩;cases hl with
    | @cons z _ zs _ i t=>
     rw[FR]at hdl;refine wpAny_bind (ih (x:=z) (by omega) i ?_);simp only[false_eq_true,if_false];exact wpAny_pure ⟨rfl,rfl,zs,by omega,t⟩
   .rintro⟨r1,r2⟩ s' ⟨hr,rfl,_⟩;simp only at hr;subst hr;exact wpAny_pure h
theorem MV {A:Around} {E:Value->Shared->Prop} {s:Shared} {n:Str} {xs:List NK} (hx:u7 s.heap (.t (.k (.inr n)::xs)) (.ref a)) (h:Q false s):wpAny (model prog w) A (hashByValue 8 (.ref a)) Q E s:=by
 cases hx with
 | @t _ _ us p l=>
  have hT:s.TypeIs (.ref a) "tuple":=let⟨o,e,c,_⟩:=p;⟨o,e,c⟩
  obtain⟨o,ho,_,m,hdt⟩:=p;cases l with
  | @cons _ v _ vs i r=>
   cases i with
   | k hk=>
    obtain⟨tk,rfl⟩:∃tk,v= .str n tk:=by
     rcases aV hk with⟨i,t,e,rfl⟩|⟨z,t,e,rfl⟩
     .cases e
     .cases e;exact⟨t,rfl⟩
    unfold hashByValue;refine wpAny_bind (wpAny_specialOf hT F.slot_tuple_hash.lookup ?_);dsimp only;refine wpAny_bind (wpAny_seqItems ho hdt ?_);refine wpAny_bind ?_;show wpAny _ _ (forIn (Value.str n tk::vs).toArray _ _) _ _ s;rw[<-forIn_toList];show wpAny _ _ (forIn (Value.str n tk::vs) _ _) _ _ s;rw[forIn_cons];refine wpAny_bind (wpAny_bind (wpAny_pure ?_));simp only[Bool.not_false,if_true];exact wpAny_pure (wpAny_pure (wpAny_pure h))
end
abbrev NZ:=List NK×Addr
noncomputable def OD (w:World) (z:NZ):St.El:=(bI w (.t z.1),.ref z.2)
structure mT (w:World) (t:SetTable) (es:Array St.El) (zs:List NZ):Prop where
 el:es.toList=zs.map (OD w)
 nd:(zs.map (·.1)).Nodup
 tab:St.Tab t es
 JG:t.place.size*5<t.mask*3
 lo:zs.length<=70
section
variable {prog:Program} {w:World} {A:Around} {E:Value->Shared->Prop} {s:Shared}
theorem mT.size (h:mT w t es zs):t.place.size=zs.length/\es.size=zs.length:=by
 have h1:es.size=zs.length:=by rw[<-length_toList,h.el,length_map]
 exact⟨h.tab.sz.symm.trans h1,h1⟩
theorem mT.fits (h:mT w t es zs):t.fits es.size=true:=by
 have h1:=h.size;have h2:=h.JG;have h3:=h.tab.T.dm;unfold SetTable.fits SetTable.fill;rw[h3];simp only[and_eq_true,beq_iff_eq,decide_eq_true_eq,size_toArray,length_nil];omega
theorem mT.at' (h:mT w t es zs) (hz:zs[i]? =some z):es[i]? =some (OD w z):=by
 rw[<-getElem?_toList,h.el,getElem?_map,hz];rfl
theorem mT.of (h:mT w t es zs) {j:Nat} (hp:t.place[i]? =some j):∃z,zs[i]? =some z/\es[i]? =some (OD w z)/\St.A1 es i=bI w (.t z.1):=by
 have h1:i<zs.length:=by rw[<-h.size.1];exact(Array.getElem?_eq_some_iff.mp hp).1
 refine⟨zs[i],getElem?_eq_getElem h1,h.at' (getElem?_eq_getElem h1),?_⟩;unfold St.A1;rw[h.at' (getElem?_eq_getElem h1)];rfl
structure wN (h:Heap) (z:NZ):Prop where
 is:u7 h (.t z.1) (.ref z.2)
 dp:nP z.1<=4
 led:∃n r,z.1= .k (.inr n)::r
theorem KA {x:NZ} (hx:wN s.heap x) (hz:∀z∈zs,wN s.heap z) {h:Int} (hT:mT w t es zs) (q:Q false s):
  wpAny (model prog w) A (searchCouldBeSeen (.ref x.2) ((es.filter (·.1==h)).toList.map (·.2))) Q E s:=by
 have hall:∀v∈(es.filter (·.1==h)).toList.map (·.2),∃z:NZ,v= .ref z.2/\wN s.heap z:=fun v hv=>by
  obtain⟨e,he,rfl⟩:=mem_map.mp hv;rw[Array.toList_filter,mem_filter]at he;have h1:=he.1;rw[hT.el]at h1;obtain⟨z,hz1,rfl⟩:=mem_map.mp h1;exact⟨z,rfl,hz z hz1⟩
 generalize(es.filter (·.1==h)).toList.map (·.2)=vs at hall;unfold searchCouldBeSeen;refine wpAny_bind ?_;refine wpAny_forIn_list _ (fun rest r s'=>r.1=none/\s'=s/\∀v∈rest,∃z:NZ,v= .ref z.2/\wN s.heap z) _ ?_ ?_ _ _ ⟨rfl,rfl,hall⟩
 .rintro v rest r s' ⟨hr,rfl,hl⟩;obtain⟨z,rfl,hz⟩:=hl v mem_cons_self;have hl':∀v∈rest,∃z:NZ,v= .ref z.2/\wN s'.heap z:=fun v hv=>hl v (mem_cons_of_mem _ hv)
  dsimp only;have hc:(carriedByValue (.ref x.2) && carriedByValue (.ref z.2))=false:=rfl;rw[hc,Bool.or_false]
  by_cases c:(x.2==z.2)=true
  .rw[if_pos c];exact wpAny_pure ⟨rfl,rfl,hl'⟩
  .rw[if_neg c];have dx:o8 (.t x.1)<=8:=by rw[m8];have:=hx.dp;omega
   have dz:o8 (.t z.1)<=8:=by rw[m8];have:=hz.dp;omega
   refine wpAny_bind (wY 8 dx hx.is ?_);simp only[Bool.not_true,false_eq_true,if_false];refine wpAny_bind (wY 8 dz hz.is ?_);simp only[Bool.not_true,false_eq_true,if_false];refine wpAny_bind (GL 8 dx hx.is ?_);simp only[false_eq_true,if_false];refine wpAny_bind (GL 8 dz hz.is ?_);simp only[false_eq_true,if_false];exact wpAny_pure ⟨rfl,rfl,hl'⟩
 .rintro⟨r1,r2⟩ s' ⟨hr,rfl,_⟩;simp only at hr;subst hr;exact wpAny_pure q
section
variable {a:Addr} {o:Obj} {es:Array St.El} {ep:Nat} {t:SetTable} {zs:List NZ} {x:NZ}
theorem wJ (hu:A.units+8<cLine) (ho:s.heap.get? a=some o) (hd:o.data= .set es ep t) (hT:mT w t es zs) (hz:∀z∈zs,wN s.heap z) (hx:wN s.heap x) {Q:SetFound->Shared->Prop}
  (hin:x.1∈zs.map (·.1)->Q (.there none) s) (hout:x.1∉zs.map (·.1)->∀j,j∉t.place.toList->St.uX t.mask t.place.toList (bI w (.t x.1)) j->j<=t.mask->Q (.free j false) s)
  {K0:Nat} (hK:(St.walk t.mask (St.start t.mask (bI w (.t x.1))) K0).j∉t.place.toList):
  ∀(f n:Nat) (st:Option St.Pb),st.getD (t.probeStart (bI w (.t x.1)))=St.walk t.mask (St.start t.mask (bI w (.t x.1))) n->n<=K0->K0 - n<f->
   (∀l,l<n->∃(i:Nat) (z:NZ),t.place[i]? =some (St.walk t.mask (St.start t.mask (bI w (.t x.1))) l).j/\zs[i]? =some z/\z.1≠x.1)->
   wpAny (model prog w) A (setSearchFrom a (.ref x.2) (bI w (.t x.1)) true f st) Q E s:=by
 intro f
 induction f with
 |zero=>intro n st _ _ h;exact absurd h (not_lt_zero _)
 | succ f ih=>
  intro n st hst hn hf hseen;unfold setSearchFrom;refine wpAny_bind (wpAny_setState_of ho hd hT.fits ?_);dsimp only;have hg:t.gaveWay=false:=by
   unfold SetTable.gaveWay;rcases hT.tab.T.ms with e|e|e<;>rw[e]<;>rfl
  rw[hg];simp only[false_eq_true,if_false];rw[hst];have hrun:∃k,k<10*SetTable.turns t.mask/\(St.walk t.mask (St.walk t.mask (St.start t.mask (bI w (.t x.1))) n) k).j∉t.place.toList:=by
   have h1:(St.start t.mask (bI w (.t x.1))).i<=t.mask:=le_of_lt_succ (mod_lt _ (succ_pos _));refine St.x9 hT.tab.T.ms (St.pK (St.qV _ _) n) (St.FY h1 n) ?_;rw[length_toList];have:=hT.JG;omega
  have hgo:=St.nZ hT.tab.T (St.A1 es) (bI w (.t x.1)) _ _ (St.pT t.mask _ rfl n) hrun;have hpr:t.probe (St.A1 es) (bI w (.t x.1)) (St.walk t.mask (St.start t.mask (bI w (.t x.1))) n)=SetTable.probe.go t (St.A1 es) (bI w (.t x.1)) (10*SetTable.turns t.mask) (St.walk t.mask (St.start t.mask (bI w (.t x.1))) n):=rfl;show wpAny _ _ (match t.probe (St.A1 es) (bI w (.t x.1)) (St.walk t.mask (St.start t.mask (bI w (.t x.1))) n)with|some met=>_|_=>_) _ _ _;rw[hpr];generalize SetTable.probe.go t (St.A1 es) (bI w (.t x.1)) (10*SetTable.turns t.mask) (St.walk t.mask (St.start t.mask (bI w (.t x.1))) n)=r at hgo;have inj:∀{i i' j:Nat},t.place[i]? =some j->t.place[i']? =some j->i=i':=fun h1 h2=>(St.below_at hT.tab.T.L7 h1).symm.trans (St.below_at hT.tab.T.L7 h2)
  cases hgo with
  | free k hp hno=>
   dsimp only;rw[St.dO]at hno⊢
   refine wpAny_pure (hout (fun hm=>?_) _ hno ⟨n+k,rfl,fun l hl=>?_⟩ ?_)
   .obtain⟨z,hzm,ez⟩:=mem_map.mp hm;obtain⟨i0,hi0⟩:=getElem?_of_mem hzm;have hp0:i0<t.place.size:=by rw[hT.size.1];exact(List.getElem?_eq_some_iff.mp hi0).1
    have hj0:=Array.getElem?_eq_getElem hp0;obtain⟨k0,e0,h0⟩:=hT.tab.fd i0 _ hj0;obtain⟨z',hz',_,hh'⟩:=hT.of hj0;rw[hi0]at hz';cases hz';rw[hh',ez]at e0 h0;have hlt:k0<n+k:=Nat.lt_of_not_le fun c=>by
     rcases Nat.lt_or_eq_of_le c with c|c
     .exact hno (h0 _ c)
     .rw[c,e0]at hno;exact hno (mem_of_getElem? (by rw[getElem?_toList];exact hj0))
    rw[<-e0]at hj0
    by_cases c:k0<n
    .obtain⟨i,z',h1,h2,h3⟩:=hseen k0 c;have:=inj h1 hj0;subst this;rw[h2]at hi0;cases hi0;exact h3 ez
    .obtain⟨i,h1,h2⟩:=hp (k0 - n) (by omega);rw[St.dO,show n+(k0 - n)=k0 by omega]at h1;have:=inj h1 hj0;subst this;rw[hh',ez]at h2;exact h2 rfl
   .by_cases c:l<n
    .obtain⟨i,_,h1,_⟩:=hseen l c;exact mem_of_getElem? (by rw[getElem?_toList];exact h1)
    .obtain⟨i,h1,_⟩:=hp (l - n) (by omega);rw[St.dO,show n+(l - n)=l by omega]at h1;exact mem_of_getElem? (by rw[getElem?_toList];exact h1)
   .have:=(St.pK (St.qV t.mask (bI w (.t x.1))) (n+k)).jm;omega
  | JM k i hp hpl hh=>
   dsimp only;obtain⟨z,hzi,hei,hhi⟩:=hT.of hpl;have hzm:=mem_of_getElem? hzi;have hzI:=hz z hzm;have hK1:n+k<K0:=Nat.lt_of_not_le fun c=>by
    by_cases c2:K0=n+k
    .rw[St.dO,<-c2]at hpl;exact hK (mem_of_getElem? (by rw[getElem?_toList];exact hpl))
    .obtain⟨i',h1,_⟩:=hp (K0 - n) (by omega);rw[St.dO,show n+(K0 - n)=K0 by omega]at h1;exact hK (mem_of_getElem? (by rw[getElem?_toList];exact h1))
   have tail:wpAny (model prog w) A (do
     let some (_,y):=es[i]?|unsupported "internal:set-entry"
     let equal<-holding [y] (eqBool y (.ref x.2))
     let(es',_,t')<-setState a
     if true && equal then return .there none
     let some sm:=t'.sameMemory t.moves t.mask|unsupported "set.changed-during-lookup:is-the-new-block-at-the-old-address"
     let still<-match(if sm then t'.slot (St.walk t.mask (St.walk t.mask (St.start t.mask (bI w (.t x.1))) n) k).j else .empty)with
      | .live i'=>match es'[i']? with
       |some (_,y')=>do pure (if<-isSame y' y then some i' else none)
       |none=>pure none
      |_=>pure none
     match still with
     |none=>rule "set.search.anew";setSearchFrom a (.ref x.2) (bI w (.t x.1)) true f none
     |some i'=>if equal then return .there (some i')else setSearchFrom a (.ref x.2) (bI w (.t x.1)) true f (some (St.walk t.mask (St.walk t.mask (St.start t.mask (bI w (.t x.1))) n) (k+1)))) Q E s:=by
    rw[hei];dsimp only[OD];have dx:o8 (.t x.1)<=5:=by rw[m8];have:=hx.dp;omega
    have dz:o8 (.t z.1)<=5:=by rw[m8];have:=hzI.dp;omega
    refine wpAny_bind (wpAny_holding ((OY 5 dz dx (by omega) hzI.is hx.is) prog w E _ ?_));refine wpAny_bind (wpAny_setState_of ho hd hT.fits ?_);dsimp only
    by_cases c:z.1=x.1
    .rw[decide_eq_true (congrArg NK.t c)];simp only[Bool.and_self,if_true];exact wpAny_pure (hin (mem_map.mpr ⟨z,hzm,c⟩))
    .rw[decide_eq_false fun e=>c (NK.t.inj e)];simp only[Bool.and_false,false_eq_true,if_false];have hsm:t.sameMemory t.moves t.mask=some true:=by unfold SetTable.sameMemory;simp
     rw[hsm];dsimp only;rw[if_pos rfl,St.sX hT.tab.T hpl];dsimp only;rw[hei];dsimp only[OD];have hsame:isSame (.ref z.2) (.ref z.2)=pure true:=by unfold isSame;simp
     rw[hsame];refine wpAny_bind (wpAny_bind (wpAny_pure (wpAny_pure ?_)));rw[if_pos rfl];refine ih (n+k+1) _ (by rw[St.dO];rfl) hK1 (by omega) fun l hl=>?_
     by_cases c1:l<n
     .exact hseen l c1
     .by_cases c2:l=n+k
      .rw[St.dO]at hpl;exact⟨i,z,by rw[c2];exact hpl,hzi,c⟩
      .obtain⟨i',h1,h2⟩:=hp (l - n) (by omega);rw[St.dO,show n+(l - n)=l by omega]at h1;obtain⟨z',hz',_,hh'⟩:=hT.of h1;refine⟨i',z',h1,hz',fun e=>h2 ?_⟩;rw[hh',e]
   cases hled:t.led with
   |true=>exact tail
   |false=>
    show wpAny _ _ (searchCouldBeSeen _ _>>=_) _ _ _;refine wpAny_bind (KA hx hz hT ?_);simp only[false_eq_true,if_false];exact tail
theorem CG (hu:A.units+8<cLine) (ho:s.heap.get? a=some o) (hd:o.data= .set es ep t) (hT:mT w t es zs) (hz:∀z∈zs,wN s.heap z) (hx:wN s.heap x) {Q:SetFound->Shared->Prop}
  (hin:x.1∈zs.map (·.1)->Q (.there none) s) (hout:x.1∉zs.map (·.1)->∀j,j∉t.place.toList->St.uX t.mask t.place.toList (bI w (.t x.1)) j->j<=t.mask->Q (.free j false) s):
  wpAny (model prog w) A (setSearch a (.ref x.2) (bI w (.t x.1)) true) Q E s:=by
 have h1:(St.start t.mask (bI w (.t x.1))).i<=t.mask:=le_of_lt_succ (mod_lt _ (succ_pos _));obtain⟨K0,hK0,hK⟩:=St.x9 hT.tab.T.ms (St.qV t.mask (bI w (.t x.1))) h1 (occ:=t.place.toList) (by rw[length_toList];have:=hT.JG;omega);exact wJ hu ho hd hT hz hx hin hout hK 100000 0 none rfl (zero_le _) (by rcases hT.tab.T.ms with e|e|e<;>rw[e]at hK0<;>omega) fun l hl=>absurd hl (not_lt_zero _)
end
end
def IX (w:World) (h:Heap) (a:Addr) (zs:List NZ) (es:Array St.El) (ep:Nat) (t:SetTable):Prop:=
 sJ w h a es ep t/\mT w t es zs
def iR (w:World) (h:Heap) (a:Addr) (zs:List NZ):Prop:=∃zs' es ep t,IX w h a zs' es ep t/\zs'.Perm zs
noncomputable def jG (zs:List NZ) (x:NZ):List NZ:=if x.1∈zs.map (·.1)then zs else zs++[x]
theorem iR.at' {w:World} (x:iR w h a zs) (k:∀o,h.get? a=some o->h'.get? a=some o):iR w h' a zs:=let⟨zs',es,ep,t,⟨b,r⟩,p⟩:=x;⟨zs',es,ep,t,⟨b.at' k,r⟩,p⟩
theorem GA {o:Obj} {es':Array St.El} {ep:Nat} {t':SetTable} (ho:h.get? a=some o) (hd:o.data= .set es ep t):(h.update a (Obj.putSet es' t')).get? a=some {o with data:=.set es' (ep+1) t'}:=by
 have:=get?_update_self (Obj.putSet es' t') ho (by rw[putSet_of es' t' hd];rfl);rw[putSet_of es' t' hd]at this;exact this
section
variable {prog:Program} {w:World} {A:Around} {E:Value->Shared->Prop} {s:Shared}
theorem ML {x:NZ} (hu:A.units+8<cLine) (hS:iR w s.heap a zs) (hz:∀z∈zs,wN s.heap z) (hx:wN s.heap x) (hroom:zs.length+1<=70)
  (h:∀h' b,Heap.SameBut a s.heap h'->iR w h' a (jG zs x)->Q b {s with heap:=h'}):wpAny (model prog w) A (setAddHashed a (.ref x.2) (bI w (.t x.1))) Q E s:=by
 obtain⟨zs',es,ep,t,⟨hB,hT⟩,hpm⟩:=hS;obtain⟨o,ho,hex,hd,hsb,hft,hled,hpl⟩:=id hB;have hz':∀z∈zs',wN s.heap z:=fun z hzm=>hz z (hpm.mem_iff.mp hzm)
 have hm:x.1∈zs'.map (·.1)↔x.1∈zs.map (·.1):=(hpm.map _).mem_iff;have hlen:=hpm.length_eq;unfold setAddHashed setAddHashedIn;refine wpAny_holding (wpAny_bind (wpAny_setState_of ho hd hT.fits ?_));dsimp only;have hb:byScan (.ref x.2) es=false:=rfl;rw[hb];simp only[false_eq_true,if_false];refine wpAny_bind (CG hu ho hd hT hz' hx (fun hin=>?_) fun hno j hj hc hjm=>?_)
 .dsimp only;refine wpAny_pure ?_;have:=h s.heap false (Heap.SameBut.refl a s.heap) (by unfold jG;rw[if_pos (hm.mp hin)];exact⟨zs',es,ep,t,⟨hB,hT⟩,hpm⟩);exact this
 .dsimp only;refine wpAny_bind (wpAny_setState_of ho hd hT.fits ?_);dsimp only;obtain⟨tb,tsz,tm,tdm,tl,tp,tf,tmv⟩:=hT.tab.put (hx:=bI w (.t x.1)) (x:=.ref x.2) hj hc hjm;have hpb:(t.put j).2<=zs'.length:=by rw[<-hT.size.1];exact(St.lJ hT.tab.T.L7 j).1
  have el2:(SetTable.insertAt es (t.put j).2 (bI w (.t x.1),Value.ref x.2)).toList=(zs'.take (t.put j).2++x::zs'.drop (t.put j).2).map (OD w):=by
   rw[St.pP _ _ _ (by rw[hT.size.2];exact hpb),hT.el,map_append,map_cons,map_take,map_drop];rfl
  have hpz:(zs'.take (t.put j).2++x::zs'.drop (t.put j).2).Perm (zs'++[x]):=by
   have h1:(zs'.take (t.put j).2++x::zs'.drop (t.put j).2).Perm (x::(zs'.take (t.put j).2++zs'.drop (t.put j).2)):=List.perm_middle;rw[List.take_append_drop]at h1;exact h1.trans (List.perm_append_comm (l₁:=[x]) (l₂:=zs'))
  have hadd:jG zs x=zs++[x]:=by unfold jG;rw[if_neg fun z=>hno (hm.mpr z)]
  have hpa:(zs'.take (t.put j).2++x::zs'.drop (t.put j).2).Perm (jG zs x):=by rw[hadd];exact hpz.trans (hpm.append (List.Perm.refl _))
  have nd2:((zs'.take (t.put j).2++x::zs'.drop (t.put j).2).map (·.1)).Nodup:=by
   refine(hpz.map _).nodup_iff.mpr ?_;rw[map_append];exact nodup_append.mpr ⟨hT.nd,by simp,fun u hu v hv e=>hno (by rw[map_singleton,mem_singleton]at hv;rw[<-show v=x.1 from hv,<-e];exact hu)⟩
  have lo2:(zs'.take (t.put j).2++x::zs'.drop (t.put j).2).length<=70:=by rw[hpz.length_eq,length_append];show zs'.length+1<=70;omega
  have hs1:=hT.size;have hfw:=hT.JG;have sz2:(SetTable.insertAt es (t.put j).2 (bI w (.t x.1),Value.ref x.2)).size=zs'.length+1:=by
   rw[<-length_toList,el2,length_map,hpz.length_eq,length_append];rfl
  generalize SetTable.insertAt es (t.put j).2 (bI w (.t x.1),Value.ref x.2)=es2 at tb el2 sz2⊢
  generalize zs'.take (t.put j).2++x::zs'.drop (t.put j).2=zs2 at el2 hpa nd2 lo2;have hpe:(t.put j).1.plain=t.plain:=tp;generalize t.put j=zz at*;obtain⟨t2,p2⟩:=zz;dsimp only at*;have sbd:∀n,n<=70->n<scanBound:=fun n hn=>by show n<4096;omega
  have tail:∀b:Bool,b=false->wpAny (model prog w) A (do
    storeSet a es2 {t2 with plain:=b}
    if(!false && ({t2 with plain:=b}:SetTable).tooFull)=true then do
      setRelay a (SetTable.grown (es.size+1))
      pure true
     else pure true) Q E s:=fun b hbf=>by
   have o1:=GA (es':=es2) (t':={t2 with plain:=b}) ho hd;have sb:=Heap.SameBut.update s.heap a (Obj.putSet es2 {t2 with plain:=b});have tab3:St.Tab {t2 with plain:=b} es2:=⟨⟨tb.T.L7,tb.T.dm,tb.T.ms,tb.T.le⟩,tb.sz,tb.fd⟩;have sL:es2.size<=sizeLine:=lK (by omega);refine wpAny_bind (wpAny_storeSet_of ho hd ?_ sL);have hfill:({t2 with plain:=b}:SetTable).fill=zs'.length+1:=by
    show t2.place.size+t2.dummies.size=_;rw[tdm,tsz,hs1.1];rfl
   by_cases hfull:({t2 with plain:=b}:SetTable).tooFull=true
   .rw[if_pos (by rw[hfull];rfl)];have hf2:(zs'.length+1)*5≥t.mask*3:=by
     unfold SetTable.tooFull at hfull;rw[hfill]at hfull;have:=of_decide_eq_true hfull;rw[show({t2 with plain:=b}:SetTable).mask=t.mask from tm]at this;exact this
    obtain⟨m,hw,hm',hzm,hsl⟩:∃m,SetTable.sizeAbove (SetTable.grown (es.size+1)) - 1=m/\(m=7\/ m=31\/ m=127)/\(zs'.length+1)*5<m*3/\SetTable.sizeAbove (SetTable.grown (es.size+1))<=16777216:=by
     rw[hs1.2];rcases hT.tab.T.ms with e|e|e
     .rw[e]at hf2 hfw;have hl:zs'.length=4:=by omega
      rw[hl];exact⟨31,by decide+kernel,.inr (.inl rfl),by decide,by decide+kernel⟩
     .rw[e]at hf2 hfw;have hl:zs'.length=18:=by omega
      rw[hl];exact⟨127,by decide+kernel,.inr (.inr rfl),by decide,by decide+kernel⟩
     .rw[e]at hf2;omega
    obtain⟨t4,ord,er,tab4,pm4,tm4,tl4,tp4,tz4⟩:=St.C3 (t:={t2 with plain:=b}) (es:=es2) hw hm' (by omega);have fit3:({t2 with plain:=b}:SetTable).fits es2.size=true:=by
     unfold SetTable.fits;rw[hfill];simp only[and_eq_true,beq_iff_eq,decide_eq_true_eq];refine⟨by show t2.place.size=_;omega,?_⟩;show zs'.length+1<=t2.mask;rw[tm];rcases hT.tab.T.ms with e|e|e<;>rw[e]at hfw⊢<;>omega
    refine wpAny_bind ?_;unfold setRelay;refine wpAny_bind (wpAny_setState_of o1 rfl fit3 ?_);dsimp only;rw[if_neg (Nat.not_lt.mpr (lK hsl)),er];have sz4:(ord.filterMap (es2[·]?)).size=es2.size:=by rw[<-length_toList,pm4.length_eq,length_toList]
    refine wpAny_bind (m:=(do
     let es':=ord.filterMap (es2[·]?)
     if es'.size !=es2.size then unsupported "internal:set-table-lost-an-element"
     pure (es',t4):Sem (Array (Int×Value)×SetTable))) ?_
    dsimp only;rw[sz4];simp only[bne_self_eq_false,false_eq_true,if_false];refine wpAny_pure ?_;dsimp only;refine wpAny_storeSet_of o1 rfl ?_ (by rw[sz4];exact sL);refine wpAny_pure ?_;rw[el2]at pm4;obtain⟨zs4,pz4,ez4⟩:=My.gO pm4 rfl;have hlz:zs4.length=zs'.length+1:=by rw[pz4.length_eq,hpa.length_eq,hadd,length_append,hlen];rfl
    exact h _ true (sb.trans (Heap.SameBut.update _ a _)) ⟨zs4,_,_,t4,have T4:mT w t4 _ zs4:=⟨ez4,(pz4.map _).nodup_iff.mpr nd2,tab4,by rw[tz4,tm4];omega,by omega⟩;⟨⟨_,GA o1 rfl,hex,rfl,sbd _ (by rw[T4.size.2];omega),T4.fits,by rw[tl4];exact tl.trans hled,.inr (tp4.trans hbf)⟩,T4⟩,pz4.trans hpa⟩
   .rw[if_neg (by rw[Bool.not_false,Bool.true_and];exact hfull)];refine wpAny_pure (h _ true sb ⟨zs2,es2,ep+1,_,have T3:mT w {t2 with plain:=b} es2 zs2:=⟨el2,nd2,tab3,?_,lo2⟩;⟨⟨_,o1,hex,rfl,sbd _ (by rw[T3.size.2];exact lo2),T3.fits,tl.trans hled,.inr hbf⟩,T3⟩,hpa⟩);unfold SetTable.tooFull at hfull;rw[hfill]at hfull;have:=of_decide_eq_false (Bool.eq_false_iff.mpr hfull);show t2.place.size*5<t2.mask*3;have hmm:({t2 with plain:=b}:SetTable).mask=t2.mask:=rfl;rw[hmm]at this;omega
  obtain⟨nl,rl,el⟩:=hx.led;cases hp1:t2.plain with
  |true=>
   simp only[if_true];refine wpAny_bind (MV (n:=nl) (xs:=rl) (by rw[<-el];exact hx.is) ?_);exact tail false rfl
  |false=>
   simp only[false_eq_true,if_false];refine wpAny_bind (wpAny_pure ?_);have:=tail t2.plain hp1;exact this
end
noncomputable def bZ (zs:List NZ):List NZ:=zs.foldl jG []
theorem uO (zs:List NZ) (x:NZ):bZ (zs++[x])=jG (bZ zs) x:=by unfold bZ;rw[List.foldl_append];rfl
theorem EJ (ks:List NZ) (x:NZ):(jG ks x).length<=ks.length+1/\∀z∈jG ks x,z∈ks\/ z=x:=by
 unfold jG;split
 .exact⟨by omega,fun z h=>.inl h⟩
 .exact⟨by rw[length_append];exact le_refl _,fun z h=>(mem_append.mp h).imp id mem_singleton.mp⟩
theorem xJ (zs:List NZ):∀(ks:List NZ),(zs.foldl jG ks).length<=ks.length+zs.length/\(∀z∈zs.foldl jG ks,z∈ks\/ z∈zs)/\((ks.map (·.1)).Nodup->((zs.foldl jG ks).map (·.1)).Nodup)/\∀k,k∈(zs.foldl jG ks).map (·.1)↔k∈ks.map (·.1)\/ k∈zs.map (·.1):=by
 induction zs with
 |nil=>intro ks;exact⟨le_refl _,fun z h=>.inl h,id,fun k=>by simp⟩
 | cons x zs ih=>
  intro ks;obtain⟨h1,h2,h3,h4⟩:=ih (jG ks x);obtain⟨h5,h6⟩:=EJ ks x;refine⟨by rw[foldl_cons,length_cons];omega,fun z hz=>?_,fun nd=>h3 ?_,fun k=>?_⟩
  .rcases h2 z hz with h|h
   .exact(h6 z h).imp id fun e=>by rw[e];exact mem_cons_self
   .exact .inr (mem_cons_of_mem _ h)
  .unfold jG;split
   .exact nd
   .rename_i hn;rw[map_append];exact nodup_append.mpr ⟨nd,by simp,fun a ha b hb e=>hn (by rw[map_singleton,mem_singleton]at hb;rw[<-show b=x.1 from hb,<-e];exact ha)⟩
  .rw[foldl_cons,h4,map_cons,mem_cons];have:k∈(jG ks x).map (·.1)↔k∈ks.map (·.1)\/ k=x.1:=by
    unfold jG;split
    .rename_i hi;exact⟨.inl,fun h=>h.elim id fun e=>by rw[e];exact hi⟩
    .rw[map_append,mem_append,map_singleton,mem_singleton]
   rw[this,or_assoc]
theorem lE (zs:List NZ):(bZ zs).length<=zs.length/\(∀z∈bZ zs,z∈zs)/\((bZ zs).map (·.1)).Nodup/\∀k,k∈(bZ zs).map (·.1)↔k∈zs.map (·.1):=by
 obtain⟨h1,h2,h3,h4⟩:=xJ zs [];exact⟨by rw[length_nil,zero_add]at h1;exact h1,fun z hz=>(h2 z hz).elim (fun h=>nomatch h) id,h3 nodup_nil,fun k=>(h4 k).trans ⟨fun h=>h.elim (fun h=>nomatch h) id,.inr⟩⟩
section
variable {prog:Program} {w:World} {A:Around} {E:Value->Shared->Prop} {s:Shared}
theorem GB (k:∀b o,h.get? b=some o->h'.get? b=some o) (a:Addr) (us:Array Value) (x:IsTup h a us):IsTup h' a us:=let⟨o,e,r⟩:=x;⟨o,k a o e,r⟩
theorem wN.mW (k:∀b o,h.get? b=some o->h'.get? b=some o) (x:wN h z):wN h' z:=⟨x.is.keeps (GB k),x.dp,x.led⟩
theorem vV {R:Result->Shared->Prop} {I:Addr} {fp wr:List Addr} {G:Array GenState->Array GenState->Prop} {Pz:Nat->Value->Prop} {St:Nat->Shared->Prop} {ss:List NZ} {h0:Heap}
  (W:WalksS prog w A.in1 I fp wr G ss.length Pz St) (S:Addr) (hSf:S∉fp) (hval:∀i v,Pz i v->∃z,ss[i]? =some z/\v= .ref z.2) (hb:ss.length<=69) (hu:A.units+10<cLine)
  (hN:∀z∈ss,wN h0 z) (hS0:h0.objs.size<=S) (hw0:∀b∈wr,h0.objs.size<=b):
  ∀(k i:Nat) (s:Shared),ss.length - i=k->i<=ss.length->St i s->iR w s.heap S (bZ (ss.take i))->(∀b o,h0.get? b=some o->s.heap.get? b=some o)->
   (∀s',Moved (S::wr) G s s'->iR w s'.heap S (bZ ss)->R (.ok (.ret .none)) s')->
   codeAny (model prog w) A (.builtin "set.update.loop" ⟨[.ref S,.ref I],[]⟩) R s:=by
 have nw:S∉wr:=fun h=>hSf (W.sub _ h)
 have sub:∀b∈wr,b∈S::wr:=fun b hb=>mem_cons_of_mem _ hb
 intro k
 induction k with
 |zero=>
  intro i s hk hi st hS _ hR;have e:i=ss.length:=by omega
  subst e;refine codeAny_builtin F.entry_set_update_loop ?_;rw[Around.under_plainId F.plain_set_update_loop _];refine wpAny_bind (m:=pyNext (.ref I)) (W.done s _ _ st fun s' hm=>?_);refine wpAny_pure (hR s' (hm.mono sub) ?_);rw[take_length]at hS;exact hS.at' fun o e=>hm.heap S _ nw e
 | succ k ih=>
  intro i s hk hi st hS h0k hR;have hlt:i<ss.length:=by omega
  refine codeAny_builtin F.entry_set_update_loop ?_;rw[Around.under_plainId F.plain_set_update_loop _];refine wpAny_bind (m:=pyNext (.ref I)) (W.item i s _ _ hlt st fun v s' hP st' hm=>?_);obtain⟨z,hz,rfl⟩:=hval i v hP;have hzm:=mem_of_getElem? hz;have hS':=hS.at' (h':=s'.heap) fun o e=>hm.heap S _ nw e
  have h0':∀b o,h0.get? b=some o->s'.heap.get? b=some o:=fun b o e=>hm.heap b o (fun hb=>absurd (hw0 b hb) (Nat.not_le.mpr (lt_size e))) (h0k b o e)
  have hx:=(hN z hzm).mW h0';refine wpAny_bind (m:=holding [Value.ref z.2] (setAdd S (.ref z.2))) (wpAny_holding ?_);unfold setAdd;have hin:A.in1.units=A.units+1:=rfl;refine wpAny_holding (wpAny_bind (KP 5 (by rw[m8];have:=hx.dp;omega) (by omega) hx.is ?_));obtain⟨f1,f2,_,_⟩:=lE (ss.take i);rw[length_take]at f1;refine ML (s:={s' with toks:=s'.toks+HW (.t z.1)}) (by omega) hS' (fun y hy=>(hN y (mem_of_mem_take (f2 y hy))).mW h0') hx (by omega) fun h' b sb hS2=>?_
  have hS3:iR w h' S (bZ (ss.take (i+1))):=by
   rw[take_succ,hz,Option.toList_some,uO];exact hS2
  refine wpAny_pure ⟨plainId_quiet F.plain_set_update_loop _,ih (i+1) _ (by omega) hlt (W.frame _ s' _ _ st' (le_add_right _ _) fun b hb o e=>?_) hS3 (fun b o e=>?_) fun s'' hm'' hS''=>?_⟩
  .rw[sb.2 b (fun z=>hSf (by rw[<-z];exact hb))];exact e
  .rw[sb.2 b (fun z=>absurd (lt_size e) (by rw[z];exact Nat.not_lt.mpr hS0))];exact h0' b o e
  .refine hR s'' (Moved.trans W.gtrans ((hm.mono sub).then_heap (le_add_right _ _) fun b o hb e=>?_) hm'') hS'';rw[sb.2 b (fun z=>hb (by rw[z];exact mem_cons_self))];exact e
noncomputable abbrev eI (w:World):Obj:={cls:=.type "set",dict:=none,data:=.set #[] 0 (.fresh 0 0 (!JK w))}
theorem z5 (ho:s.heap.get? a=some (eI w)):iR w s.heap a []:=
 ⟨[], #[],0,_,⟨⟨_,ho,⟨rfl,rfl,rfl⟩,rfl,by decide,by rfl,rfl,.inl rfl⟩,⟨rfl,nodup_nil,⟨⟨List.Pairwise.nil,rfl,.inl rfl,fun _ h=>nomatch h⟩,rfl,fun i j h=>by simp[SetTable.fresh]at h⟩,(show 0*5<7*3 by decide),by decide⟩⟩,.refl _⟩
end
section
variable {prog:Program} {w:World} {A:Around} {E:Value->Shared->Prop} {s:Shared}
theorem u4 {l:Addr} {vs:List Value} {ss:List NZ} {Q:Value->Shared->Prop} (hh:A.handled=none) (hu:A.units+14<cLine) (hl:s.heap.IsList l vs.toArray) (hs:vs=ss.map fun z=>Value.ref z.2) (hb:ss.length<=69) (hN:∀z∈ss,wN s.heap z)
  (h:∀(h':Heap) (tk:Nat),iR w h' s.heap.objs.size (bZ ss)->(∀b o,s.heap.get? b=some o->h'.get? b=some o)->Q (.ref s.heap.objs.size) {s with heap:=h',toks:=tk}):
  wpAny (model prog w) A (call (.type "set") [.ref l]) Q E s:=by
 obtain⟨c,tl,q0⟩:=F.called_set.mro;have q1:=F.called_set.made;have q2:=F.called_set.sub;refine wpAny_call (codeAny_of_tree ?_);show wpAny _ _ (callAny (.type "set") _) _ _ _;refine wpAny_pure ⟨Code.quiet_builtin _ (by decide+kernel),codeAny_builtin F.entry_type_call ?_⟩;rw[Around.under_plain (weight_type_call_type "set" [.ref l] []) rfl];have q3:=F.called_set.notType;have q4:=F.called_set.canCreate;have q5:=F.typeCall_set_1 (.ref l)
 repeat(any_goals(first|assumption|wp_step))
 refine codeAny_mono (IA (.ref l) (E:=E) (Q₁:=fun obj s₁=>obj= .ref s.heap.objs.size/\s₁={s with heap:=s.heap.push (eI w)}) ⟨rfl,rfl⟩) fun r s₁ hr=>?_
 cases r with
 |error e=>exact hr
 | ok fl=>
  cases fl with
  | ret obj=>
   obtain⟨rfl,rfl⟩:=hr;have gS:(s.heap.push (eI w)).get? s.heap.objs.size=some (eI w):=get?_push_size _ rfl;have tS:Shared.TypeIs {s with heap:=s.heap.push (eI w)} (.ref s.heap.objs.size) "set":=⟨_,gS,rfl⟩;have q6:=F.called_set.init.lookup;have q7:=F.called_set.init.bind (.ref s.heap.objs.size)
   repeat(any_goals(first|assumption|wp_step))
   refine codeAny_mono (codeAny_call_builtin (R:=wants (fun r s₂=>r= .none/\∃h' tk,s₂={s with heap:=h',toks:=tk}/\iR w h' s.heap.objs.size (bZ ss)/\∀b o,s.heap.get? b=some o->h'.get? b=some o) E)
    F.called_set.init.plain F.entry_set_init (check_set_init_1 tS ?_)) fun r₂ s₂ hr₂=>?_
   .have lS:l<s.heap.objs.size:=let⟨_,e,_⟩:=hl;lt_size e
    have hl1:(s.heap.push (eI w)).IsList l vs.toArray:=hl.push _;obtain⟨ol,gl,cl,nl,dl⟩:=id hl1;have q8:=F.sub_list_set;have q9:=F.sub_list_frozenset;have tL:Shared.TypeIs {s with heap:=s.heap.push (eI w)} (.ref l) "list":=⟨ol,gl,cl⟩;have q10:(Value.type "list"==Value.type "dict")=false:=by decide
    unfold Builtin.«set.__init__» noKeywords Builtin.Frozenset.updateFrom;generalize hPI:pyIter=PI
    wp_walk using wpAny_typeOf tL
    subst hPI;refine wpAny_pyIter_list hl1 (wpAny_bind (wpAny_runValue ?_));have zP:(s.heap.push (eI w)).objs.size=s.heap.objs.size+1:=size_push ..;have nI:l≠(s.heap.push (eI w)).objs.size:=by rw[zP];exact ne_of_lt (lt_succ_of_lt lS)
    have nS:s.heap.objs.size∉[(s.heap.push (eI w)).objs.size,l]:=by
     rw[zP];simp only[mem_cons,not_mem_nil,or_false,not_or];exact⟨ne_of_lt (lt_succ_self _),ne_of_gt lS⟩
    have zs:vs.toArray.size=ss.length:=by rw[size_toArray,hs,length_map]
    have W:=(Walks.list (A:=A.in1.in1.in1) (prog:=prog) (w:=w) (by exact hh) _ l nI vs.toArray).toS;rw[zs]at W;have hin:A.in1.in1.in1.units=A.units+1+1+1:=rfl;refine vV (h0:=s.heap) W s.heap.objs.size nS (fun i v hv=>?_) hb (by show A.in1.in1.units+10<_;have:A.in1.in1.units=A.units+1+1:=rfl;omega) hN (le_refl _) (fun b hb=>by have hb:b=(s.heap.push (eI w)).objs.size:=(by simpa using hb);rw[hb,zP];exact le_succ _) (ss.length - 0) 0 _ (by omega) (zero_le _) ⟨⟨_,get?_push_size _ rfl,rfl,rfl⟩,hl1.push _⟩ ?_ (fun b o e=>get?_push_of_some _ (get?_push_of_some _ e)) ?_
    .rw[hs]at hv;have hv:(ss.map fun z=>Value.ref z.2)[i]? =some v:=by simpa using hv
     rw[getElem?_map]at hv;obtain⟨z,hz,rfl⟩:=map_eq_some_iff.mp hv;exact⟨z,hz,rfl⟩
    .exact z5 (s:={s with heap:=(s.heap.push (eI w)).push _}) (get?_push_of_some _ gS)
    .intro s' hm hS';obtain⟨h',gn,dr,tk,os⟩:=s';have e1:gn=s.gens:=hm.gens;have e2:dr=s.drawn:=hm.drawn;have e3:os=s.os:=hm.os;subst e1 e2 e3;refine wpAny_pure (wpAny_pure ⟨rfl,h',tk,rfl,hS',fun b o e=>?_⟩);have hb:=lt_size e;refine hm.heap b o ?_ (get?_push_of_some _ (get?_push_of_some _ e));rw[zP];simp only[mem_cons,not_mem_nil,or_false,not_or];exact⟨ne_of_lt hb,ne_of_lt (lt_succ_of_lt hb)⟩
   .cases r₂ with
    |error e=>exact hr₂
    | ok fl₂=>
     cases fl₂ with
     |ret r=>
      obtain⟨rfl,h',tk,rfl,hS',hk'⟩:=hr₂
      repeat(any_goals(first|assumption|wp_step))
      exact h _ _ hS' hk'
     |_=>exact hr₂.elim
  |_=>exact hr.elim
end
end L2
namespace L2
open PySem PySem.Spec PyProof.Rows PySem.W Mr
variable {k:Nat}
section
variable {X:Cx}
noncomputable def OE (w:World) (v:Addr) (zs:List NZ):HO:=.ext fun h=>iR w h v zs
def OU (H:Hp) (z:NZ):Prop:=N2 H (.t z.1) (.ref z.2)/\nP z.1<=4/\∃n r,z.1= .k (.inr n)::r
def QI (K:Frag) (w:World):List V->Hp->VK->Prop:=fun xs H Q=>∃p zs,xs=[.ref p]/\bM K H p (zs.map fun z:NZ=>V.ref z.2)/\(∀z∈zs,OU H z)/\zs.length<=69/\∀v,H v=none->Q (.ref v) (L2.upd H v (OE w v (bZ zs)))
theorem KC {zs:List NZ}:∀{vs:List Value},Vals (zs.map fun z:NZ=>V.ref z.2) vs->vs=zs.map fun z:NZ=>Value.ref z.2:=by
 induction zs with
 |nil=>intro vs h;cases h;rfl
 |cons z zs ih=>
  intro vs h;cases h with
  |cons h r=>rw[ih r,show _=Value.ref z.2 from h];rfl
theorem RN (K:Frag) (hr:eL k X.A) (hK:X.K=K:=by rfl) (hc:X.calm=true:=by rfl):eU X (.type "set") (QI K X.w):=by
 subst hK;intro pins s σ H xs us Q I r ⟨p,zs,e,hq,hz,hl,q⟩;subst e;obtain⟨u,rfl,rx⟩:=vals1 r;cases rx;obtain⟨vs,rv,pl,_⟩:=I.list hq;have hv:=KC rv;refine u4 (by exact I.ok.hd hc) (by have:=hr.un;omega) pl.isList hv hl (fun z hzm=>⟨(hz z hzm).1.is I.aW rfl,(hz z hzm).2.1,(hz z hzm).2.2⟩) fun h' tk hS kp=>?_
 have g:∃o,h'.get? s.heap.objs.size=some o:=let⟨_,_,_,_,⟨⟨o,e,_⟩,_⟩,_⟩:=hS;⟨o,e⟩
 exact⟨.ref s.heap.objs.size,_,I.laid (t':=tk) (o:=OE X.w s.heap.objs.size (bZ zs)) kp (le_refl _) ⟨hS,g,fun h1 h2 a k=>iR.at' a k⟩,rfl,q _ (I.aW.fresh (le_refl _))⟩
theorem qA {H:Hp} {f:NZ->V} {zs zs':List NZ} (p:zs'.Perm zs):∀{ps:List PV},g9 H ps (zs.map f)->∃ps',ps'.Perm ps/\g9 H ps' (zs'.map f):=by
 induction p with
 |nil=>intro ps h;exact⟨ps,.refl _,h⟩
 | cons x _ ih=>
  intro ps h;cases h with
  |cons h r=>
   obtain⟨ps',a,b⟩:=ih r;exact⟨_::ps',a.cons _,.cons h b⟩
 | swap x y l=>
  intro ps h;cases h with
  |cons h r=>cases r with
   |cons h' r=>exact⟨_::_::_,.swap _ _ _,.cons h' (.cons h r)⟩
 |trans _ _ ih1 ih2=>
  intro ps h;obtain⟨ps',a,b⟩:=ih2 h;obtain⟨ps'',c,d⟩:=ih1 b;exact⟨ps'',c.trans a,d⟩
theorem jW.mono {P:Program} {w:World} {A:Around} {vs:List Value} {R R':Array Nat->Prop} {s:Shared} (h:jW P w A vs R s) (k:∀p,R p->R' p):jW P w A vs R' s:=let⟨κ,a,b⟩:=h;⟨κ,a,fun G hG=>b G fun p c d=>hG p c (k p d)⟩
def IP (w:World):List V->Hp->VK->Prop:=fun xs H Q=>∃v zs ps,xs=[.ref v]/\H v=some (OE w v zs)/\g9 H ps (zs.map fun z:NZ=>V.ref z.2)/\zs.length<64/\(∀x∈ps,sD true x=true)/\bV 3 ps=true/\
 ∀l out,g9 H (tR 3 ps) out->H l=none->Q (.ref l) (L2.upd H l (.lst out))
theorem nV:∀zs:List NZ,Vals (zs.map fun z:NZ=>V.ref z.2) (zs.map fun z:NZ=>Value.ref z.2)
 |[]=>.nil
 |_::zs=>.cons rfl (nV zs)
theorem NJ (hr:eL k X.A) (hc:X.calm=true:=by rfl):eU X (.builtin "sorted") (IP X.w):=by
 intro pins s σ H xs us Q I r ⟨a,zs,ps,e,ha,rp,h64,led,cmp,q⟩;subst e;obtain⟨u,rfl,rx⟩:=vals1 r;cases rx;obtain⟨zs',es,ep,t,⟨hB,hT⟩,hpm⟩:=(show cV X.prog X.w H s.heap a (OE X.w a zs)from I.aW a _ ha).1;obtain⟨ps',pp,rp'⟩:=qA (f:=fun z:NZ=>V.ref z.2) hpm rp;have hl':=hpm.length_eq;have hpl:=rp'.length;rw[length_map]at hpl;have led':∀x∈ps',sD true x=true:=fun x hx=>led x (pp.mem_iff.mp hx)
 have cmpI:∀{l:List PV},bV 3 l=true↔∀x∈l,nY 3 x=true/\∀y∈l,(fJ 3 x y).isSome=true:=fun{l}=>by
  unfold bV;rw[all_eq_true];exact⟨fun h x hx=>by have:=h x hx;rw[and_eq_true,all_eq_true]at this;exact this,fun h x hx=>by rw[and_eq_true,all_eq_true];exact h x hx⟩
 have cmp':bV 3 ps'=true:=cmpI.mpr fun x hx=>⟨(cmpI.mp cmp x (pp.mem_iff.mp hx)).1,fun y hy=>(cmpI.mp cmp x (pp.mem_iff.mp hx)).2 y (pp.mem_iff.mp hy)⟩
 have ok:∀x∈ps',kY 3 x=true:=fun x hx=>by
  have:=all_eq_true.mp cmp' x hx;rw[and_eq_true]at this;exact p0 this.1
 have hev:es.toList.map (·.2)=zs'.map fun z:NZ=>Value.ref z.2:=by rw[hT.el,map_map];rfl
 refine jC (s:=s) (Ok:=fun ws s1=>∃ys:List NZ,ys.Perm zs'/\ws=ys.map fun z:NZ=>Value.ref z.2) (R:=fun ws p=>∃(ys:List NZ) (qs:List PV),ys.Perm zs'/\ws=ys.map (fun z:NZ=>Value.ref z.2)/\qs.Perm ps'/\g9 H qs (ys.map fun z:NZ=>V.ref z.2)/\iS mH (fun i=>code 3 (qs.getD i .aU)) p ws.length) (fun E' Q' kk=>?_) ?_ ?_ ?_ ?_
 .refine vF (by exact I.ok.hd hc) hB fun ws s1 g hp=>kk ws s1 g ?_
  rw[hev]at hp;obtain⟨ys,py,ey⟩:=My.gO hp rfl;exact⟨ys,py,ey⟩
 .rintro ws s1 ⟨ys,py,rfl⟩;rw[length_map,py.length_eq];omega
 .rintro ws s1 gr ⟨ys,py,rfl⟩ l2 h' kp;have I':Inv X pins σ H {s1 with heap:=h'}:=(I.NW gr).kept (t':=s1.toks) kp;obtain⟨qs,pq,rq⟩:=qA (f:=fun z:NZ=>V.ref z.2) py rp';have okq:∀x∈qs,kY 3 x=true:=fun x hx=>ok x (pq.mem_iff.mp hx)
  have hL:bQ h' qs _:=fR.lies I' (n:=3) (all_eq_true.mpr okq) (rq.rep (K:=X.K) (Z:=CI)) (nV ys);refine jW.mono (yQ (s:={s1 with heap:=h'}) hL (by have:=hr.un;show X.A.units+1+1+2<_;omega) (fun x hx=>led' x (pq.mem_iff.mp hx)) okq (cmpI.mpr fun x hx=>⟨(cmpI.mp cmp' x (pq.mem_iff.mp hx)).1,fun y hy=>(cmpI.mp cmp' x (pq.mem_iff.mp hx)).2 y (pq.mem_iff.mp hy)⟩) l2) fun p hp=>⟨ys,qs,py,rfl,pq,rq,hp⟩
 .rintro ws s1 ⟨ys,py,rfl⟩ h2;obtain⟨qs,pq,rq⟩:=qA (f:=fun z:NZ=>V.ref z.2) py rp';exact⟨ys,qs,py,rfl,pq,rq,fun i j a b=>by rw[show i=j by omega];exact KeyOrd.kle_refl _⟩
 .rintro l s1 s2 out c ws p gr _ g2 hla hat e1 ⟨ys,qs,py,rfl,pq,rq,e2⟩ e3;have hyl:=py.length_eq;have hql:=rq.length;rw[length_map]at hql;have hp:p.toList.Perm (List.range qs.length):=by
   have:=perm_iff_toList_perm.mp e1;rw[length_map,<-hql]at this;simpa using this
  have hlt:∀i∈p.toList,i<qs.length:=fun i hi=>mem_range.mp (hp.mem_iff.mp hi)
  have z2:=mC (nV ys) p.toList fun i hi=>by have:=hlt i hi;rw[length_map];omega
  rw[<-e3]at z2;have hpz:p.toList.length=qs.length:=by rw[hp.length_eq,length_range]
  have hls:s.heap.objs.size<=l:=le_trans gr.size hla;have up:=E8 e2 (by rw[hpz,length_map,hql]);have pm:(p.toList.map fun i=>qs.getD i PV.aU).Perm qs:=by
   have:=hp.map fun i=>qs.getD i PV.aU
   have e:(List.range qs.length).map (fun i=>qs.getD i PV.aU)=qs:=by
    apply ext_getElem
    .simp
    .intro i a1 a2;simp[getElem?_eq_getElem a2]
   rw[e]at this;exact this
  have es':tR 3 ps=p.toList.map fun i=>qs.getD i .aU:=
   j3 (iT 3 ps) up ((dG 3 ps).trans (pm.trans (pq.trans pp)).symm) fun x hx y hy=>qK cmp ((dG 3 ps).mem_iff.mp hx) ((dG 3 ps).mem_iff.mp hy)
  refine⟨.ref l,_,I.K6 (o:=.lst (p.toList.map fun i=>(ys.map fun z:NZ=>V.ref z.2).getD i .aU)) (gr.trans g2) hls ⟨by rw[length_map,hpz,sizeLine_eq];omega,out.toList,c,z2,by rw[Array.toArray_toList];exact hat⟩,rfl,q l _ ?_ (I.aW.fresh hls)⟩;rw[es'];exact rq.pick hlt
end
end L2
namespace My
open PySem L2
variable {p t:Addr} {a b:Bool×Int×Str} {D:Ends} {ab hm rt:Hl} {H H':Hp} {d:Int} {c:Int×Str} {kv:Key×V} {kvs:List (Key×V)} {F Rs Ts:List (List Str)} {nF rv:List (Str×Str)} {N R R' hk zs:List Str} {us:List V} {y:Lt} {i j:Nat} {K:Frag} {l:PySem.W.OpenLaw} {n ro x z:Str} {α β:Type} {r u v:V}
local macro_rules | `(tactic| walk_at "vc0") => `(tactic| simp only [rQ, kL, vY, HN, tC, fI, rI, yN, rU, GZ, iF, o5, r6, qD, sE, fP, qF, iL, jU, jV, jJ, HM, rX, pR, HV, tB, HR, lF, fK, EK, qS, nK, rY, sI, qG, GD, rT, kN, kX, HZ, HU, rJoin, sF, g7, fC, lD, rL, qN, kZ, rO, GG, L2.start, i8, eZ, gt_iff_lt, ge_iff_le, map_cons, map_nil, cons_append, nil_append, length_cons, length_nil, List.replicate, getElem?_cons_zero, getElem?_cons_succ, set_cons_zero, set_cons_succ, Option.some.injEq, V.int.injEq, V.str.injEq, V.bl.injEq, V.ref.injEq, V.ty.injEq, List.cons.injEq, and_true, true_and, exists_eq_left, exists_eq_left', exists_eq_right, exists_and_left, exists_and_right, exists_eq_or_imp, exists_const, Nat.reduceAdd, Nat.reduceSub, ite_true, ite_false, false_eq_true, if_true, if_false, and_assoc, Bool.not_true, Bool.not_false, Bool.true_and, Bool.false_and, decide_true, decide_false, reduceCtorEq, false_and, exists_false, or_false, false_or, iB, hV, lB, gH, kO, hJ, lH, iA, gF, fS])
local macro_rules | `(tactic| walk_at "vc1") => `(tactic| simp only [rQ, kL, vY, HN, tC, fI, rI, yN, rU, GZ, iF, o5, r6, qD, sE, fP, qF, iL, jU, jV, jJ, HM, rX, pR, HV, tB, HR, lF, fK, EK, qS, nK, rY, sI, qG, GD, rT, kN, kX, HZ, HU, rJoin, sF, g7, fC, lD, rL, qN, kZ, rO, GG, L2.start, i8, eZ, gt_iff_lt, ge_iff_le, map_cons, map_nil, cons_append, nil_append, length_cons, length_nil, List.replicate, getElem?_cons_zero, getElem?_cons_succ, set_cons_zero, set_cons_succ, Option.some.injEq, V.int.injEq, V.str.injEq, V.bl.injEq, V.ref.injEq, V.ty.injEq, List.cons.injEq, and_true, true_and, exists_eq_left, exists_eq_left', exists_eq_right, exists_and_left, exists_and_right, exists_eq_or_imp, exists_const, Nat.reduceAdd, Nat.reduceSub, ite_true, ite_false, false_eq_true, if_true, if_false, and_assoc, Bool.not_true, Bool.not_false, Bool.true_and, Bool.false_and, decide_true, decide_false, reduceCtorEq, false_and, exists_false, or_false, false_or, iB, hV, lB, gH, kO, hJ, lH, iA, gF, fS, yK])
local macro_rules | `(tactic| walk_at "vc2") => `(tactic| simp only [rQ, kL, vY, HN, tC, fI, rI, yN, rU, GZ, iF, o5, r6, qD, sE, fP, qF, iL, jU, jV, jJ, HM, rX, pR, HV, tB, HR, lF, fK, EK, qS, nK, rY, sI, qG, GD, rT, kN, kX, HZ, HU, rJoin, sF, g7, fC, lD, rL, qN, kZ, rO, GG, L2.start, i8, eZ, gt_iff_lt, ge_iff_le, map_cons, map_nil, cons_append, nil_append, length_cons, length_nil, List.replicate, getElem?_cons_zero, getElem?_cons_succ, set_cons_zero, set_cons_succ, Option.some.injEq, V.int.injEq, V.str.injEq, V.bl.injEq, V.ref.injEq, V.ty.injEq, List.cons.injEq, and_true, true_and, exists_eq_left, exists_eq_left', exists_eq_right, exists_and_left, exists_and_right, exists_eq_or_imp, exists_const, Nat.reduceAdd, Nat.reduceSub, ite_true, ite_false, false_eq_true, if_true, if_false, and_assoc, Bool.not_true, Bool.not_false, Bool.true_and, Bool.false_and, decide_true, decide_false, reduceCtorEq, false_and, exists_false, or_false, false_or, iB, hV, lB, gH, kO, hJ, lH, iA, gF, fS, LJ])
local macro_rules | `(tactic| walk_at "vc3") => `(tactic| simp only [rQ, kL, vY, HN, tC, fI, rI, yN, rU, GZ, iF, o5, r6, qD, sE, fP, qF, iL, jU, jV, jJ, HM, rX, pR, HV, tB, HR, lF, fK, EK, qS, nK, rY, sI, qG, GD, rT, kN, kX, HZ, HU, rJoin, sF, g7, fC, lD, rL, qN, kZ, rO, GG, L2.start, i8, eZ, gt_iff_lt, ge_iff_le, map_cons, map_nil, cons_append, nil_append, length_cons, length_nil, List.replicate, getElem?_cons_zero, getElem?_cons_succ, set_cons_zero, set_cons_succ, Option.some.injEq, V.int.injEq, V.str.injEq, V.bl.injEq, V.ref.injEq, V.ty.injEq, List.cons.injEq, and_true, true_and, exists_eq_left, exists_eq_left', exists_eq_right, exists_and_left, exists_and_right, exists_eq_or_imp, exists_const, Nat.reduceAdd, Nat.reduceSub, ite_true, ite_false, false_eq_true, if_true, if_false, and_assoc, Bool.not_true, Bool.not_false, Bool.true_and, Bool.false_and, decide_true, decide_false, reduceCtorEq, false_and, exists_false, or_false, false_or, iB, hV, lB, gH, kO, hJ, lH, iA, gF, fS, fS])
local macro_rules | `(tactic| walk_at "vc4") => `(tactic| simp only [rQ, kL, vY, HN, tC, fI, rI, yN, rU, GZ, iF, o5, r6, qD, sE, fP, qF, iL, jU, jV, jJ, HM, rX, pR, HV, tB, HR, lF, fK, EK, qS, nK, rY, sI, qG, GD, rT, kN, kX, HZ, HU, rJoin, sF, g7, fC, lD, rL, qN, kZ, rO, GG, L2.start, i8, eZ, gt_iff_lt, ge_iff_le, map_cons, map_nil, cons_append, nil_append, length_cons, length_nil, List.replicate, getElem?_cons_zero, getElem?_cons_succ, set_cons_zero, set_cons_succ, Option.some.injEq, V.int.injEq, V.str.injEq, V.bl.injEq, V.ref.injEq, V.ty.injEq, List.cons.injEq, and_true, true_and, exists_eq_left, exists_eq_left', exists_eq_right, exists_and_left, exists_and_right, exists_eq_or_imp, exists_const, Nat.reduceAdd, Nat.reduceSub, ite_true, ite_false, false_eq_true, if_true, if_false, and_assoc, Bool.not_true, Bool.not_false, Bool.true_and, Bool.false_and, decide_true, decide_false, reduceCtorEq, false_and, exists_false, or_false, false_or, iB, hV, lB, gH, kO, hJ, lH, iA, gF, fS, D7])
local macro_rules | `(tactic| walk_at "vc5") => `(tactic| simp only [rQ, kL, vY, HN, tC, fI, rI, yN, rU, GZ, iF, o5, r6, qD, sE, fP, qF, iL, jU, jV, jJ, HM, rX, pR, HV, tB, HR, lF, fK, qS, nK, rY, sI, qG, GD, rT, kN, kX, HZ, HU, rJoin, sF, g7, fC, lD, rL, qN, kZ, rO, GG, L2.start, i8, eZ, gt_iff_lt, ge_iff_le, map_cons, map_nil, cons_append, nil_append, length_cons, length_nil, List.replicate, getElem?_cons_zero, getElem?_cons_succ, set_cons_zero, set_cons_succ, Option.some.injEq, V.int.injEq, V.str.injEq, V.bl.injEq, V.ref.injEq, V.ty.injEq, List.cons.injEq, and_true, true_and, exists_eq_left, exists_eq_left', exists_eq_right, exists_and_left, exists_and_right, exists_eq_or_imp, exists_const, Nat.reduceAdd, Nat.reduceSub, ite_true, ite_false, false_eq_true, if_true, if_false, and_assoc, Bool.not_true, Bool.not_false, Bool.true_and, Bool.false_and, decide_true, decide_false, reduceCtorEq, false_and, exists_false, or_false, false_or, iB, hV, lB, gH, kO, hJ, lH, iA, gF, fS])
local macro_rules | `(tactic| walk_at "vc6") => `(tactic| simp only [rQ, kL, vY, HN, tC, fI, rI, yN, rU, GZ, iF, o5, r6, qD, sE, fP, qF, iL, jU, jV, jJ, HM, rX, pR, HV, tB, HR, lF, fK, EK, qS, nK, rY, sI, qG, GD, rT, kN, kX, HZ, HU, rJoin, sF, g7, fC, lD, rL, qN, kZ, rO, GG, L2.start, i8, eZ, gt_iff_lt, ge_iff_le, map_cons, map_nil, cons_append, nil_append, length_cons, length_nil, List.replicate, getElem?_cons_zero, getElem?_cons_succ, set_cons_zero, set_cons_succ, Option.some.injEq, V.int.injEq, V.str.injEq, V.bl.injEq, V.ref.injEq, V.ty.injEq, List.cons.injEq, and_true, true_and, exists_eq_left, exists_eq_left', exists_eq_right, exists_and_left, exists_and_right, exists_eq_or_imp, exists_const, Nat.reduceAdd, Nat.reduceSub, ite_true, ite_false, false_eq_true, if_true, if_false, and_assoc, Bool.not_true, Bool.not_false, Bool.true_and, Bool.false_and, decide_true, decide_false, reduceCtorEq, false_and, exists_false, or_false, false_or, iB, hV, lB, gH, kO, hJ, lH, iA, gF, fS, tF, K4])
local macro_rules | `(tactic| walk_at "vc7") => `(tactic| simp only [rQ, kL, vY, HN, tC, fI, rI, yN, rU, GZ, iF, o5, r6, qD, sE, fP, qF, iL, jU, jV, jJ, HM, rX, pR, HV, tB, HR, lF, fK, EK, qS, nK, rY, sI, qG, GD, rT, kN, kX, HZ, HU, rJoin, sF, g7, fC, lD, rL, qN, kZ, rO, GG, L2.start, i8, eZ, gt_iff_lt, ge_iff_le, map_cons, map_nil, cons_append, nil_append, length_cons, length_nil, List.replicate, getElem?_cons_zero, getElem?_cons_succ, set_cons_zero, set_cons_succ, Option.some.injEq, V.int.injEq, V.str.injEq, V.bl.injEq, V.ref.injEq, V.ty.injEq, List.cons.injEq, and_true, true_and, exists_eq_left, exists_eq_left', exists_eq_right, exists_and_left, exists_and_right, exists_eq_or_imp, exists_const, Nat.reduceAdd, Nat.reduceSub, ite_true, ite_false, false_eq_true, if_true, if_false, and_assoc, Bool.not_true, Bool.not_false, Bool.true_and, Bool.false_and, decide_true, decide_false, reduceCtorEq, false_and, exists_false, or_false, false_or, iB, hV, lB, gH, kO, hJ, lH, iA, gF, fS, yK, fS])
local macro_rules | `(tactic| walk_at "vc8") => `(tactic| simp only [rQ, kL, vY, HN, tC, fI, rI, yN, rU, GZ, iF, o5, r6, qD, sE, fP, qF, iL, jU, jV, jJ, HM, rX, pR, HV, tB, HR, lF, fK, EK, qS, nK, rY, sI, qG, GD, rT, kN, kX, HZ, HU, rJoin, sF, g7, fC, lD, rL, qN, kZ, rO, GG, L2.start, i8, eZ, gt_iff_lt, ge_iff_le, map_cons, map_nil, cons_append, nil_append, length_cons, length_nil, List.replicate, getElem?_cons_zero, getElem?_cons_succ, set_cons_zero, set_cons_succ, Option.some.injEq, V.int.injEq, V.str.injEq, V.bl.injEq, V.ref.injEq, V.ty.injEq, List.cons.injEq, and_true, true_and, exists_eq_left, exists_eq_left', exists_eq_right, exists_and_left, exists_and_right, exists_eq_or_imp, exists_const, Nat.reduceAdd, Nat.reduceSub, ite_true, ite_false, false_eq_true, if_true, if_false, and_assoc, Bool.not_true, Bool.not_false, Bool.true_and, Bool.false_and, decide_true, decide_false, reduceCtorEq, false_and, exists_false, or_false, false_or, iB, hV, lB, gH, kO, hJ, lH, iA, gF, fS, tF])
noncomputable def top (i:Nat):Stmt:=PySem.Challenge.pw_answertrees_k27_voices.main.body.getD i (.Pass ⟨0,0,0,0⟩)
noncomputable abbrev cZ:Stmt:=top 1
noncomputable abbrev cB:Stmt:=top 2
noncomputable abbrev dA:Stmt:=top 3
noncomputable abbrev eC:Stmt:=top 5
noncomputable abbrev dF:Stmt:=top 6
noncomputable abbrev dQ:Stmt:=top 7
noncomputable abbrev dR:Stmt:=top 9
noncomputable abbrev cO:Stmt:=top 10
noncomputable abbrev eR:Stmt:=top 11
noncomputable abbrev cW:Stmt:=top 12
noncomputable abbrev eV:Stmt:=top 14
noncomputable abbrev cI:Stmt:=top 15
noncomputable abbrev bX:Stmt:=top 16
noncomputable abbrev bL:Stmt:=top 17
noncomputable abbrev cS:Stmt:=top 18
noncomputable abbrev eB:Stmt:=top 20
noncomputable abbrev cM:Stmt:=top 22
noncomputable abbrev dN:Stmt:=top 23
noncomputable abbrev cQ:Stmt:=top 24
noncomputable abbrev dH:Stmt:=top 25
noncomputable abbrev fA:Stmt:=top 26
noncomputable abbrev cK:Stmt:=top 27
noncomputable abbrev cL:Stmt:=top 28
noncomputable abbrev cP:Stmt:=top 29
noncomputable abbrev cX:Stmt:=top 30
noncomputable abbrev gD:Stmt:=top 31
structure Txt (K:Frag) (mg:Str->Option Value) (fs:Nat->Addr) (fds:Nat->FuncData) (tc:Nat->Addr) (u:Nat->Value):Prop where
 rF:Def K mg "rings_in" cZ ["above"] (fs 0) (fds 0)
 oZ:Def K mg "elders_in" cB ["ties"] (fs 1) (fds 1)
 pM:Def K mg "roots_in" dA ["above"] (fs 2) (fds 2)
 nB:Def K mg "elders" eC ["letter"] (fs 3) (fds 3)
 fF:Def K mg "standing" dF ["pack"] (fs 4) (fds 4)
 tJ:Def K mg "days_of" dQ ["pack"] (fs 5) (fds 5)
 t8:Def K mg "rows_of" dR ["pack"] (fs 6) (fds 6)
 oM:Def K mg "claims_of" cO ["pack"] (fs 7) (fds 7)
 xN:Def K mg "choice" eR ["held","rows","claimed","name"] (fs 8) (fds 8)
 sN:Def K mg "choices" cW ["pack","marks","names"] (fs 9) (fds 9)
 yD:Def K mg "places" eV ["pack","marks"] (fs 10) (fds 10)
 sT:Def K mg "cut_one" cI ["ring","held","days"] (fs 11) (fds 11)
 m7:Def K mg "begun_with" bX ["ring","name"] (fs 12) (fds 12)
 oN:Def K mg "cut_rings" bL ["pack","marks","ties"] (fs 13) (fds 13)
 lW:Def K mg "by_names" cS ["pack","marks"] (fs 14) (fds 14)
 pW:Def K mg "voices" eB ["pack","marks"] (fs 15) (fds 15)
 oF:Def K mg "_law_start" cM ["_law_script"] (fs 16) (fds 16)
 bW:Def K mg "_law_take" dN ["_law_state","_law_many"] (fs 17) (fds 17)
 rK:Def K mg "_law_name" cQ ["_law_state"] (fs 18) (fds 18)
 rD:Def K mg "_law_pool" dH ["_law_state","_law_many"] (fs 19) (fds 19)
 jQ:Def K mg "_law_of" fA ["_law_state","_law_some"] (fs 20) (fds 20)
 oY:Def K mg "_law_leads" cK ["_law_held","_law_at","_law_goal"] (fs 21) (fds 21)
 oG:Def K mg "_law_marks" cL ["_law_state","_law_pool_here","_law_share"] (fs 22) (fds 22)
 qM:Def K mg "_law_pack" cP ["_law_state","_law_pool_here"] (fs 23) (fds 23)
 sV:Def K mg "_law_due" cX ["_law_pack_here","_law_marks_here"] (fs 24) (fds 24)
 P0:Def K mg "law" gD ["_law_script"] (fs 25) (fds 25)
 dI:mg "tuple"=none
 dZ:mg "enumerate"=none
 mU:mg "min"=none
 d6:mg "sorted"=none
 fL:mg "range"=none
 tG:mg "len"=none
 wU:mg "set"=none
 qY:mg "dict"=none
 jO:mg "repr"=none
def kB:Sp:=fun vs H Q _=>∃v xs,vs=[v]/\gM H v xs/\∀b ws H',aG H H'->H' b=some (.tup ws)->Paired (fun x u=>nH H' u x) (aP xs) ws->Q (.ref b) H'
theorem AA {a:Addr} {xs:List Lt} (ha:H a=some (.tup us)) (hp:Paired (fun x u=>nH H u x) xs us) (hl:xs.length<=1000) (hp0:H p=none)
  (q:∀kvs ep H' v2,aG H H'->H' p=some (.dK kvs ep)->Paired (tW H') (aP xs) kvs->D.nx [some (.ref a),some (.ref p),v2] H'):
  PL (N5 K (fI 0)) (fP 2)
   (qF (iL (vY (Mr.JO true) (vY (nK K) (fI 2) (tC (V.int 0))) (fI 1)))
    (yK (fI 1) (vY (nK K) (fI 2) (tC (V.int 0))) (fI 2)) jU) D [some (.ref a),some (.ref p),none] (upd H p (.dK [] 0)):=by
 have hlv:xs.length=us.length:=hp.length;refine⟨_,rfl,a,rfl,⟨_,bO.of (aG.upd hp0 _ _ ha)⟩,gW (K:=K) (a:=a) (xs:=us) (fun i σ H'=>aG H H'/\(∃kvs ep,H' p=some (.dK kvs ep)/\Paired (tW H') (aP (xs.take i)) kvs)/\∃v2,σ=[some (.ref a),some (.ref p),v2]) ⟨aG.upd hp0,⟨[],0,aB,.nil⟩,_,rfl⟩ (fun i σ H' _ ⟨s',_⟩=>(bO.of ha).same s') ?_ ?_⟩
 .rintro i x σ H1 hx ⟨s1,⟨kvs,ep,hf1,pr⟩,v2,rfl⟩;obtain⟨y,hy,hL⟩:=L2.Paired.jI hp hx;obtain⟨t,r,rfl,ht,hr⟩:=(hL.kp s1.kt).at';have hst:=oW hy;have hany:=tW.any (n:=y.n) pr;have hlen:kvs.length<=1000:=by
   have h1:=pr.length;have h2:=dC (xs.take i);rw[length_take]at h2;omega
  have hs:(bG kvs (Sum.inr y.n)).isSome=(aP (xs.take i)).any fun z=>decide (z.n=y.n):=by rw[<-eF];exact hany
  walk_at "vc0";refine⟨_,bO.of ht,_,DM,p,kvs,.inr y.n,rfl,⟨ep,.inl hf1⟩,rfl,_,rfl,?_⟩;unfold z4 at hst;cases hc:(aP (xs.take i)).any fun z=>decide (z.n=y.n)with
  |true=>
   rw[if_neg (by rw[if_pos rfl,hs,hc];decide)];rw[hc,if_pos rfl]at hst;exact⟨s1,⟨kvs,⟨ep,hf1⟩,by rw[hst];exact pr⟩,_,rfl⟩
  | false=>
   rw[if_pos (by rw[if_pos rfl,hs,hc];rfl)];rw[hc,if_neg Bool.false_ne_true]at hst;walk_at "vc1";have kt:∀ep',eP H1 (upd H1 p (.dK (putK kvs (Sum.inr y.n) (.ref t)) ep')):=fun ep'=>eP.dk ⟨ep,hf1⟩
   refine⟨_,bO.of ht,_,DM,.inl ⟨kvs,.inr y.n,⟨ep,hf1⟩,rfl,iQ (by omega),fun ep'=>⟨fun b o h=>by rw[aH (aF h hp0)];exact s1 b o h,⟨_,⟨ep',aB⟩,?_⟩,_,rfl⟩⟩⟩;rw[hst];have e2:putK kvs (Sum.inr y.n) (V.ref t)=kvs++[(Sum.inr y.n,V.ref t)]:=by
    unfold putK;rw[hany,hc,if_neg Bool.false_ne_true]
   refine tW.snoc (L2.Paired.dP pr fun _ _ h=>⟨h.1,h.2.kp (kt ep')⟩) ?_ e2;exact⟨rfl,(hL.kp s1.kt).kp (kt ep')⟩
 .rintro σ H1 ⟨s1,⟨kvs,ep,hf1,pr⟩,v2,rfl⟩;rw[<-hlv,take_length]at pr;exact q kvs ep H1 v2 s1 hf1 pr
theorem G4 {M:Hl} {d f c:Addr} {st:Str} {H1:Hp} {ep0:Nat} (e0:H d=some (.dK (bK ab) ep0)) (hp:H p=none) (hc0:H c=none) (ncp:c≠p) (ncf:c≠f) (npf:p≠f) (hl:ab.length<=1000)
  (w0:y4 ab M M us p f c st H H1 [] (some st))
  (rest:∀l o M' H',y4 ab M M' us p f c st H H' l o->(∀y,o=some y->y∈ks M')->D.nx [some (.ref d),some (.ref p),some (.ref f),some (.str st),some (.ref c),some (oV o)] H'):
  zK (pR (iL (vY (fun x y H Q=>y=V.aU/\Q (V.bl !decide (x=V.aU)) H) (fI 5) (tC V.aU))) (iL (vY (Mr.JO true) (fI 5) (fI 1))))
   (vB (yK (fI 1) (fI 5) (fI 3)) (vB (jV (EK K "list" fC (fI 4) (iF (fI 5) o5))) (kL (gF (fI 0) (fI 5)) (fP 5)))) D
   [some (.ref d),some (.ref p),some (.ref f),some (.str st),some (.ref c),some (.str st)] H1:=by
 refine⟨fun m σ' H'=>∃l o M',m=2*ab.length - (ks M').length/\σ'=[some (V.ref d),some (.ref p),some (.ref f),some (.str st),some (.ref c),some (oV o)]/\y4 ab M M' us p f c st H H' l o,⟨_,[],some st,M,rfl,rfl,w0⟩,?_⟩;rintro m σ' H2 ⟨l,o,M',rfl,rfl,w⟩;obtain⟨em,hM⟩:=id w.dm;have hlen:=w.len;have hkl:(bK M').length=(ks M').length:=by rw[dU,length_map]
 cases o with
 |none=>
  walk_at "vc0";exact vE (rest l none M' H2 w fun _ h=>nomatch h)
 | some y=>
  walk_at "vc0";refine uK ⟨p,bK M',.inr y,rfl,⟨em,.inl hM⟩,rfl,_,rfl,?_⟩
  by_cases hy:y∈ks M'
  .rw[if_neg (by rw[if_pos rfl,nN,decide_eq_true hy];decide)];exact rest l (some y) M' H2 w fun z e=>by cases e;exact hy
  .rw[if_pos (by rw[if_pos rfl,nN,decide_eq_false hy];rfl)];refine⟨fun σ3 H3=>σ3=[some (V.ref d),some (.ref p),some (.ref f),some (.str st),some (.ref c),some (oV (aS ab y))]/\y4 ab M (cD M' y (some st)) us p f c st H H3 (l++[y]) (aS ab y),?_,?_⟩
   .rintro σ3 H3 ⟨rfl,w3⟩;have h3:=w3.len;have h4:(ks (cD M' y (some st))).length=(ks M').length+1:=by rw[uU,if_neg hy,length_append];rfl
    exact⟨_,by omega,_,_,_,rfl,rfl,w3⟩
   .refine aI ?_;walk_at "vc1"
    refine .inl ⟨bK M',.inr y,⟨em,hM⟩,rfl,iQ (by omega),fun ep=>?_⟩;have n1:∀o,upd H2 p o c=H2 c:=fun o=>aH ncp
    refine aI ?_;walk_at "vc0"
    refine⟨.inl ⟨_,bM.of (by rw[n1];exact w.hc)⟩,l.map V.str,by rw[n1];exact w.hc,iQ ?_,?_⟩
    .rw[length_map];have h5:(ks M').length=(ks M).length+l.length:=by rw[w.cl.km,length_append]
     omega
    have w3:=w.step hy ep hp hc0 ncp ncf npf;exact⟨.inl ⟨bK ab,ep0,.inl (w3.s _ _ e0)⟩,_,.inl ⟨bK ab,.inr y,⟨ep0,.inl (w3.s _ _ e0)⟩,rfl,rfl⟩,pI ab y,w3⟩
theorem CM {d:Addr} {H:Hp} (s:aG H H') (h:H' d=none):H d=none:=by
 cases e:H d with
 |none=>rfl
 |some o=>rw[s _ _ e]at h;cases h
def QJ (H:Hp) (z:Str×Option Str) (u:V):Prop:=∃b r,u= .ref b/\H b=some (.tup [.str z.1,oV z.2,r])
def K5 (H:Hp) (v:V) (ab:Hl):Prop:=∃t us,v= .ref t/\H t=some (.tup us)/\Paired (QJ H) ab us
def p8 (H:Hp) (z:Str×Option Str) (kv:Key×V):Prop:=kv.1= .inr z.1/\∃t r,kv.2= .ref t/\H t=some (.tup [oV z.2,r])
def LH (H:Hp) (d:Addr) (ab:Hl):Prop:=∃kvs,bY H d kvs/\Paired (p8 H) ab kvs
def y8 (H:Hp) (x:Lt) (kv:Key×V):Prop:=kv.1= .inr x.n/\∃t,kv.2= .ref t/\H t=some (.tup ((aR x).map V.str))
def DW (_H:Hp) (x:Lt) (kv:Key×V):Prop:=kv.1= .inr x.n/\kv.2= .int x.d
def uV:Sp:=fun vs H Q _=>∃v x,vs=[v]/\nH H v x/\∀t H',aG H H'->H' t=some (.tup ((aR x).map V.str))->Q (.ref t) H'
def FF:Sp:=fun vs H Q _=>∃v xs,vs=[v]/\gM H v xs/\∀d kvs H',aG H H'->bY H' d kvs->Paired (DW H') (aP xs) kvs->Q (.ref d) H'
def B7:Sp:=fun vs H Q _=>∃v xs,vs=[v]/\gM H v xs/\∀d kvs H',aG H H'->bY H' d kvs->Paired (y8 H') (aP xs) kvs->Q (.ref d) H'
def E3:Sp:=fun vs H Q _=>∃v ab,vs=[v]/\K5 H v ab/\(ks ab).Nodup/\ab.length<=1000/\∀d H',aG H H'->H d=none->bY H' d (bK ab)->Q (.ref d) H'
abbrev RT (H:Hp) (cs:List A4) (v:V):Prop:=RA jS H cs v
abbrev tU (H:Hp) (z:Str×List A4) (kv:Key×V):Prop:=yU jS H z kv
def lP (S:List Lt) (n:Str) (c:A4):Prop:=∃y∈S,c.1=y.d/\c.2.1=y.n/\0<c.2.2/\(aR y)[c.2.2]? =some n
structure LG (S:List Lt) (C:List (Str×List A4)):Prop where
 nd:(C.map (·.1)).Nodup
 ne:∀z∈C,z.2≠[]
 sd:∀z∈C,∀c∈z.2,lP S z.1 c
 all:∀n c,lP S n c->∃z∈C,z.1=n/\c∈z.2
noncomputable def i7 (c:A4):Mr.PV:=.tup [.int c.1,.str c.2.1,.int (c.2.2:Int)]
def LM (hm:Hl) (S:List Lt) (n:Str) (e:Option Str):Prop:=
 (n∈ks hm/\e=aS hm n)\/ (n∉ks hm/\((∃y∈S,y.n=n/\e=(aR y).getLast?)\/ ((∀y∈S,y.n≠n)/\
  ((∃y∈S,∃i,(aR y)[i+1]? =some n/\e=(aR y)[i]?/\∀c,lP S n c->Mr.kK 3 (i7 (y.d,y.n,i+1)) (i7 c)=true)\/ ((∀c,¬lP S n c)/\e=none)))))
def LD:Sp:=fun vs H Q _=>∃v xs,vs=[v]/\gM H v xs/\xs.length<=100/\∀d kvs C H',aG H H'->bY H' d kvs->Paired (tU H') C kvs->LG (aP xs) C->(∀z∈C,z.2.length<=1000)->Q (.ref d) H'
def KZ:Sp:=fun vs H Q _=>∃(h r c:Addr) (n:Str) (hm:Hl) (S:List Lt) (kr kc:List (Key×V)) (C:List (Str×List A4)),vs=[.ref h,.ref r,.ref c,.str n]/\bY H h (bK hm)/\bY H r kr/\Paired (y8 H) S kr/\(S.map (·.n)).Nodup/\bY H c kc/\Paired (tU H) C kc/\LG S C/\(∀z∈C,z.2.length<=1000)/\
 ∀t rr e H',aG H H'->H' t=some (.tup [oV e,rr])->LM hm S n e->Q (.ref t) H'
def LN:Sp:=fun vs H Q _=>∃(v mv:V) (t:Addr) (xs:List Lt) (hm:Hl) (ns:List Str),vs=[v,mv,.ref t]/\gM H v xs/\xs.length<=100/\iI H mv hm/\(ks hm).Nodup/\hm.length<=1000/\H t=some (.tup (ns.map V.str))/\ns.Nodup/\ns.length<=1000/\
 ∀d ab H',aG H H'->H d=none->LH H' d ab->ks ab=ns->(∀z∈ab,LM hm (aP xs) z.1 z.2)->Q (.ref d) H'
def sG (S:List Lt) (hm:Hl) (x:Str):Prop:=(∃y∈S,x=y.n\/ x∈aR y)\/ ∃z∈hm,x=z.1\/ z.2=some x
def K7:Sp:=fun vs H Q _=>∃(v mv:V) (xs:List Lt) (hm:Hl) (zs:List Str),vs=[v,mv]/\gM H v xs/\iI H mv hm/\zs.length<=60/\(∀x,sG (aP xs) hm x->x∈zs)/\
 ∀t ns H',aG H H'->H' t=some (.tup (ns.map V.str))->ns.Nodup->PyProof.Rows.sortedS ns=true->(∀x,x∈ns↔sG (aP xs) hm x)->Q (.ref t) H'
def RC (H:Hp) (R:List Str) (u:V):Prop:=∃b,u= .ref b/\H b=some (.lst (R.map V.str))
def OQ:Sp:=fun vs H Q _=>∃(d:Addr) (ab:Hl),vs=[.ref d]/\bY H d (bK ab)/\(ks ab).Nodup/\ab.length<=1000/\∀l us F S H',aG H H'->H l=none->H' l=some (.lst us)->Paired (RC H') F us->Rg.Found (aS ab) S F->(∀x∈ks ab,x∈S)->F.length<=ab.length->(∀R∈F,R.length<=2000)->Q (.ref l) H'
def OT:Sp:=fun vs H Q _=>∃(a:Addr) (R:List Str) (c:Str),vs=[.ref a,.str c]/\H a=some (.lst (R.map V.str))/\c∈R/\R.length<=2000/\∀t T H',aG H H'->H' t=some (.tup ((c::T).map V.str))->(c::T).length=R.length->Q (.ref t) H'
theorem lU:∀{ns:List Str} {ys:List V},Paired (fun(n:Str) v=>v=V.str n) ns ys->ys=ns.map V.str
 |_,_,.nil=>rfl
 |_,_,.cons h r=>by rw[h,lU r];rfl
theorem iV {n:Str}:∀{S:List Lt} {kd:List (Key×V)},Paired (DW H) S kd->(bG kd (.inr n)=none/\∀y∈S,y.n≠n)\/ ∃y∈S,y.n=n/\bG kd (.inr n)=some (.int y.d)
 |_,_,.nil=>.inl ⟨rfl,fun _ h=>nomatch h⟩
 | x::xs,(k,v)::kvs,.cons ⟨h1,h2⟩ r=>by
  by_cases e:x.n=n
  .exact .inr ⟨x,mem_cons_self,e,by rw[bJ (show(k,v).1=_ by rw[h1,e])];exact congrArg some h2⟩
  .have ne:¬(k,v).1=Sum.inr n:=fun z=>e (Sum.inr.inj (h1.symm.trans z))
   rcases iV (n:=n) r with⟨a,b⟩|⟨y,hy,ey,hu⟩
   .exact .inl ⟨by rw[bD ne];exact a,fun y hy=>(mem_cons.mp hy).elim (fun z=>by rw[z];exact e) (b y)⟩
   .exact .inr ⟨y,mem_cons_of_mem _ hy,ey,by rw[bD ne];exact hu⟩
theorem vT:∀ns:List Str,g9 H (ns.map Mr.PV.str) (ns.map V.str)
 |[]=>.nil
 |_::ns=>.cons (.str _) (vT ns)
theorem xS (ns:List Str):Mr.bV 3 (ns.map Mr.PV.str)=true:=by
 unfold Mr.bV;rw[all_eq_true];intro p hp;obtain⟨x,hx,rfl⟩:=mem_map.mp hp;rw[and_eq_true,all_eq_true];refine⟨rfl,fun q hq=>?_⟩;obtain⟨y,hy,rfl⟩:=mem_map.mp hq;rfl
noncomputable def sA (z:Int×Str):Mr.PV:=.tup [.int z.1,.str z.2]
theorem yS (cs:List (Int×Str)):Mr.bV 3 (cs.map sA)=true:=by
 unfold Mr.bV;rw[all_eq_true];intro p hp;obtain⟨x,hx,rfl⟩:=mem_map.mp hp;rw[and_eq_true,all_eq_true];refine⟨rfl,fun q hq=>?_⟩;obtain⟨y,hy,rfl⟩:=mem_map.mp hq;show(if Mr.cF (.int x.1) (.int y.1)=true then Mr.cN (Mr.fJ 2) [.str x.2] [.str y.2]else Mr.fJ 2 (.int x.1) (.int y.1)).isSome=true;split
 .show(if Mr.cF (.str x.2) (.str y.2)=true then Mr.cN (Mr.fJ 2) [] []else Mr.fJ 2 (.str x.2) (.str y.2)).isSome=true;split<;>rfl
 .rfl
def IH (H:Hp) (T:List Str) (u:V):Prop:=∃b,u= .ref b/\H b=some (.tup (T.map V.str))
structure xG (F Rs:List (List Str)):Prop where
 hd:∀T∈Rs,∃c r,T=c::r/\∃R∈F,c∈R
 al:∀R∈F,∃T∈Rs,∃c r,T=c::r/\c∈R
 ln:∀T∈Rs,T.length<=2000
noncomputable def ND (T:List Str):Mr.PV:=.tup (T.map Mr.PV.str)
theorem xH:∀xs ys:List Str,(Mr.cN (Mr.fJ 2) (xs.map Mr.PV.str) (ys.map Mr.PV.str)).isSome=true
 |[],[]=>rfl
 |[],_::_=>rfl
 |_::_,[]=>rfl
 |x::xs,y::ys=>by
  show(if Mr.cF (.str x) (.str y)=true then Mr.cN (Mr.fJ 2) (xs.map Mr.PV.str) (ys.map Mr.PV.str)else Mr.fJ 2 (.str x) (.str y)).isSome=true;split
  .exact xH xs ys
  .rfl
theorem J9 (Ts:List (List Str)):Mr.bV 3 (Ts.map ND)=true:=by
 unfold Mr.bV;rw[all_eq_true];intro p hp;obtain⟨x,hx,rfl⟩:=mem_map.mp hp;rw[and_eq_true,all_eq_true];refine⟨?_,fun q hq=>?_⟩
 .show(x.map Mr.PV.str).all (Mr.nY 2)=true;rw[all_eq_true];intro z hz;obtain⟨s,_,rfl⟩:=mem_map.mp hz;rfl
 .obtain⟨y,hy,rfl⟩:=mem_map.mp hq;exact xH x y
theorem G0:∀{Rs:List (List Str)} {us:List V},Paired (IH H) Rs us->g9 H (Rs.map ND) us
 |_,_,.nil=>.nil
 |T::_,_,.cons ⟨b,e,h⟩ r=>by
  subst e;exact .cons (.tup h (vT T)) (G0 r)
theorem GK:∀{Rs:List (List Str)} {us:List V},g9 H (Rs.map ND) us->Paired (IH H) Rs us
 |[],_,h=>by cases h;exact .nil
 | T::_,_,h=>by
  cases h with
  |cons h r=>
   cases h with
   |tup h hs=>exact .cons ⟨_,rfl,by rw[h,rB hs]⟩ (GK r)
theorem ED {f:α->Str}:∀{es:List α} {kvs:List (Key×V)},Paired (fun(e:α) (kv:Key×V)=>kv.1=Sum.inr (f e)/\kv.2=V.bl true) es kvs->kvs=lA (es.map f)
 |_,_,.nil=>rfl
 |e::_,(k,v)::_,.cons ⟨h1,h2⟩ r=>by
  rw[ED r];cases h1;cases h2;rfl
theorem uW {z:Str×Option Str}:∀{ab:Hl} {kvs:List (Key×V)},Paired (p8 H) ab kvs->(ks ab).Nodup->z∈ab->∃t r,bG kvs (.inr z.1)=some (.ref t)/\H t=some (.tup [oV z.2,r])
 | x::ab,(k,v)::kvs,.cons ⟨h1,t,r,h2,h3⟩ rr,nd,hz=>by
  by_cases e:x.1=z.1
  .have ez:x=z:=(mem_cons.mp hz).elim (fun h=>h.symm) fun h=>absurd (mem_map.mpr ⟨z,h,e.symm⟩) (nodup_cons.mp nd).1
   subst ez;exact⟨t,r,by rw[bJ (show(k,v).1=_ from h1)];exact congrArg some h2,h3⟩
  .have ne:¬(k,v).1=Sum.inr z.1:=fun y=>e (Sum.inr.inj (h1.symm.trans y))
   obtain⟨t',r',h4,h5⟩:=uW rr (nodup_cons.mp nd).2 ((mem_cons.mp hz).resolve_left fun y=>e (by rw[y]));exact⟨t',r',by rw[bD ne];exact h4,h5⟩
theorem u6 {R:α->β->Prop} {xs:List α} {us:List β} (h:Paired R xs us) {z:α×β} (hz:z∈xs.zip us):R z.1 z.2/\z.1∈xs:=by
 obtain⟨j,hj⟩:=getElem?_of_mem hz;have h1:xs[j]? =some z.1/\us[j]? =some z.2:=by rw[List.getElem?_zip_eq_some]at hj;exact hj
 obtain⟨e',he',hP⟩:=L2.Paired.jI h h1.2;rw[h1.1]at he';cases he';exact⟨hP,mem_of_getElem? h1.1⟩
theorem CU {ab:Hl} {R:List Str} (r:Rg.Ring (aS ab) R) (nd:(ks ab).Nodup) (hsub:∀z∈ab,z.1∈ks hm->z.2=aS hm z.1) (hac:∀x,¬Rg.jD (aS hm) x):∃x∈R,x∉ks hm:=Classical.byContradiction fun hno=>by
 have hall:∀x∈R,x∈ks hm:=fun x hx=>Classical.byContradiction fun h=>hno ⟨x,hx,h⟩
 obtain⟨x,hx⟩:=List.exists_mem_of_ne_nil R r.ne;refine hac x (r.held (fun y hy=>?_) hx);obtain⟨n,e⟩:=r.jD hy;cases hu:aS ab y with
 |none=>rw[Rg.cJ,hu]at e;cases e
 |some w=>exact hsub (y,some w) (fM hu) (hall y hy)
theorem xG.perm (o:xG F Rs) (p:Ts.Perm Rs):xG F Ts:=⟨fun T hT=>o.hd T (p.mem_iff.mp hT),fun R hR=>let⟨T,hT,r⟩:=o.al R hR;⟨T,p.mem_iff.mpr hT,r⟩,fun T hT=>o.ln T (p.mem_iff.mp hT)⟩
theorem AI (ht:H t=some (.tup [.aU,r])):∀{ab:Hl} {kvs:List (Key×V)},Paired (p8 H) ab kvs->Paired (p8 H) (ab.map fun z=>if z.1=n then(z.1,none)else z) (kvs.map fun kv=>if kv.1=Sum.inr n then(kv.1,V.ref t)else kv)
 |_,_,.nil=>.nil
 | z::_,(k,v)::_,.cons ⟨h1,t',r',h2,h3⟩ rr=>by
  refine .cons ?_ (AI ht rr);have h1:k=Sum.inr z.1:=h1;subst h1;show p8 H (if z.1=n then(z.1,none)else z) (if(Sum.inr z.1:Key)=Sum.inr n then(Sum.inr z.1,V.ref t)else(Sum.inr z.1,v))
  by_cases e:z.1=n
  .rw[if_pos (congrArg Sum.inr e),if_pos e];exact⟨rfl,t,r,rfl,ht⟩
  .rw[if_neg fun y=>e (Sum.inr.inj y),if_neg e];exact⟨rfl,t',r',h2,h3⟩
theorem wR:∀{ab:Hl} {kvs:List (Key×V)},Paired (p8 H) ab kvs->n∈ks ab->(kvs.any fun kv=>decide (kv.1=Sum.inr n))=true
 |z::_,(k,v)::_,.cons ⟨h1,_⟩ rr,h=>by
  rw[any_cons,Bool.or_eq_true,decide_eq_true_eq];rcases mem_cons.mp h with e|h
  .exact .inl (by rw[e];exact h1)
  .exact .inr (wR rr h)
theorem J7 (ht:H t=some (.tup [.aU,r])) (p:Paired (p8 H) ab kvs) (hn:n∈ks ab):Paired (p8 H) (cD ab n none) (putK kvs (.inr n) (.ref t)):=by
 unfold cD putK;rw[if_pos hn,if_pos (wR p hn)];exact AI ht p
theorem IE (hn:n∈ks ab):ks (cD ab n none)=ks ab:=by
 unfold cD;rw[if_pos hn];unfold ks;rw[map_map];exact map_congr_left fun z _=>by show(if z.1=n then(z.1,none)else z).1=z.1;split<;>rfl
theorem A5:∀{ns:List Str} {ys:List V},Paired (fun(n:Str) v=>∃(b:Addr) (o:Option Str) (r:V),v= .ref b/\H b=some (.tup [.str n,oV o,r])/\(n,o)∈ab) ns ys->∃zs:Hl,ks zs=ns/\Paired (QJ H) zs ys/\∀z∈zs,z∈ab
 |_,_,.nil=>⟨[],rfl,.nil,fun _ h=>nomatch h⟩
 |n::_,_,.cons ⟨b,o,r,e,h,hm⟩ rr=>by
  obtain⟨zs,e1,p,q⟩:=A5 rr;exact⟨(n,o)::zs,by rw[<-e1];rfl,.cons ⟨b,r,e,h⟩ p,fun z hz=>(mem_cons.mp hz).elim (fun e=>by rw[e];exact hm) (q z)⟩
theorem mL:∀{ab:Hl} {kvs:List (Key×V)},Paired (p8 H) ab kvs->kvs.map (·.1)=(ks ab).map Sum.inr
 |_,_,.nil=>rfl
 |z::_,(k,v)::_,.cons ⟨h1,_⟩ rr=>by
  rw[map_cons,mL rr];show k::_=_;have h1:k=Sum.inr z.1:=h1;rw[h1];rfl
theorem EL {γ:Type} {R:α->γ->Prop}:∀{zs:List (α×β)} {ys:List γ},Paired (fun(z:α×β) y=>R z.1 y) zs ys->Paired R (zs.map (·.1)) ys
 |_,_,.nil=>.nil
 |_,_,.cons h r=>.cons h (EL r)
def HX (H:Hp) (z:Str×Str) (u:V):Prop:=∃b,u= .ref b/\H b=some (.tup [.str z.1,.str z.2])
theorem EZ:∀{ns:List Str} {ys:List V},Paired (fun(n:Str) v=>∃(b:Addr) (o:Str),v= .ref b/\H b=some (.tup [.str n,.str o])/\(n,o)∈rv) ns ys->∃zs:List (Str×Str),zs.map (·.1)=ns/\Paired (HX H) zs ys/\∀z∈zs,z∈rv
 |_,_,.nil=>⟨[],rfl,.nil,fun _ h=>nomatch h⟩
 |n::_,_,.cons ⟨b,o,e,h,hm⟩ rr=>by
  obtain⟨zs,e1,p,q⟩:=EZ rr;exact⟨(n,o)::zs,by rw[<-e1];rfl,.cons ⟨b,e,h⟩ p,fun z hz=>(mem_cons.mp hz).elim (fun e=>by rw[e];exact hm) (q z)⟩
theorem any_keys:∀{kvs:List (Key×V)} {ns:List Str},kvs.map (·.1)=ns.map Sum.inr->(kvs.any fun kv=>decide (kv.1=Sum.inr n))=decide (n∈ns)
 |[],[],_=>by simp
 |(k,v)::kvs,m::ns,h=>by
  have h1:k=Sum.inr m:=(List.cons.inj h).1;rw[any_cons,any_keys (List.cons.inj h).2,h1];rw[show decide ((Sum.inr m:Key)=Sum.inr n)=decide (n=m)from decide_eq_decide.mpr ⟨fun h=>(Sum.inr.inj h).symm,fun h=>by rw[h]⟩];simp
theorem sU {lt:Mr.PV->Mr.PV->Option Bool}:∀{xs ys:List Mr.PV},Paired (fun x y=>(lt x y).isSome=true) xs ys->(Mr.cN lt xs ys).isSome=true
 |_,_,.nil=>rfl
 |_,_,.cons h r=>by
  unfold Mr.cN;split
  .exact sU r
  .exact h
noncomputable def oK (z:Bool×Int×Str):Mr.PV:=.tup [.bl z.1,.int z.2.1,.str z.2.2]
theorem B8 (x y:Bool×Int×Str):(Mr.ltQ 3 (oK x) (oK y)).isSome=true:=sU (.cons rfl (.cons rfl (.cons rfl .nil)))
theorem QA (x y:Bool×Int×Str):Mr.LZ [oK x,oK y]:=by
 intro p hp;have key:∀p∈[oK x,oK y],∃z,p=oK z:=fun p hp=>by
  simp only[mem_cons,mem_nil_iff,or_false]at hp;rcases hp with h|h<;>exact⟨_,h⟩
 obtain⟨z,rfl⟩:=key p hp;refine⟨rfl,fun q hq=>?_⟩;obtain⟨w,rfl⟩:=key q hq;exact B8 z w
theorem O3 {b:Addr} {f:Bool} (h:H b=some (.tup [.bl f,.int d,.str n])):Tr H (oK (f,d,n)) (.ref b):=.tup h (.cons (.bl _) (.cons (.int _) (.cons (.str _) .nil)))
theorem A6 {P:Str->Option Str->Prop}:∀{ns:List Str} {kvs:List (Key×V)},Paired (fun(n:Str) (kv:Key×V)=>kv.1=Sum.inr n/\∃t r e,kv.2= .ref t/\H t=some (.tup [oV e,r])/\P n e) ns kvs->∃ab:Hl,ks ab=ns/\Paired (p8 H) ab kvs/\∀z∈ab,P z.1 z.2
 |_,_,.nil=>⟨[],rfl,.nil,fun _ h=>nomatch h⟩
 |n::_,_,.cons ⟨h1,t,r,e,h2,h3,h4⟩ rr=>by
  obtain⟨ab,e1,p,q⟩:=A6 rr;refine⟨(n,e)::ab,by rw[<-e1];rfl,.cons ⟨h1,t,r,h2,h3⟩ p,fun z hz=>?_⟩;rcases mem_cons.mp hz with e|hz
  .rw[e];exact h4
  .exact q z hz
theorem y8.kt (k:eP H H') {x:Lt} (h:y8 H x kv):y8 H' x kv:=let⟨e,t,e2,h3⟩:=h;⟨e,t,e2,k _ _ h3⟩
theorem jS.kt (k:eP H H') {c:A4} (h:jS H c u):jS H' c u:=let⟨b,e,q⟩:=h;⟨b,e,k _ _ q⟩
theorem tU.same (s:aG H H') {z:Str×List A4} (h:tU H z kv):tU H' z kv:=let⟨e,l,us,e2,h3,p⟩:=h;⟨e,l,us,e2,s _ _ h3,L2.Paired.dP p fun _ _ q=>q.kt s.kt⟩
theorem uM {n:Str}:∀{S:List Lt} {kr:List (Key×V)},Paired (y8 H) S kr->(bG kr (.inr n)=none/\∀y∈S,y.n≠n)\/ ∃y∈S,y.n=n/\∃t,bG kr (.inr n)=some (.ref t)/\H t=some (.tup ((aR y).map V.str))
 |_,_,.nil=>.inl ⟨rfl,fun _ h=>nomatch h⟩
 | x::xs,(k,v)::kvs,.cons ⟨h1,t,h2,h3⟩ r=>by
  by_cases e:x.n=n
  .exact .inr ⟨x,mem_cons_self,e,t,by rw[bJ (show(k,v).1=_ by rw[h1,e])];exact congrArg some h2,h3⟩
  .have ne:¬(k,v).1=Sum.inr n:=fun z=>e (Sum.inr.inj (h1.symm.trans z))
   rcases uM (n:=n) r with⟨a,b⟩|⟨y,hy,ey,t',hu,ht'⟩
   .exact .inl ⟨by rw[bD ne];exact a,fun y hy=>(mem_cons.mp hy).elim (fun z=>by rw[z];exact e) (b y)⟩
   .exact .inr ⟨y,mem_cons_of_mem _ hy,ey,t',by rw[bD ne];exact hu,ht'⟩
theorem BI {n:Str}:∀{C:List (Str×List A4)} {kc:List (Key×V)},Paired (tU H) C kc->(bG kc (.inr n)=none/\∀z∈C,z.1≠n)\/ ∃z∈C,z.1=n/\∃v,bG kc (.inr n)=some v/\RT H z.2 v
 |_,_,.nil=>.inl ⟨rfl,fun _ h=>nomatch h⟩
 | x::xs,(k,v)::kvs,.cons ⟨h1,h2⟩ r=>by
  by_cases e:x.1=n
  .exact .inr ⟨x,mem_cons_self,e,v,bJ (show(k,v).1=_ by rw[h1,e]),h2⟩
  .have ne:¬(k,v).1=Sum.inr n:=fun z=>e (Sum.inr.inj (h1.symm.trans z))
   rcases BI (n:=n) r with⟨a,b⟩|⟨y,hy,ey,t',hu,ht'⟩
   .exact .inl ⟨by rw[bD ne];exact a,fun y hy=>(mem_cons.mp hy).elim (fun z=>by rw[z];exact e) (b y)⟩
   .exact .inr ⟨y,mem_cons_of_mem _ hy,ey,t',by rw[bD ne];exact hu,ht'⟩
theorem EW:∀{cs:List A4} {us:List V},Paired (jS H) cs us->g9 H (cs.map i7) us
 |_,_,.nil=>.nil
 |_,_,.cons ⟨b,e,h⟩ r=>by
  subst e;exact .cons (.tup h (.cons (.int _) (.cons (.str _) (.cons (.int _) .nil)))) (EW r)
theorem BD (cs:List A4):Mr.bV 3 (cs.map i7)=true:=by
 unfold Mr.bV;rw[all_eq_true];intro p hp;obtain⟨x,hx,rfl⟩:=mem_map.mp hp;rw[and_eq_true,all_eq_true];refine⟨rfl,fun q hq=>?_⟩;obtain⟨y,hy,rfl⟩:=mem_map.mp hq;show(if Mr.cF (.int x.1) (.int y.1)=true then Mr.cN (Mr.fJ 2) [.str x.2.1,.int x.2.2] [.str y.2.1,.int y.2.2]else Mr.fJ 2 (.int x.1) (.int y.1)).isSome=true;split
 .show(if Mr.cF (.str x.2.1) (.str y.2.1)=true then Mr.cN (Mr.fJ 2) [.int x.2.2] [.int y.2.2]else Mr.fJ 2 (.str x.2.1) (.str y.2.1)).isSome=true;split
  .show(if Mr.cF (.int x.2.2) (.int y.2.2)=true then Mr.cN (Mr.fJ 2) [] []else Mr.fJ 2 (.int x.2.2) (.int y.2.2)).isSome=true;split<;>rfl
  .rfl
 .rfl
theorem rJ {H2:Hp} {C:List (Str×List A4)} (i:o4 jS H H' p kvs C) (s2:aG H' H2):o4 jS H H2 p kvs C:=o4.same (cR:=jS) (fun k h=>jS.kt k h) i s2
theorem BW {e:Str} {c:A4} (hj:0<j) (he:(aR y)[j]? =some e) {A:Prop}:((A\/ (c.1=y.d/\c.2.1=y.n/\0<c.2.2/\(aR y)[c.2.2]? =some n/\c.2.2<j))\/ (n=e/\c=(y.d,y.n,j)))↔A\/ (c.1=y.d/\c.2.1=y.n/\0<c.2.2/\(aR y)[c.2.2]? =some n/\c.2.2<j+1):=by
 constructor
 .rintro((h|⟨h1,h2,h3,h4,h5⟩)|⟨rfl,rfl⟩)
  .exact .inl h
  .exact .inr ⟨h1,h2,h3,h4,by omega⟩
  .exact .inr ⟨rfl,rfl,hj,he,lt_succ_self j⟩
 .rintro(h|⟨h1,h2,h3,h4,h5⟩)
  .exact .inl (.inl h)
  .by_cases e2:c.2.2=j
   .rw[e2,he]at h4;obtain⟨a,b,k⟩:=c;exact .inr ⟨(Option.some.inj h4).symm,by rw[<-h1,<-h2,<-e2]⟩
   .exact .inl (.inr ⟨h1,h2,h3,h4,by omega⟩)
noncomputable def R3:Option Str->PyData
 |none=>.none
 |some x=>.str x
noncomputable def pairD (z:Str×Option Str):PyData:=.tuple [.str z.1,R3 z.2]
noncomputable def x4 (ab:Hl):PyData:=.tuple (ab.map pairD)
theorem O7:∀o,FG H (R3 o) (oV o)
 |none=>.aU
 |some x=>.str x
theorem pN (h:iI H v ab):FG H (x4 ab) v:=by
 obtain⟨t,us,rfl,ht,hp⟩:=h;refine .tup ht ?_;clear ht
 induction hp with
 |nil=>exact .nil
 | @cons z _ _ _ hz _ ih=>obtain⟨b,rfl,hb⟩:=hz;exact .cons (.tup hb (.cons (.str _) (.cons (O7 _) .nil))) ih
theorem MW (hl:ab.length<=60) (h:∀z∈ab,eM z.1=true/\∀y,z.2=some y->eM y=true):Sm 20000 3 (x4 ab):=by
 have key:∀n,eM n=true->Sm 122 0 (.str n):=fun n hn=>Sm.str (n:=12) (fun c hc=>lt_of_le_of_lt (G2 hn c hc).2.2.2.2.2 (by decide)) (DU hn).2
 refine(Sm.tup (n:=251) (k:=1) (m:=60) (fun d hd=>?_) (by rw[length_map];exact hl)).mono (by decide) (by decide);obtain⟨z,hz,rfl⟩:=mem_map.mp hd;obtain⟨h1,h2⟩:=h z hz;refine(Sm.tup (n:=122) (k:=0) (m:=2) (fun d hd=>?_) (by simp)).mono (by decide) (by decide);simp only[mem_cons,mem_nil_iff,or_false]at hd;rcases hd with rfl|rfl
 .exact key _ h1
 .cases e:z.2 with
  |none=>exact Sm.aU.mono (by decide) (by decide)
  |some y=>exact key y (h2 y e)
def LR:Sp:=fun vs H Q _=>∃(p:Addr) (c:Nat),vs=[.ref p]/\Box c H p/\c<100000/\∀(x:Str) H',eM x=true->Box (c+20) H' p->eO p H H'->Q (.str x) H'
def BA:Sp:=fun vs H Q _=>∃(p:Addr) (c m:Nat),vs=[.ref p,.int (m:Int)]/\Box c H p/\c<10000/\2<=m/\m<=20/\∀(l:Addr) (zs:List Str) H',H l=none->H' l=some (.lst (zs.map V.str))->1<=zs.length->zs.length<=m->(∀z∈zs,eM z=true)->Box (c+20*m) H' p->eO p H H'->Q (.ref l) H'
theorem LO:(0:Int)<(10:Int)^(60:Int).toNat:=by decide+kernel
theorem JH (h0:0<=d) (h:d<10^(60*i)) (hi:i<63):IntMulOk d (10^Int.toNat 60):=by
 obtain⟨n,rfl⟩:=Int.eq_ofNat_of_zero_le h0;have h':n<10^(60*i):=by exact_mod_cast h
 have key:∀k,(10:Nat)^k<=2^(4*k):=fun k=>by rw[Nat.pow_mul];exact Nat.pow_le_pow_left (by decide) k
 have h2:(n:Int).natAbs<2^(4*(60*i)):=lt_of_lt_of_le h' (key _);have e:(2:Nat)^20=1048576:=by decide
 refine IntMulOk.of_bits (le_trans (PyProof.Rows.intBits_le h2) (by rw[e];omega)) (by decide+kernel)
theorem IZ {cell:Int} (h0:0<=d) (h:d<10^(60*i)):(0<=d*10^Int.toNat 60+cell % 10^Int.toNat 60/\d*10^Int.toNat 60+cell % 10^Int.toNat 60<10^(60*(i+1)))/\d<10^(60*(i+1)):=by
 have hB:(0:Int)<10^Int.toNat 60:=LO;have e:(10:Int)^(60*(i+1))=10^(60*i)*10^Int.toNat 60:=by
  rw[mul_succ,Int.pow_add];rfl
 rw[e];generalize(10:Int)^Int.toNat 60=B at hB;generalize(10:Int)^(60*i)=A at h;have r1:=emod_lt_of_pos cell hB;have r0:=emod_nonneg cell (Int.ne_of_gt hB);have m1:(d+1)*B<=A*B:=Int.mul_le_mul_of_nonneg_right (by omega) (by omega);have m2:(d+1)*B=d*B+B:=by rw[Int.add_mul,Int.one_mul]
 have m3:0<=d*B:=Int.mul_nonneg h0 (by omega);have m4:d*1<=d*B:=Int.mul_le_mul_of_nonneg_left (by omega) h0;refine⟨⟨by omega,by omega⟩,by omega⟩
noncomputable def RE (up:Str->Option Str) (N:Nat):L2.St->Nat
 |[_,some (.str x),_]=>GP up N x+1
 |_=>0
def AQ:Sp:=fun vs H Q _=>∃(d:Addr) (ab:Hl) (o:Option Str) (g:Str),vs=[.ref d,oV o,.str g]/\bY H d (bK ab)/\(∀x,¬Rg.jD (aS ab) x)/\∀b H',aG H H'->(b=true↔qZ (aS ab) o g)->Q (.bl b) H'
def AU:Sp:=fun vs H Q _=>∃(p l:Addr) (zs:List Str) (n:Int) (c:Nat),vs=[.ref p,.ref l,.int n]/\Box c H p/\c<10000/\H l=some (.lst (zs.map V.str))/\1<=zs.length/\zs.length<=20/\(∀z∈zs,eM z=true)/\l≠p/\0<n/\n<1000/\
 ∀v hm H',iI H' v hm->hm.length<=20->(ks hm).Nodup->(∀x,¬Rg.jD (aS hm) x)->(∀z∈hm,z.1∈zs/\∀y,z.2=some y->y∈zs)->Box (c+2*zs.length) H' p->eO p H H'->Q v H'
theorem B9 (x:Lt):∃r,iO x.P= .t (.k (.inr x.n)::r)/\nP (.k (.inr x.n)::r)<=4:=by
 obtain⟨ks,e,d⟩:=NB x;have h:iO x.P= .t (j5 [.str x.n,.int x.d,.str x.h,.tup (x.row.map .str)]):=by show iO (.tup _)=_;rw[iO]
 rw[j5,iO]at h;rw[h]at e;cases e;exact⟨_,h,d⟩
def AD (H:Hp) (zs:List Str) (x:Lt) (z:NZ):Prop:=nH H (.ref z.2) x/\iO x.P= .t z.1/\x.n∈zs/\∀r∈x.row,r∈zs
theorem AD.kp (k:eP H H') {x:Lt} {z:NZ} (h:AD H zs x z):AD H' zs x z:=⟨h.1.kp k,h.2⟩
theorem AD.ok {x:Lt} {z:NZ} (h:AD H zs x z):OU H z:=by
 obtain⟨r,e,d⟩:=B9 x;have h1:=h.1.tr.nk (GO x);have h2:=h.2.1;rw[e]at h2;rw[h.2.1]at h1;have e1:z.1= .k (.inr x.n)::r:=by injection h2.symm
 exact⟨h1,by rw[e1];exact d,_,_,e1⟩
theorem nH.at2 {x:Lt} (h:nH H v x):∃a,v= .ref a:=by obtain⟨a,r,e,_⟩:=h.at';exact⟨a,e⟩
theorem LW:∀{xs:List Lt} {us:List V},Paired (fun x u=>nH H u x) xs us->(∀x∈xs,x.n∈zs/\∀r∈x.row,r∈zs)->∃ns:List NZ,us=ns.map (fun z:NZ=>V.ref z.2)/\Paired (AD H zs) xs ns
 |_,_,.nil,_=>⟨[],rfl,.nil⟩
 |x::_,_,.cons h r,m=>by
  obtain⟨ns,e,p⟩:=LW r fun y hy=>m y (mem_cons_of_mem _ hy)
  obtain⟨a,ea⟩:=nH.at2 h;obtain⟨k,ek,_⟩:=B9 x;exact⟨(.k (.inr x.n)::k,a)::ns,by rw[ea,e];rfl,.cons ⟨by rw[<-ea];exact h,ek,m x mem_cons_self⟩ p⟩
theorem i3 {R:α->β->Prop}:∀{xs:List α} {ys:List β},Paired R xs ys->∀y∈ys,∃x∈xs,R x y
 |_,_,.nil,_,h=>nomatch h
 | x::_,_,.cons h r,y,hy=>by
  rcases mem_cons.mp hy with e|hy
  .rw[e];exact⟨x,mem_cons_self,h⟩
  .obtain⟨x',h1,h2⟩:=i3 r y hy;exact⟨x',mem_cons_of_mem _ h1,h2⟩
theorem oQ {R:α->β->Prop}:∀{ys:List β},(∀y∈ys,∃x,R x y)->∃xs,Paired R xs ys
 |[],_=>⟨[],.nil⟩
 |y::ys,h=>by
  obtain⟨x,hx⟩:=h y mem_cons_self;obtain⟨xs,p⟩:=oQ (ys:=ys) fun z hz=>h z (mem_cons_of_mem _ hz)
  exact⟨x::xs,.cons hx p⟩
theorem AD.all:∀{xs:List Lt} {ns:List NZ},Paired (AD H zs) xs ns->∀x∈xs,x.Ok/\x.n∈zs/\∀r∈x.row,r∈zs
 |_,_,.nil,_,h=>nomatch h
 |_,_,.cons h r,x,hx=>by
  rcases mem_cons.mp hx with e|hx
  .rw[e];exact⟨h.1.ok,h.2.2⟩
  .exact AD.all r x hx
theorem gZ {R:α->β->Prop} {a:α} {b:β} (h:R a b):∀{xs:List α} {ys:List β},Paired R xs ys->Paired R (xs++[a]) (ys++[b])
 |_,_,.nil=>.cons h .nil
 |_,_,.cons g r=>.cons g (gZ h r)
theorem AD.R1:∀{xs:List Lt} {ns:List NZ},Paired (AD H zs) xs ns->g9 H (xs.map Lt.P) (ns.map fun z:NZ=>V.ref z.2)
 |_,_,.nil=>.nil
 |_,_,.cons h r=>.cons h.1.tr (AD.R1 r)
def xA:Sp:=fun vs H Q _=>∃(p l:Addr) (zs:List Str) (c:Nat),vs=[.ref p,.ref l]/\Box c H p/\c<10000/\H l=some (.lst (zs.map V.str))/\1<=zs.length/\zs.length<=20/\(∀z∈zs,eM z=true)/\l≠p/\
 ∀v xs H',gM H' v xs->xs.length<=11->(∀x∈xs,x.n∈zs/\∀r∈x.row,r∈zs)->Box (c+200) H' p->eO p H H'->Q v H'
def HP (a b:Int×Str):Prop:=a.1<b.1\/ (a.1=b.1/\Mr.vZ a.2 b.2)
theorem pQ (a:Str):Mr.vZ a a:=fun h=>absurd h (lt_irrefl _)
theorem xX {a b:Int×Str} (h:HP a b) (k:HP b a):a=b:=by
 rcases h with h|⟨e,h⟩<;>rcases k with k|⟨e',k⟩
 .exact absurd h (by omega)
 .exact absurd h (by omega)
 .exact absurd k (by omega)
 .exact Prod.ext e (Mr.p6 h k)
theorem CS {a b:Int×Str} (h:HP a b) (k:HP b c):HP a c:=by
 rcases h with h|⟨e,h⟩<;>rcases k with k|⟨e',k⟩
 .exact .inl (by omega)
 .exact .inl (by omega)
 .exact .inl (by omega)
 .exact .inr ⟨e.trans e',Mr.tK h k⟩
theorem HB (a:Int×Str):HP a a:=.inr ⟨rfl,pQ _⟩
theorem zO {ps:List Mr.PV} (h:Mr.bV 3 ps=true) {p q:Mr.PV} (hp:p∈ps) (hq:q∈ps):Mr.kK 3 p q=true↔Mr.fJ 3 q p=some false:=by
 rw[Mr.mO h hq hp];unfold Mr.kK;cases Mr.gI (Mr.code 3 q) (Mr.code 3 p)<;>simp
theorem PF (a b:Int×Str):Mr.fJ 3 (sA b) (sA a)=some false->HP a b:=by
 intro h;unfold sA at h;rw[Mr.fJ]at h;unfold Mr.cN at h;cases e:Mr.cF (Mr.PV.int b.1) (Mr.PV.int a.1)with
 | true=>
  rw[if_pos e]at h;have e1:b.1=a.1:=by rw[Mr.cF]at e;exact of_decide_eq_true e
  unfold Mr.cN at h;cases e2:Mr.cF (Mr.PV.str b.2) (Mr.PV.str a.2)with
  |true=>
   have e3:b.2=a.2:=by rw[Mr.cF]at e2;exact of_decide_eq_true e2
   exact .inr ⟨e1.symm,by rw[e3];exact pQ _⟩
  |false=>
   rw[if_neg (by rw[e2];exact Bool.false_ne_true),Mr.fJ]at h;exact .inr ⟨e1.symm,of_decide_eq_false (Option.some.inj h)⟩
 |false=>
  rw[if_neg (by rw[e];exact Bool.false_ne_true),Mr.fJ]at h;have h1:=of_decide_eq_false (Option.some.inj h);have h2:b.1≠a.1:=fun e'=>by rw[Mr.cF,e']at e;simp at e
  exact .inl (by omega)
theorem LQ {a b:Int×Str} (h:Mr.kK 3 (sA a) (sA b)=true):HP a b:=
 PF a b ((zO (yS [a,b]) (mem_cons_self) (mem_cons_of_mem _ mem_cons_self)).mp h)
theorem PY {a b:Str} (h:Mr.kK 3 (.str a) (.str b)=true):Mr.vZ a b:=by
 have h1:=(zO (xS [a,b]) (mem_cons_self) (mem_cons_of_mem _ mem_cons_self)).mp h;rw[Mr.fJ]at h1;exact of_decide_eq_false (Option.some.inj h1)
def v8 (a b:Bool×Int×Str):Prop:=(a.1=false/\b.1=true)\/ (a.1=b.1/\HP a.2 b.2)
theorem CC {c:Bool×Int×Str} (h:v8 a b) (k:v8 b c):v8 a c:=by
 rcases h with⟨e,h⟩|⟨e,h⟩<;>rcases k with⟨e',k⟩|⟨e',k⟩
 .rw[h]at e';cases e'
 .exact .inl ⟨e,e'▸h⟩
 .exact .inl ⟨e.trans e',k⟩
 .exact .inr ⟨e.trans e',CS h k⟩
theorem qT (a:Bool×Int×Str):v8 a a:=.inr ⟨rfl,HB _⟩
theorem FV (h:v8 a b) (k:v8 b a):a=b:=by
 rcases h with⟨e,h⟩|⟨e,h⟩<;>rcases k with⟨e',k⟩|⟨e',k⟩
 .rw[h]at e';cases e'
 .rw[e,h]at e';cases e'
 .rw[e,e']at k;cases k
 .exact Prod.ext e (xX h k)
theorem PC (a b:Bool×Int×Str):∀c,Mr.ltQ 3 (oK b) (oK a)=some c->if c=true then v8 b a else v8 a b:=by
 intro c h;unfold oK at h;rw[Mr.ltQ]at h;unfold Mr.cN at h;cases e:Mr.cF (Mr.PV.bl b.1) (Mr.PV.bl a.1)with
 | true=>
  have e0:b.1=a.1:=by
   rw[Mr.cF]at e;cases h1:b.1<;>cases h2:a.1<;>rw[h1,h2]at e<;>first|rfl|cases e
  rw[if_pos e]at h;unfold Mr.cN at h;cases e1:Mr.cF (Mr.PV.int b.2.1) (Mr.PV.int a.2.1)with
  | true=>
   have e1':b.2.1=a.2.1:=by rw[Mr.cF]at e1;exact of_decide_eq_true e1
   rw[if_pos e1]at h;unfold Mr.cN at h;cases e2:Mr.cF (Mr.PV.str b.2.2) (Mr.PV.str a.2.2)with
   |true=>
    have e3:b.2.2=a.2.2:=by rw[Mr.cF]at e2;exact of_decide_eq_true e2
    have:a=b:=Prod.ext e0.symm (Prod.ext e1'.symm e3.symm);rw[this];split<;>exact qT _
   | false=>
    rw[if_neg (by rw[e2];exact Bool.false_ne_true),Mr.ltQ]at h;cases c with
    |true=>
     have h1:=of_decide_eq_true (Option.some.inj h);rw[if_pos rfl];exact .inr ⟨e0,.inr ⟨e1',fun k=>absurd (List.lt_trans h1 k) (lt_irrefl _)⟩⟩
    |false=>
     rw[if_neg Bool.false_ne_true];exact .inr ⟨e0.symm,.inr ⟨e1'.symm,of_decide_eq_false (Option.some.inj h)⟩⟩
  | false=>
   have h2:b.2.1≠a.2.1:=fun e'=>by rw[Mr.cF,e']at e1;simp at e1
   rw[if_neg (by rw[e1];exact Bool.false_ne_true),Mr.ltQ]at h;cases c with
   |true=>
    rw[if_pos rfl];exact .inr ⟨e0,.inl (of_decide_eq_true (Option.some.inj h))⟩
   |false=>
    rw[if_neg Bool.false_ne_true];have h1:=of_decide_eq_false (Option.some.inj h);exact .inr ⟨e0.symm,.inl (by omega)⟩
 |false=>
  rw[if_neg (by rw[e];exact Bool.false_ne_true),Mr.ltQ]at h;have h1:=Option.some.inj h;cases h2:b.1<;>cases h3:a.1<;>rw[h2,h3]at h1 e
  .rw[Mr.cF]at e;cases e
  .rw[show c=true from h1.symm,if_pos rfl];exact .inl ⟨h2,h3⟩
  .rw[show c=false from h1.symm,if_neg Bool.false_ne_true];exact .inl ⟨h3,h2⟩
  .rw[Mr.cF]at e;cases e
theorem O0 (a b:Bool×Int×Str):if Mr.D3 [oK a,oK b] 1 0=true then v8 b a else v8 a b:=by
 have h:=B8 b a;have e:Mr.D3 [oK a,oK b] 1 0=(Mr.ltQ 3 (oK b) (oK a)).getD false:=rfl;cases hc:Mr.ltQ 3 (oK b) (oK a)with
 |none=>rw[hc]at h;cases h
 |some c=>
  rw[e,hc];exact PC a b c hc
theorem mP {S:List Lt} (nd:(S.map (·.n)).Nodup) {z:Lt} (hy:y∈S) (hz:z∈S) (e:y.n=z.n):y=z:=iY nd hy hz e
theorem LM.uq {S:List Lt} (nd:(S.map (·.n)).Nodup) {e e':Option Str} (h:LM hm S n e) (h':LM hm S n e'):e=e':=by
 rcases h with⟨hk,h⟩|⟨hk,h⟩<;>rcases h' with⟨hk',h'⟩|⟨hk',h'⟩
 .rw[h,h']
 .exact absurd hk hk'
 .exact absurd hk' hk
 rcases h with⟨y,hy,ey,h⟩|⟨hno,h⟩<;>rcases h' with⟨y',hy',ey',h'⟩|⟨hno',h'⟩
 .rw[h,h',mP nd hy hy' (ey.trans ey'.symm)]
 .exact absurd ey (hno' y hy)
 .exact absurd ey' (hno y' hy')
 rcases h with⟨y,hy,i,hi,h,hl⟩|⟨hc,h⟩<;>rcases h' with⟨y',hy',i',hi',h',hl'⟩|⟨hc',h'⟩
 .have c1:lP S n (y.d,y.n,i+1):=⟨y,hy,rfl,rfl,succ_pos _,hi⟩;have c2:lP S n (y'.d,y'.n,i'+1):=⟨y',hy',rfl,rfl,succ_pos _,hi'⟩;have h3:=Mr.qK (BD [(y.d,y.n,i+1),(y'.d,y'.n,i'+1)]) mem_cons_self (mem_cons_of_mem _ mem_cons_self) (hl _ c2) (hl' _ c1);unfold i7 at h3;injection h3 with h4
  injection h4 with h5 h6
  injection h6 with h7 h8
  injection h8 with h9 h10
  injection h7 with h11
  injection h9 with h12
  have e2:y=y':=mP nd hy hy' h11;have e3:i=i':=by have:((i+1:Nat):Int)=((i'+1:Nat):Int):=h12;omega
  rw[h,h',e2,e3]
 .exact absurd ⟨y,hy,rfl,rfl,succ_pos _,hi⟩ (hc' (y.d,y.n,i+1))
 .exact absurd ⟨y',hy',rfl,rfl,succ_pos _,hi'⟩ (hc (y'.d,y'.n,i'+1))
 .rw[h,h']
def FA (hk:List Str) (S:List Lt) (R:List Str) (c:Str):Prop:=c∈R/\c∉hk/\
  (((∀y∈S,y.n≠c)/\∀x∈R,x∉hk->(∀y∈S,y.n≠x)->Mr.vZ c x)\/
   ((∀x∈R,x∉hk->∃y∈S,y.n=x)/\∃y∈S,y.n=c/\∀z∈S,z.n∈R->z.n∉hk->HP (y.d,c) (z.d,z.n)))
theorem FA.congr {S:List Lt} (e:∀x,x∈R↔x∈R') {c:Str} (h:FA hk S R c):FA hk S R' c:=by
 obtain⟨h1,h2,h3⟩:=h;refine⟨(e c).mp h1,h2,h3.imp (fun⟨a,b⟩=>⟨a,fun x hx=>b x ((e x).mpr hx)⟩) fun⟨a,y,hy,ey,b⟩=>⟨fun x hx=>a x ((e x).mpr hx),y,hy,ey,fun z hz hx=>b z hz ((e _).mpr hx)⟩⟩
theorem FA.uq {S:List Lt} {c c':Str} (h:FA hk S R c) (h':FA hk S R c'):c=c':=by
 obtain⟨h1,h2,h3⟩:=h;obtain⟨k1,k2,k3⟩:=h';rcases h3 with⟨a,b⟩|⟨a,y,hy,ey,b⟩<;>rcases k3 with⟨a',b'⟩|⟨a',y',hy',ey',b'⟩
 .exact Mr.p6 (b c' k1 k2 a') (b' c h1 h2 a)
 .obtain⟨y,hy,ey⟩:=a' c h1 h2;exact absurd ey (a y hy)
 .obtain⟨y',hy',ey'⟩:=a c' k1 k2;exact absurd ey' (a' y' hy')
 .have l1:=b y' hy' (by rw[ey'];exact k1) (by rw[ey'];exact k2);have l2:=b' y hy (by rw[ey];exact h1) (by rw[ey];exact h2);rw[ey']at l1;rw[ey]at l2;exact congrArg Prod.snd (xX l1 l2)
theorem CN {up:Str->Option Str} {R:List Str} (r:Rg.Ring up R) (r':Rg.Ring up R') (h:x∈R) (h':x∈R'):∀y,y∈R↔y∈R':=by
 have go:∀{R R':List Str},Rg.Ring up R->Rg.Ring up R'->x∈R->x∈R'->∀y∈R,y∈R':=fun{R R'} r r' h h' y hy=>by
  obtain⟨i,hi⟩:=getElem?_of_mem h;obtain⟨j,hj⟩:=getElem?_of_mem hy;have hjl:=(List.getElem?_eq_some_iff.mp hj).1;have e1:=r.path.nZ hi;have e2:=r.path.nZ hj;have e3:=r.turn hy;cases R with
  |nil=>exact nomatch hy
  |cons a R=>
   have ha:a∈R':=r'.closed.walk _ h' e1;have e4:Rg.cJ up ((a::R).length - j+j) y=some y:=by rw[show(a::R).length - j+j=(a::R).length by omega];exact e3
   rw[Rg.fB,e2]at e4;exact r'.closed.walk j ha e4
 exact fun y=>⟨go r r' h h' y,go r' r h' h y⟩
def IY (f:Str->Option Str) (hk:List Str) (S:List Lt) (x:Str):Prop:=∃R,Rg.Ring f R/\FA hk S R x
structure o7 (S:List Lt) (hm ab:Hl):Prop where
 nd:(ks ab).Nodup
 so:PyProof.Rows.sortedS (ks ab)=true
 mem:∀x,x∈ks ab↔sG S hm x
 up:∃f:Str->Option Str,(∀x∈ks ab,LM hm S x (f x))/\(∀x,x∉ks ab->f x=none)/\∀x,(IY f (ks hm) S x->aS ab x=none)/\(¬IY f (ks hm) S x->aS ab x=f x)
theorem o7.keys {S:List Lt} {a b:Hl} (h:o7 S hm a) (k:o7 S hm b):ks a=ks b:=
 Mr.jT (Mr.j9 h.so) (Mr.j9 k.so) ((List.perm_ext_iff_of_nodup h.nd k.nd).mpr fun x=>(h.mem x).trans (k.mem x).symm)
theorem o7.uq {S:List Lt} {a b:Hl} (nd:(S.map (·.n)).Nodup) (h:o7 S hm a) (k:o7 S hm b):aS a=aS b:=by
 obtain⟨f,f1,f2,f3⟩:=h.up;obtain⟨g,g1,g2,g3⟩:=k.up;have e:f=g:=funext fun x=>by
  by_cases hx:x∈ks a
  .exact LM.uq nd (f1 x hx) (g1 x (h.keys k▸hx))
  .rw[f2 x hx,g2 x (h.keys k▸hx)]
 subst e;refine funext fun x=>?_
 by_cases c:IY f (ks hm) S x
 .rw[(f3 x).1 c,(g3 x).1 c]
 .rw[(f3 x).2 c,(g3 x).2 c]
structure zB (hk:List Str) (S:List Lt) (F Rs:List (List Str)):Prop where
 hd:∀T∈Rs,∃c r,T=c::r/\∃R∈F,FA hk S R c
 al:∀R∈F,∃T∈Rs,∃c r,T=c::r/\FA hk S R c
theorem zB.perm {S:List Lt} (o:zB hk S F Rs) (p:Ts.Perm Rs):zB hk S F Ts:=⟨fun T hT=>o.hd T (p.mem_iff.mp hT),fun R hR=>let⟨T,hT,r⟩:=o.al R hR;⟨T,p.mem_iff.mpr hT,r⟩⟩
theorem zB.iff {S:List Lt} {ab:Hl} (o:zB hk S F Rs) (fd:Rg.Found (aS ab) N F) (hN:∀x∈ks ab,x∈N) (x:Str):IY (aS ab) hk S x↔∃T∈Rs,∃r,T=x::r:=by
 constructor
 .rintro⟨R,hR,hw⟩;have cy:=hR.jD hw.1;have hx:x∈ks ab:=by
   obtain⟨n,e⟩:=cy;cases hu:aS ab x with
   |none=>rw[Rg.cJ,hu]at e;cases e
   |some w=>exact iZ hu
  obtain⟨R',hR',hx'⟩:=mem_flatten.mp (fd.all x (hN x hx) cy);have hw':=hw.congr (CN hR (fd.ring R' hR') hw.1 hx');obtain⟨T,hT,c,r,e,hc⟩:=o.al R' hR';rw[hc.uq hw']at e;exact⟨T,hT,r,e⟩
 .rintro⟨T,hT,r,e⟩;obtain⟨c,r',e',R,hR,hw⟩:=o.hd T hT;rw[e]at e';cases e';exact⟨R,fd.ring R hR,hw⟩
def LV:Sp:=fun vs H Q _=>∃(a hd dy:Addr) (R hk:List Str) (kd:List (Key×V)) (S:List Lt),vs=[.ref a,.ref hd,.ref dy]/\H a=some (.lst (R.map V.str))/\R.length<=2000/\bY H hd (lA hk)/\hk.length<=1000/\bY H dy kd/\Paired (DW H) S kd/\S.length<=1000/\(S.map (·.n)).Nodup/\(∃x∈R,x∉hk)/\∀c H',aG H H'->FA hk S R c->Q (.str c) H'
theorem xE {n:Str} {S:List Lt} {kd:List (Key×V)} (h:Paired (DW H) S kd):bG kd (.inr n)=none↔∀y∈S,y.n≠n:=by
 rcases iV (n:=n) h with⟨e,k⟩|⟨y,hy,ey,e⟩
 .exact⟨fun _=>k,fun _=>e⟩
 .exact⟨fun e'=>(by rw[e]at e';cases e'),fun k=>absurd ey (k y hy)⟩
theorem EG {S:List Lt}:∀{ns:List Str} {ys:List V},Paired (fun(n:Str) v=>∃(b:Addr) (d:Int),v= .ref b/\H b=some (.tup [.int d,.str n])/\∃y∈S,y.n=n/\y.d=d) ns ys->∃cs:List (Int×Str),cs.map (·.2)=ns/\g9 H (cs.map sA) ys/\∀j n y,ns[j]? =some n->∀h:j<cs.length,y∈S->y.n=n->(S.map (·.n)).Nodup->cs[j]=(y.d,n)
 |_,_,.nil=>⟨[],rfl,.nil,fun _ _ _ h=>by cases h⟩
 | n::_,_,.cons ⟨b,d,e,h,y,hy,ey,ed⟩ r=>by
  obtain⟨cs,e1,t,hc⟩:=EG r;refine⟨(d,n)::cs,by rw[map_cons,e1],.cons (by rw[e];exact .tup h (.cons (.int _) (.cons (.str _) .nil))) t,fun j m z hj hl hz ez nd=>?_⟩;cases j with
  |zero=>
   cases hj;show(d,n)=(z.d,n);rw[<-ed,mP nd hy hz (ey.trans ez.symm)]
  |succ j=>exact hc j m z hj (by simpa using hl) hz ez nd
def K8 (hk:List Str) (S:List Lt) (H:Hp) (z:List Str×V) (v:V):Prop:=∃(b:Addr) (c:Str) (T:List Str),v= .ref b/\H b=some (.tup ((c::T).map V.str))/\FA hk S z.1 c/\(c::T).length=z.1.length
theorem BS {S:List Lt}:∀{zs:List (List Str×V)} {ys:List V},Paired (K8 hk S H) zs ys->(∀z∈zs,z.1.length<=2000)->∃Rs,Paired (IH H) Rs ys/\xG (zs.map (·.1)) Rs/\zB hk S (zs.map (·.1)) Rs
 |_,_,.nil,_=>⟨[],.nil,⟨(fun _ h=>nomatch h),(fun _ h=>nomatch h),fun _ h=>nomatch h⟩,⟨(fun _ h=>nomatch h),fun _ h=>nomatch h⟩⟩
 | z::zs,_,.cons ⟨b,c,T,e,hb,hw,hl⟩ r,k=>by
  obtain⟨Rs,p,o,x⟩:=BS r fun z hz=>k z (mem_cons_of_mem _ hz)
  refine⟨(c::T)::Rs,.cons ⟨b,e,hb⟩ p,⟨fun T' hT'=>?_,fun R hR=>?_,fun T' hT'=>?_⟩,⟨fun T' hT'=>?_,fun R hR=>?_⟩⟩
  .rcases mem_cons.mp hT' with h|h
   .exact⟨c,T,h,z.1,mem_cons_self,hw.1⟩
   .obtain⟨c',r',e',R,hR,h2⟩:=o.hd T' h;exact⟨c',r',e',R,mem_cons_of_mem _ hR,h2⟩
  .rcases mem_cons.mp hR with h|h
   .exact⟨_,mem_cons_self,c,T,rfl,by rw[h];exact hw.1⟩
   .obtain⟨T',hT',c',r',e',h2⟩:=o.al R h;exact⟨T',mem_cons_of_mem _ hT',c',r',e',h2⟩
  .rcases mem_cons.mp hT' with h|h
   .rw[h,hl];exact k z mem_cons_self
   .exact o.ln T' h
  .rcases mem_cons.mp hT' with h|h
   .exact⟨c,T,h,z.1,mem_cons_self,hw⟩
   .obtain⟨c',r',e',R,hR,h2⟩:=x.hd T' h;exact⟨c',r',e',R,mem_cons_of_mem _ hR,h2⟩
  .rcases mem_cons.mp hR with h|h
   .exact⟨_,mem_cons_self,c,T,rfl,by rw[h];exact hw⟩
   .obtain⟨T',hT',c',r',e',h2⟩:=x.al R h;exact⟨T',mem_cons_of_mem _ hT',c',r',e',h2⟩
def LA:Sp:=fun vs H Q _=>∃(v mv:V) (d:Addr) (xs:List Lt) (hm ab:Hl),vs=[v,mv,.ref d]/\gM H v xs/\iI H mv hm/\(ks hm).Nodup/\hm.length<=1000/\LH H d ab/\(ks ab).Nodup/\ab.length<=60/\(∀z∈ab,z.1∈ks hm->z.2=aS hm z.1)/\(∀x,¬Rg.jD (aS hm) x)/\
 ∀t us F S Rs H',aG H H'->H' t=some (.tup us)->Paired (IH H') Rs us->xG F Rs->zB (ks hm) (aP xs) F Rs->Rg.Found (aS ab) S F->(∀x∈ks ab,x∈S)->us.length<=60->Q (.ref t) H'
theorem uD {ab:Hl} {x:Str} (h:x∉ks ab):aS ab x=none:=by
 cases e:aS ab x with
 |none=>rfl
 |some y=>exact absurd (iZ e) h
theorem uS {ab:Hl} (nd:(ks ab).Nodup) {z:Str×Option Str} (hz:z∈ab):aS ab z.1=z.2:=by
 cases e:z.2 with
 |some y=>exact zX nd (by rw[<-e];exact hz)
 | none=>
  cases e2:aS ab z.1 with
  |none=>rfl
  |some y=>
   have h1:=fM e2;have h2:z=(z.1,some y):=iY (f:=fun z:Str×Option Str=>z.1) nd hz h1 rfl;rw[h2]at e;cases e
def zJ:Sp:=fun vs H Q _=>∃(v mv:V) (xs:List Lt) (hm:Hl) (zs:List Str),vs=[v,mv]/\gM H v xs/\xs.length<=100/\iI H mv hm/\(ks hm).Nodup/\hm.length<=1000/\(∀x,¬Rg.jD (aS hm) x)/\zs.length<=60/\(∀x,sG (aP xs) hm x->x∈zs)/\
 ∀w ab H',aG H H'->K5 H' w ab->o7 (aP xs) hm ab->(ks ab).Nodup->(∀x,x∈ks ab↔sG (aP xs) hm x)->BY ab->(∀x,¬Rg.jD (aS ab) x)->ab.length<=60->Q w H'
theorem L8 {b:Bool} {X C P:Prop} (hC:P->C) (h0:b=false->P) (hX:b=true->(P->C)->X):if b=true then X else C:=by
 cases b with
 |false=>exact hC (h0 rfl)
 |true=>exact hX rfl hC
theorem JB {y:Str} (hy:y∉ks rt):bG (bK rt) (.inr y)=none:=by
 rw[kE,find?_eq_none.mpr (fun z hz e=>hy (mem_map.mpr ⟨z,hz,of_decide_eq_true e⟩))];rfl
theorem B1 {r:Str} (hnd:(ks rt).Nodup) (h:∀z∈ks rt,z∈ks ab/\∃w∈ks ab,aS rt z=some w/\Top (aS ab) z w) (hx:x∈ks ab) (hr:r∈ks ab) (ht:Top (aS ab) x r):(ks (cD rt x (some r))).Nodup/\∀z∈ks (cD rt x (some r)),z∈ks ab/\∃w∈ks ab,aS (cD rt x (some r)) z=some w/\Top (aS ab) z w:=by
 refine⟨yV hnd,fun z hz=>?_⟩
 .rw[eY];rcases iU.mp hz with h1|h1
  .refine⟨(h z h1).1,?_⟩;split
   .rename_i e;exact⟨r,hr,rfl,e▸ht⟩
   .exact(h z h1).2
  .rw[h1,if_pos rfl];exact⟨hx,r,hr,rfl,ht⟩
def LP:Sp:=fun vs H Q _=>∃(d:Addr) (ab:Hl),vs=[.ref d]/\bY H d (bK ab)/\(ks ab).Nodup/\ab.length<=60/\BY ab/\(∀x,¬Rg.jD (aS ab) x)/\∀f rt H',aG H H'->H f=none->bY H' f (bK rt)->(ks rt).Nodup->(∀x∈ks ab,∃r∈ks ab,aS rt x=some r/\Top (aS ab) x r)->(∀x∈ks rt,x∈ks ab)->Q (.ref f) H'
noncomputable def kR (r:Str) (x:Lt):Bool×Int×Str:=(!decide (x.n=r),x.d,x.n)
def uI (H:Hp) (z:Str×Lt) (kv:Key×V):Prop:=kv.1= .inr z.1/\∃b:Addr,kv.2= .ref b/\H b=some (.tup [.bl (kR z.1 z.2).1,.int z.2.d,.str z.2.n])
theorem kH:∀{rv:List (Str×Lt)} {kvs:List (Key×V)},Paired (uI H) rv kvs->kvs.map (·.1)=(rv.map (·.1)).map Sum.inr
 |_,_,.nil=>rfl
 |z::_,(k,v)::_,.cons ⟨h1,_⟩ rr=>by
  rw[map_cons,kH rr];show k::_=_;have h1:k=Sum.inr z.1:=h1;rw[h1];rfl
theorem p5 {z:Str×Lt}:∀{rv:List (Str×Lt)} {kvs:List (Key×V)},Paired (uI H) rv kvs->(rv.map (·.1)).Nodup->z∈rv->∃b,bG kvs (.inr z.1)=some (.ref b)/\H b=some (.tup [.bl (kR z.1 z.2).1,.int z.2.d,.str z.2.n])
 | x::rv,(k,v)::kvs,.cons ⟨h1,b,h2,h3⟩ rr,nd,hz=>by
  by_cases e:x.1=z.1
  .have ez:x=z:=(mem_cons.mp hz).elim (fun h=>h.symm) fun h=>absurd (mem_map.mpr ⟨z,h,e.symm⟩) (nodup_cons.mp nd).1
   subst ez;exact⟨b,by rw[bJ (show(k,v).1=_ from h1)];exact congrArg some h2,h3⟩
  .have ne:¬(k,v).1=Sum.inr z.1:=fun y=>e (Sum.inr.inj (h1.symm.trans y))
   obtain⟨b',h4,h5⟩:=p5 rr (nodup_cons.mp nd).2 ((mem_cons.mp hz).resolve_left fun y=>e (by rw[y]));exact⟨b',by rw[bD ne];exact h4,h5⟩
theorem EC {x:Lt} {b:Addr} (hb:H b=some (.tup [.bl (kR ro x).1,.int x.d,.str x.n])) {rv:List (Str×Lt)} (p:Paired (uI H) rv kvs) (nd:(rv.map (·.1)).Nodup):∃rv',Paired (uI H) rv' (putK kvs (.inr ro) (.ref b))/\(rv'.map (·.1)).Nodup/\∀z,z∈rv'↔(z∈rv/\z.1≠ro)\/ z=(ro,x):=by
 unfold putK;rw[any_keys (kH p)]
 by_cases hi:ro∈rv.map (·.1)
 .rw[if_pos (decide_eq_true hi)];have key:∀{rv:List (Str×Lt)} {kvs:List (Key×V)},Paired (uI H) rv kvs->Paired (uI H) (rv.map fun z=>if z.1=ro then(ro,x)else z) (kvs.map fun kv=>if kv.1=Sum.inr ro then(kv.1,V.ref b)else kv):=by
   intro rv kvs h
   induction h with
   |nil=>exact .nil
   | @cons z kv _ _ hz _ ih=>
    refine .cons ?_ ih;obtain⟨h1,h2⟩:=hz;show uI H (if z.1=ro then(ro,x)else z) (if kv.1=Sum.inr ro then(kv.1,V.ref b)else kv)
    by_cases e:z.1=ro
    .rw[if_pos e,if_pos (by rw[h1,e])];exact⟨by rw[<-e];exact h1,b,rfl,hb⟩
    .rw[if_neg e,if_neg (by rw[h1];exact fun y=>e (Sum.inr.inj y))];exact⟨h1,h2⟩
  refine⟨_,key p,?_,fun z=>⟨fun hz=>?_,fun hz=>?_⟩⟩
  .rw[map_map,show rv.map ((fun x=>x.1)∘fun z=>if z.1=ro then(ro,x)else z)=rv.map (·.1)from map_congr_left fun z _=>by show(if z.1=ro then(ro,x)else z).1=z.1;split<;>first|rfl|(rename_i e;exact e.symm)];exact nd
  .obtain⟨y,hy,rfl⟩:=mem_map.mp hz;split
   .exact .inr rfl
   .rename_i e;exact .inl ⟨hy,e⟩
  .rcases hz with⟨h,n⟩|h
   .exact mem_map.mpr ⟨z,h,if_neg n⟩
   .obtain⟨y,hy,e⟩:=mem_map.mp hi;exact mem_map.mpr ⟨y,hy,by rw[h];exact if_pos e⟩
 .rw[if_neg (by rw[decide_eq_false hi];exact Bool.false_ne_true)];refine⟨rv++[(ro,x)],tW.snoc p ⟨rfl,b,rfl,hb⟩ rfl,?_,fun z=>?_⟩
  .rw[map_append];exact nodup_append.mpr ⟨nd,by simp,fun a ha c hc e=>hi (by rw[map_singleton,mem_singleton]at hc;rw[<-show c=ro from hc,<-e];exact ha)⟩
  .rw[mem_append,mem_singleton];exact⟨fun h=>h.imp (fun h=>⟨h,fun e=>hi (e▸mem_map.mpr ⟨z,h,rfl⟩)⟩) id,fun h=>h.imp (fun h=>h.1) id⟩
theorem FQ {b:Addr} {x:Lt} (h:H b=some (.tup [.bl (kR ro x).1,.int x.d,.str x.n])):Tr H (oK (kR ro x)) (.ref b):=O3 h
structure lL (S:List Lt) (up:Str->Option Str) (rv:List (Str×Str)):Prop where
 nd:(rv.map (·.1)).Nodup
 so:(rv.map (·.1)).Pairwise Mr.vZ
 all:∀x∈S,∃z∈rv,Top up x.n z.1
 is:∀z∈rv,∃x∈S,x.n=z.2/\Top up x.n z.1/\∀y∈S,Top up y.n z.1->v8 (kR z.1 x) (kR z.1 y)
theorem lL.keys {S:List Lt} {up:Str->Option Str} (h:lL S up rv) (k:lL S up nF):rv.map (·.1)=nF.map (·.1):=by
 have go:∀{rv nF:List (Str×Str)},lL S up rv->lL S up nF->∀x∈rv.map (·.1),x∈nF.map (·.1):=fun h k x hx=>by
  obtain⟨z,hz,rfl⟩:=mem_map.mp hx;obtain⟨y,hy,_,ht,_⟩:=h.is z hz;obtain⟨z',hz',ht'⟩:=k.all y hy;exact mem_map.mpr ⟨z',hz',ht'.uq ht⟩
 exact Mr.jT h.so k.so ((List.perm_ext_iff_of_nodup h.nd k.nd).mpr fun x=>⟨go h k x,go k h x⟩)
theorem lL.val {S:List Lt} {up:Str->Option Str} (h:lL S up rv) (k:lL S up nF) {z z':Str×Str} (hz:z∈rv) (hz':z'∈nF) (e:z.1=z'.1):z.2=z'.2:=by
 obtain⟨y,hy,ey,ht,hl⟩:=h.is z hz;obtain⟨y',hy',ey',ht',hl'⟩:=k.is z' hz';have h1:=hl y' hy' (by rw[e];exact ht');have h2:=hl' y hy (by rw[<-e];exact ht);rw[<-e]at h2;have h3:=FV h1 h2;unfold kR at h3;have h4:=congrArg (fun z:Bool×Int×Str=>z.2.2) h3;rw[<-ey,<-ey'];exact h4
theorem pairs_ext:∀{a b:List (Str×Str)},a.map (·.1)=b.map (·.1)->(a.map (·.1)).Nodup->(∀z∈a,∀z'∈b,z.1=z'.1->z.2=z'.2)->a=b
 |[],[],_,_,_=>rfl
 |[],_::_,e,_,_=>by cases e
 |_::_,[],e,_,_=>by cases e
 |x::a,y::b,e,nd,h=>by
  rw[map_cons,map_cons]at e;injection e with e1 e2
  have h2:=h x mem_cons_self y mem_cons_self e1;rw[pairs_ext e2 (nodup_cons.mp nd).2 fun z hz z' hz'=>h z (mem_cons_of_mem _ hz) z' (mem_cons_of_mem _ hz'),Prod.ext e1 h2]
theorem lL.uq {S:List Lt} {up:Str->Option Str} (h:lL S up rv) (k:lL S up nF):rv=nF:=
 pairs_ext (h.keys k) h.nd fun _ hz _ hz' e=>h.val k hz hz' e
structure L5 (S:List Lt) (up:Str->Option Str) (N:List Str) (i:Nat) (rv:List (Str×Lt)):Prop where
 is:∀z∈rv,z.1∈N/\z.2∈S/\Top up z.2.n z.1/\∀y∈S.take i,Top up y.n z.1->v8 (kR z.1 z.2) (kR z.1 y)
 all:∀y∈S.take i,∃z∈rv,Top up y.n z.1
theorem L5.nil {S:List Lt} {up:Str->Option Str}:L5 S up N 0 []:=⟨(fun _ h=>nomatch h),fun y h=>by simp at h⟩
theorem L5.step {S:List Lt} {up:Str->Option Str} {rv rv':List (Str×Lt)} (h:L5 S up N i rv) {x:Lt} (hy:S[i]? =some y) (ht:Top up y.n ro) (hr:ro∈N)
  (hx:x∈S) (hxt:Top up x.n ro) (hxy:v8 (kR ro x) (kR ro y)) (hxl:∀y'∈S.take i,Top up y'.n ro->v8 (kR ro x) (kR ro y')) (hm:∀z,z∈rv'↔(z∈rv/\z.1≠ro)\/ z=(ro,x)):L5 S up N (i+1) rv':=by
 refine⟨fun z hz=>?_,fun y' hy'=>?_⟩
 .rcases(hm z).mp hz with⟨h1,h2⟩|h1
  .obtain⟨a,b,c,d⟩:=h.is z h1;refine⟨a,b,c,fun y' hy' ht'=>?_⟩;rw[take_snoc hy]at hy';rcases mem_append.mp hy' with h3|h3
   .exact d y' h3 ht'
   .rw[mem_singleton.mp h3]at ht';exact absurd (ht'.uq ht) h2
  .rw[h1];refine⟨hr,hx,hxt,fun y' hy' ht'=>?_⟩;rw[take_snoc hy]at hy';rcases mem_append.mp hy' with h3|h3
   .exact hxl y' h3 ht'
   .rw[mem_singleton.mp h3];exact hxy
 .rw[take_snoc hy]at hy';rcases mem_append.mp hy' with h3|h3
  .obtain⟨z,hz,hzt⟩:=h.all y' h3
   by_cases e:z.1=ro
   .exact⟨(ro,x),(hm _).mpr (.inr rfl),e▸hzt⟩
   .exact⟨z,(hm _).mpr (.inl ⟨hz,e⟩),hzt⟩
  .rw[mem_singleton.mp h3];exact⟨(ro,x),(hm _).mpr (.inr rfl),ht⟩
def LB:Sp:=fun vs H Q _=>∃(v mv:V) (xs:List Lt) (hm:Hl) (zs:List Str),vs=[v,mv]/\gM H v xs/\xs.length<=100/\iI H mv hm/\(ks hm).Nodup/\hm.length<=1000/\(∀x,¬Rg.jD (aS hm) x)/\zs.length<=60/\(∀x,sG (aP xs) hm x->x∈zs)/\
 ∀t us rv ab H',aG H H'->H' t=some (.tup us)->Paired (HX H') rv us->o7 (aP xs) hm ab->lL (aP xs) (aS ab) rv->(∀z∈rv,sG (aP xs) hm z.1)->rv.length<=60->Q (.ref t) H'
def BX:Sp:=fun vs H Q _=>∃(v mv:V) (xs:List Lt) (hm:Hl) (zs:List Str),vs=[v,mv]/\gM H v xs/\xs.length<=50/\iI H mv hm/\(ks hm).Nodup/\hm.length<=1000/\(∀x,¬Rg.jD (aS hm) x)/\zs.length<=60/\(∀x,sG (aP xs) hm x->x∈zs)/\
 ∀t us rv ab H',aG H H'->H' t=some (.tup us)->Paired (HX H') rv us->o7 (aP xs) hm ab->lL (aP xs) (aS ab) rv->rv.length<=60->Q (.ref t) H'
theorem tI:∀{ab:Hl} {ys:List V},Paired (FT H) ab ys->Mr.tZ K H ys (bK ab)
 |_,_,.nil=>.nil
 |z::ab,_,.cons ⟨b,e,h⟩ r=>by
  subst e;exact .cons (k:=.inr z.1) (x:=oV z.2) (bO.of h) (tI r)
theorem yF:∀(ab acc:Hl),(ks (acc++ab)).Nodup->(bK ab).foldl (fun d z=>putK d z.1 z.2) (bK acc)=bK (acc++ab)
 |[],acc,_=>by rw[append_nil];rfl
 | z::ab,acc,nd=>by
  have h1:z.1∉ks acc:=fun h=>by
   unfold ks at nd h;rw[map_append]at nd;exact(nodup_append.mp nd).2.2 _ h _ mem_cons_self rfl
  show(bK ab).foldl _ (putK (bK acc) (.inr z.1) (oV z.2))=_;rw[BR h1,yF ab (acc++[z]) (by rw[append_assoc];exact nd),append_assoc];rfl
def yL (H:Hp) (c:Int×Str) (u:V):Prop:=∃b,u= .ref b/\H b=some (.tup [.int c.1,.str c.2])
def NP (S:List Lt) (up:Str->Option Str) (i:Nat) (C:List (Str×List (Int×Str))):Prop:=∀n c,(∃z∈C,z.1=n/\c∈z.2)↔∃y∈S.take i,c=(y.d,y.n)/\Top up y.n n
theorem NP.nil {S:List Lt} {up:Str->Option Str}:NP S up 0 []:=fun n c=>⟨(fun⟨_,h,_⟩=>nomatch h),fun⟨_,h,_⟩=>by simp at h⟩
theorem NP.step {S:List Lt} {up:Str->Option Str} {C:List (Str×List (Int×Str))} (h:NP S up i C) (hy:S[i]? =some y) (ht:Top up y.n ro):NP S up (i+1) (rM C ro (y.d,y.n)):=fun n c=>by
 rw[qO,h,take_snoc hy];constructor
 .rintro(⟨y',h1,h2⟩|⟨h1,h2⟩)
  .exact⟨y',mem_append_left _ h1,h2⟩
  .exact⟨y,mem_append_right _ (by simp),h2,by rw[h1];exact ht⟩
 .rintro⟨y',h1,h2,h3⟩;rcases mem_append.mp h1 with h4|h4
  .exact .inl ⟨y',h4,h2,h3⟩
  .rw[mem_singleton.mp h4]at h2 h3;exact .inr ⟨h3.uq ht,h2⟩
def JC (up:Str->Option Str) (x:Str) (j:Nat) (z:Str):Prop:=Rg.cJ up j x=some z\/ Top up x z
theorem JC.up1 {up:Str->Option Str} {w:Str} (h:JC up x j z) (e:up z=some w):JC up x (j+1) w:=by
 rcases h with h|h
 .refine .inl ?_;rw[Rg.fB j 1,h];show(up z).bind (Rg.cJ up 0)=_;rw[e];rfl
 .rw[h.2]at e;cases e
theorem JC.mW {up:Str->Option Str} (h:JC up x j z) (e:up z=none):JC up x (j+1) z:=.inr (h.elim (fun h=>⟨⟨j,h⟩,e⟩) id)
theorem JC.top {ab:Hl} {z:Str} (h:JC (aS ab) x ab.length z) (hac:∀x,¬Rg.jD (aS ab) x):Top (aS ab) x z:=by
 rcases h with h|h
 .refine⟨⟨_,h⟩,?_⟩;have h1:=vQ hac x;rw[Rg.fB ab.length 1,h]at h1;have h2:(aS ab z).bind (Rg.cJ (aS ab) 0)=none:=h1;cases e:aS ab z with
  |none=>rfl
  |some w=>rw[e]at h2;cases h2
 .exact h
def Q6 (S:List Lt) (up:Str->Option Str) (z:Str×Str):Prop:=∃x∈S,x.n=z.2/\Top up x.n z.1/\∀y∈S,Top up y.n z.1->v8 (kR z.1 x) (kR z.1 y)
section
variable {k:Nat} {cA:List Nat} {gg:TG} {tt:TT} {te:TE} {σ:St} {H:Hp} {Q:VK} {l:Addr}
theorem zN (a:Addr) (kvs:List (Key×V)) (ep:Nat) (R:Hp->(Key×V)->V->Prop) (Good:St->Prop) (h0:Good (bS k cA σ)) (hl:H l=none) (hlen:kvs.length<sizeLine) (ha:H a=some (.dK kvs ep))
  (m:∀H1 H2 e v,eP H1 H2->R H1 e v->R H2 e v)
  (ht:∀kv t σ H1 ys (N:St->Hp->Prop),kv∈kvs->Good σ->aG H H1->H1 t=some (.tup [kV kv.1,kv.2])->H1 l=some (.lst ys)->ys.length<sizeLine->
   (∀σ' v H2,Good σ'->aG H1 H2->R H2 kv v->N σ' (upd H2 l (.lst (ys++[v]))))->dD gg tt te l (.ref t) σ H1 N)
  (hd:∀H' ys,aG H H'->Paired (R H') kvs ys->H' l=some (.lst ys)->Q (.ref l) H'):mX (QM a kvs ep) gg tt te l (bS k cA σ) (upd H l (.lst [])) Q:=by
 refine mI (QM a kvs ep) kvs.length (fun i σ' H'=>i<=kvs.length/\Good σ'/\aG H H'/\∃ys,Paired (R H') (kvs.take i) ys/\H' l=some (.lst ys)) ⟨zero_le _,h0,aG.upd hl,[],.nil,aB⟩
  (fun σ' H' ⟨_,_,s,_⟩=>⟨.inl (s _ _ ha),rfl⟩) (fun i σ' H' hi ⟨_,_,s,_⟩=>⟨.inl (s _ _ ha),hi⟩) (fun i σ' H' v H'' hi ⟨_,gd,s,ys,py,e⟩ y=>?_) (fun σ' H' ⟨_,_,s,ys,py,e⟩=>?_)
 .obtain⟨t,ht0,rfl,eH⟩:=y;have he:=getElem?_eq_getElem hi;have eH:=eH _ he;subst eH;have hz:ys.length<sizeLine:=by
   rw[<-py.length,length_take];omega
  have s1:=aG.upd (o:=.tup [kV kvs[i].1,kvs[i].2]) ht0;refine ht _ t σ' _ ys _ (getElem_mem hi) gd (s.trans s1) aB (s1 _ _ e) hz (fun σ2 v H2 g2 s2 r=>⟨hi,g2,fun b o hb=>?_,ys++[v],?_,aB⟩)
  .rw[aH (aF hb hl)];exact s2 _ _ (s1 _ _ (s _ _ hb))
  .rw[take_snoc he];have k2:=eP.upd (ys:=ys++[v]) (s2 _ _ (s1 _ _ e));exact gZ (m _ _ _ _ k2 r) (L2.Paired.dP py fun a b r=>m _ _ a b ((s1.trans s2).kt.trans k2) r)
 .rw[take_length]at py;exact hd H' ys s py e
end
theorem AO:∀{a b:List Str},(a.map (Sum.inr:Str->Key))=b.map Sum.inr->a=b
 |[],[],_=>rfl
 |[],_::_,h=>by cases h
 |_::_,[],h=>by cases h
 |x::a,y::b,h=>by
  rw[map_cons,map_cons]at h;injection h with h1 h2
  rw[AO h2,Sum.inr.inj h1]
noncomputable def HQ (z:Str×Str):Mr.PV:=.tup [.str z.1,.str z.2]
theorem GI:∀{rv:List (Str×Str)} {us:List V},Paired (HX H) rv us->g9 H (rv.map HQ) us
 |_,_,.nil=>.nil
 |_,_,.cons ⟨b,e,h⟩ r=>.cons (by rw[e];exact .tup h (.cons (.str _) (.cons (.str _) .nil))) (GI r)
theorem FX:∀{rv:List (Str×Str)} {us:List V},g9 H (rv.map HQ) us->Paired (HX H) rv us
 |[],_,.nil=>.nil
 | z::_,_,.cons h r=>by
  refine .cons ?_ (FX r);unfold HQ at h;cases h with
  | tup ha hh=>
   cases hh with
   | cons h1 hh=>
    cases h1;cases hh with
    |cons h2 hh=>
     cases h2;cases hh;exact⟨_,rfl,ha⟩
theorem EX:∀{cs:List (Int×Str)} {us:List V},Paired (yL H) cs us->g9 H (cs.map sA) us
 |_,_,.nil=>.nil
 |_,_,.cons ⟨b,e,h⟩ r=>.cons (by rw[e];exact .tup h (.cons (.int _) (.cons (.str _) .nil))) (EX r)
theorem B0 (rv:List (Str×Str)):Mr.bV 3 (rv.map HQ)=true:=by
 unfold Mr.bV;rw[all_eq_true];intro p hp;obtain⟨x,hx,rfl⟩:=mem_map.mp hp;rw[and_eq_true,all_eq_true];refine⟨rfl,fun q hq=>?_⟩;obtain⟨y,hy,rfl⟩:=mem_map.mp hq;show(if Mr.cF (.str x.1) (.str y.1)=true then Mr.cN (Mr.fJ 2) [.str x.2] [.str y.2]else Mr.fJ 2 (.str x.1) (.str y.1)).isSome=true;split
 .show(if Mr.cF (.str x.2) (.str y.2)=true then Mr.cN (Mr.fJ 2) [] []else Mr.fJ 2 (.str x.2) (.str y.2)).isSome=true;split<;>rfl
 .rfl
theorem NV {a b:Str×Str} (h:Mr.kK 3 (HQ a) (HQ b)=true):Mr.vZ a.1 b.1:=by
 have h:=(zO (B0 [a,b]) (mem_cons_self) (mem_cons_of_mem _ mem_cons_self)).mp h;unfold HQ at h;rw[Mr.fJ]at h;unfold Mr.cN at h;cases e:Mr.cF (Mr.PV.str b.1) (Mr.PV.str a.1)with
 |true=>
  have e1:b.1=a.1:=by rw[Mr.cF]at e;exact of_decide_eq_true e
  rw[e1];exact pQ _
 |false=>
  rw[if_neg (by rw[e];exact Bool.false_ne_true),Mr.fJ]at h;exact of_decide_eq_false (Option.some.inj h)
theorem N1:∀{rv:List (Str×Str)},(rv.map HQ).Pairwise (fun a b=>Mr.kK 3 a b=true)->(rv.map (·.1)).Pairwise Mr.vZ:=fun h=>by
 rw[pairwise_map]at h⊢
 exact h.imp fun k=>NV k
theorem KW {S:List Lt} {up:Str->Option Str}:∀{kvs:List (Key×V)} {ys:List V},Paired (fun(kv:Key×V) v=>∃z:Str×Str,kv.1= .inr z.1/\Q6 S up z/\HX H z v) kvs ys->∃rv,Paired (HX H) rv ys/\(∀z∈rv,Q6 S up z)/\kvs.map (·.1)=(rv.map (·.1)).map Sum.inr
 |_,_,.nil=>⟨[],.nil,(fun _ h=>nomatch h),rfl⟩
 |_,_,.cons ⟨z,e,h,p⟩ r=>by
  obtain⟨rv,pr,hv,ek⟩:=KW r;refine⟨z::rv,.cons p pr,fun z' hz'=>(mem_cons.mp hz').elim (fun e=>by rw[e];exact h) (hv z'),?_⟩;rw[map_cons,map_cons,map_cons,e,ek]
theorem yL.kt (k:eP H H') (h:yL H c u):yL H' c u:=let⟨b,e,q⟩:=h;⟨b,e,k _ _ q⟩
noncomputable def HS (rv:List (Str×Str)):Hl:=rv.map fun z=>(z.1,some z.2)
theorem K1:∀{rv:List (Str×Str)} {us:List V},Paired (HX H) rv us->Paired (FT H) (HS rv) us
 |_,_,.nil=>.nil
 |_,_,.cons ⟨b,e,h⟩ r=>.cons ⟨b,e,h⟩ (K1 r)
theorem qI (ht:H t=some (.tup us)) (h:Paired (HX H) rv us):iI H (.ref t) (HS rv):=⟨t,us,rfl,ht,K1 h⟩
section
variable {P:Program} {w:World} {K:Frag} {mg:Str->Option Value} {base:Heap} {fs:Nat->Addr} {fds:Nat->FuncData} {tc:Nat->Addr} {u:Nat->Value}
theorem dY:aZ ["above","met","found","start","climbed","name"] ["above"] (aC cZ):=⟨rfl,rfl,rfl,by decide+kernel,rfl,by decide+kernel,by decide+kernel⟩
set_option maxHeartbeats 4000000 in
theorem yA (T:Txt K mg fs fds tc u):bB P w K mg base d8 1 (fs 0) (fds 0) ["above"] OQ:=by
 refine T.rF.F.ok dY (fun vs H Q E h=>?_) (fun cdv A outer s H vs Q E hr h=>?_)
 .obtain⟨d,ab,rfl,hd,nd,hl,q⟩:=h;rfl
 .obtain⟨d,ab,rfl,hd,nd,hl,q⟩:=h;refine⟨_,(aD (aQ (i:=1) dY.nd rfl (Or.inl rfl) e9)
   (aD (aQ (i:=2) dY.nd rfl (Or.inl rfl) (g8 aE))
   (aD (dB PassesOwn.never rfl (pC (pv 0)) (aO (i:=3) dY.nd rfl (Or.inl rfl)) (aD (aQ (i:=4) dY.nd rfl (Or.inl rfl) (g8 aE))
   (aD (aQ (i:=5) dY.nd rfl (Or.inl rfl) (pv 3))
   (aD (qX PassesOwn.never (PW.pt (n5 (bC kI (pv 5) g5 (dM _)) (kC (bC (Mr.pZ hr) (pv 5) (pv 1) (by rfl))))) (aD (eG (fD hr) (pv 1) (pv 5) (pv 3) rfl)
   (aD (gP (g4 K plainAttrs_list PySem.F.slot_list_append PySem.F.type_list_append d9 (pv 4) (aA (pv 5) aE)))
   (aK (aQ (i:=5) dY.nd rfl (Or.inl rfl) (nA (fD hr) (pv 0) (pv 5) ⟨rfl,by rfl,rfl,rfl⟩))))))
   (aK (fU (PW.pt (n5 (bC kI (pv 5) g5 (dM _)) (kC (bC B2 (bA (Mr.BE hr) (pv 1) (pv 5) (fun _ _=>rfl)) (pv 3) (dM _))))) (aK (gP (g4 K plainAttrs_list PySem.F.slot_list_append PySem.F.type_list_append d9 (pv 2) (aA (j6 (QU K) (pv 4) (mK (g4 K plainAttrs_list slot_list_index PySem.F.type_list_index (sS K) (pv 4) (aA (pv 5) aE))) nC) aE)))) cU))))))
   (aK (bF (pv 2)))))),?_⟩
  obtain⟨ep0,e0⟩:=hd;have nu:=wZ ab;refine aI ?_;walk_at "vc0"
  refine fun p hp=>?_
  refine aI ?_;walk_at "vc0"
  refine⟨zero_le _,fun f hf=>?_⟩;have s0:aG H (upd (upd H p (HO.dK [] 0)) f (.lst [])):=(aG.upd hp).trans (aG.upd hf);have npf:p≠f:=fun e=>by rw[e,aB]at hf;cases hf
  have hf0:H f=none:=by rw[aH npf.symm]at hf;exact hf
  refine aI ⟨_,rfl,d,bK ab,ep0,rfl,.inl (s0 _ _ e0),qW (fun i σ H'=>(∃F M us,HC ab H H' p f i F M us)/\∃v3 v4 v5,σ=[some (V.ref d),some (.ref p),some (.ref f),v3,v4,v5]) ⟨⟨[],[],[],s0,⟨0,by rw[aH npf];exact aB⟩,aB,.nil,le_refl _,Rg.Found.nil,nodup_nil,(fun _ h=>nomatch h),(fun _ h=>nomatch h),(fun _ h=>nomatch h)⟩,_,_,_,rfl⟩ (fun i σ H' _ ⟨⟨_,_,_,k⟩,_⟩=>.inl (k.s _ _ e0)) ?_ ?_⟩
  .rintro i kv σ H1 hkv ⟨⟨F,M,us,k⟩,v3,v4,v5,rfl⟩;obtain⟨st,hst0,e1,_⟩:=xW hkv;obtain⟨em,hM⟩:=id k.dm;have hu:=k.hu;have s1:=k.s;have hul:=k.pr.length;have hFi:=k.fi;rw[e1];have hti:=take_snoc hst0;have hstk:st∈ks ab:=mem_of_getElem? hst0;have hnst:st∉(ks ab).take i:=fun hm=>by
    have h1:((ks ab).take (i+1)).Nodup:=List.Nodup.sublist (take_sublist ..) nd;rw[hti]at h1;exact(nodup_append.mp h1).2.2 st hm st (by simp) rfl
   have hil:i<ab.length:=by
    have:=(List.getElem?_eq_some_iff.mp hst0).1;rwa[length_map]at this
   have hnp:∀{b:Addr},H1 b=none->b≠p/\b≠f:=fun h=>⟨fun e=>(by rw[e,hM]at h;cases h),fun e=>(by rw[e,hu]at h;cases h)⟩
   walk_at "vc0";refine aI ?_;walk_at "vc0"
   refine⟨zero_le _,fun c hc=>?_⟩;obtain⟨ncp,ncf⟩:=hnp hc;refine aI ?_;walk_at "vc0"
   have kt:aG H1 (upd H1 c (.lst [])):=aG.upd hc;have w0:y4 ab M M us p f c st (jB H1 p f) (upd H1 c (.lst [])) [] (some st):=⟨fun b o h=>kt _ _ (DR b o h),⟨em,kt _ _ hM⟩,kt _ _ hu,aB,C2.start rfl k.nd (fun x hx e=>by
    obtain⟨w,hw,e2⟩:=k.vl x hx;rw[e]at e2;cases e2;exact hnst hw),k.un,(fun y e=>by cases e;exact FD hstk),.inl rfl,fun _ _=>rfl⟩
   have hp2:jB H1 p f p=none:=if_pos (.inl rfl);have hc2:jB H1 p f c=none:=by rw[mM ncp ncf];exact hc
   have e02:jB H1 p f d=some (.dK (bK ab) ep0):=by
    rw[mM (aF e0 hp) (aF e0 hf0)];exact s1 _ _ e0
   refine aI (G4 e02 hp2 hc2 ncp ncf npf hl w0 fun l o M' H2 w ho=>?_);have hv:=w.val k.vl;rw[<-hti]at hv;cases o with
   |none=>
    walk_at "vc0";exact vE ⟨⟨F,M',us,k.end w hp hf0 (fun _ h=>nomatch h) hst0 hv⟩,_,rfl⟩
   | some y=>
    walk_at "vc0";obtain⟨em2,hM2⟩:=id w.dm;obtain⟨s',hs',e'⟩:=hv y (ho y rfl);refine uK ⟨p,bK M',.inr y,_,rfl,⟨em2,.inl hM2⟩,rfl,lY (ho y rfl),?_⟩;rw[e'];refine⟨rfl,DV (fun es=>?_) (fun es=>?_)⟩
    .have es:=V.str.inj es;subst es;have hy:y∈l:=(w.cl.met (ho y rfl)).elim (·.2) fun z=>absurd e' z.1
     obtain⟨pp,rr,el,hnpp⟩:=EI hy;refine⟨.inl ⟨us,bM.of w.hu⟩,.inl ⟨_,bM.of w.hc⟩,c,l,y,rfl,rfl,bM.of w.hc,hy,?_,_,rfl,_,bM.of w.hc,fun r hr=>⟨us,?_,iQ ?_,?_,_,rfl⟩⟩
     .have h5:(ks M').length=(ks M).length+l.length:=by rw[w.cl.km,length_append]
      have:=w.len;omega
     .rw[aH (aF w.hu hr)];exact w.hu
     .omega
     .rw[BU el hnpp];exact⟨_,_,_,k.ring w hp hf0 npf hy hst0 hv el hr⟩
    .have hy:y∈ks M:=(w.cl.met (ho y rfl)).elim (fun z=>absurd (by rw[e']at z;have:=Option.some.inj z.1;rw[this];rfl) es) (·.2);exact⟨⟨F,M',us,k.end w hp hf0 (fun z e=>by cases e;exact hy) hst0 hv⟩,_,rfl⟩
  .rintro σ H1 ⟨⟨F,M,us,k⟩,v3,v4,v5,rfl⟩;have hst:=k.st;rw[dU,show ab.length=(ks ab).length from(length_map ..).symm,take_length]at hst;have hFi:=k.fi;rw[dU]at hFi;walk_at "vc0";refine q f us F _ H1 k.s hf0 k.hu (L2.Paired.dP k.pr fun _ _ ⟨b,e,h,_⟩=>⟨b,e,h⟩) k.fd hst (by omega) fun R hR=>?_
   have h5:=k.un;have h6:=dX ((k.fd.ring R hR).nd) fun x hx=>h5 x (k.fd.sub R hR x hx)
   omega
theorem uF:aZ ["ties"] ["ties"] (aC cB):=⟨rfl,rfl,rfl,by decide+kernel,rfl,by decide+kernel,by decide+kernel⟩
set_option maxHeartbeats 4000000 in
theorem vJ (T:Txt K mg fs fds tc u):bB P w K mg base d8 1 (fs 1) (fds 1) ["ties"] E3:=by
 refine T.oZ.F.ok uF (fun vs H Q E h=>?_) (fun cdv A outer s H vs Q E hr h=>?_)
 .obtain⟨v,ab,rfl,hv,nd,hl,q⟩:=h;rfl
 .obtain⟨v,ab,rfl,hv,nd,hl,q⟩:=h;refine⟨_,(aK (bF (qU ["name","elder","reason"] 3 [] ["ties"] (aC cB) rfl rfl rfl (eK K (pv 0)) (by decide+kernel) (fun _=>(eX (n:=3) K rfl (aY (aO (i:=0) (show(["name","elder","reason"]:List Str).Nodup by decide+kernel) rfl (Or.inl rfl)) (aY (aO (i:=1) (show(["name","elder","reason"]:List Str).Nodup by decide+kernel) rfl (Or.inl rfl)) (aY (aO (i:=2) (show(["name","elder","reason"]:List Str).Nodup by decide+kernel) rfl (Or.inl rfl)) eW))))) (fun _=>dE) (fun _=>(pv 0)) (fun _=>(pv 1))))),?_⟩;obtain⟨t,us,rfl,ht,hp⟩:=hv;walk_at "vc0";refine⟨_,rfl,t,rfl,⟨us,bO.of ht⟩,fun l hl0=>p9 (bO.of ht) hp (·.1) (fun _ z v=>v=oV z.2) (fun σ=>∃o1 o2 o3,σ=[o1,o2,o3]) ⟨_,_,_,rfl⟩ hl0 (iQ (by omega)) nd (fun _ _ _ _ _ h=>h) ?_ (fun H2 kvs s2 hk pr=>q l H2 s2 hl0 (by rw[<-G7 pr];exact hk))⟩;rintro z u σ H2 kvs N hz' ⟨b,r,rfl,hb⟩ ⟨o1,o2,o3,rfl⟩ s2 hk hz hN;unfold kP;walk_at "vc2";exact⟨_,bO.of (s2 _ _ hb),rfl,_,_,rfl,_,_,rfl,_,_,rfl,rfl,kvs,hk,.inr z.1,rfl,hz,fun ep=>hN _ _ _ ep ⟨_,_,_,rfl⟩ (aG.refl _) rfl⟩
theorem cY:aZ ["above","found","start","passed","name","root","one"] ["above"] (aC dA):=⟨rfl,rfl,rfl,by decide+kernel,rfl,by decide+kernel,by decide+kernel⟩
set_option maxHeartbeats 4000000 in
theorem yG (T:Txt K mg fs fds tc u):bB P w K mg base d8 1 (fs 2) (fds 2) ["above"] LP:=by
 refine T.pM.F.ok cY (fun vs H Q E h=>?_) (fun cdv A outer s H vs Q E hr h=>?_)
 .obtain⟨d,ab,rfl,hd,nd,hl,hcl,hac,q⟩:=h;rfl
 .obtain⟨d,ab,rfl,hd,nd,hl,hcl,hac,q⟩:=h;refine⟨_,(aD (aQ (i:=1) cY.nd rfl (Or.inl rfl) e9)
   (aD (dB PassesOwn.never rfl (pC (pv 0)) (aO (i:=2) cY.nd rfl (Or.inl rfl)) (aD (aQ (i:=3) cY.nd rfl (Or.inl rfl) (g8 aE))
   (aD (aQ (i:=4) cY.nd rfl (Or.inl rfl) (pv 2))
   (aD (qX PassesOwn.never (PW.pt (n5 (bC (Mr.pZ hr) (pv 4) (pv 1) (by rfl)) (kC (bC kI (bA (Mr.BE hr) (pv 0) (pv 4) (fun _ _=>rfl)) g5 (dM _))))) (aD (gP (g4 K plainAttrs_list PySem.F.slot_list_append PySem.F.type_list_append d9 (pv 3) (aA (pv 4) aE)))
   (aK (aQ (i:=4) cY.nd rfl (Or.inl rfl) (bA (Mr.BE hr) (pv 0) (pv 4) (fun _ _=>rfl))))))
   (aD (aQ (i:=5) cY.nd rfl (Or.inl rfl) (wD (fD hr) (pv 1) (pv 4) (pv 4) ⟨rfl,by rfl,rfl,rfl⟩))
   (aD (eG (fD hr) (pv 1) (pv 4) (pv 5) rfl)
   (aK (dB PassesOwn.never rfl (j7 K (pv 3)) (aO (i:=6) cY.nd rfl (Or.inl rfl)) (aK (eG (fD hr) (pv 1) (pv 6) (pv 5) rfl))))))))))
   (aK (bF (pv 1))))),?_⟩
  obtain⟨ep0,e0⟩:=hd;refine aI ?_;walk_at "vc0"
  refine fun p hp=>?_
  have s0:=aG.upd (o:=.dK [] 0) hp;have ep:upd H p (.dK [] 0) p=some (.dK [] 0):=aB;generalize upd H p (.dK [] 0)=H0 at s0 ep⊢
  have b0:eO p H H0:=fun b o h _=>s0 b o h
  refine aI ⟨_,rfl,d,bK ab,ep0,rfl,.inl (s0 _ _ e0),qW (fun i σ H'=>eO p H H'/\(∃rt,bY H' p (bK rt)/\(ks rt).Nodup/\(∀x∈(ks ab).take i,x∈ks rt)/\(∀x∈ks rt,x∈ks ab/\∃r∈ks ab,aS rt x=some r/\Top (aS ab) x r))/\∃v2 v3 v4 v5 v6,σ=[some (V.ref d),some (V.ref p),v2,v3,v4,v5,v6]) ⟨b0,⟨[],⟨0,ep⟩,nodup_nil,(fun x h=>by simp at h),(fun _ h=>nomatch h)⟩,_,_,_,_,_,rfl⟩ (fun i σ H' _ ⟨b,_⟩=>.inl (b _ _ e0 (aF e0 hp))) ?_ ?_⟩
  .rintro i kv σ H1 hkv ⟨b1,⟨rt,⟨e1,hr⟩,ndr,hst,hrt⟩,v2,v3,v4,v5,v6,rfl⟩;obtain⟨st,hst0,ek,_⟩:=xW hkv;rw[ek];have hstk:st∈ks ab:=mem_of_getElem? hst0;have hti:=take_snoc hst0;have hd1:=b1 _ _ e0 (aF e0 hp);walk_at "vc0";refine aI ?_;walk_at "vc0"
   refine⟨zero_le _,fun c hc=>?_⟩;have hcp:c≠p:=(aF hr hc).symm;have hcd:c≠d:=(aF hd1 hc).symm;have s2:=aG.upd (o:=.lst []) hc;have ec:upd H1 c (.lst []) c=some (.lst (([]:List Str).map V.str)):=aB;have hr2:=s2 _ _ hr;have hd2:=s2 _ _ hd1;have hb2:∀b o,H1 b=some o->b≠c->upd H1 c (.lst []) b=some o:=fun b o h _=>s2 _ _ h
   generalize upd H1 c (.lst [])=H2 at ec hr2 hd2 hb2⊢
   refine aI ?_;walk_at "vc0"
   refine aI (yB (fun σ H'=>∃l y,σ=[some (V.ref d),some (V.ref p),some (.str st),some (.ref c),some (.str y),v5,v6]/\H' c=some (.lst (l.map V.str))/\(∀b o,H1 b=some o->b≠c->H' b=some o)/\l.Nodup/\y∉l/\(∀z∈l,z∈ks ab)/\y∈ks ab/\(st=y\/ st∈l)/\∀z∈l,∃k,Rg.cJ (aS ab) (k+1) z=some y) (fun σ H'=>match H' c with|some (.lst us)=>ab.length - us.length|_=>0) ⟨[],st,rfl,ec,hb2,nodup_nil,(fun h=>nomatch h),(fun _ h=>nomatch h),hstk,.inl rfl,fun _ h=>nomatch h⟩ ?_ ?_)
   .rintro σ H3 ⟨l,y,rfl,hc3,b3,ndl,hyl,hlk,hyk,hst3,hgo⟩;have hd3:=b3 _ _ hd1 hcd.symm;have hr3:=b3 _ _ hr hcp.symm;have hlen:l.length+1<=(ks ab).length:=dX (xs:=y::l) (nodup_cons.mpr ⟨hyl,ndl⟩) fun z hz=>(mem_cons.mp hz).elim (fun e=>by rw[e];exact hyk) (hlk z)
    have hyv:bG (bK ab) (.inr y)=some (oV (aS ab y)):=lY hyk;walk_at "vc0";refine⟨p,bK rt,.inr y,rfl,⟨e1,.inl hr3⟩,rfl,_,rfl,?_⟩;refine L8 (P:=y∈ks rt\/ aS ab y=none) (fun hP=>?_) (fun hb=>?_) (fun _ fin=>⟨d,bK ab,.inr y,_,rfl,⟨ep0,.inl hd3⟩,rfl,hyv,?_⟩)
    .refine aI ?_;walk_at "vc3"
     obtain⟨r,hrk,htop,o,hog,hoe⟩:∃r∈ks ab,Top (aS ab) y r/\∃o,n6 H3 p (V.str y) o/\o.getD (V.str y)=V.str r:=by
      by_cases hy:y∈ks rt
      .obtain⟨_,r,hr1,hr2,htp⟩:=hrt y hy;exact⟨r,hr1,htp,some (.str r),.inl ⟨bK rt,.inr y,⟨e1,.inl hr3⟩,rfl,by rw[lY hy,hr2];rfl⟩,rfl⟩
      .exact⟨y,hyk,Top.self (hP.elim (fun h=>absurd h hy) id),none,.inl ⟨bK rt,.inr y,⟨e1,.inl hr3⟩,rfl,by rw[kE,find?_eq_none.mpr (fun z hz e=>hy (mem_map.mpr ⟨z,hz,of_decide_eq_true e⟩))];rfl⟩,rfl⟩
     refine⟨.inl ⟨_,e1,.inl hr3⟩,o,hog,?_⟩;rw[hoe];refine aI ?_;walk_at "vc1"
     have hrl:(ks rt).length<=(ks ab).length:=dX ndr fun x hx=>(hrt x hx).1
     have hkl:(ks ab).length<=60:=by unfold ks;rw[length_map];exact hl
     refine .inl ⟨bK rt,.inr y,⟨e1,hr3⟩,rfl,iQ (by rw[dU];unfold ks at hrl hkl;rw[length_map]at hrl;omega),fun ep4=>?_⟩;rw[show putK (bK rt) (.inr y) (V.str r)=bK (cD rt y (some r))from i9 rt y (some r)];obtain⟨nd4,hrt4⟩:=B1 ndr hrt hyk hrk htop;have b4:eO p H (upd H3 p (.dK (bK (cD rt y (some r))) ep4)):=fun b o h n=>by rw[aH n];exact b3 _ _ (b1 b o h n) (aF (b1 b o h n) hc)
     have hc4:upd H3 p (.dK (bK (cD rt y (some r))) ep4) c=some (.lst (l.map V.str)):=by rw[aH hcp];exact hc3
     have hp4:upd H3 p (.dK (bK (cD rt y (some r))) ep4) p=some (.dK (bK (cD rt y (some r))) ep4):=aB;generalize upd H3 p (.dK (bK (cD rt y (some r))) ep4)=H4 at b4 hc4 hp4⊢
     refine⟨_,rfl,c,rfl,⟨_,bM.of hc4⟩,yC (K:=K) (fun j σ H'=>eO p H H'/\H' c=some (.lst (l.map V.str))/\(∃rt',bY H' p (bK rt')/\(ks rt').Nodup/\(∀z∈ks rt',z∈ks ab/\∃w∈ks ab,aS rt' z=some w/\Top (aS ab) z w)/\(∀z∈ks rt,z∈ks rt')/\y∈ks rt'/\∀z∈l.take j,z∈ks rt')/\∃o,σ=[some (V.ref d),some (V.ref p),some (V.str st),some (V.ref c),some (V.str y),some (V.str r),o]) ⟨b4,hc4,⟨_,⟨ep4,hp4⟩,nd4,hrt4,fun z hz=>iU.mpr (.inl hz),iU.mpr (.inr rfl),fun z hz=>by simp at hz⟩,_,rfl⟩ (fun j σ H' _ ⟨_,h,_⟩=>bM.of h) ?_ ?_⟩
     .rintro j u σ H5 hu ⟨b5,hc5,⟨rt',⟨e5,h5⟩,nd5,hrt5,hsub5,hy5,ht5⟩,o,rfl⟩;obtain⟨z,hz,rfl⟩:=strAt hu;obtain⟨nd6,hrt6⟩:=B1 nd5 hrt5 (hlk z (mem_of_getElem? hz)) hrk (let⟨k,hk⟩:=hgo z (mem_of_getElem? hz);Top.of hk htop);have hrl5:(ks rt').length<=(ks ab).length:=dX nd5 fun x hx=>(hrt5 x hx).1
      walk_at "vc1";refine .inl ⟨bK rt',.inr z,⟨e5,h5⟩,rfl,iQ (by rw[dU];unfold ks at hrl5 hkl;rw[length_map]at hrl5;omega),fun ep6=>⟨fun b o h n=>by rw[aH n];exact b5 b o h n,by rw[aH hcp];exact hc5,⟨cD rt' z (some r),⟨ep6,?_⟩,nd6,hrt6,fun x hx=>iU.mpr (.inl (hsub5 x hx)),iU.mpr (.inl hy5),fun x hx=>?_⟩,_,rfl⟩⟩
      .rw[aB];exact congrArg (fun q=>some (HO.dK q ep6)) (i9 rt' z (some r))
      .rw[take_snoc hz]at hx;exact iU.mpr ((mem_append.mp hx).imp (ht5 x) mem_singleton.mp)
     .rintro σ H5 ⟨b5,hc5,⟨rt',h5,nd5,hrt5,hsub5,hy5,ht5⟩,o,rfl⟩;rw[length_map,take_length]at ht5;refine⟨b5,⟨rt',h5,nd5,fun x hx=>?_,hrt5⟩,_,_,_,_,_,rfl⟩;rw[hti]at hx;rcases mem_append.mp hx with h|h
      .exact hsub5 x (hst x h)
      .rw[mem_singleton.mp h];exact hst3.elim (fun e=>by rw[e];exact hy5) (ht5 st)
    .by_cases hy:y∈ks rt
     .exact .inl hy
     .rw[if_pos rfl,JB hy]at hb;cases hb
    .cases hu:aS ab y with
     |none=>exact jH (fin (.inr hu))
     | some w=>
      refine kM ?_;have e4:upd H3 c (.lst (l.map V.str++[.str y])) c=some (.lst ((l++[y]).map V.str)):=by rw[aB,map_append];rfl
      have b4:∀b o,H1 b=some o->b≠c->upd H3 c (.lst (l.map V.str++[.str y])) b=some o:=fun b o h n=>by rw[aH n];exact b3 b o h n
      have hd4:upd H3 c (.lst (l.map V.str++[.str y])) d=some (.dK (bK ab) ep0):=b4 _ _ hd1 hcd.symm;refine aI ?_;walk_at "vc0"
      refine⟨.inl ⟨_,bM.of hc3⟩,_,hc3,iQ (by rw[length_map];unfold ks at hlen;rw[length_map]at hlen;omega),?_⟩;refine⟨d,bK ab,.inr y,_,rfl,⟨ep0,.inl hd4⟩,rfl,hyv,⟨l++[y],w,by rw[hu];rfl,e4,b4,nodup_append.mpr ⟨ndl,by simp,fun a ha b hb e=>hyl (by rw[<-mem_singleton.mp hb,<-e];exact ha)⟩,fun hw=>?_,fun z hz=>?_,hcl y w hu,.inr ?_,fun z hz=>?_⟩,?_⟩
      .rcases mem_append.mp hw with h|h
       .obtain⟨k,hk⟩:=hgo w h;refine hac w ⟨k+1,?_⟩;rw[Rg.fB (k+1) 1,hk];show(aS ab y).bind (Rg.cJ (aS ab) 0)=some w;rw[hu];rfl
       .have e:=mem_singleton.mp h;subst e;exact hac w ⟨0,by show(aS ab w).bind (Rg.cJ (aS ab) 0)=some w;rw[hu];rfl⟩
      .rcases mem_append.mp hz with h|h
       .exact hlk z h
       .rw[mem_singleton.mp h];exact hyk
      .rcases hst3 with e|h
       .rw[e];simp
       .exact mem_append_left _ h
      .rcases mem_append.mp hz with h|h
       .obtain⟨k,hk⟩:=hgo z h;refine⟨k+1,?_⟩;rw[Rg.fB (k+1) 1,hk];show(aS ab y).bind (Rg.cJ (aS ab) 0)=some w;rw[hu];rfl
       .rw[mem_singleton.mp h];exact⟨0,by show(aS ab y).bind (Rg.cJ (aS ab) 0)=some w;rw[hu];rfl⟩
      .rw[e4,hc3];show ab.length - ((l++[y]).map V.str).length<ab.length - (l.map V.str).length;unfold ks at hlen;rw[length_map]at hlen;rw[length_map,length_map,length_append];show ab.length - (l.length+1)<_;omega
   .exact fun σ H Q Q' k ⟨v,hv,v2,hv2,a,kvs,kk,e1,e2,e3,c,ec,h⟩=>by
     refine⟨v,hv,v2,hv2,a,kvs,kk,e1,e2,e3,c,ec,?_⟩;cases c with
     |false=>exact jH (k _ _ (by rwa[if_neg Bool.false_ne_true]at h))
     |true=>
      rw[if_pos rfl]at h;obtain⟨v3,hv3,v4,hv4,a',kvs',k',w,f1,f2,f3,f4,f5,c2,ec2,h2⟩:=h;exact kM ⟨v3,hv3,v4,hv4,a',kvs',k',w,f1,f2,f3,f4,f5,c2,ec2,k _ _ h2⟩
  .rintro σ H1 ⟨b1,⟨rt,hr,ndr,hst,hrt⟩,v2,v3,v4,v5,v6,rfl⟩;rw[dU,show ab.length=(ks ab).length from(length_map ..).symm,take_length]at hst;walk_at "vc0";exact q p rt H1 (fun b o h=>b1 b o h (aF h hp)) hp hr ndr (fun x hx=>(hrt x (hst x hx)).2) fun x hx=>(hrt x hx).1
theorem nU:aZ ["letter","own","row"] ["letter"] (aC eC):=⟨rfl,rfl,rfl,by decide+kernel,rfl,by decide+kernel,by decide+kernel⟩
set_option maxHeartbeats 4000000 in
theorem C9 (T:Txt K mg fs fds tc u):bB P w K mg base d8 1 (fs 3) (fds 3) ["letter"] uV:=by
 refine T.nB.F.ok nU (fun vs H Q E h=>?_) (fun cdv A outer s H vs Q E hr h=>?_)
 .obtain⟨v,x,rfl,hL,q⟩:=h;rfl
 .obtain⟨v,x,rfl,hL,q⟩:=h;refine⟨_,(aD (aQ (i:=1) nU.nd rfl (Or.inr rfl) (bA (qE K) (pv 0) aJ (fun _ _=>rfl)))
   (aD (aQ (i:=2) nU.nd rfl (Or.inr rfl) (bA (qE K) (pv 0) aJ (fun _ _=>rfl)))
   (aK (bF (cE (rW K) (by rfl) T.dI d5 (aA (mR ["at","name","own","row"] 2 [1,2] ["letter","own","row"] (aC eC) rfl rfl rfl (vP K rfl T.dZ (aA (pv 2) aE)) (by decide+kernel) (fun _=>(eX (n:=2) K rfl (aY (aO (i:=0) (show(["at","name","own","row"]:List Str).Nodup by decide+kernel) rfl (Or.inl rfl)) (aY (aO (i:=1) (show(["at","name","own","row"]:List Str).Nodup by decide+kernel) rfl (Or.inl rfl)) eW)))) (fun _=>(vO (PW.pt (n5 (bC x6 (pv 1) (pv 2) (dM _)) (kC (bC (EF K) (pv 1) (j6 KS (pv 3) (mK (bR fT (pv 0) aJ)) nC) (by rfl))))))) (fun _=>(pv 1))) aE)))))),?_⟩
  obtain⟨t,r,rfl,ht,hr⟩:=hL.at';have hlr:=hL.ok.lr;have hml:(x.row.map V.str).length=x.row.length:=length_map ..;refine aI ?_;walk_at "vc0"
  refine⟨_,bO.of ht,_,DM,?_⟩;refine aI ?_;walk_at "vc0"
  refine⟨_,bO.of ht,_,dW (j:=3) rfl,?_⟩;refine⟨_,rfl,.inl ⟨r,_,rfl,bO.of hr,fun l hl0=>D1 (bO.of hr) (keepR x) (fun i=>.str (LK x i)) (fun σ=>∃o1 o2,σ=[o1,o2,some (.str x.n),some (.ref r)]) ⟨_,_,rfl⟩ hl0 (iQ (by omega)) ?_ ?_⟩⟩
  .rintro i u t2 σ H1 ys N hxi ⟨o1,o2,rfl⟩ s1 ht0 htl hz tl hN;obtain⟨e,he,rfl⟩:=strAt hxi;have eg:LK x i=e:=by unfold LK;rw[he];rfl
   have hr2:=aG.upd (o:=.tup [.int i,.str e]) ht0 _ _ (s1 _ _ hr);have et2:=aB (H:=H1) (a:=t2) (o:=.tup [.int i,.str e]);generalize upd H1 t2 (.tup [.int i,.str e])=H2 at hr2 et2 htl hN⊢
   unfold dD;walk_at "vc0";refine⟨_,bO.of et2,rfl,_,_,rfl,_,_,rfl,rfl,?_⟩;refine⟨rfl,?_⟩
   by_cases en:LK x i=x.n
   .have ep:keepR x i=false:=by unfold keepR;rw[decide_eq_true en];rfl
    rw[ep]at hN;rw[if_neg (by rw[decide_eq_true (by rw[<-eg,en])];decide)];exact hN _ _ ⟨_,_,rfl⟩ eO.refl (by rw[if_neg Bool.false_ne_true];exact htl)
   .rw[if_pos (by rw[decide_eq_false (fun z=>en (by rw[eg];exact V.str.inj z))];rfl)];refine⟨_,rfl,_,hr2,fun p H' s' hp'=>⟨_,.inr (bO.of hp'),rfl,?_,?_⟩⟩
    .rw[rE,<-map_drop];exact tP
    rw[rE,<-map_drop,BM];cases ec:(x.row.drop (i+1)).contains e with
    |true=>
     have ep:keepR x i=false:=by unfold keepR;rw[eg,ec,Bool.not_true,Bool.and_false]
     rw[ep]at hN;exact jH (hN _ _ ⟨_,_,rfl⟩ (eO.of s') (by rw[if_neg Bool.false_ne_true];exact s' _ _ htl))
    |false=>
     have ep:keepR x i=true:=by unfold keepR;rw[decide_eq_false en,eg,ec];rfl
     rw[ep]at hN;refine kM ⟨ys,s' _ _ htl,hz,?_⟩;exact hN _ _ ⟨_,_,rfl⟩ ((eO.of s').trans eO.upd) (by rw[if_pos rfl,aB,eg])
  .intro H1 s1 e1;walk_at "vc0";exact⟨_,bM.of e1,fun t2 ht2=>q t2 _ (s1.trans (aG.upd ht2)) (by rw[aB];unfold aR;rw[length_map,map_map];rfl)⟩
theorem jN:aZ ["pack","first","letter"] ["pack"] (aC dF):=⟨rfl,rfl,rfl,by decide+kernel,rfl,by decide+kernel,by decide+kernel⟩
set_option maxHeartbeats 4000000 in
theorem xF (T:Txt K mg fs fds tc u):bB P w K mg base d8 1 (fs 4) (fds 4) ["pack"] kB:=by
 refine T.fF.F.ok jN (fun vs H Q E h=>?_) (fun cdv A outer s H vs Q E hr h=>?_)
 .obtain⟨v,xs,rfl,⟨a,us,rfl,ha,hp,hl⟩,q⟩:=h;rfl
 .obtain⟨v,xs,rfl,⟨a,us,rfl,ha,hp,hl⟩,q⟩:=h;refine⟨_,(aD (aQ (i:=1) jN.nd rfl (Or.inl rfl) e9)
   (aD (dB PassesOwn.never rfl (eK K (pv 0)) (aO (i:=2) jN.nd rfl (Or.inl rfl)) (aK (fU (bC (Mr.pZ hr) (bA (qE K) (pv 2) aJ (fun _ _=>rfl)) (pv 1) (by rfl)) (aK (eG (fD hr) (pv 1) (bA (qE K) (pv 2) aJ (fun _ _=>rfl)) (pv 2) rfl)) cU)))
   (aK (bF (cE RP (by rfl) T.dI d5 (aA (JR (pv 1)) aE)))))),?_⟩
  refine aI ?_;walk_at "vc0"
  refine fun p hp0=>aI (AA ha hp hl hp0 fun kvs ep H1 v2 s1 h1 pr=>?_)
  walk_at "vc0";refine⟨⟨kvs,ep,.inl h1⟩,fun v hv=>⟨v,p,kvs,rfl,aB,⟨ep,.inl (by rw[aH (aF h1 hv)];exact h1)⟩,fun l hl=>?_⟩⟩;have s2:=(aG.upd (o:=JF v p) hv).trans (aG.upd (o:=.tup (kvs.map (·.2))) hl);exact q l _ _ (s1.trans s2) aB (tW.vals (L2.Paired.dP pr fun _ _ h=>h.same s2))
theorem iG:aZ ["held","rows","claimed","name","row","day","one","at"] ["held","rows","claimed","name"] (aC eR):=⟨rfl,rfl,rfl,by decide+kernel,rfl,by decide+kernel,by decide+kernel⟩
set_option maxHeartbeats 4000000 in
theorem CK (T:Txt K mg fs fds tc u):bB P w K mg base d8 1 (fs 8) (fds 8) ["held","rows","claimed","name"] KZ:=by
 refine T.xN.F.ok iG (fun vs H Q E h=>?_) (fun cdv A outer s H vs Q E hr h=>?_)
 .obtain⟨h,r,c,n,hm,S,kr,kc,C,rfl,hh,hr1,hR,ndS,hc1,hC,aW,hcl,q⟩:=h;rfl
 .obtain⟨h,r,c,n,hm,S,kr,kc,C,rfl,hh,hr1,hR,ndS,hc1,hC,aW,hcl,q⟩:=h;refine⟨_,(aD (fU (bC (Mr.inD hr) (pv 3) (pv 0) (by rfl)) (aK (bF (cH (aA (bA (Mr.BE hr) (pv 0) (pv 3) (fun _ _=>rfl)) (aA (cH (aA bP aE)) aE))))) cU)
   (aD (fU (bC (Mr.inD hr) (pv 3) (pv 1) (by rfl)) (aD (aQ (i:=4) iG.nd rfl (Or.inl rfl) (bA (Mr.BE hr) (pv 1) (pv 3) (fun _ _=>rfl)))
   (aK (bF (yI (w6 (pv 4) (fun _=>rfl)) (cH (aA (bA (qE K) (pv 4) (PZ NX aJ) (fun _ _=>rfl)) (aA (cH (aA bP aE)) aE))) (cH (aA g5 (aA (cH (aA bP aE)) aE))))))) cU)
   (aD (fU (bC (Mr.inD hr) (pv 3) (pv 2) (by rfl)) (aD (vD (bN (Mr.JU K hr) (by rfl) T.mU rG (aA (bA (Mr.BE hr) (pv 2) (pv 3) (fun _ _=>rfl)) aE)) (eX (n:=3) K rfl (aY (aO (i:=5) iG.nd rfl (Or.inl rfl)) (aY (aO (i:=6) iG.nd rfl (Or.inl rfl)) (aY (aO (i:=7) iG.nd rfl (Or.inl rfl)) eW)))))
   (aK (bF (cH (aA (bA (qE K) (bA (Mr.BE hr) (pv 1) (pv 6) (fun _ _=>rfl)) (bR L4 (pv 7) aJ) (fun _ _=>rfl)) (aA (cH (aA bP (aA (pv 6) (aA (pv 7) aE)))) aE)))))) cU)
   (aK (bF (cH (aA g5 (aA (cH (aA bP aE)) aE)))))))),?_⟩
  obtain⟨eh,heh⟩:=hh;obtain⟨er,her⟩:=hr1;obtain⟨ec,hec⟩:=hc1;refine aI ?_;walk_at "vc0"
  refine⟨h,bK hm,.inr n,rfl,⟨eh,.inl heh⟩,rfl,_,rfl,?_⟩;rw[if_neg Bool.false_ne_true,nN]
  by_cases hn:n∈ks hm
  .rw[decide_eq_true hn];exact kM ⟨h,bK hm,.inr n,_,rfl,⟨eh,.inl heh⟩,rfl,lY hn,lK (by decide),fun t1 ht1=>⟨lK (by decide),fun t2 ht2=>q t2 _ (aS hm n) _ ((aG.upd ht1).trans (aG.upd ht2)) aB (.inl ⟨hn,rfl⟩)⟩⟩
  rw[decide_eq_false hn];refine jH ?_;have last:∀(H':Hp) (_:aG H H'),(∀y∈S,y.n≠n)->(∀c,¬lP S n c)->∀t1 (_:H' t1=none) (a:V) t2 (_:upd H' t1 (.tup [a]) t2=none),Q (.ref t2) (upd (upd H' t1 (.tup [a])) t2 (.tup [.aU,.ref t1])):=fun H' s' h1 h2 t1 ht1 a t2 ht2=>
   q t2 _ none _ ((s'.trans (aG.upd ht1)).trans (aG.upd ht2)) aB (.inr ⟨hn,.inr ⟨h1,.inr ⟨h2,rfl⟩⟩⟩)
  refine aI ?_;walk_at "vc0"
  rcases uM (n:=n) hR with⟨hv,hno⟩|⟨y,hy,en,tr,hv,htr⟩
  .refine⟨r,kr,.inr n,rfl,⟨er,.inl her⟩,rfl,_,rfl,?_⟩;rw[if_neg Bool.false_ne_true,hv];refine jH ?_;refine aI ?_;walk_at "vc0";rcases BI (n:=n) hC with⟨hcv,hcno⟩|⟨z,hz,ez,lv,hcv,l,us,rfl,hl,hcs⟩
   .refine⟨c,kc,.inr n,rfl,⟨ec,.inl hec⟩,rfl,_,rfl,?_⟩;rw[if_neg Bool.false_ne_true,hcv];refine jH ⟨lK (by decide),fun t1 h1=>⟨lK (by decide),fun t2 h2=>last H (aG.refl _) hno (fun cc hcc=>?_) t1 h1 _ t2 h2⟩⟩;obtain⟨z,hz,e,_⟩:=aW.all n cc hcc;exact hcno z hz e
   .refine⟨c,kc,.inr n,rfl,⟨ec,.inl hec⟩,rfl,_,rfl,?_⟩;rw[if_neg Bool.false_ne_true,hcv];refine kM ?_;have hlz:=hcs.length;have hz0:0<z.2.length:=List.length_pos_iff.mpr (aW.ne z hz);refine aI ?_;walk_at "vc0"
    refine⟨c,kc,.inr n,_,rfl,⟨ec,.inl hec⟩,rfl,hcv,l,us,z.2.map i7,rfl,bM.of hl,(EW hcs).rep,by rw[length_map];exact hz0,BD z.2,?_⟩;have hle:=Mr.gJ (Mr.xB (z.2.map i7)) ((z.2.map i7).length - 1);have hmin:=Mr.AR (ps:=z.2.map i7) (k:=(z.2.map i7).length - 1) (by rw[length_map];omega);generalize argBest (Mr.xB (z.2.map i7)) ((z.2.map i7).length - 1)=j at hle hmin⊢
    rw[length_map]at hle hmin;have hjl:j<us.length:=by omega
    have huj:us[j]? =some us[j]:=getElem?_eq_getElem hjl;obtain⟨cj,hcj,b,eb,hb⟩:=L2.Paired.jI hcs huj;rw[getD_eq_getElem?_getD,huj,eb];obtain⟨y,hy,e1,e2,e3,e4⟩:=aW.sd z hz cj (mem_of_getElem? hcj);obtain⟨i,hi⟩:∃i,cj.2.2=i+1:=⟨cj.2.2 - 1,by omega⟩;rw[hi]at e4;have hil:i<(aR y).length:=by have:=(List.getElem?_eq_some_iff.mp e4).1;omega
    have hei:(aR y)[i]? =some (aR y)[i]:=getElem?_eq_getElem hil;rcases uM (n:=cj.2.1) hR with⟨_,hno2⟩|⟨y',hy',en',tr,hv2,htr⟩
    .exact absurd e2.symm (hno2 y hy)
    have ey:y'=y:=iY ndS hy' hy (by rw[en',e2]);subst ey;refine⟨b,rfl,_,bO.of hb,rfl,_,_,rfl,_,_,rfl,_,_,rfl,rfl,r,kr,.inr cj.2.1,.ref tr,rfl,⟨er,.inl her⟩,rfl,hv2,_,rfl,tr,rfl,_,bO.of htr,.str (aR y')[i],?_,lK (by decide),fun t1 h1=>⟨lK (by decide),fun t2 h2=>q t2 _ (some (aR y')[i]) _ ((aG.upd h1).trans (aG.upd h2)) aB (.inr ⟨hn,.inr ⟨hno,.inl ⟨y',hy,i,by rw[<-ez];exact e4,hei.symm,fun cc hcc=>?_⟩⟩⟩)⟩⟩
    .rw[hi,show(((i+1:Nat):Int) - 1)=(i:Int) by omega];exact dW (by rw[getElem?_map,hei];rfl)
    .obtain⟨z',hz',ez',hcz'⟩:=aW.all n cc hcc;have e5:z'=z:=iY aW.nd hz' hz (by rw[ez',ez]);subst e5;obtain⟨ix,hix⟩:=getElem?_of_mem hcz';have hixl:=(List.getElem?_eq_some_iff.mp hix).1;have h3:=hmin ix (by omega);have g1:(z'.2.map i7).getD j .aU=i7 cj:=by rw[getD_eq_getElem?_getD,getElem?_map,hcj];rfl
     have g2:(z'.2.map i7).getD ix .aU=i7 cc:=by rw[getD_eq_getElem?_getD,getElem?_map,hix];rfl
     rw[g1,g2]at h3;have g3:i7 (y'.d,y'.n,i+1)=i7 cj:=by unfold i7;rw[e1,e2,hi]
     rw[g3];exact h3
  .refine⟨r,kr,.inr n,rfl,⟨er,.inl her⟩,rfl,_,rfl,?_⟩;rw[if_neg Bool.false_ne_true,hv];refine kM ?_;refine aI ?_;walk_at "vc0"
   refine⟨r,kr,.inr n,_,rfl,⟨er,.inl her⟩,rfl,hv,_,.inr (.inl ⟨_,bO.of htr,rfl⟩),?_⟩;rcases List.eq_nil_or_concat (aR y)with h0|⟨l',w,h0⟩
   .rw[h0];exact jH ⟨lK (by decide),fun t1 h1=>⟨lK (by decide),fun t2 h2=>q t2 _ none _ ((aG.upd h1).trans (aG.upd h2)) aB (.inr ⟨hn,.inl ⟨y,hy,en,by rw[h0];rfl⟩⟩)⟩⟩
   .rw[List.concat_eq_append]at h0;have hne:(!((aR y).map V.str).isEmpty)=true:=by rw[h0,map_append];cases l'.map V.str<;>rfl
    rw[hne];exact kM ⟨tr,rfl,_,bO.of htr,.str w,by rw[h0,map_append];exact IS,lK (by decide),fun t1 h1=>⟨lK (by decide),fun t2 h2=>q t2 _ (some w) _ ((aG.upd h1).trans (aG.upd h2)) aB (.inr ⟨hn,.inl ⟨y,hy,en,by rw[h0];simp⟩⟩)⟩⟩
theorem lX:aZ ["ring","held","days","free","empty"] ["ring","held","days"] (aC cI):=⟨rfl,rfl,rfl,by decide+kernel,rfl,by decide+kernel,by decide+kernel⟩
set_option maxHeartbeats 4000000 in
theorem zF (T:Txt K mg fs fds tc u):bB P w K mg base d8 1 (fs 11) (fds 11) ["ring","held","days"] LV:=by
 refine T.sT.F.ok lX (fun vs H Q E h=>?_) (fun cdv A outer s H vs Q E hr h=>?_)
 .obtain⟨a,hd,dy,R,hk,kd,S,rfl,ha,hl,hhd,hkl,hdy,hS,hSl,ndS,hfree,q⟩:=h;rfl
 .obtain⟨a,hd,dy,R,hk,kd,S,rfl,ha,hl,hhd,hkl,hdy,hS,hSl,ndS,hfree,q⟩:=h;refine⟨_,(aD (xR (i:=3) ["name","held"] 1 [1] ["ring","held","days","free","empty"] (aC cI) rfl rfl rfl lX.nd rfl rfl (j7 K (pv 0)) (by decide+kernel) (fun _=>(aO (i:=0) (show(["name","held"]:List Str).Nodup by decide+kernel) rfl (Or.inl rfl))) (fun _=>(vO (bC (Mr.pZ hr) (pv 0) (pv 1) (by rfl)))) (fun _=>(pv 0)))
   (aD (xR (i:=4) ["name","days"] 1 [2] ["ring","held","days","free","empty"] (aC cI) rfl rfl rfl lX.nd rfl rfl (j7 K (pv 3)) (by decide+kernel) (fun _=>(aO (i:=0) (show(["name","days"]:List Str).Nodup by decide+kernel) rfl (Or.inl rfl))) (fun _=>(vO (bC (Mr.pZ hr) (pv 0) (pv 1) (by rfl)))) (fun _=>(pv 0)))
   (aD (fU (w6 (pv 4) (fun _=>rfl)) (aK (bF (bN (Mr.JU K hr) (by rfl) T.mU rG (aA (pv 4) aE)))) cU)
   (aK (bF (bA (qE K) (bN (Mr.JU K hr) (by rfl) T.mU rG (aA (mR ["name","days"] 1 [2] ["ring","held","days","free","empty"] (aC cI) rfl rfl rfl (j7 K (pv 3)) (by decide+kernel) (fun _=>(aO (i:=0) (show(["name","days"]:List Str).Nodup by decide+kernel) rfl (Or.inl rfl))) (fun _=>dE) (fun _=>(cH (aA (bA (Mr.BE hr) (pv 1) (pv 0) (fun _ _=>rfl)) (aA (pv 0) aE))))) aE)) aJ (fun _ _=>rfl))))))),?_⟩
  obtain⟨eh,ehd⟩:=hhd;obtain⟨ed,edy⟩:=hdy;obtain⟨x0,hx0,hx1⟩:=hfree;refine aI ?_;walk_at "vc0"
  refine⟨_,rfl,a,rfl,⟨_,bM.of ha⟩,fun l1 hl1=>iN (bM.of ha) (fun n=>!decide (n∈hk)) (fun _ n v=>v=V.str n) (fun σ=>∃o,σ=[o,some (.ref hd)]) ⟨_,rfl⟩ hl1 (iQ (by omega)) (fun _ _ _ _ _ h=>h) ?_ ?_⟩
  .rintro n σ H1 ys N hn ⟨o,rfl⟩ s1 e1 hz hN1 hN2;unfold dD;walk_at "vc0";refine⟨hd,lA hk,.inr n,rfl,⟨eh,.inl (s1 _ _ ehd)⟩,rfl,?_⟩;refine⟨_,rfl,?_⟩;rw[if_pos rfl,zL];cases e:(!decide (n∈hk))with
   |false=>exact jH (hN1 e _ ⟨_,rfl⟩)
   |true=>exact kM ⟨ys,e1,hz,hN2 e _ _ _ ⟨_,rfl⟩ (aG.refl _) rfl⟩
  .intro H1 ys s1 hpr e1;have ey:=lU hpr;subst ey;have hFl:=length_filter_le (fun n=>!decide (n∈hk)) R;have hFr:∀n∈R.filter (fun n=>!decide (n∈hk)),n∈R:=fun n h=>(mem_filter.mp h).1
   have hFm:∀n,n∈R.filter (fun n=>!decide (n∈hk))↔n∈R/\n∉hk:=fun n=>by rw[mem_filter];simp
   have hF0:x0∈R.filter (fun n=>!decide (n∈hk)):=mem_filter.mpr ⟨hx0,by simp[hx1]⟩;generalize R.filter (fun n=>!decide (n∈hk))=F at e1 hFl hFr hF0 hFm;refine aI ?_;walk_at "vc0"
   refine⟨_,rfl,l1,rfl,⟨_,bM.of e1⟩,fun l2 hl2=>iN (bM.of e1) (fun n=>(bG kd (.inr n)).isNone) (fun _ n v=>v=V.str n) (fun σ=>∃o,σ=[o,some (.ref dy)]) ⟨_,rfl⟩ hl2 (iQ (by omega)) (fun _ _ _ _ _ h=>h) ?_ ?_⟩
   .rintro n σ H2 ys N hn ⟨o,rfl⟩ s2 e2 hz hN1 hN2;unfold dD;walk_at "vc0";refine⟨dy,kd,.inr n,rfl,⟨ed,.inl (s2 _ _ (s1 _ _ edy))⟩,rfl,?_⟩;refine⟨_,rfl,?_⟩;rw[if_pos rfl];cases e:bG kd (.inr n)with
    |some v=>exact jH (hN1 (by rw[e];rfl) _ ⟨_,rfl⟩)
    |none=>exact kM ⟨ys,e2,hz,hN2 (by rw[e];rfl) _ _ _ ⟨_,rfl⟩ (aG.refl _) rfl⟩
   .intro H2 ys s2 hpr e2;have ey:=lU hpr;subst ey;have hEl:=length_filter_le (fun n=>(bG kd (.inr n)).isNone) F;have hEr:∀n∈F.filter (fun n=>(bG kd (.inr n)).isNone),n∈R:=fun n h=>hFr n (mem_filter.mp h).1
    have hEm:∀n,n∈F.filter (fun n=>(bG kd (.inr n)).isNone)↔(n∈R/\n∉hk)/\∀y∈S,y.n≠n:=fun n=>by rw[mem_filter,hFm,Option.isNone_iff_eq_none,xE hS]
    have hE0:F.filter (fun n=>(bG kd (.inr n)).isNone)=[]->∀n∈F,∃v,bG kd (.inr n)=some v:=fun h n hn=>by
     cases e:bG kd (.inr n)with
     |some v=>exact⟨v,rfl⟩
     |none=>exact absurd e (by have:=List.filter_eq_nil_iff.mp h n hn;rw[e]at this;exact absurd rfl this)
    generalize F.filter (fun n=>(bG kd (.inr n)).isNone)=E at e2 hEl hEr hE0 hEm;refine aI ?_;walk_at "vc0"
    refine⟨_,.inl ⟨_,bM.of e2,rfl⟩,?_⟩;cases E with
    |cons n0 E=>
     refine kM ?_;refine⟨l2,_,_,rfl,bM.of e2,(vT (n0::E)).rep,by simp,xS (n0::E),?_⟩;have hle:=Mr.gJ (Mr.xB ((n0::E).map Mr.PV.str)) (((n0::E).map Mr.PV.str).length - 1);have hmin:=fun q hq=>Mr.lQ (ps:=(n0::E).map Mr.PV.str) (q:=q) hq
     unfold Mr.JS at hmin;generalize argBest (Mr.xB ((n0::E).map Mr.PV.str)) (((n0::E).map Mr.PV.str).length - 1)=j at hle hmin⊢
     rw[length_map]at hle;have hjl:j<(n0::E).length:=by have:(n0::E).length=E.length+1:=rfl;omega
     rw[getD_eq_getElem?_getD,getElem?_map,getElem?_eq_getElem hjl];have hjm:=(hEm _).mp (getElem_mem hjl);refine q _ H2 (s1.trans s2) ⟨hjm.1.1,hjm.1.2,.inl ⟨hjm.2,fun x hx hk' hno=>?_⟩⟩;have h1:=hmin (.str x) (mem_map.mpr ⟨x,(hEm x).mpr ⟨⟨hx,hk'⟩,hno⟩,rfl⟩);rw[getD_eq_getElem?_getD,getElem?_map,getElem?_eq_getElem hjl]at h1;exact PY h1
    | nil=>
     refine jH ?_;have hv:=hE0 rfl;refine⟨_,rfl,l1,rfl,⟨_,bM.of (s2 _ _ e1)⟩,fun l3 hl3=>iN (bM.of (s2 _ _ e1)) (fun _=>true) (fun H n v=>∃b d,v= .ref b/\H b=some (.tup [.int d,.str n])/\∃y∈S,y.n=n/\y.d=d) (fun σ=>∃o,σ=[o,some (.ref dy)]) ⟨_,rfl⟩ hl3 (iQ (by omega)) (fun _ _ _ _ k ⟨b,d,e,h,m⟩=>⟨b,d,e,k _ _ h,m⟩) ?_ ?_⟩
     .rintro n σ H3 ys N hn ⟨o,rfl⟩ s3 e3 hz hN1 hN2;obtain⟨v,hnv⟩:=hv n hn;rcases iV (n:=n) hS with⟨h0,_⟩|⟨y,hy,ey,hyv⟩
      .rw[h0]at hnv;cases hnv
      unfold dD;walk_at "vc2";refine⟨dy,kd,.inr n,_,rfl,⟨ed,.inl (s3 _ _ (s2 _ _ (s1 _ _ edy)))⟩,rfl,hyv,lK (by decide),fun t ht=>⟨ys,aG.upd ht _ _ e3,hz,hN2 rfl _ _ _ ⟨_,rfl⟩ (aG.upd ht) ⟨t,y.d,rfl,aB,y,hy,ey,rfl⟩⟩⟩
     .intro H3 ys s3 hpr e3;rw[show F.filter (fun _=>true)=F from filter_eq_self.mpr (by simp)]at hpr;obtain⟨cs,hcs,htr,hcv⟩:=EG hpr;refine⟨l3,ys,_,rfl,bM.of e3,htr.rep,?_,yS cs,?_⟩
      .rw[length_map,<-length_map (f:=fun z:Int×Str=>z.2),hcs];exact length_pos_of_mem hF0
      have hcl:cs.length=F.length:=by rw[<-hcs,length_map]
      have hFp:0<F.length:=length_pos_of_mem hF0;have hyl:=hpr.length;have hle:=Mr.gJ (Mr.xB (cs.map sA)) ((cs.map sA).length - 1);have hmin:=fun q hq=>Mr.lQ (ps:=cs.map sA) (q:=q) hq
      unfold Mr.JS at hmin;generalize argBest (Mr.xB (cs.map sA)) ((cs.map sA).length - 1)=j at hle hmin⊢
      rw[length_map]at hle;have hjl:j<ys.length:=by omega
      have huj:ys[j]? =some ys[j]:=getElem?_eq_getElem hjl;obtain⟨n,hnj,b,d,eb,hb,y,hy,ey,ed'⟩:=L2.Paired.jI hpr huj;rw[getD_eq_getElem?_getD,huj,eb];refine⟨b,rfl,_,bO.of hb,_,dW (j:=1) rfl,q n H3 ((s1.trans s2).trans s3) ?_⟩;have hnF:=(hFm n).mp (mem_of_getElem? hnj);have hjc:j<cs.length:=by omega
      have hcj:cs[j]=(y.d,n):=hcv j n y hnj hjc hy ey ndS;refine⟨hnF.1,hnF.2,.inr ⟨fun x hx hk'=>?_,y,hy,ey,fun z hz hzR hzk=>?_⟩⟩
      .obtain⟨v,e⟩:=hv x ((hFm x).mpr ⟨hx,hk'⟩);rcases iV (n:=x) hS with⟨h0,_⟩|⟨y,hy,ey,_⟩
       .rw[h0]at e;cases e
       .exact⟨y,hy,ey⟩
      .have hzF:=(hFm z.n).mpr ⟨hzR,hzk⟩;obtain⟨i,hi⟩:=getElem?_of_mem hzF;have hil:=(List.getElem?_eq_some_iff.mp hi).1;have hic:i<cs.length:=by omega
       have hci:=hcv i z.n z hi hic hz rfl ndS;have h1:=hmin (sA cs[i]) (mem_map.mpr ⟨_,getElem_mem hic,rfl⟩);rw[getD_eq_getElem?_getD,getElem?_map,getElem?_eq_getElem hjc]at h1;have h2:=LQ (a:=cs[j]) (b:=cs[i]) h1;rwa[hcj,hci]at h2
theorem kW:aZ ["ring","name","at"] ["ring","name"] (aC bX):=⟨rfl,rfl,rfl,by decide+kernel,rfl,by decide+kernel,by decide+kernel⟩
set_option maxHeartbeats 4000000 in
theorem sM (T:Txt K mg fs fds tc u):bB P w K mg base d8 1 (fs 12) (fds 12) ["ring","name"] OT:=by
 refine T.m7.F.ok kW (fun vs H Q E h=>?_) (fun cdv A outer s H vs Q E hr h=>?_)
 .obtain⟨a,R,c,rfl,ha,hc,hl,q⟩:=h;rfl
 .obtain⟨a,R,c,rfl,ha,hc,hl,q⟩:=h;refine⟨_,(aD (aQ (i:=2) kW.nd rfl (Or.inl rfl) (g4 K plainAttrs_list slot_list_index PySem.F.type_list_index (sS K) (pv 0) (aA (pv 1) aE)))
   (aK (bF (cE (rW K) (by rfl) T.dI d5 (aA (bR NQ (j6 (QU K) (pv 0) (mK (pv 2)) nC) (j6 (QU K) (pv 0) nC (mK (pv 2)))) aE))))),?_⟩
  obtain⟨pp,rr,el,hn⟩:=My.EI hc;refine aI ?_;walk_at "vc0"
  refine⟨.inl ⟨_,bM.of ha⟩,a,R,c,rfl,rfl,bM.of ha,hc,by omega,_,rfl,_,bM.of ha,fun p hp=>?_⟩;rw[BU el hn];have e0:upd H p (.lst ((c::rr).map V.str)) p=some (.lst ((c::rr).map V.str)):=aB;have s0:=aG.upd (o:=.lst ((c::rr).map V.str)) hp;generalize upd H p (.lst ((c::rr).map V.str))=H1 at e0 s0⊢
  refine⟨_,rfl,_,bM.of (s0 _ _ ha),fun p1 hp1=>?_⟩;rw[show iM (R.map V.str) none (some ((R.idxOf c:Nat):Int))=(R.take (R.idxOf c)).map V.str by rw[FP,map_take]];have htl:(R.take (R.idxOf c)).length<=R.length:=by rw[length_take];omega
  have hRl:R.length=pp.length+(rr.length+1):=by rw[el];simp
  have hix:R.idxOf c=pp.length:=by rw[el,List.idxOf_append,if_neg hn,List.idxOf_cons_self,zero_add]
  have e1:=aG.upd (o:=.lst ((R.take (R.idxOf c)).map V.str)) hp1;refine⟨_,e1 _ _ e0,_,aB,lK (by simp;omega),fun p2 hp2=>⟨(c::rr).map V.str++(R.take (R.idxOf c)).map V.str,bM.of aB,fun l hl=>?_⟩⟩;have e3:=((s0.trans e1).trans (aG.upd (o:=.lst ((c::rr).map V.str++(R.take (R.idxOf c)).map V.str)) hp2)).trans (aG.upd (o:=.tup ((c::rr).map V.str++(R.take (R.idxOf c)).map V.str)) hl);refine q l (rr++R.take (R.idxOf c)) _ e3 ?_ ?_
  .rw[aB,<-map_append];rfl
  .rw[hix,el];simp;omega
theorem dJ:aZ ["_law_script","_law_deep","_law_mixed","_law_k","_law_cell"] ["_law_script"] (aC cM):=⟨rfl,rfl,rfl,by decide+kernel,rfl,by decide+kernel,by decide+kernel⟩
set_option maxHeartbeats 4000000 in
theorem vK (T:Txt K mg fs fds tc u):bB P w K mg base d8 1 (fs 16) (fds 16) ["_law_script"] (B6 K):=by
 refine T.oF.F.ok dJ (fun vs H Q E h=>?_) (fun cdv A outer s H vs Q E hr h=>?_)
 .obtain⟨a,ns,rfl,hS,hl,q⟩:=h;rfl
 .obtain⟨a,ns,rfl,hS,hl,q⟩:=h;refine⟨_,(aD (vD (cH (aA aJ (aA aJ aE))) (eX (n:=2) K rfl (aY (aO (i:=1) dJ.nd rfl (Or.inl rfl)) (aY (aO (i:=2) dJ.nd rfl (Or.inl rfl)) eW))))
   (aD (dB PassesOwn.never rfl (vP K rfl T.dZ (aA (j6 (QU K) (pv 0) nC (mK aJ)) aE)) (eX (n:=2) K rfl (aY (aO (i:=3) dJ.nd rfl (Or.inl rfl)) (aY (aO (i:=4) dJ.nd rfl (Or.inl rfl)) eW))) (aD (fU (bC PD (pv 4) (bR vS aJ aJ) (dM _)) (aK (aQ (i:=1) dJ.nd rfl (Or.inl rfl) (bR fT (bR IW (pv 1) (bR vS aJ aJ)) (bR jM (pv 4) (bR vS aJ aJ))))) cU)
   (aK (aQ (i:=2) dJ.nd rfl (Or.inl rfl) (bR jM (bR fT (bR fT (bR fT (bR lZ (pv 2) aJ) (bR jM (pv 4) aJ)) (bR lZ aJ (pv 3))) aJ) aJ)))))
   (aK (bF (g8 (aA (pv 1) (aA (pv 2) (aA aJ aE)))))))),?_⟩
  refine aI ?_;walk_at "vc0"
  refine⟨by decide,fun p hp=>⟨_,bO.of aB,rfl,_,_,rfl,_,_,rfl,rfl,?_⟩⟩;have s0:=aG.upd (o:=.tup [V.int 0,V.int 17]) hp;obtain⟨ms,hms,hml⟩:∃ms:List Int,iM (ns.map V.int) none (some 63)=ms.map V.int/\ms.length<=63:=by
   have hlen:=j8 (ns.map V.int) none (some 63);rw[length_map]at hlen;have e:iM (ns.map V.int) none (some 63)=((ns.drop (HT.d4 (ns.map V.int).length 0 none)).take (HT.d4 (ns.map V.int).length (ns.map V.int).length (some 63) - HT.d4 (ns.map V.int).length 0 none)).map V.int:=by
    unfold iM;rw[map_take,map_drop]
   refine⟨_,e,?_⟩;rw[e,length_map]at hlen;omega
  refine aI ⟨_,rfl,63,rfl,a,_,rfl,hS.same s0,fun l hnl=>?_⟩;rw[hms];have s1:=aG.upd (o:=.lst (ms.map V.int)) hnl;have el:upd (upd H p (.tup [V.int 0,V.int 17])) l (.lst (ms.map V.int)) l=some (.lst (ms.map V.int)):=aB;generalize upd (upd H p (.tup [V.int 0,V.int 17])) l (.lst (ms.map V.int))=G at s1 el;refine .inr ⟨l,_,rfl,bM.of el,DZ (K:=K) (a:=l) (xs:=ms.map V.int) (fun i σ H'=>aG G H'/\∃(d mx:Int) (v3 v4:Option V),0<=d/\d<10^(60*i)/\0<=mx/\mx<2305843009213693951/\σ=[some (.ref a),some (.int d),some (.int mx),v3,v4]) ⟨aG.refl _,0,17,_,_,by decide,by decide,by decide,by decide,rfl⟩ (fun i σ H' _ ⟨s',_⟩=>bM.of (s' _ _ el)) ?_ ?_⟩
  .rintro i x t σ H1 hx ht ⟨s2,d,mx,v3,v4,d0,d1,x0,x1,rfl⟩;have hi:i<63:=by
    have:=(List.getElem?_eq_some_iff.mp hx).1;rw[length_map]at this;omega
   rw[getElem?_map]at hx;obtain⟨cell,hc,rfl⟩:=map_eq_some_iff.mp hx;have s3:=aG.upd (o:=.tup [V.int i,V.int cell]) ht;walk_at "vc0";refine⟨_,bO.of aB,rfl,_,_,rfl,_,_,rfl,rfl,?_⟩;have s23:=s2.trans s3;generalize upd H1 t (.tup [V.int i,V.int cell])=G1 at s23;refine aI ?_;walk_at "vc0"
   have dl:=IZ (cell:=cell) d0 d1;have m0:0<=(mx*40993+cell % 2305843009213693907+1009*(i:Int)+7) % 2305843009213693951:=emod_nonneg _ (by decide);have m1:(mx*40993+cell % 2305843009213693907+1009*(i:Int)+7) % 2305843009213693951<2305843009213693951:=emod_lt_of_pos _ (by decide);refine⟨by decide,by decide+kernel,DV (fun _=>⟨by decide,by decide+kernel,JH d0 d1 hi,by decide,by decide+kernel,LO,.inr ⟨by decide,by decide⟩,by decide,.inl ⟨by decide,by decide⟩,by decide,s23,_,dl.1.1,dl.1.2,_,m0,m1,rfl,rfl,_,rfl⟩) (fun _=>⟨.inr ⟨by decide,by decide⟩,by decide,.inl ⟨by decide,by decide⟩,by decide,s23,_,d0,dl.2,_,m0,m1,rfl,rfl,_,rfl⟩)⟩
  .rintro σ H1 ⟨s2,d,mx,v3,v4,d0,d1,x0,x1,rfl⟩;walk_at "vc0";exact⟨by decide,fun r hr'=>q r _ (by
    cases e:H r with
    |none=>rfl
    |some o=>rw[s2 _ _ (s1 _ _ (s0 _ _ e))]at hr';cases hr') ⟨d,mx,0,aB,d0,x0,x1,by decide,by decide⟩ ((((s0.trans s1).trans s2)).trans (aG.upd hr'))⟩
theorem gU:aZ ["_law_state","_law_many","_law_digit","_law_once"] ["_law_state","_law_many"] (aC dN):=⟨rfl,rfl,rfl,by decide+kernel,rfl,by decide+kernel,by decide+kernel⟩
set_option maxHeartbeats 4000000 in
theorem xO (T:Txt K mg fs fds tc u):bB P w K mg base d8 1 (fs 17) (fds 17) ["_law_state","_law_many"] DC:=by
 refine T.bW.F.ok gU (fun vs H Q E h=>?_) (fun cdv A outer s H vs Q E hr h=>?_)
 .obtain⟨p,n,c,rfl,hp,hc,hn0,hn,q⟩:=h;rfl
 .obtain⟨p,n,c,rfl,hp,hc,hn0,hn,q⟩:=h;refine⟨_,(aD (fU (bC FU (bA (D6 K) (pv 0) aJ (fun _ _=>rfl)) aJ (dM _)) (aD (aQ (i:=2) gU.nd rfl (Or.inl rfl) (bR jM (bA (D6 K) (pv 0) aJ (fun _ _=>rfl)) (pv 1)))
   (aD (vD (bR uN (bA (D6 K) (pv 0) aJ (fun _ _=>rfl)) (pv 1)) (HE (pv 0) aJ set_list))
   (aK (bF (pv 2))))) cU)
   (aD (vD (bR fT (bA (D6 K) (pv 0) aJ (fun _ _=>rfl)) aJ) (HE (pv 0) aJ set_list))
   (aD (aQ (i:=3) gU.nd rfl (Or.inl rfl) (bR jM (bR fT (bR fT (bR lZ (bA (D6 K) (pv 0) aJ (fun _ _=>rfl)) aJ) (bR lZ (bR lZ aJ (bA (D6 K) (pv 0) aJ (fun _ _=>rfl))) (bA (D6 K) (pv 0) aJ (fun _ _=>rfl)))) aJ) aJ))
   (aD (aQ (i:=3) gU.nd rfl (Or.inl rfl) (bR jM (bR lZ (pv 3) (bR fT (bR jM (pv 3) aJ) (bR lZ aJ (bA (D6 K) (pv 0) aJ (fun _ _=>rfl))))) aJ))
   (aK (bF (bR jM (bR fT (bR uN (pv 3) aJ) (bR uN (pv 3) aJ)) (pv 1)))))))),?_⟩
  obtain⟨a,b,i,he,ha,hb0,hb,hi0,hi⟩:=hp;refine aI ?_;walk_at "vc0"
  refine⟨_,bM.of he,_,rfl,_,rfl,?_⟩;refine RS (fun _=>?_) (fun _=>?_)
  .refine aI ?_;walk_at "vc0"
   refine⟨_,bM.of he,_,rfl,_,rfl,hn0,?_⟩;refine aI ?_;walk_at "vc0"
   refine⟨_,bM.of he,_,rfl,_,rfl,⟨hn0,hn⟩,_,he,_,rfl,?_⟩;exact q _ _ (emod_nonneg _ (by omega)) (emod_lt_of_pos _ hn0) ⟨_,_,_,aB,Int.ediv_nonneg ha (by omega),hb0,hb,hi0,by omega⟩ eO.upd
  .refine aI ?_;walk_at "vc0"
   refine⟨_,bM.of he,_,rfl,_,rfl,_,he,_,rfl,?_⟩;have hu:upd H p (HO.lst ([V.int a,V.int b,V.int i].set (Int.toNat 2) (V.int (i+1)))) p=some (.lst [.int a,.int b,.int (i+1)]):=aB;refine aI ?_;walk_at "vc0"
   refine⟨_,bM.of hu,_,rfl,_,rfl,.inl ⟨by omega,by omega⟩,_,bM.of hu,_,rfl,_,rfl,.inl ⟨by decide,by decide⟩,_,bM.of hu,_,rfl,_,rfl,.inr ⟨by omega,by omega⟩,by decide,?_⟩;have o0:0<=(b*39373+65537*(i+1)*(i+1)+101) % 2305843009213693921:=emod_nonneg _ (by decide);have o1:(b*39373+65537*(i+1)*(i+1)+101) % 2305843009213693921<2305843009213693921:=emod_lt_of_pos _ (by decide);generalize(b*39373+65537*(i+1)*(i+1)+101) % 2305843009213693921=O at o0 o1;refine aI ?_;walk_at "vc0"
   refine⟨by decide,_,bM.of hu,_,rfl,_,rfl,.inl ⟨by decide,by decide⟩,.inl ⟨by omega,by omega⟩,by decide,⟨by decide,by decide⟩,⟨by decide,by decide⟩,hn0,?_⟩;exact q _ _ (emod_nonneg _ (by omega)) (emod_lt_of_pos _ hn0) ⟨_,_,_,hu,ha,hb0,hb,by omega,by omega⟩ eO.upd
theorem mQ:aZ ["_law_held","_law_at","_law_goal"] ["_law_held","_law_at","_law_goal"] (aC cK):=⟨rfl,rfl,rfl,by decide+kernel,rfl,by decide+kernel,by decide+kernel⟩
set_option maxHeartbeats 4000000 in
theorem uQ (T:Txt K mg fs fds tc u):bB P w K mg base d8 1 (fs 21) (fds 21) ["_law_held","_law_at","_law_goal"] AQ:=by
 refine T.oY.F.ok mQ (fun vs H Q E h=>?_) (fun cdv A outer s H vs Q E hr h=>?_)
 .obtain⟨d,ab,o,g,rfl,hd,hac,q⟩:=h;rfl
 .obtain⟨d,ab,o,g,rfl,hd,hac,q⟩:=h;refine⟨_,(aD (qX PassesOwn.never (PW.pt (n5 (bC kI (pv 1) g5 (dM _)) (kC (bC x6 (pv 1) (pv 2) (dM _))))) (aK (aQ (i:=1) mQ.nd rfl (Or.inl rfl) (nA (fD hr) (pv 0) (pv 1) ⟨rfl,by rfl,rfl,rfl⟩))))
   (aK (bF (A7 B2 (pv 1) (pv 2) (dM _))))),?_⟩
  obtain⟨ed,hd⟩:=hd;refine aI (yB (fun σ H'=>∃o',σ=[some (.ref d),some (oV o'),some (.str g)]/\H'=H/\(qZ (aS ab) o g↔qZ (aS ab) o' g)) (fun σ _=>RE (aS ab) (ab.length+1) σ) ⟨o,rfl,rfl,Iff.rfl⟩ ?_ ?_)
  .rintro σ H1 ⟨o',rfl,rfl,hio⟩;walk_at "vc0";have hfin:∀b:Bool,(b=true↔qZ (aS ab) o' g)->Q (.bl b) H1:=fun b hb=>q b H1 (aG.refl _) (hb.trans hio.symm)
   cases o' with
   |none=>
    rw[show decide (oV none=V.aU)=true from rfl,show decide (oV none=V.str g)=false from decide_eq_false fun z=>nomatch z];exact jH ⟨rfl,hfin false ⟨(fun h=>nomatch h),fun⟨_,_,h,_⟩=>nomatch h⟩⟩
   | some x=>
    rw[show decide (oV (some x)=V.aU)=false from decide_eq_false fun z=>nomatch z];refine kM ⟨rfl,?_⟩
    by_cases e:x=g
    .rw[show decide (oV (some x)=V.str g)=true from decide_eq_true (by rw[e];rfl)];exact jH ⟨rfl,hfin true ⟨fun _=>⟨x,0,rfl,by rw[e];rfl⟩,fun _=>rfl⟩⟩
    .rw[show decide (oV (some x)=V.str g)=false from decide_eq_false fun z=>e (V.str.inj z)];have hv:∃o2,n6 H1 d (oV (some x)) o2/\o2.getD V.aU=oV (aS ab x):=by
      by_cases hx:x∈ks ab
      .exact⟨some (oV (aS ab x)),.inl ⟨bK ab,.inr x,⟨ed,.inl hd⟩,rfl,(lY hx).symm⟩,rfl⟩
      .refine⟨none,.inl ⟨bK ab,.inr x,⟨ed,.inl hd⟩,rfl,?_⟩,?_⟩
       .rw[kE,find?_eq_none.mpr (fun z hz e=>hx (mem_map.mpr ⟨z,hz,of_decide_eq_true e⟩))];rfl
       .cases c:aS ab x with
        |none=>rfl
        |some y=>exact absurd (iZ c) hx
     obtain⟨o2,h1,h2⟩:=hv;refine kM ⟨.inl ⟨_,ed,.inl hd⟩,o2,h1,⟨aS ab x,h2,hio.trans ?_⟩,?_⟩
     .constructor
      .rintro⟨e1,k,he,hk⟩;cases he;cases k with
       |zero=>cases hk;exact absurd rfl e
       |succ k=>
        have hk:(aS ab x).bind (Rg.cJ (aS ab) k)=some g:=hk;cases c:aS ab x with
        |none=>rw[c]at hk;cases hk
        |some y=>rw[c]at hk;exact⟨y,k,rfl,hk⟩
      .rintro⟨y,k,he,hk⟩;exact⟨x,k+1,rfl,by show(aS ab x).bind (Rg.cJ (aS ab) k)=some g;rw[he];exact hk⟩
     .rw[h2];cases c:aS ab x with
      |none=>exact succ_pos _
      |some y=>
       show GP (aS ab) (ab.length+1) y+1<GP (aS ab) (ab.length+1) x+1;rw[ET c (vQ hac y)];exact lt_succ_self _
  .intro σ H Q Q' k;walk_at "vc0";rintro⟨v,hv,h⟩;refine⟨v,hv,?_⟩;split at h
   .rename_i c;obtain⟨v2,h2,v3,h3,h4,h5⟩:=h;rw[if_pos c];exact⟨v2,h2,v3,h3,h4,k _ _ h5⟩
   .rename_i c;rw[if_neg c];exact k _ _ h
theorem yW:aZ ["pack"] ["pack"] (aC dQ):=⟨rfl,rfl,rfl,by decide+kernel,rfl,by decide+kernel,by decide+kernel⟩
set_option maxHeartbeats 4000000 in
theorem yY (T:Txt K mg fs fds tc u) (G_standing:bB P w K mg base d8 1 (fs 4) (fds 4) ["pack"] kB):bB P w K mg base d8 2 (fs 5) (fds 5) ["pack"] FF:=by
 refine T.tJ.F.ok yW (fun vs H Q E h=>?_) (fun cdv A outer s H vs Q E hr h=>?_)
 .obtain⟨v,xs,rfl,hP,q⟩:=h;rfl
 .obtain⟨v,xs,rfl,hP,q⟩:=h;refine⟨_,(aK (bF (qU ["letter"] 1 [] ["pack"] (aC dQ) rfl rfl rfl (eK K (bE T.fF G_standing hr (by decide) rfl (aA (pv 0) aE))) (by decide+kernel) (fun _=>(aO (i:=0) (show(["letter"]:List Str).Nodup by decide+kernel) rfl (Or.inl rfl))) (fun _=>dE) (fun _=>(bA (qE K) (pv 0) aJ (fun _ _=>rfl))) (fun _=>(bA (qE K) (pv 0) aJ (fun _ _=>rfl)))))),?_⟩;obtain⟨a,us,rfl,ha,hp,h1000⟩:=hP;walk_at "vc0";refine⟨_,rfl,.ref a,xs,rfl,⟨a,us,rfl,ha,hp,h1000⟩,fun b ws H1 s1 hb hws=>⟨b,rfl,⟨ws,bO.of hb⟩,fun l hl0=>p9 (P:=fun H x u=>nH H u x) (bO.of hb) hws (fun x=>x.n) (fun _ x v=>v=V.int x.d) (fun σ=>∃o,σ=[o]) ⟨_,rfl⟩ hl0 (iQ (by have:=dC xs;omega)) (fZ xs) (fun _ _ _ _ _ h=>h) ?_ (fun H2 kvs s2 hk pr=>q l kvs H2 (s1.trans s2) hk pr)⟩⟩;rintro x u σ H2 kvs N hx hL ⟨o,rfl⟩ s2 hk hz hN;obtain⟨t,r,rfl,ht,hr⟩:=(hL.kp s2.kt).at';unfold kP;walk_at "vc2";exact⟨_,bO.of ht,_,DM,_,bO.of ht,_,dW (j:=1) rfl,kvs,hk,.inr x.n,rfl,hz,fun ep=>hN _ _ _ ep ⟨_,rfl⟩ (aG.refl _) rfl⟩
theorem zH:aZ ["pack"] ["pack"] (aC dR):=⟨rfl,rfl,rfl,by decide+kernel,rfl,by decide+kernel,by decide+kernel⟩
set_option maxHeartbeats 4000000 in
theorem y3 (T:Txt K mg fs fds tc u) (G_elders:bB P w K mg base d8 1 (fs 3) (fds 3) ["letter"] uV) (G_standing:bB P w K mg base d8 1 (fs 4) (fds 4) ["pack"] kB):bB P w K mg base d8 2 (fs 6) (fds 6) ["pack"] B7:=by
 refine T.t8.F.ok zH (fun vs H Q E h=>?_) (fun cdv A outer s H vs Q E hr h=>?_)
 .obtain⟨v,xs,rfl,hP,q⟩:=h;rfl
 .obtain⟨v,xs,rfl,hP,q⟩:=h;refine⟨_,(aK (bF (qU ["letter"] 1 [] ["pack"] (aC dR) rfl rfl rfl (eK K (bE T.fF G_standing hr (by decide) rfl (aA (pv 0) aE))) (by decide+kernel) (fun _=>(aO (i:=0) (show(["letter"]:List Str).Nodup by decide+kernel) rfl (Or.inl rfl))) (fun _=>dE) (fun _=>(bA (qE K) (pv 0) aJ (fun _ _=>rfl))) (fun _=>(bE T.nB G_elders hr (by decide) rfl (aA (pv 0) aE)))))),?_⟩;obtain⟨a,us,rfl,ha,hp,h1000⟩:=hP;walk_at "vc0";refine⟨_,rfl,.ref a,xs,rfl,⟨a,us,rfl,ha,hp,h1000⟩,fun b ws H1 s1 hb hws=>⟨b,rfl,⟨ws,bO.of hb⟩,fun l hl0=>p9 (P:=fun H x u=>nH H u x) (bO.of hb) hws (fun x=>x.n) (fun H x v=>∃t,v= .ref t/\H t=some (.tup ((aR x).map V.str))) (fun σ=>∃o,σ=[o]) ⟨_,rfl⟩ hl0 (iQ (by have:=dC xs;omega)) (fZ xs) (fun _ _ _ _ k ⟨t,e,h⟩=>⟨t,e,k _ _ h⟩) ?_ (fun H2 kvs s2 hk pr=>q l kvs H2 (s1.trans s2) hk pr)⟩⟩;rintro x u σ H2 kvs N hx hL ⟨o,rfl⟩ s2 hk hz hN;have hL2:=hL.kp s2.kt;obtain⟨t,r,rfl,ht,hr⟩:=hL2.at';unfold kP;walk_at "vc2";exact⟨_,bO.of ht,_,DM,_,x,rfl,hL2,fun t2 H3 s3 ht3=>⟨kvs,cC hk s3,.inr x.n,rfl,hz,fun ep=>hN _ _ _ ep ⟨_,rfl⟩ s3 ⟨t2,rfl,ht3⟩⟩⟩
theorem eQ:aZ ["pack","found","letter","at","name"] ["pack"] (aC cO):=⟨rfl,rfl,rfl,by decide+kernel,rfl,by decide+kernel,by decide+kernel⟩
set_option maxHeartbeats 4000000 in
theorem vW (T:Txt K mg fs fds tc u) (G_standing:bB P w K mg base d8 1 (fs 4) (fds 4) ["pack"] kB) (G_elders:bB P w K mg base d8 1 (fs 3) (fds 3) ["letter"] uV):bB P w K mg base d8 2 (fs 7) (fds 7) ["pack"] LD:=by
 refine T.oM.F.ok eQ (fun vs H Q E h=>?_) (fun cdv A outer s H vs Q E hr h=>?_)
 .obtain⟨v,xs,rfl,hP,h100,q⟩:=h;rfl
 .obtain⟨v,xs,rfl,hP,h100,q⟩:=h;refine⟨_,(aD (aQ (i:=1) eQ.nd rfl (Or.inl rfl) e9)
   (aD (dB PassesOwn.never rfl (eK K (bE T.fF G_standing hr (by decide) rfl (aA (pv 0) aE))) (aO (i:=2) eQ.nd rfl (Or.inl rfl)) (aK (dB PassesOwn.never rfl (vP K rfl T.dZ (aA (bE T.nB G_elders hr (by decide) rfl (aA (pv 2) aE)) aE)) (eX (n:=2) K rfl (aY (aO (i:=3) eQ.nd rfl (Or.inl rfl)) (aY (aO (i:=4) eQ.nd rfl (Or.inl rfl)) eW))) (aK (fU (bC FU (pv 3) aJ (dM _)) (aK (gP (g4 K plainAttrs_list PySem.F.slot_list_append PySem.F.type_list_append d9 (mE (pv 1) (pv 4) (g8 aE) ⟨rfl,by rfl,rfl,rfl⟩) (aA (cH (aA (bA (qE K) (pv 2) aJ (fun _ _=>rfl)) (aA (bA (qE K) (pv 2) aJ (fun _ _=>rfl)) (aA (pv 3) aE)))) aE)))) cU)))))
   (aK (bF (pv 1))))),?_⟩
  have h1000:=hP;refine aI ?_;walk_at "vc0"
  refine fun p hp=>?_
  have I0:=o4.nil (cR:=jS) hp;refine aI ⟨_,rfl,v,xs,rfl,hP.kt I0.s.kt,fun b ws H1 s1 hb hws=>⟨b,rfl,⟨ws,bO.of hb⟩,gW (K:=K) (a:=b) (xs:=ws) (fun i σ H'=>(∃kvs C,o4 jS H H' p kvs C/\(∀n c,(∃z∈C,z.1=n/\c∈z.2)↔∃y∈(aP xs).take i,c.1=y.d/\c.2.1=y.n/\0<c.2.2/\(aR y)[c.2.2]? =some n)/\(∀z∈C,z.2.length<=9*i)/\C.length<=9*i)/\eP H1 H'/\∃v2 v3 v4,σ=[some v,some (.ref p),v2,v3,v4]) ⟨⟨[],[],rJ I0 s1,fun n c=>⟨(fun⟨_,h,_⟩=>nomatch h),fun⟨_,h,_⟩=>nomatch h⟩,(fun _ h=>nomatch h),le_refl _⟩,(fun _ _ h=>h),_,_,_,rfl⟩ (fun i σ H' _ ⟨_,k,_⟩=>bO.of (k _ _ hb)) ?_ ?_⟩⟩
  .rintro i u σ H2 hu ⟨⟨kvs,C,I,hsem,hlen,hCl⟩,kt,v2,v3,v4,rfl⟩;obtain⟨y,hy,hL⟩:=L2.Paired.jI hws hu;have hL2:=hL.kp kt;obtain⟨t,r,rfl,ht,hr⟩:=hL2.at';have hil:i<(aP xs).length:=(List.getElem?_eq_some_iff.mp hy).1;have hSl:=dC xs;have her:=y2 y;have hrl:=hL2.ok.lr;walk_at "vc0";refine⟨_,rfl,_,y,rfl,hL2,fun te H3 s3 hte=>.inl ⟨te,_,rfl,bO.of hte,?_⟩⟩;have I3:=rJ I s3;have kt3:=kt.trans s3.kt;have hL3:=hL2.kp s3.kt;have ht3:=s3 _ _ ht;refine CF (fun j σ H'=>(∃kvs C,o4 jS H H' p kvs C/\(∀n c,(∃z∈C,z.1=n/\c∈z.2)↔(∃y∈(aP xs).take i,c.1=y.d/\c.2.1=y.n/\0<c.2.2/\(aR y)[c.2.2]? =some n)\/ (c.1=y.d/\c.2.1=y.n/\0<c.2.2/\(aR y)[c.2.2]? =some n/\c.2.2<j))/\(∀z∈C,z.2.length<=9*i+j)/\C.length<=9*i+j)/\eP H3 H'/\∃v3 v4,σ=[some v,some (.ref p),some (.ref t),v3,v4]) ⟨⟨kvs,C,I3,fun n c=>?_,hlen,hCl⟩,(fun _ _ h=>h),_,_,rfl⟩ (fun j σ H' _ ⟨_,k,_⟩=>bO.of (k _ _ hte)) ?_ ?_
   .rw[hsem];exact⟨.inl,fun h=>h.elim id fun h=>absurd h.2.2.2.2 (not_lt_zero _)⟩
   .rintro j u t2 σ H4 huj ht2 ⟨⟨kvs4,C4,I4,sem4,len4,hCl4⟩,kt4,v3',v4',rfl⟩;obtain⟨e,he,rfl⟩:=strAt huj;have hjl:=(List.getElem?_eq_some_iff.mp he).1;have s5:=aG.upd (o:=.tup [.int j,.str e]) ht2;have I5:=rJ I4 s5;have et2:upd H4 t2 (.tup [.int j,.str e]) t2=some (.tup [.int j,.str e]):=aB;have kt5:=kt4.trans s5.kt;generalize upd H4 t2 (.tup [.int j,.str e])=H5 at I5 et2 kt5⊢
    have ht5:=kt5 _ _ ht3;walk_at "vc0";refine⟨_,bO.of et2,rfl,_,_,rfl,_,_,rfl,rfl,?_⟩;walk_at "vc0";refine DV (fun hj=>?_) (fun hj=>?_)
    .have hj0:0<j:=by omega
     obtain⟨ed,hd5⟩:=id I5.d;have hkc:kvs4.length=C4.length:=I5.pr.length.symm;have aL:=wX (n:=e) (c:=(y.d,y.n,j)) len4 hCl4;have hp0:H p=none:=hp;walk_at "vc4";refine⟨.inl ⟨kvs4,ed,.inl hd5⟩,zero_le _,fun l0 hl0=>?_⟩;have s6:=aG.upd (o:=.lst []) hl0;have I6:=rJ I5 s6;have e60:upd H5 l0 (.lst []) l0=some (.lst []):=aB;have hd6:=s6 _ _ hd5;refine⟨kvs4,⟨ed,hd6⟩,.inr e,rfl,iQ (by omega),fun lv hv=>?_,fun ep hv=>?_⟩
     .rcases yU.val (n:=e) I6.pr with⟨h0,_⟩|⟨z,hz,ez,kv,hkv,ek,hv2,l,us,el,hl,hcs⟩
      .rw[h0]at hv;cases hv
      rw[hv2]at hv;cases hv;rw[el];have ht6:=s6 _ _ ht5;refine⟨.inl ⟨us,bM.of hl⟩,_,bO.of ht6,_,dW (j:=1) rfl,_,bO.of ht6,_,DM,lK (by decide),fun b hb=>?_⟩;have s7:=aG.upd (o:=.tup [.int y.d,.str y.n,.int j]) hb;have I7:=rJ I6 s7;have hul:us.length<=9*i+j:=by rw[<-hcs.length];exact len4 z hz
      have I8:=o4.old (cR:=jS) (fun k h=>jS.kt k h) I7 (c:=(y.d,y.n,j)) (b:=b) hz hkv (by rw[ek,ez]) el (s7 _ _ hl) ⟨b,rfl,aB⟩;rw[ez]at I8;refine⟨l,rfl,us,s7 _ _ hl,iQ (by omega),⟨kvs4,_,I8,fun n c=>?_,aL.1,aL.2⟩,((kt5.trans s6.kt).trans s7.kt).trans (eP.upd (s7 _ _ hl)),_,rfl⟩;rw[qO,sem4,BW hj0 he]
     .rcases yU.val (n:=e) I6.pr with⟨h0,hn⟩|⟨z,hz,ez,kv,hkv,ek,hv2,_⟩
      rotate_left
      .rw[hv2]at hv;cases hv
      have hlp:l0≠p:=(aF hd5 hl0).symm;have hA:∀a o,H5 a=some o->a≠p->upd (upd H5 l0 (.lst [])) p (.dK (putK kvs4 (.inr e) (.ref l0)) ep) a=some o:=fun a o h ha=>by rw[aH ha,aH (aF h hl0)];exact h
      have htp:t≠p:=fun z=>by rw[z,hd5]at ht5;cases ht5
      have htA:=hA _ _ ht5 htp;have hlA:upd (upd H5 l0 (.lst [])) p (.dK (putK kvs4 (.inr e) (.ref l0)) ep) l0=some (.lst []):=by rw[aH hlp];exact aB
      have hpA:upd (upd H5 l0 (.lst [])) p (.dK (putK kvs4 (.inr e) (.ref l0)) ep) p=some (.dK (putK kvs4 (.inr e) (.ref l0)) ep):=aB;have ktA:eP H5 (upd (upd H5 l0 (.lst [])) p (.dK (putK kvs4 (.inr e) (.ref l0)) ep)):=fun a us h=>hA a _ h fun z=>by rw[z,hd5]at h;cases h
      generalize upd (upd H5 l0 (.lst [])) p (.dK (putK kvs4 (.inr e) (.ref l0)) ep)=HA at*;refine⟨.inl ⟨[],bM.of hlA⟩,_,bO.of htA,_,dW (j:=1) rfl,_,bO.of htA,_,DM,lK (by decide),fun b hb=>?_⟩;have s7:=aG.upd (o:=.tup [.int y.d,.str y.n,.int j]) hb;have I8:=o4.new (cR:=jS) (fun k h=>jS.kt k h) I5 (c:=(y.d,y.n,j)) (b:=b) hp0 hn hv hl0 (fun a o h ha=>s7 _ _ (hA a o h ha)) (s7 _ _ hpA) (s7 _ _ hlA) ⟨b,rfl,aB⟩;refine⟨[],s7 _ _ hlA,iQ (by simp),⟨_,_,I8,fun n c=>?_,aL.1,aL.2⟩,((kt5.trans ktA).trans s7.kt).trans (eP.upd (s7 _ _ hlA)),_,rfl⟩;rw[qO,sem4,BW hj0 he]
    .have j0:j=0:=by omega
     subst j0;refine⟨⟨kvs4,C4,I5,fun n c=>?_,fun z hz=>by have:=len4 z hz;omega,by omega⟩,kt5,_,rfl⟩;rw[sem4];exact or_congr Iff.rfl ⟨fun h=>absurd h.2.2.2.2 (not_lt_zero _),fun h=>by have:=h.2.2.1;have:=h.2.2.2.2;omega⟩
   .rintro σ H4 ⟨⟨kvs4,C4,I4,sem4,len4,hCl4⟩,kt4,v3',v4',rfl⟩;rw[length_map]at len4 sem4 hCl4;refine⟨⟨kvs4,C4,I4,fun n c=>?_,fun z hz=>by have:=len4 z hz;omega,by omega⟩,kt3.trans kt4,_,_,_,rfl⟩;rw[sem4,take_snoc hy];constructor
    .rintro(⟨y',h1,h2⟩|⟨h1,h2,h3,h4,_⟩)
     .exact⟨y',mem_append_left _ h1,h2⟩
     .exact⟨y,mem_append_right _ (by simp),h1,h2,h3,h4⟩
    .rintro⟨y',h1,h2⟩;rcases mem_append.mp h1 with h|h
     .exact .inl ⟨y',h,h2⟩
     .rw[mem_singleton.mp h]at h2;exact .inr ⟨h2.1,h2.2.1,h2.2.2.1,h2.2.2.2,(List.getElem?_eq_some_iff.mp h2.2.2.2).1⟩
  .rintro σ H2 ⟨⟨kvs,C,I,hsem,hlen,hCl⟩,kt,v2,v3,v4,rfl⟩;rw[<-hws.length]at hlen hCl;rw[<-hws.length,take_length]at hsem;have hSl:=dC xs;walk_at "vc0";exact q p kvs C H2 I.s I.d I.pr ⟨I.nd,I.ne,fun z hz c hc=>(hsem z.1 c).mp ⟨z,hz,rfl,hc⟩,fun n c h=>(hsem n c).mpr h⟩ fun z hz=>le_trans (hlen z hz) (by omega)
theorem gA:aZ ["pack","marks","known","letter","name","elder"] ["pack","marks"] (aC eV):=⟨rfl,rfl,rfl,by decide+kernel,rfl,by decide+kernel,by decide+kernel⟩
set_option maxHeartbeats 4000000 in
theorem CZ (T:Txt K mg fs fds tc u) (G_standing:bB P w K mg base d8 1 (fs 4) (fds 4) ["pack"] kB) (G_elders:bB P w K mg base d8 1 (fs 3) (fds 3) ["letter"] uV):bB P w K mg base d8 2 (fs 10) (fds 10) ["pack","marks"] K7:=by
 refine T.yD.F.ok gA (fun vs H Q E h=>?_) (fun cdv A outer s H vs Q E hr h=>?_)
 .obtain⟨v,mv,xs,hm,zs,rfl,hP,hM,hz,hsub,q⟩:=h;rfl
 .obtain⟨v,mv,xs,hm,zs,rfl,hP,hM,hz,hsub,q⟩:=h;refine⟨_,(aD (aQ (i:=2) gA.nd rfl (Or.inl rfl) e9)
   (aD (dB PassesOwn.never rfl (eK K (bE T.fF G_standing hr (by decide) rfl (aA (pv 0) aE))) (aO (i:=3) gA.nd rfl (Or.inl rfl)) (aD (eG (fD hr) (pv 2) (bA (qE K) (pv 3) aJ (fun _ _=>rfl)) pX rfl)
   (aK (dB PassesOwn.never rfl (eK K (bE T.nB G_elders hr (by decide) rfl (aA (pv 3) aE))) (aO (i:=4) gA.nd rfl (Or.inl rfl)) (aK (eG (fD hr) (pv 2) (pv 4) pX rfl))))))
   (aD (dB PassesOwn.never rfl (eK K (pv 1)) (eX (n:=2) K rfl (aY (aO (i:=4) gA.nd rfl (Or.inl rfl)) (aY (aO (i:=5) gA.nd rfl (Or.inl rfl)) eW))) (aD (eG (fD hr) (pv 2) (pv 4) pX rfl)
   (aK (fU (bC kI (pv 5) g5 (dM _)) (aK (eG (fD hr) (pv 2) (pv 5) pX rfl)) cU))))
   (aK (bF (cE (rW K) (by rfl) T.dI d5 (aA (bN GS (by rfl) T.d6 fH (aA (pv 2) aE)) aE))))))),?_⟩
  obtain⟨ta,us,rfl,hta,hpm⟩:=hM;refine aI ?_;walk_at "vc0"
  refine fun p hp=>?_
  have s0:aG H (upd H p (.dK [] 0)):=aG.upd hp;have bd:∀{Ks:List Str},Ks.Nodup->(∀x∈Ks,x∈zs)->Ks.length<=60:=fun nd h=>le_trans (dX nd h) hz
  refine aI ⟨_,rfl,v,xs,rfl,hP.kt s0.kt,fun b ws H1 s1 hb hws=>⟨b,rfl,⟨ws,bO.of hb⟩,gW (K:=K) (a:=b) (xs:=ws) (fun i σ H'=>eP H1 H'/\aG H H'/\(∃Ks,bY H' p (lA Ks)/\Ks.Nodup/\∀x,x∈Ks↔∃y∈(aP xs).take i,x=y.n\/ x∈aR y)/\∃v3 v4 v5,σ=[some v,some (.ref ta),some (.ref p),v3,v4,v5]) ⟨(fun _ _ h=>h),s0.trans s1,⟨[],⟨0,s1 _ _ aB⟩,nodup_nil,fun x=>⟨(fun h=>nomatch h),fun⟨_,h,_⟩=>nomatch h⟩⟩,_,_,_,rfl⟩ (fun i σ H' _ ⟨k,_⟩=>bO.of (k _ _ hb)) ?_ ?_⟩⟩
  .rintro i u σ H2 hu ⟨kt,s2,⟨Ks,⟨e2,hK⟩,ndK,hmem⟩,v3,v4,v5,rfl⟩;obtain⟨y,hy,hL⟩:=L2.Paired.jI hws hu;have hL2:=hL.kp kt;obtain⟨t,r,rfl,ht,hr⟩:=hL2.at';have hyS:=mem_of_getElem? hy;have hyz:y.n∈zs:=hsub _ (.inl ⟨y,hyS,.inl rfl⟩);have sub:∀{Ks':List Str},(∀x∈Ks',(∃y∈(aP xs).take i,x=y.n\/ x∈aR y)\/ x=y.n\/ x∈aR y)->∀x∈Ks',x∈zs:=fun h x hx=>(h x hx).elim (fun⟨y',h1,h2⟩=>hsub _ (.inl ⟨y',mem_of_mem_take h1,h2⟩)) fun h2=>hsub _ (.inl ⟨y,hyS,h2⟩)
   have hl0:=bd ndK (sub fun x hx=>.inl ((hmem x).mp hx));walk_at "vc0";refine aI ?_;walk_at "vc1"
   refine⟨_,bO.of ht,_,DM,.inl ⟨lA Ks,.inr y.n,⟨e2,hK⟩,rfl,iQ (by rw[pE];omega),fun ep=>?_⟩⟩;have k3:=eP.dk (ob:=.dK (putK (lA Ks) (.inr y.n) (.bl true)) ep) ⟨e2,hK⟩;have s3:aG H (upd H2 p (.dK (putK (lA Ks) (.inr y.n) (.bl true)) ep)):=fun b o h=>by rw[aH (aF h hp)];exact s2 b o h
   have d3:bY (upd H2 p (.dK (putK (lA Ks) (.inr y.n) (.bl true)) ep)) p (lA (nQ Ks y.n)):=⟨ep,by rw[aB,pD]⟩;have hL3:=hL2.kp k3;generalize upd H2 p (.dK (putK (lA Ks) (.inr y.n) (.bl true)) ep)=H3 at k3 s3 d3 hL3⊢
   refine⟨_,rfl,_,y,rfl,hL3,fun te H4 s4 hte=>⟨te,rfl,⟨_,bO.of hte⟩,?_⟩⟩;have hme:((aR y).map V.str).length=(aR y).length:=length_map ..;refine gW (K:=K) (a:=te) (xs:=(aR y).map V.str) (fun j σ H'=>eP H4 H'/\aG H H'/\(∃Ks',bY H' p (lA Ks')/\Ks'.Nodup/\∀x,x∈Ks'↔(x∈Ks\/ x=y.n)\/ x∈(aR y).take j)/\∃v4 v5,σ=[some v,some (.ref ta),some (.ref p),some (.ref t),v4,v5]) ⟨(fun _ _ h=>h),s3.trans s4,⟨nQ Ks y.n,cC d3 s4,kJ ndK,fun x=>by rw[mZ];simp⟩,_,_,rfl⟩ (fun j σ H' _ ⟨k,_⟩=>bO.of (k _ _ hte)) ?_ ?_
   .rintro j u σ H5 hu5 ⟨k5,s5,⟨Ks',⟨e5,hK5⟩,nd5,mem5⟩,v4',v5',rfl⟩;obtain⟨e,he,rfl⟩:=strAt hu5;have hee:=mem_of_getElem? he;have hl5:=bd nd5 (sub fun x hx=>by
     rcases(mem5 x).mp hx with(h|h)|h
     .exact .inl ((hmem x).mp h)
     .exact .inr (.inl h)
     .exact .inr (.inr (mem_of_mem_take h)))
    walk_at "vc1";refine .inl ⟨lA Ks',.inr e,⟨e5,hK5⟩,rfl,iQ (by rw[pE];omega),fun ep=>⟨k5.trans (eP.dk ⟨e5,hK5⟩),fun b o h=>by rw[aH (aF h hp)];exact s5 b o h,⟨nQ Ks' e,⟨ep,by rw[aB,pD]⟩,kJ nd5,fun x=>?_⟩,_,rfl⟩⟩;rw[mZ,mem5,take_snoc he,mem_append,mem_singleton,or_assoc]
   .rintro σ H5 ⟨k5,s5,⟨Ks',hK5,nd5,mem5⟩,v4',v5',rfl⟩;rw[hme,take_length]at mem5;refine⟨kt.trans (k3.trans (s4.kt.trans k5)),s5,⟨Ks',hK5,nd5,fun x=>?_⟩,_,_,_,rfl⟩;rw[mem5,hmem,take_snoc hy];constructor
    .rintro((⟨y',h1,h2⟩|h)|h)
     .exact⟨y',mem_append_left _ h1,h2⟩
     .exact⟨y,mem_append_right _ (by simp),.inl h⟩
     .exact⟨y,mem_append_right _ (by simp),.inr h⟩
    .rintro⟨y',h1,h2⟩;rcases mem_append.mp h1 with h|h
     .exact .inl (.inl ⟨y',h,h2⟩)
     .rw[mem_singleton.mp h]at h2;exact h2.elim (fun h=>.inl (.inr h)) .inr
  .rintro σ H2 ⟨kt,s2,⟨Ks,hK,ndK,hmem⟩,v3,v4,v5,rfl⟩;rw[<-hws.length,take_length]at hmem;have hta2:=s2 _ _ hta;have hpm2:Paired (FT H2) hm us:=L2.Paired.dP hpm fun _ _ h=>h.kt s2.kt
   refine aI ⟨_,rfl,ta,rfl,⟨us,bO.of hta2⟩,gW (K:=K) (a:=ta) (xs:=us) (fun i σ H'=>eP H2 H'/\aG H H'/\(∃Ks',bY H' p (lA Ks')/\Ks'.Nodup/\∀x,x∈Ks'↔x∈Ks\/ ∃z∈hm.take i,x=z.1\/ z.2=some x)/\∃v3 v4 v5,σ=[some v,some (.ref ta),some (.ref p),v3,v4,v5]) ⟨(fun _ _ h=>h),s2,⟨Ks,hK,ndK,fun x=>by simp⟩,_,_,_,rfl⟩ (fun i σ H' _ ⟨k,_⟩=>bO.of (k _ _ hta2)) ?_ ?_⟩
   .rintro i u σ H3 hu ⟨k3,s3,⟨Ks',⟨e3,hK3⟩,nd3,mem3⟩,v3',v4',v5',rfl⟩;obtain⟨z,hz',b,rfl,hb⟩:=L2.Paired.jI hpm2 hu;have hzm:=mem_of_getElem? hz';have hb3:=k3 _ _ hb;have etk:hm.take (i+1)=hm.take i++[z]:=take_snoc hz';have sub3:∀{W:List Str},(∀x∈W,(x∈Ks\/ ∃z∈hm.take i,x=z.1\/ z.2=some x)\/ x=z.1\/ z.2=some x)->∀x∈W,x∈zs:=fun h x hx=>by
     rcases h x hx with(h1|⟨z',h1,h2⟩)|h1
     .exact hsub _ (.inl ((hmem x).mp h1))
     .exact hsub _ (.inr ⟨z',mem_of_mem_take h1,h2⟩)
     .exact hsub _ (.inr ⟨z,hzm,h1⟩)
    have hl3:=bd nd3 (sub3 fun x hx=>.inl ((mem3 x).mp hx));walk_at "vc0";refine⟨_,bO.of hb3,rfl,_,_,rfl,_,_,rfl,rfl,?_⟩;refine aI ?_;walk_at "vc1"
    refine .inl ⟨lA Ks',.inr z.1,⟨e3,hK3⟩,rfl,iQ (by rw[pE];omega),fun ep=>?_⟩;have k4:=eP.dk (ob:=.dK (putK (lA Ks') (.inr z.1) (.bl true)) ep) ⟨e3,hK3⟩;have s4:aG H (upd H3 p (.dK (putK (lA Ks') (.inr z.1) (.bl true)) ep)):=fun b o h=>by rw[aH (aF h hp)];exact s3 b o h
    have e4:upd H3 p (.dK (putK (lA Ks') (.inr z.1) (.bl true)) ep) p=some (.dK (lA (nQ Ks' z.1)) ep):=by rw[aB,pD]
    generalize upd H3 p (.dK (putK (lA Ks') (.inr z.1) (.bl true)) ep)=H4 at k4 s4 e4⊢
    have mem4:∀x,x∈nQ Ks' z.1↔(x∈Ks\/ ∃z∈hm.take i,x=z.1\/ z.2=some x)\/ x=z.1:=fun x=>by rw[mZ,mem3]
    have hl4:=bd (kJ (s:=z.1) nd3) (sub3 fun x hx=>((mem4 x).mp hx).elim .inl fun h=>.inr (.inl h));have fin:∀(x:Str) (W:Prop),(W↔((x∈Ks\/ ∃z∈hm.take i,x=z.1\/ z.2=some x)\/ x=z.1\/ z.2=some x))->(W↔x∈Ks\/ ∃z∈hm.take (i+1),x=z.1\/ z.2=some x):=fun x W hW=>by
     rw[hW,etk];constructor
     .rintro((h|⟨z',h1,h2⟩)|h)
      .exact .inl h
      .exact .inr ⟨z',mem_append_left _ h1,h2⟩
      .exact .inr ⟨z,mem_append_right _ (by simp),h⟩
     .rintro(h|⟨z',h1,h2⟩)
      .exact .inl (.inl h)
      .rcases mem_append.mp h1 with h|h
       .exact .inl (.inr ⟨z',h,h2⟩)
       .rw[mem_singleton.mp h]at h2;exact .inr h2
    walk_at "vc0";cases hz2:z.2 with
    |none=>
     refine vE ⟨k3.trans k4,s4,⟨_,⟨ep,e4⟩,kJ nd3,fun x=>fin x _ ?_⟩,_,rfl⟩;rw[mem4,hz2];simp
    |some w=>
     refine uK ?_;walk_at "vc1";refine .inl ⟨_,.inr w,⟨ep,e4⟩,rfl,iQ (by rw[pE];omega),fun ep2=>⟨(k3.trans k4).trans (eP.dk ⟨ep,e4⟩),fun b o h=>by rw[aH (aF h hp)];exact s4 b o h,⟨nQ (nQ Ks' z.1) w,⟨ep2,by rw[aB,pD]⟩,kJ (kJ nd3),fun x=>fin x _ ?_⟩,_,rfl⟩⟩;rw[mZ,mem4,hz2];simp only[Option.some.injEq];rw[or_assoc];exact or_congr Iff.rfl (or_congr Iff.rfl eq_comm)
   .rintro σ H3 ⟨k3,s3,⟨Ks',⟨e3,hK3⟩,nd3,mem3⟩,v3',v4',v5',rfl⟩;rw[<-hpm.length,take_length]at mem3;have hall:∀x,x∈Ks'↔sG (aP xs) hm x:=fun x=>by rw[mem3,hmem];exact Iff.rfl
    have hl3:=bd nd3 fun x hx=>hsub x ((hall x).mp hx)
    walk_at "vc0";refine⟨lA Ks',⟨e3,.inl hK3⟩,Ks',GN Ks',by omega,fun l out pm hso hl=>⟨_,bM.of aB,fun t ht=>?_⟩⟩;have s4:=(aG.upd (o:=.lst (out.map V.str)) hl).trans (aG.upd (o:=.tup (out.map V.str)) ht);exact q t out _ (s3.trans s4) aB (pm.nodup_iff.mpr nd3) hso fun x=>by rw[pm.mem_iff,hall]
theorem jP:aZ ["_law_state","_law_some","_law_signs"] ["_law_state"] (aC cQ):=⟨rfl,rfl,rfl,by decide+kernel,rfl,by decide+kernel,by decide+kernel⟩
set_option maxHeartbeats 4000000 in
theorem xK (T:Txt K mg fs fds tc u) (G_law_take:bB P w K mg base d8 1 (fs 17) (fds 17) ["_law_state","_law_many"] DC):bB P w K mg base d8 2 (fs 18) (fds 18) ["_law_state"] LR:=by
 refine T.rK.F.ok jP (fun vs H Q E h=>?_) (fun cdv A outer s H vs Q E hr h=>?_)
 .obtain⟨p,c,rfl,hp,hc,q⟩:=h;rfl
 .obtain⟨p,c,rfl,hp,hc,q⟩:=h;refine boxed ⟨_,(pY (EU (i:=1) jP.nd rfl rfl (P9 (jA (ew bP) (jA (ew bP) (jA (ew bP) (jA (ew bP) (jA (ew bP) (jA (ew bP) (jA (ew bP) (jA (ew bP) (jA (ew bP) (jA (ew bP) (jA (ew bP) (jA (ew bP) (jA (ew bP) (jA (ew bP) (jA (ew bP) (jA (ew bP) EH))))))))))))))))))
   (pY (sw (fU (bC FU (bE T.bW G_law_take hr (by decide) rfl (aA (pv 0) (aA aJ aE))) aJ (dM _)) (aK (bF (bA (D6 K) (pv 1) (bE T.bW G_law_take hr (by decide) rfl (aA (pv 0) (aA aJ aE))) (fun _ _=>rfl)))) cU))
   (pY (sw (aQ (i:=2) jP.nd rfl (Or.inr rfl) bP))
   (J3 (sw (bF (g4 K PySem.F.plainAttrs_str PySem.F.slot_str_join PySem.F.type_str_join (OS K) bP (aA (mR ["_law_k","_law_signs","_law_state"] 1 [2,0] ["_law_state","_law_some","_law_signs"] (aC cQ) rfl rfl rfl (gB rfl T.fL (aA (bR fT aJ (bE T.bW G_law_take hr (by decide) rfl (aA (pv 0) (aA aJ aE)))) aE)) (by decide+kernel) (fun _=>(aO (i:=0) (show(["_law_k","_law_signs","_law_state"]:List Str).Nodup by decide+kernel) rfl (Or.inl rfl))) (fun _=>dE) (fun _=>(bA MC (pv 1) (bE T.bW G_law_take hr (by decide) rfl (aA (pv 2) (aA aJ aE))) (fun _ _=>rfl)))) aE)))))))),?_⟩
  have e36:HK.length=36:=by decide+kernel
  have e0:(Str.ofString "").length=0:=by decide+kernel
  refine aI ?_;walk_at "vc0"
  refine⟨by decide,fun l hl=>?_⟩;have hpl:=(Box.ne hp hl).symm;have hlv:∀v∈[V.str (Str.ofString "b"),V.str (Str.ofString "a1"),V.str (Str.ofString "zz"),V.str (Str.ofString "m0n"),V.str (Str.ofString "a"),V.str (Str.ofString "k9"),V.str (Str.ofString "0"),V.str (Str.ofString "queen"),V.str (Str.ofString "lett12"),V.str (Str.ofString "z"),V.str (Str.ofString "b2"),V.str (Str.ofString "00"),V.str (Str.ofString "abcdefghijkl"),V.str (Str.ofString "c"),V.str (Str.ofString "aa"),V.str (Str.ofString "9")],∃x:Str,v= .str x/\eM x=true:=by
   intro v hv;simp only[mem_cons,mem_nil_iff,or_false]at hv;rcases hv with h|h|h|h|h|h|h|h|h|h|h|h|h|h|h|h<;>exact⟨_,h,by decide+kernel⟩
  have hL16:([V.str (Str.ofString "b"),V.str (Str.ofString "a1"),V.str (Str.ofString "zz"),V.str (Str.ofString "m0n"),V.str (Str.ofString "a"),V.str (Str.ofString "k9"),V.str (Str.ofString "0"),V.str (Str.ofString "queen"),V.str (Str.ofString "lett12"),V.str (Str.ofString "z"),V.str (Str.ofString "b2"),V.str (Str.ofString "00"),V.str (Str.ofString "abcdefghijkl"),V.str (Str.ofString "c"),V.str (Str.ofString "aa"),V.str (Str.ofString "9")].length:Int)=16:=rfl;generalize [V.str (Str.ofString "b"),V.str (Str.ofString "a1"),V.str (Str.ofString "zz"),V.str (Str.ofString "m0n"),V.str (Str.ofString "a"),V.str (Str.ofString "k9"),V.str (Str.ofString "0"),V.str (Str.ofString "queen"),V.str (Str.ofString "lett12"),V.str (Str.ofString "z"),V.str (Str.ofString "b2"),V.str (Str.ofString "00"),V.str (Str.ofString "abcdefghijkl"),V.str (Str.ofString "c"),V.str (Str.ofString "aa"),V.str (Str.ofString "9")]=L16 at hlv hL16;refine aI ?_;walk_at "vc0"
  refine⟨p,_,c,rfl,Box.same (p:=p) hp (aG.upd hl),by omega,by decide,by decide,fun d H1 d0 d1 hp1 b1=>⟨d,rfl,DV (fun _=>?_) (fun _=>?_)⟩⟩
  .refine⟨p,_,_,rfl,hp1,by omega,by decide,by decide,fun d2 H2 e0' e1' hp2 b2=>?_⟩;have hl2:=b2 l _ (b1 l _ aB hpl) hpl;obtain⟨v,hv1,hv2⟩:=uL (xs:=L16) e0' (by rw[hL16];exact e1');obtain⟨x,rfl,hx⟩:=hlv v hv1;exact⟨_,_,rfl,bM.of hl2,_,hv2,q x H2 hx (Box.up (p:=p) hp2 (by omega)) (((eO.of (aG.upd hl)).trans b1).trans b2)⟩
  .refine aI ?_;walk_at "vc5"
   refine⟨rfl,_,rfl,p,12,_,rfl,hp1,by omega,by decide,by decide,fun m H2 m0 m1 hp2 b2=>⟨_,_,rfl,rfl,_,rfl,by omega,by omega,fun l4 hl4=>pU 0 _ p (c+1+1) 1 (fun _ v=>∃x:Str,v= .str x/\(x.length=1/\∀c∈x.cps.toList,c∈HK.cps.toList)) (fun σ=>∃o,σ=[o,some (V.str HK),some (.ref p)]) ⟨_,rfl⟩ hp2 hl4 (by omega) (fun _ _ _ _ h=>h) ?_ ?_⟩⟩
   .rintro i σ H4 xs N hi ⟨o,rfl⟩ hp4 hx hxl b4 hN;unfold dD;walk_at "vc2";refine⟨p,_,_,rfl,hp4,by omega,by decide,by decide,fun d H5 d0 d1 hp5 b5=>?_⟩;obtain⟨cc,hcm,hcc⟩:=HJ (z:=HK) d0 (by rw[e36];exact d1);exact⟨_,rfl,lK (by rw[e36];decide),_,hcc,hN _ _ _ ⟨_,rfl⟩ ⟨_,rfl,rfl,fun c hc=>by simp at hc;rw[hc];exact hcm⟩ hp5 b5⟩
   .intro ys H4 hyl hR hy hp4 b4;obtain⟨zs,e,hz⟩:=qC hR;subst e;rw[length_map]at hyl;refine⟨_,l4,zs,rfl,rfl,bM.of hy,by rw[e0,wO fun y hy=>(hz y hy).1];omega,q _ H4 (DQ (fun _ h=>h) hz (by omega) (by omega)) (Box.up (p:=p) hp4 (by omega)) ((((eO.of (aG.upd hl)).trans b1).trans b2).trans b4)⟩
theorem DT:aZ ["_law_state","_law_some"] ["_law_state","_law_some"] (aC fA):=⟨rfl,rfl,rfl,by decide+kernel,rfl,by decide+kernel,by decide+kernel⟩
set_option maxHeartbeats 4000000 in
theorem DB (T:Txt K mg fs fds tc u) (G_law_take:bB P w K mg base d8 1 (fs 17) (fds 17) ["_law_state","_law_many"] DC):bB P w K mg base d8 2 (fs 20) (fds 20) ["_law_state","_law_some"] NM:=by
 refine T.jQ.F.ok DT (fun vs H Q E h=>?_) (fun cdv A outer s H vs Q E hr h=>?_)
 .obtain⟨p,l,c,xs,rfl,hp,hc,hl,np,l1,l2,q⟩:=h;rfl
 .obtain⟨p,l,c,xs,rfl,hp,hc,hl,np,l1,l2,q⟩:=h;refine⟨_,(aK (bF (bA (D6 K) (pv 1) (bE T.bW G_law_take hr (by decide) rfl (aA (pv 0) (aA (bN (Q0 K) (by rfl) T.tG D9 (aA (pv 1) aE)) aE))) (fun _ _=>rfl)))),?_⟩;walk_at "vc0";refine⟨_,bM.of hl,p,_,c,rfl,hp,by omega,by omega,by omega,fun d H1 d0 d1 hp1 b1=>?_⟩;obtain⟨y,hy,hat⟩:=uL d0 d1;exact⟨_,_,rfl,bM.of (b1 _ _ hl np),_,hat,q y H1 hy hp1 b1⟩
theorem i6:aZ ["pack","marks","names","held","rows","claimed"] ["pack","marks","names"] (aC cW):=⟨rfl,rfl,rfl,by decide+kernel,rfl,by decide+kernel,by decide+kernel⟩
set_option maxHeartbeats 4000000 in
theorem zV (T:Txt K mg fs fds tc u) (G_rows_of:bB P w K mg base d8 2 (fs 6) (fds 6) ["pack"] B7) (G_claims_of:bB P w K mg base d8 2 (fs 7) (fds 7) ["pack"] LD) (G_choice:bB P w K mg base d8 1 (fs 8) (fds 8) ["held","rows","claimed","name"] KZ):bB P w K mg base d8 3 (fs 9) (fds 9) ["pack","marks","names"] LN:=by
 refine T.sN.F.ok i6 (fun vs H Q E h=>?_) (fun cdv A outer s H vs Q E hr h=>?_)
 .obtain⟨v,mv,t,xs,hm,ns,rfl,hP,h100,hM,ndM,hml,ht,ndN,hnl,q⟩:=h;rfl
 .obtain⟨v,mv,t,xs,hm,ns,rfl,hP,h100,hM,ndM,hml,ht,ndN,hnl,q⟩:=h;refine⟨_,(aD (aQ (i:=3) i6.nd rfl (Or.inr rfl) (qU ["name","elder"] 2 [] ["pack","marks","names","held","rows","claimed"] (aC cW) rfl rfl rfl (eK K (pv 1)) (by decide+kernel) (fun _=>(eX (n:=2) K rfl (aY (aO (i:=0) (show(["name","elder"]:List Str).Nodup by decide+kernel) rfl (Or.inl rfl)) (aY (aO (i:=1) (show(["name","elder"]:List Str).Nodup by decide+kernel) rfl (Or.inl rfl)) eW)))) (fun _=>dE) (fun _=>(pv 0)) (fun _=>(pv 1))))
   (aD (aQ (i:=4) i6.nd rfl (Or.inr rfl) (bE T.t8 G_rows_of hr (by decide) rfl (aA (pv 0) aE)))
   (aD (aQ (i:=5) i6.nd rfl (Or.inr rfl) (bE T.oM G_claims_of hr (by decide) rfl (aA (pv 0) aE)))
   (aK (bF (qU ["name","held","rows","claimed"] 1 [3,4,5] ["pack","marks","names","held","rows","claimed"] (aC cW) rfl rfl rfl (eK K (pv 2)) (by decide+kernel) (fun _=>(aO (i:=0) (show(["name","held","rows","claimed"]:List Str).Nodup by decide+kernel) rfl (Or.inl rfl))) (fun _=>dE) (fun _=>(pv 0)) (fun _=>(bE T.xN G_choice hr (by decide) rfl (aA (pv 1) (aA (pv 2) (aA (pv 3) (aA (pv 0) aE)))))))))))),?_⟩
  obtain⟨ta,us,rfl,hta,hp⟩:=hM;have hlu:=hp.length;have hSl:=dC xs;refine aI ?_;walk_at "vc0"
  refine⟨_,rfl,ta,rfl,⟨us,bO.of hta⟩,fun lh hlh=>NF (bO.of hta) hp ndM (iQ (by omega)) hlh (fun σ=>∃o1 o2,σ=[o1,o2]) ⟨_,_,rfl⟩ ?_ ?_⟩
  .rintro z u σ H2 kvs N ⟨o1,o2,rfl⟩ ⟨b,rfl,hb⟩ hk hkl hN;unfold kP;walk_at "vc2";exact⟨_,bO.of hb,rfl,_,_,rfl,_,_,rfl,rfl,kvs,hk,.inr z.1,rfl,hkl,fun ep=>hN _ ep ⟨_,_,rfl⟩⟩
  .intro ep;have s1:aG H (upd H lh (.dK (bK hm) ep)):=aG.upd hlh;have e1:upd H lh (.dK (bK hm) ep) lh=some (.dK (bK hm) ep):=aB;generalize upd H lh (.dK (bK hm) ep)=H1 at s1 e1⊢
   refine aI ?_;walk_at "vc0";refine⟨v,xs,rfl,hP.kt s1.kt,fun dr kr H2 s2 hr2 hR=>?_⟩;refine aI ?_;walk_at "vc0"
   refine⟨v,xs,rfl,hP.kt (s1.trans s2).kt,h100,fun dc kc C H3 s3 hc2 hC aW hcl=>?_⟩;have s03:=(s1.trans s2).trans s3;have ht3:=s03 _ _ ht;have hr3:=cC hr2 s3;have hR3:Paired (y8 H3) (aP xs) kr:=L2.Paired.dP hR fun _ _ h=>h.kt s3.kt
   have hh3:=(s2.trans s3) _ _ e1;walk_at "vc0";refine⟨_,rfl,t,rfl,⟨_,bO.of ht3⟩,fun l hl0=>p9 (α:=Str) (P:=fun _ n u=>u=V.str n) (bO.of ht3) (oE ns) (fun n=>n) (fun H n v=>∃t r e,v= .ref t/\H t=some (.tup [oV e,r])/\LM hm (aP xs) n e) (fun σ=>∃o,σ=[o,some (.ref lh),some (.ref dr),some (.ref dc)]) ⟨_,rfl⟩ hl0 (iQ (by omega)) (by rw[List.map_id'];exact ndN) (fun _ _ _ _ k ⟨t,r,e,h1,h2,h3⟩=>⟨t,r,e,h1,k _ _ h2,h3⟩) ?_ (fun H4 kvs s4 hk pr=>?_)⟩
   .rintro n u σ H4 kvs N hn rfl ⟨o,rfl⟩ s4 hk hz hN;unfold kP;walk_at "vc2";refine⟨lh,dr,dc,n,hm,aP xs,kr,kc,C,rfl,⟨_,s4 _ _ hh3⟩,cC hr3 s4,L2.Paired.dP hR3 fun _ _ h=>h.kt s4.kt,fZ xs,cC hc2 s4,L2.Paired.dP hC fun _ _ h=>h.same s4,aW,hcl,fun t2 rr e H5 s5 ht5 hch=>?_⟩;exact⟨kvs,cC hk s5,.inr n,rfl,hz,fun ep=>hN _ _ _ ep ⟨_,rfl⟩ s5 ⟨t2,rr,e,rfl,ht5,hch⟩⟩
   .obtain⟨ab,e2,p2,q2⟩:=A6 pr;exact q l ab H4 (s03.trans s4) (CM s03 hl0) ⟨kvs,hk,p2⟩ e2 q2
theorem fX:aZ ["pack","marks","ties","held","days","round_about"] ["pack","marks","ties"] (aC bL):=⟨rfl,rfl,rfl,by decide+kernel,rfl,by decide+kernel,by decide+kernel⟩
set_option maxHeartbeats 4000000 in
theorem vM (T:Txt K mg fs fds tc u) (G_days_of:bB P w K mg base d8 2 (fs 5) (fds 5) ["pack"] FF) (G_rings_in:bB P w K mg base d8 1 (fs 0) (fds 0) ["above"] OQ) (G_begun_with:bB P w K mg base d8 1 (fs 12) (fds 12) ["ring","name"] OT) (G_cut_one:bB P w K mg base d8 1 (fs 11) (fds 11) ["ring","held","days"] LV):bB P w K mg base d8 3 (fs 13) (fds 13) ["pack","marks","ties"] LA:=by
 refine T.oN.F.ok fX (fun vs H Q E h=>?_) (fun cdv A outer s H vs Q E hr h=>?_)
 .obtain⟨v,mv,d,xs,hm,ab,rfl,hP,hM,ndM,hml,hT,nd,hl,hsub,hac,q⟩:=h;rfl
 .obtain⟨v,mv,d,xs,hm,ab,rfl,hP,hM,ndM,hml,hT,nd,hl,hsub,hac,q⟩:=h;refine⟨_,(aD (aQ (i:=3) fX.nd rfl (Or.inr rfl) (qU ["name","elder"] 2 [] ["pack","marks","ties","held","days","round_about"] (aC bL) rfl rfl rfl (eK K (pv 1)) (by decide+kernel) (fun _=>(eX (n:=2) K rfl (aY (aO (i:=0) (show(["name","elder"]:List Str).Nodup by decide+kernel) rfl (Or.inl rfl)) (aY (aO (i:=1) (show(["name","elder"]:List Str).Nodup by decide+kernel) rfl (Or.inl rfl)) eW)))) (fun _=>dE) (fun _=>(pv 0)) (fun _=>pX)))
   (aD (aQ (i:=4) fX.nd rfl (Or.inr rfl) (bE T.tJ G_days_of hr (by decide) rfl (aA (pv 0) aE)))
   (aD (aQ (i:=5) fX.nd rfl (Or.inl rfl) (bE T.rF G_rings_in hr (by decide) rfl (aA (qU ["name","ties"] 1 [2] ["pack","marks","ties","held","days","round_about"] (aC bL) rfl rfl rfl (pC (pv 2)) (by decide+kernel) (fun _=>(aO (i:=0) (show(["name","ties"]:List Str).Nodup by decide+kernel) rfl (Or.inl rfl))) (fun _=>dE) (fun _=>(pv 0)) (fun _=>(bA (qE K) (bA (Mr.BE hr) (pv 1) (pv 0) (fun _ _=>rfl)) aJ (fun _ _=>rfl)))) aE)))
   (aK (bF (cE (rW K) (by rfl) T.dI d5 (aA (bN (K9 K hr) (by rfl) T.d6 fH (aA (mR ["ring","held","days"] 1 [3,4] ["pack","marks","ties","held","days","round_about"] (aC bL) rfl rfl rfl (j7 K (pv 5)) (by decide+kernel) (fun _=>(aO (i:=0) (show(["ring","held","days"]:List Str).Nodup by decide+kernel) rfl (Or.inl rfl))) (fun _=>dE) (fun _=>(bE T.m7 G_begun_with hr (by decide) rfl (aA (pv 0) (aA (bE T.sT G_cut_one hr (by decide) rfl (aA (pv 0) (aA (pv 1) (aA (pv 2) aE)))) aE))))) aE)) aE))))))),?_⟩
  have h1000:xs.length<=1000:=let⟨_,_,_,_,_,h⟩:=hP;h
  obtain⟨ta,us0,rfl,hta,hp⟩:=hM;have hlu:=hp.length;have hSl:=dC xs;refine aI ?_;walk_at "vc0"
  refine⟨_,rfl,ta,rfl,⟨us0,bO.of hta⟩,fun lh hlh=>p9 (bO.of hta) hp (fun z=>z.1) (fun _ _ v=>v=V.bl true) (fun σ=>∃o1 o2,σ=[o1,o2]) ⟨_,_,rfl⟩ hlh (iQ (by omega)) ndM (fun _ _ _ _ _ h=>h) ?_ (fun H1 kvs s1 hk pr=>?_)⟩
  .rintro z u σ H2 kvs N hz ⟨b,rfl,hb⟩ ⟨o1,o2,rfl⟩ s2 hk hkl hN;unfold kP;walk_at "vc2";exact⟨_,bO.of (s2 _ _ hb),rfl,_,_,rfl,_,_,rfl,rfl,kvs,hk,.inr z.1,rfl,hkl,fun ep=>hN _ _ _ ep ⟨_,_,rfl⟩ (aG.refl _) rfl⟩
  .have ek:=ED pr;subst ek;refine aI ?_;walk_at "vc0"
   obtain⟨kvd,⟨ed,hd⟩,IT⟩:=hT;refine⟨v,xs,rfl,hP.kt s1.kt,fun dy kd H2 s2 hdy hS=>?_⟩;have hd2:=s2 _ _ (s1 _ _ hd);refine aI ?_;walk_at "vc0"
   refine⟨_,rfl,d,kvd,ed,rfl,.inl hd2,fun l3 hl3=>BZ (QR d kvd ed) ab (fun z=>V.str z.1) (fun z=>z.1) (fun _ z v=>v=oV z.2) (fun σ=>∃o,σ=[o,some (.ref d)]) ⟨_,rfl⟩ hl3 (iQ (by omega)) nd (fun H' s=>⟨.inl (s _ _ hd2),IT.length⟩) (fun i H' hi s=>⟨.inl (s _ _ hd2),by have:=IT.length;omega⟩) (fun i H3 v H4 hi s y=>?_) (fun _ _ _ _ _ h=>h) ?_ ?_⟩
   .have hik:i<kvd.length:=by have:=IT.length;omega
    obtain⟨z,hz,hT⟩:=L2.Paired.jI IT (getElem?_eq_getElem hik);refine⟨y.1,z,hz,?_⟩;rw[y.2 _ (getElem?_eq_getElem hik),hT.1];rfl
   .rintro z σ H3 kvs N hz ⟨o,rfl⟩ s3 hk3 hkl hN;unfold kP;walk_at "vc2";obtain⟨t,r,hv,ht⟩:=uW IT nd hz;have s03:=(s1.trans s2).trans s3;refine⟨d,kvd,.inr z.1,_,rfl,⟨ed,.inl (s3 _ _ hd2)⟩,rfl,hv,t,rfl,_,bO.of (s03 _ _ ht),_,DM,kvs,hk3,.inr z.1,rfl,hkl,fun ep=>hN _ _ _ ep ⟨_,rfl⟩ (aG.refl _) rfl⟩
   .intro H3 kvs s3 hk3 pr3;have ek:=G7 pr3;subst ek;have hk3':=hk3;refine⟨l3,ab,rfl,hk3,nd,by omega,fun lr us F S H4 s4 _ e4 hpF fd hS4 hFl hRl=>?_⟩;have s04:=((s1.trans s2).trans s3).trans s4;have hk4:=cC hk (s2.trans (s3.trans s4));have hy4:=cC hdy (s3.trans s4);have hyl:=hS.length;have hul:=hpF.length;have hzf:(F.zip us).map (·.1)=F:=map_fst_zip (by omega);have hzl:(F.zip us).length=F.length:=by rw[length_zip,hul,min_self]
    refine⟨_,rfl,lr,rfl,⟨us,bM.of e4⟩,fun l5 hl5=>oA (LC K lr) (F.zip us) (·.2) (fun _=>true) (K8 (ks hm) (aP xs)) (fun σ=>∃o,σ=[o,some (.ref lh),some (.ref dy)]) ⟨_,rfl⟩ hl5 (iQ (by omega)) (fun H' s=>⟨us,(bM.of e4).same s,by omega⟩) (fun i H' hi s=>⟨us,us[i]'(by omega),(bM.of e4).same s,by simp⟩) (fun i H5 v H6 hi s y=>?_) (fun _ _ _ _ k ⟨b,c,T,e,h,h2⟩=>⟨b,c,T,e,k _ _ h,h2⟩) ?_ ?_⟩
    .have hv:=y.2 us ((bM.of e4).same s);exact⟨y.1,(F[i]'(by omega),us[i]'(by omega)),by rw[getElem?_eq_getElem hi,getElem_zip],by rw[getElem?_eq_getElem (by omega)]at hv;exact(Option.some.inj hv).symm⟩
    .rintro z σ H5 ys N hz ⟨o,rfl⟩ s5 e5 hyz hN1 hN2;obtain⟨⟨b,eb,hb⟩,hzF⟩:=u6 hpF hz;have hb5:=s5 _ _ hb;rw[eb];unfold dD;walk_at "vc2";refine⟨b,lh,dy,z.1,ks hm,kd,aP xs,rfl,hb5,hRl _ hzF,cC hk4 s5,by rw[length_map];omega,cC hy4 s5,L2.Paired.dP hS fun _ _ h=>h,by omega,fZ xs,CU (fd.ring _ hzF) nd hsub hac,fun c H6 s6 hc=>⟨b,z.1,c,rfl,s6 _ _ hb5,hc.1,hRl _ hzF,fun t T H7 s7 ht7 hTl=>?_⟩⟩;exact⟨ys,s7 _ _ (s6 _ _ e5),hyz,hN2 rfl _ _ _ ⟨_,rfl⟩ (s6.trans s7) ⟨t,c,T,rfl,ht7,hc,hTl⟩⟩
    .intro H5 ys s5 hpr e5;rw[show(F.zip us).filter (fun _=>true)=F.zip us from filter_eq_self.mpr (by simp)]at hpr;obtain⟨Rs,hRs,aW,hcx⟩:=BS hpr fun z hz=>hRl _ (u6 hpF hz).2
     rw[hzf]at aW hcx;have hyl5:=hpr.length;refine⟨l5,rfl,ys,bM.of e5,_,G0 hRs,by omega,fun x hx=>?_,J9 Rs,fun l2 zs2 hzs2 hl2=>⟨_,bM.of aB,fun t ht=>?_⟩⟩
     .obtain⟨T,hT,rfl⟩:=mem_map.mp hx;obtain⟨c,r,rfl,_⟩:=aW.hd T hT;rfl
     .obtain⟨wb,pw,ew⟩:=gO (Mr.dG 3 _) rfl;rw[ew]at hzs2;have s6:=(aG.upd (o:=.lst zs2) hl2).trans (aG.upd (o:=.tup zs2) ht);have hpp:=GK hzs2;refine q t zs2 F S wb _ ((s04.trans s5).trans s6) aB (L2.Paired.dP hpp fun _ _ ⟨b,e,h⟩=>⟨b,e,s6.kt _ _ h⟩) (aW.perm pw) (hcx.perm pw) fd hS4 ?_;have h7:=hpp.length;have h8:=pw.length_eq;have h9:=hRs.length;omega
theorem gY:aZ ["_law_state","_law_many","_law_found","_law_k","_law_name_here"] ["_law_state","_law_many"] (aC dH):=⟨rfl,rfl,rfl,by decide+kernel,rfl,by decide+kernel,by decide+kernel⟩
set_option maxHeartbeats 4000000 in
theorem xM (T:Txt K mg fs fds tc u) (G_law_name:bB P w K mg base d8 2 (fs 18) (fds 18) ["_law_state"] LR):bB P w K mg base d8 3 (fs 19) (fds 19) ["_law_state","_law_many"] BA:=by
 refine T.rD.F.ok gY (fun vs H Q E h=>?_) (fun cdv A outer s H vs Q E hr h=>?_)
 .obtain⟨p,c,m,rfl,hp,hc,m2,m6,q⟩:=h;rfl
 .obtain⟨p,c,m,rfl,hp,hc,m2,m6,q⟩:=h;refine⟨_,(aD (aQ (i:=2) gY.nd rfl (Or.inl rfl) (g8 aE))
   (aD (dB PassesOwn.never rfl (gB rfl T.fL (aA (pv 1) aE)) (aO (i:=3) gY.nd rfl (Or.inl rfl)) (aD (aQ (i:=4) gY.nd rfl (Or.inl rfl) (bE T.rK G_law_name hr (by decide) rfl (aA (pv 0) aE)))
   (aK (fU (bC (EF K) (pv 4) (pv 2) (by rfl)) (aK (gP (g4 K plainAttrs_list PySem.F.slot_list_append PySem.F.type_list_append d9 (pv 2) (aA (pv 4) aE)))) cU))))
   (aK (bF (pv 2))))),?_⟩
  refine aI ?_;walk_at "vc0"
  refine⟨zero_le _,fun l hl=>?_⟩;have np:l≠p:=(Box.ne hp hl).symm;refine aI ⟨_,rfl,_,rfl,by omega,by omega,kG (lo:=0) (n:=m) (fun i σ H'=>Box (c+20*i) H' p/\eO p H H'/\(∃zs:List Str,H' l=some (.lst (zs.map V.str))/\(0<i->1<=zs.length)/\zs.length<=i/\∀z∈zs,eM z=true)/\∃v3 v4,σ=[some (.ref p),some (.int (m:Int)),some (.ref l),v3,v4]) ?_ ?_ ?_⟩
  .exact⟨Box.same (p:=p) hp (aG.upd hl),eO.of (aG.upd hl),⟨[],aB,(fun h=>absurd h (by decide)),le_refl _,fun _ h=>nomatch h⟩,_,_,rfl⟩
  .rintro i σ H1 hi ⟨hp1,f1,⟨zs,hz,hz0,hz1,hz2⟩,v3,v4,rfl⟩;show vB _ _ _ _ _;refine aI ?_;walk_at "vc0"
   refine⟨p,c+20*i,rfl,hp1,by omega,fun x H2 x1 hp2 f2=>?_⟩;have hp2:Box (c+20*(i+1)) H2 p:=hp2;have hl2:=f2 l _ hz np;walk_at "vc0";refine⟨_,.inl (bM.of hl2),rfl,tP,?_⟩;rw[BM];cases hcx:zs.contains x with
   | false=>
    refine kM ⟨.inl ⟨_,bM.of hl2⟩,_,hl2,iQ (by rw[length_map];omega),?_,?_,⟨zs++[x],?_,?_,?_,?_⟩,?_⟩
    .show J8 _ (upd H2 l _ p);rw[aH np.symm];exact hp2
    .exact fun b o hb n1=>by rw[aH (aF hb hl)];exact f2 b o (f1 b o hb n1) n1
    .rw[aB,map_append,map_singleton]
    .intro _;rw[length_append];show 1<=_+1;omega
    .rw[length_append];show _+1<=_;omega
    .intro z hz';rcases mem_append.mp hz' with h|h
     .exact hz2 z h
     .rw[mem_singleton.mp h];exact x1
    .exact⟨_,rfl⟩
   | true=>
    have hne:1<=zs.length:=by
     cases zs with
     |nil=>cases hcx
     |cons _ _=>exact Nat.succ_le_succ (zero_le _)
    exact jH ⟨hp2,f1.trans f2,⟨zs,hl2,fun _=>hne,by omega,hz2⟩,_,rfl⟩
  .rintro σ H1 ⟨hp1,f1,⟨zs,hz,hz0,hz1,hz2⟩,v3,v4,rfl⟩;exact⟨_,rfl,q l zs H1 hl hz (hz0 (by omega)) hz1 hz2 (Box.up (p:=p) hp1 (by omega)) f1⟩
theorem fY:aZ ["_law_state","_law_pool_here","_law_share","_law_held","_law_name_here","_law_lot","_law_elder"] ["_law_state","_law_pool_here","_law_share"] (aC cL):=⟨rfl,rfl,rfl,by decide+kernel,rfl,by decide+kernel,by decide+kernel⟩
set_option maxHeartbeats 4000000 in
theorem uG (T:Txt K mg fs fds tc u) (G_law_take:bB P w K mg base d8 1 (fs 17) (fds 17) ["_law_state","_law_many"] DC) (G_law_of:bB P w K mg base d8 2 (fs 20) (fds 20) ["_law_state","_law_some"] NM) (G_law_leads:bB P w K mg base d8 1 (fs 21) (fds 21) ["_law_held","_law_at","_law_goal"] AQ):bB P w K mg base d8 3 (fs 22) (fds 22) ["_law_state","_law_pool_here","_law_share"] AU:=by
 refine T.oG.F.ok fY (fun vs H Q E h=>?_) (fun cdv A outer s H vs Q E hr h=>?_)
 .obtain⟨p,l,zs,n,c,rfl,hp,hc,hl,hz1,hz,hzn,npl,n0,n1,q⟩:=h;rfl
 .obtain⟨p,l,zs,n,c,rfl,hp,hc,hl,hz1,hz,hzn,npl,n0,n1,q⟩:=h;refine⟨_,(aD (aQ (i:=3) fY.nd rfl (Or.inl rfl) e9)
   (aD (dB PassesOwn.never rfl (j7 K (pv 1)) (aO (i:=4) fY.nd rfl (Or.inl rfl)) (aD (MK (i:=5) (j:=6) rfl fY.nd rfl rfl (by decide) rfl rfl (aA (bE T.bW G_law_take hr (by decide) rfl (aA (pv 0) (aA (pv 2) aE))) (aA (bE T.jQ G_law_of hr (by decide) rfl (aA (pv 0) (aA (pv 1) aE))) aE)) rfl)
   (aD (fU (bC B2 (pv 5) aJ (dM _)) (aK (eG (fD hr) (pv 3) (pv 4) g5 rfl)) cU)
   (aK (fU (PW.pt (n5 (bC B2 (pv 5) aJ (dM _)) (kC (N4 (MM (bE T.oY G_law_leads hr (by decide) rfl (aA (pv 3) (aA (pv 6) (aA (pv 4) aE))))))))) (aK (eG (fD hr) (pv 3) (pv 4) (pv 6) rfl)) cU)))))
   (aK (bF (cE (rW K) (by rfl) T.dI d5 (aA (bN (Mr.sortI K hr) (by rfl) T.d6 fH (aA (wK (pv 3)) aE)) aE)))))),?_⟩
  refine aI ?_;walk_at "vc0"
  refine fun d hd=>?_
  have ndp:d≠p:=(Box.ne hp hd).symm;have ed:upd H d (.dK [] 0) d=some (.dK [] 0):=aB;have s0:=aG.upd (o:=.dK [] 0) hd;have hp0:=Box.same (p:=p) hp s0;have b0:eO p H (upd H d (.dK [] 0)):=eO.of s0;generalize upd H d (.dK [] 0)=H0 at ed s0 hp0 b0⊢
  refine aI ⟨_,rfl,l,rfl,⟨_,bM.of (s0 _ _ hl)⟩,yC (K:=K) (a:=l) (xs:=zs.map V.str) (fun i σ H'=>Box (c+2*i) H' p/\eO p H H'/\(∃hm,bY H' d (bK hm)/\(ks hm).Nodup/\(∀x,¬Rg.jD (aS hm) x)/\(∀z∈hm,z.1∈zs/\∀y,z.2=some y->y∈zs))/\∃v4 v5 v6,σ=[some (.ref p),some (.ref l),some (.int n),some (.ref d),v4,v5,v6]) ⟨hp0,b0,⟨[],⟨0,ed⟩,nodup_nil,(fun x ⟨k,e⟩=>by cases k<;>cases e),fun _ h=>nomatch h⟩,_,_,_,rfl⟩ (fun i σ H' _ ⟨_,b,_⟩=>bM.of (b _ _ hl npl)) ?_ ?_⟩
  .rintro i u σ H1 hu ⟨hp1,b1,⟨hm,⟨e1,hd1⟩,ndm,hac,hmz⟩,v4,v5,v6,rfl⟩;obtain⟨z,hz0,rfl⟩:=strAt hu;have hzm:=mem_of_getElem? hz0;have hil:=(List.getElem?_eq_some_iff.mp hz0).1;have hml:hm.length<=zs.length:=by
    have h1:=dX ndm (ys:=zs) fun x hx=>by obtain⟨y,hy,rfl⟩:=mem_map.mp hx;exact(hmz y hy).1
    unfold ks at h1;rw[length_map]at h1;exact h1
   walk_at "vc0";refine aI ?_;walk_at "vc0"
   refine⟨p,n,_,rfl,hp1,by omega,n0,by omega,fun d1 H2 d10 d11 hp2 b2=>⟨p,l,_,_,rfl,hp2,by omega,b2 _ _ (b1 _ _ hl npl) npl,npl,by rw[length_map];omega,by rw[length_map];omega,fun ev H3 hev hp3 b3=>?_⟩⟩;obtain⟨e,hez,rfl⟩:=mem_map.mp hev;have b03:=(b1.trans b2).trans b3;have hd3:=b3 _ _ (b2 _ _ hd1 ndp) ndp;have key:∀(H4:Hp) (hm':Hl) (ep:Nat),Box (c+2*i+1+1) H4 p->eO p H H4->H4 d=some (.dK (bK hm') ep)->(ks hm').Nodup->(∀x,¬Rg.jD (aS hm') x)->(∀z∈hm',z.1∈zs/\∀y,z.2=some y->y∈zs)->∀ov ep',upd H4 d (.dK (bK (cD hm' z ov)) ep') d=some (.dK (bK (cD hm' z ov)) ep')/\Box (c+2*i+1+1) (upd H4 d (.dK (bK (cD hm' z ov)) ep')) p/\eO p H (upd H4 d (.dK (bK (cD hm' z ov)) ep')):=fun H4 hm' ep hp4 b4 hd4 _ _ _ ov ep'=>⟨aB,by
     obtain⟨a,b,k,he,r⟩:=hp4;exact⟨a,b,k,by rw[aH ndp.symm];exact he,r⟩,fun b o h n=>by rw[aH (aF h hd)];exact b4 b o h n⟩
   have hkl:(bK hm).length<sizeLine:=iQ (by rw[dU];omega);refine CD (fun σ' H'=>σ'=[some (.ref p),some (.ref l),some (.int n),some (.ref d),some (.str z),some (.int d1),some (.str e)]/\Box (c+2*i+1+1) H' p/\eO p H H'/\∃hm,bY H' d (bK hm)/\(ks hm).Nodup/\(∀x,¬Rg.jD (aS hm) x)/\(∀z∈hm,z.1∈zs/\∀y,z.2=some y->y∈zs)) (fun N hN=>?_) (fun σ' H4 ⟨eσ,hp4,b4,hm',⟨e4,hd4⟩,nd4,ac4,hz4⟩=>?_)
   .walk_at "vc1";refine⟨rfl,DV (fun _=>.inl ⟨bK hm,.inr z,⟨e1,hd3⟩,rfl,hkl,fun ep=>?_⟩) (fun _=>hN _ _ ⟨rfl,hp3,b03,hm,⟨e1,hd3⟩,ndm,hac,hmz⟩)⟩;rw[show putK (bK hm) (.inr z) V.aU=bK (cD hm z none)from i9 hm z none];obtain⟨k1,k2,k3⟩:=key H3 hm e1 hp3 b03 hd3 ndm hac hmz none ep;exact hN _ _ ⟨rfl,k2,k3,_,⟨ep,k1⟩,yV ndm,KG hac z,fun y hy=>(AG hy).elim (hmz y) fun e=>by rw[e];exact⟨hzm,fun _ h=>nomatch h⟩⟩
   .subst eσ;have hml4:hm'.length<=zs.length:=by
     have h1:=dX nd4 (ys:=zs) fun x hx=>by obtain⟨y,hy,rfl⟩:=mem_map.mp hx;exact(hz4 y hy).1
     unfold ks at h1;rw[length_map]at h1;exact h1
    have fin:Box (c+2*(i+1)) H4 p/\eO p H H4/\(∃hm,bY H4 d (bK hm)/\(ks hm).Nodup/\(∀x,¬Rg.jD (aS hm) x)/\(∀z∈hm,z.1∈zs/\∀y,z.2=some y->y∈zs)):=⟨hp4,b4,hm',⟨e4,hd4⟩,nd4,ac4,hz4⟩;walk_at "vc1";refine⟨rfl,DV (fun _=>⟨d,hm',some e,z,rfl,⟨e4,hd4⟩,ac4,fun b H5 s5 hb=>⟨b,rfl,?_⟩⟩) (fun _=>⟨fin.1,fin.2.1,fin.2.2,_,rfl⟩)⟩;have hp5:=Box.same (p:=p) hp4 s5;have b5:=b4.trans (eO.of (p:=p) s5);have hd5:=s5 _ _ hd4;cases b with
    |true=>exact vE ⟨hp5,b5,⟨hm',⟨e4,hd5⟩,nd4,ac4,hz4⟩,_,rfl⟩
    |false=>
     refine uK (.inl ⟨bK hm',.inr z,⟨e4,hd5⟩,rfl,iQ (by rw[dU];omega),fun ep=>?_⟩);rw[show putK (bK hm') (.inr z) (V.str e)=bK (cD hm' z (some e))from i9 hm' z (some e)];obtain⟨k1,k2,k3⟩:=key H5 hm' e4 hp5 b5 hd5 nd4 ac4 hz4 (some e) ep;exact⟨k2,k3,⟨_,⟨ep,k1⟩,yV nd4,IU ac4 (fun h=>by have:=hb.mpr h;cases this),fun y hy=>(AG hy).elim (hz4 y) fun ey=>by rw[ey];exact⟨hzm,fun w hw=>by cases hw;exact hez⟩⟩,_,rfl⟩
  .rintro σ H1 ⟨hp1,b1,⟨hm,⟨e1,hd1⟩,ndm,hac,hmz⟩,v4,v5,v6,rfl⟩;rw[length_map]at hp1;have hml:hm.length<=zs.length:=by
    have h1:=dX ndm (ys:=zs) fun x hx=>by obtain⟨y,hy,rfl⟩:=mem_map.mp hx;exact(hmz y hy).1
    unfold ks at h1;rw[length_map]at h1;exact h1
   walk_at "vc0";refine⟨⟨_,e1,.inl hd1⟩,fun v hv=>?_⟩;have s2:=aG.upd (o:=LX v d) hv;have hpp:Mr.g0 (hm.map fun z=>((Sum.inr z.1:Key),pO z.2))=hm.map QN:=by unfold Mr.g0;rw[map_map];rfl
   refine⟨v,d,bK hm,hm.map fun z=>((Sum.inr z.1:Key),pO z.2),true,rfl,aB,⟨e1,.inl (s2 _ _ hd1)⟩,?_,by rw[length_map];omega,by rw[hpp];exact CT _,by rw[hpp];exact DO fun x hx y hy e=>by rw[iY (f:=fun z:Str×Option Str=>z.1) ndm hx hy e],fun l2 H2 as ix s3 has hal hix _ hl2 hl2'=>⟨_,rfl,_,bM.of hl2',fun t ht=>?_⟩⟩
   .exact JT hm
   .rw[length_map]at hix;have pm:=DD (d:=OF) hix;have hpr:=picked hal has fun i hi=>mem_range.mp (hix.mem_iff.mp hi)
    have s4:=(s2.trans s3).trans (aG.upd (o:=.tup (ix.map fun i=>V.ref (as.getD i 0))) ht);have ndq:(ks (ix.map fun i=>hm.getD i OF)).Nodup:=(pm.map (·.1)).nodup_iff.mpr ndm;refine q _ (ix.map fun i=>hm.getD i OF) _ ⟨t,_,rfl,aB,L2.Paired.dP hpr fun _ _ h=>h.kt (aG.upd ht).kt⟩ (by rw[pm.length_eq];omega) ndq (fun x c=>hac x (c.mono fun x y e=>zX ndm (pm.mem_iff.mp (fM e)))) (fun z hz=>hmz z (pm.mem_iff.mp hz)) (Box.same (p:=p) hp1 s4) (b1.trans (eO.of s4))
theorem fN:aZ ["_law_state","_law_pool_here","_law_found","_law_k","_law_day","_law_row"] ["_law_state","_law_pool_here"] (aC cP):=⟨rfl,rfl,rfl,by decide+kernel,rfl,by decide+kernel,by decide+kernel⟩
set_option maxHeartbeats 4000000 in
theorem yE (T:Txt K mg fs fds tc u) (G_law_take:bB P w K mg base d8 1 (fs 17) (fds 17) ["_law_state","_law_many"] DC) (G_law_of:bB P w K mg base d8 2 (fs 20) (fds 20) ["_law_state","_law_some"] NM):bB P w K mg base d8 3 (fs 23) (fds 23) ["_law_state","_law_pool_here"] xA:=by
 refine T.qM.F.ok fN (fun vs H Q E h=>?_) (fun cdv A outer s H vs Q E hr h=>?_)
 .obtain⟨p,l,zs,c,rfl,hp,hc,hl,hz1,hz,hzn,npl,q⟩:=h;rfl
 .obtain⟨p,l,zs,c,rfl,hp,hc,hl,hz1,hz,hzn,npl,q⟩:=h;refine⟨_,(aD (aQ (i:=2) fN.nd rfl (Or.inl rfl) (g8 aE))
   (aD (dB PassesOwn.never rfl (gB rfl T.fL (aA (bE T.bW G_law_take hr (by decide) rfl (aA (pv 0) (aA aJ aE))) aE)) (aO (i:=3) fN.nd rfl (Or.inl rfl)) (aD (aQ (i:=4) fN.nd rfl (Or.inl rfl) (bA (D6 K) (g8 (aA aJ (aA aJ (aA aJ (aA aJ (aA aJ (aA aJ (aA (bE T.bW G_law_take hr (by decide) rfl (aA (pv 0) (aA aJ aE))) aE)))))))) (bE T.bW G_law_take hr (by decide) rfl (aA (pv 0) (aA aJ aE))) (fun _ _=>rfl)))
   (aD (aQ (i:=5) fN.nd rfl (Or.inl rfl) (cE (rW K) (by rfl) T.dI d5 (aA (mR ["_law_at","_law_state","_law_pool_here"] 1 [0,1] ["_law_state","_law_pool_here","_law_found","_law_k","_law_day","_law_row"] (aC cP) rfl rfl rfl (gB rfl T.fL (aA (bE T.bW G_law_take hr (by decide) rfl (aA (pv 0) (aA aJ aE))) aE)) (by decide+kernel) (fun _=>(aO (i:=0) (show(["_law_at","_law_state","_law_pool_here"]:List Str).Nodup by decide+kernel) rfl (Or.inl rfl))) (fun _=>dE) (fun _=>(bE T.jQ G_law_of hr (by decide) rfl (aA (pv 1) (aA (pv 2) aE))))) aE)))
   (aK (gP (g4 K plainAttrs_list PySem.F.slot_list_append PySem.F.type_list_append d9 (pv 2) (aA (cH (aA (bE T.jQ G_law_of hr (by decide) rfl (aA (pv 0) (aA (pv 1) aE))) (aA (pv 4) (aA (bE T.jQ G_law_of hr (by decide) rfl (aA (pv 0) (aA (P9 (jA (ew bP) (jA (ew bP) (jA (ew bP) EH)))).h aE))) (aA (pv 5) aE))))) aE)))))))
   (aK (bF (cE (rW K) (by rfl) T.dI d5 (aA (bN (NJ hr) (by rfl) T.d6 fH (aA (cE (RN K hr) (by rfl) T.wU LY (aA (pv 2) aE)) aE)) aE)))))),?_⟩
  have hml:(zs.map V.str).length=zs.length:=length_map ..;refine aI ?_;walk_at "vc0"
  refine⟨zero_le _,fun f hf=>?_⟩;have npf:=(Box.ne hp hf).symm;have s0:=aG.upd (o:=.lst []) hf;have ef:upd H f (.lst []) f=some (.lst []):=aB;have hp0:=Box.same (p:=p) hp s0;have b0:eO p H (upd H f (.lst [])):=eO.of s0;generalize upd H f (.lst [])=H0 at s0 ef hp0 b0⊢
  refine aI ⟨_,rfl,p,12,c,rfl,hp0,by omega,by decide,by decide,fun m0 H1 m00 m01 hp1 b1=>⟨_,rfl,by omega,by omega,?_⟩⟩;refine kG (fun i σ H'=>Box (c+1+12*i) H' p/\eO p H H'/\(∃xs us,H' f=some (.lst us)/\Paired (fun x u=>nH H' u x) xs us/\xs.length<=i/\∀x∈xs,x.n∈zs/\∀r∈x.row,r∈zs)/\∃v4 v5 v6,σ=[some (.ref p),some (.ref l),some (.ref f),v4,v5,v6]) ⟨hp1,b0.trans b1,⟨[],[],b1 _ _ ef npf,.nil,le_refl _,fun _ h=>nomatch h⟩,_,_,_,rfl⟩ ?_ ?_
  .rintro i σ H2 hi ⟨hp2,b2,⟨xs,us,hf2,hpr,hxl,hxz⟩,v4,v5,v6,rfl⟩;have hi:i<12:=by omega
   show vB _ _ _ _ _;refine aI ?_;walk_at "vc0"
   refine⟨p,100000000,_,rfl,hp2,by omega,by decide,by decide,fun d1 H3 d10 d11 hp3 b3=>⟨lK (by decide),fun t1 ht1=>⟨p,7,_,rfl,Box.same (p:=p) hp3 (aG.upd ht1),by omega,by decide,by decide,fun d2 H4 d20 d21 hp4 b4=>?_⟩⟩⟩;have nt1:t1≠p:=(Box.ne hp3 ht1).symm;have et1:=b4 _ _ (aB (o:=HO.lst [V.int 0,V.int 1,V.int 1,V.int 2,V.int 7,V.int 99999999,V.int d1]) (a:=t1) (H:=H3)) nt1;obtain⟨v,hv,hat⟩:=uL (xs:=[V.int 0,V.int 1,V.int 1,V.int 2,V.int 7,V.int 99999999,V.int d1]) d20 d21;obtain⟨dy,rfl,dy0,dy1⟩:∃m:Int,v= .int m/\0<=m/\m<=99999999:=by
    simp only[mem_cons,mem_nil_iff,or_false]at hv;rcases hv with h|h|h|h|h|h|h<;>exact⟨_,h,by omega,by omega⟩
   refine⟨_,d2,rfl,bM.of et1,_,hat,?_⟩;have k24:eP H2 H4:=((Box.kt (d:=0) hp2 b3).trans (aG.upd (o:=HO.lst [V.int 0,V.int 1,V.int 1,V.int 2,V.int 7,V.int 99999999,V.int d1]) ht1).kt).trans (Box.kt (d:=0) (Box.same (p:=p) hp3 (aG.upd ht1)) b4);have b24:=(b3.trans (eO.of (p:=p) (aG.upd (o:=HO.lst [V.int 0,V.int 1,V.int 1,V.int 2,V.int 7,V.int 99999999,V.int d1]) ht1))).trans b4;clear b3 b4 hp3 ht1 et1 hat hv hp2 hp1 b1;refine aI ?_;walk_at "vc0"
   walk_at "vc6";refine⟨p,5,_,rfl,hp4,by omega,by decide,by decide,fun m5 H5 m50 m51 hp5 b5=>⟨m5,rfl,by omega,by omega,fun l6 hl6=>pU 0 _ p _ 1 (fun _ v=>∃z:Str,v= .str z/\z∈zs) (fun σ=>∃o,σ=[o,some (.ref p),some (.ref l)]) ⟨_,rfl⟩ hp5 hl6 (by omega) (fun _ _ _ _ h=>h) ?_ ?_⟩⟩
   .have hl5:H5 l=some (.lst (zs.map V.str)):=(b2.trans (b24.trans b5)) _ _ hl npl;rintro i' σ H7 ys N hi' ⟨o,rfl⟩ hp7 hx hxl7 b7 hNN;have hl7:=b7 _ _ hl5 npl;unfold dD;walk_at "vc2";refine⟨p,l,_,_,rfl,hp7,by omega,hl7,npl,by omega,by omega,fun y H8 hy hp8 b8=>?_⟩;obtain⟨z,hz',rfl⟩:=mem_map.mp hy;exact hNN _ _ _ ⟨_,rfl⟩ ⟨z,rfl,hz'⟩ hp8 b8
   intro ys H7 hyl hR hy hp7 b7;have k57:eP H2 H7:=(k24.trans (Box.kt (d:=0) hp4 b5)).trans (Box.kt (d:=0) hp5 b7);have b27:=(b24.trans b5).trans b7;obtain⟨row,erow,hrow⟩:=qC hR;subst erow;rw[length_map]at hyl;have nl6:l6≠p:=(Box.ne hp5 hl6).symm;have nl6f:l6≠f:=fun e=>by rw[e,(b24.trans b5) _ _ hf2 npf]at hl6;cases hl6
   clear b24 b5 b7 hp4 hp5 hl6 hR k24;have hl7:=(b2.trans b27) _ _ hl npl;have hf7:=b27 _ _ hf2 npf;refine⟨_,rfl,_,bM.of hy,fun r hr=>⟨.inl ⟨_,bM.of (aG.upd hr _ _ hf7)⟩,p,l,_,_,rfl,Box.same (p:=p) hp7 (aG.upd hr),by omega,aG.upd hr _ _ hl7,npl,by omega,by omega,fun nv H8 hnv hp8 b8=>⟨lK (by decide),fun t2 ht2=>⟨p,t2,_,_,rfl,Box.same (p:=p) hp8 (aG.upd ht2),by omega,aB,(Box.ne hp8 ht2).symm,by decide,by decide,fun hv H9 hhv hp9 b9=>⟨lK (by decide),fun a ha=>?_⟩⟩⟩⟩⟩;obtain⟨n,hn,rfl⟩:=mem_map.mp hnv;obtain⟨hh,rfl,h60,hcs⟩:∃h:Str,hv= .str h/\h.length<=60/\∀c∈h.cps.toList,32<=c/\c<=126:=by
    simp only[mem_cons,mem_nil_iff,or_false]at hhv;rcases hhv with h|h|h<;>exact⟨_,h,by decide+kernel,by decide+kernel⟩
   have br:=eO.of (p:=p) (aG.upd (o:=HO.tup (row.map V.str)) hr);have bt:=eO.of (p:=p) (aG.upd (o:=HO.lst [V.str (Str.ofString ""),V.str (Str.ofString "walls"),V.str (Str.ofString "re: walls")]) ht2);have sa:=aG.upd (o:=HO.tup [V.str n,V.int dy,V.str hh,V.ref r]) ha;have ba:=eO.of (p:=p) sa;have b79:=((br.trans b8).trans bt).trans b9;have k79:eP H7 H9:=(((aG.upd (o:=HO.tup (row.map V.str)) hr).kt.trans (Box.kt (d:=0) (Box.same (p:=p) hp7 (aG.upd hr)) b8)).trans (aG.upd (o:=HO.lst [V.str (Str.ofString ""),V.str (Str.ofString "walls"),V.str (Str.ofString "re: walls")]) ht2).kt).trans (Box.kt (d:=0) (Box.same (p:=p) hp8 (aG.upd ht2)) b9);have nrp:r≠p:=(Box.ne hp7 hr).symm;have er:upd H9 a (HO.tup [V.str n,V.int dy,V.str hh,V.ref r]) r=some (.tup (row.map V.str)):=sa _ _ (((b8.trans bt).trans b9) _ _ aB nrp);have ea:upd H9 a (HO.tup [V.str n,V.int dy,V.str hh,V.ref r]) a=some (HO.tup [V.str n,V.int dy,V.str hh,V.ref r]):=aB;have ef9:upd H9 a (HO.tup [V.str n,V.int dy,V.str hh,V.ref r]) f=some (.lst us):=sa _ _ (b79 _ _ hf7 npf);have kf:eP H2 (upd H9 a (HO.tup [V.str n,V.int dy,V.str hh,V.ref r])):=(k57.trans k79).trans sa.kt;have hpa:Box (c+1+12*i+1+1+1+1*m5.toNat+1+1) (upd H9 a (HO.tup [V.str n,V.int dy,V.str hh,V.ref r])) p:=Box.same (p:=p) hp9 sa;have b2a:eO p H (upd H9 a (HO.tup [V.str n,V.int dy,V.str hh,V.ref r])):=((b2.trans b27).trans b79).trans ba;generalize upd H9 a (HO.tup [V.str n,V.int dy,V.str hh,V.ref r])=HA at er ea ef9 kf hpa b2a⊢
   have kl:eP HA (upd HA f (.lst (us++[V.ref a]))):=fun b o h=>by rw[aH (fun e=>by rw[e,ef9]at h;cases h)];exact h
   have ul:xs.length=us.length:=hpr.length;refine⟨us,ef9,iQ (by omega),?_,fun b o h nb=>?_,⟨xs++[⟨n,dy,hh,row⟩],us++[V.ref a],aB,?_,by rw[length_append];show _+1<=_;omega,fun x hx=>?_⟩,_,rfl⟩
   .refine Box.up (c:=c+1+12*i+1+1+1+1*m5.toNat+1+1) ?_ (by omega);show J8 _ (upd HA f _ p);rw[aH npf.symm];exact hpa
   .rw[aH (aF h hf)];exact b2a b o h nb
   .refine gZ (R:=fun x u=>nH (upd HA f (.lst (us++[V.ref a]))) u x) ((nH.of (x:=⟨n,dy,hh,row⟩) ea er ?_).kp kl) (L2.Paired.dP hpr fun _ _ h=>nH.kp h (kf.trans kl));exact⟨hzn n hn,dy0,dy1,⟨h60,hcs⟩,by show row.length<=9;omega,fun z hz'=>hzn z (hrow z hz')⟩
   .rcases mem_append.mp hx with h|h
    .exact hxz x h
    .rw[mem_singleton.mp h];exact⟨hn,hrow⟩
  .rintro σ H2 ⟨hp2,b2,⟨xs,us,hf2,hpr,hxl,hxz⟩,v4,v5,v6,rfl⟩;have pz:=LW hpr hxz;obtain⟨ns,rfl,pn⟩:=pz;have hnl:xs.length=ns.length:=pn.length;obtain⟨fl,fm,_,_⟩:=lE ns;walk_at "vc0";refine⟨f,ns,rfl,bM.of hf2,fun z hz=>?_,by omega,fun v hv=>?_⟩
   .obtain⟨x,_,h⟩:=i3 pn z hz;exact h.ok
   have s2:=aG.upd (o:=OE w v (bZ ns)) hv;obtain⟨xs2,pn2⟩:=oQ (R:=AD (upd H2 v (OE w v (bZ ns))) zs) (ys:=bZ ns) fun z hz=>by
    obtain⟨x,_,h⟩:=i3 pn z (fm z hz);exact⟨x,h.kp s2.kt⟩
   have hnl2:xs2.length=(bZ ns).length:=pn2.length;refine⟨v,bZ ns,xs2.map Lt.P,rfl,aB,AD.R1 pn2,by omega,fun x hx=>?_,FW xs2,fun l2 zs2 ht2 hl2=>⟨_,rfl,_,bM.of aB,fun t ht=>?_⟩⟩
   .obtain⟨y,_,rfl⟩:=mem_map.mp hx;rfl
   .obtain⟨ys,py,ey⟩:=sZ (Mr.dG 3 _);rw[ey]at ht2;have s3:=(aG.upd (o:=.lst zs2) hl2).trans (aG.upd (o:=.tup zs2) ht);have hmem:∀x∈ys,x.Ok/\x.n∈zs/\∀r∈x.row,r∈zs:=fun x hx=>AD.all pn2 x (py.mem_iff.mp hx)
    have hyl:=py.length_eq;exact q _ ys _ ⟨t,zs2,rfl,aB,L2.Paired.dP (FC ht2 fun x hx=>(hmem x hx).1) fun _ _ h=>h.kp s3.kt,by omega⟩ (by omega) (fun x hx=>(hmem x hx).2) (Box.up (p:=p) (Box.same (p:=p) hp2 (s2.trans s3)) (by omega)) (b2.trans (eO.of (s2.trans s3)))
theorem gX:aZ ["pack","marks","ties","cut","ring"] ["pack","marks"] (aC cS):=⟨rfl,rfl,rfl,by decide+kernel,rfl,by decide+kernel,by decide+kernel⟩
set_option maxHeartbeats 4000000 in
theorem wI (T:Txt K mg fs fds tc u) (G_choices:bB P w K mg base d8 3 (fs 9) (fds 9) ["pack","marks","names"] LN) (G_cut_rings:bB P w K mg base d8 3 (fs 13) (fds 13) ["pack","marks","ties"] LA) (G_places:bB P w K mg base d8 2 (fs 10) (fds 10) ["pack","marks"] K7):bB P w K mg base d8 4 (fs 14) (fds 14) ["pack","marks"] zJ:=by
 refine T.lW.F.ok gX (fun vs H Q E h=>?_) (fun cdv A outer s H vs Q E hr h=>?_)
 .obtain⟨v,mv,xs,hm,zs,rfl,hP,h100,hM,ndM,hml,hac,hz,hsub,q⟩:=h;rfl
 .obtain⟨v,mv,xs,hm,zs,rfl,hP,h100,hM,ndM,hml,hac,hz,hsub,q⟩:=h;refine⟨_,(aD (aQ (i:=2) gX.nd rfl (Or.inr rfl) (bE T.sN G_choices hr (by decide) rfl (aA (pv 0) (aA (pv 1) (aA (bE T.yD G_places hr (by decide) rfl (aA (pv 0) (aA (pv 1) aE))) aE)))))
   (aD (aQ (i:=3) gX.nd rfl (Or.inl rfl) (bE T.oN G_cut_rings hr (by decide) rfl (aA (pv 0) (aA (pv 1) (aA (pv 2) aE)))))
   (aD (dB PassesOwn.never rfl (eK K (pv 3)) (aO (i:=4) gX.nd rfl (Or.inl rfl)) (aK (eG (fD hr) (pv 2) (bA (qE K) (pv 4) aJ (fun _ _=>rfl)) (cH (aA g5 (aA (cH (aA bP (aA (pv 4) aE))) aE))) rfl)))
   (aK (bF (cE (rW K) (by rfl) T.dI d5 (aA (mR ["name","ties"] 1 [2] ["pack","marks","ties","cut","ring"] (aC cS) rfl rfl rfl (j7 K (bN GS (by rfl) T.d6 fH (aA (pv 2) aE))) (by decide+kernel) (fun _=>(aO (i:=0) (show(["name","ties"]:List Str).Nodup by decide+kernel) rfl (Or.inl rfl))) (fun _=>dE) (fun _=>(cH (aA (pv 0) (aA (bA (qE K) (bA (Mr.BE hr) (pv 1) (pv 0) (fun _ _=>rfl)) aJ (fun _ _=>rfl)) (aA (bA (qE K) (bA (Mr.BE hr) (pv 1) (pv 0) (fun _ _=>rfl)) aJ (fun _ _=>rfl)) aE)))))) aE))))))),?_⟩
  refine aI ?_;walk_at "vc0"
  refine⟨v,mv,xs,hm,zs,rfl,hP,hM,hz,hsub,fun t ns H1 s1 ht hnd hso hmem=>?_⟩;have hnl:ns.length<=zs.length:=dX hnd fun x hx=>hsub x ((hmem x).mp hx)
  refine⟨v,mv,t,xs,hm,ns,rfl,hP.kt s1.kt,h100,iI.kt s1.kt hM,ndM,hml,ht,hnd,by omega,fun d ab H2 s2 hd0 hT hks hch=>?_⟩;have hT2:=hT;have nd:(ks ab).Nodup:=by rw[hks];exact hnd
  have hal:ab.length<=60:=by rw[<-length_map (f:=fun z:Str×Option Str=>z.1)];show(ks ab).length<=60;rw[hks];omega
  have s12:=s1.trans s2;refine aI ?_;walk_at "vc0"
  refine⟨v,mv,d,xs,hm,ab,rfl,hP.kt s12.kt,iI.kt s12.kt hM,ndM,hml,hT,nd,hal,fun z hz1 hz2=>?_,hac,fun tc us F S Rs H3 s3 htc hRs aW hcx fd hS hul=>?_⟩
  .rcases hch z hz1 with h|h
   .exact h.2
   .exact absurd hz2 h.1
  have hlR:=hRs.length;refine aI ⟨_,rfl,tc,rfl,⟨us,bO.of htc⟩,gW (K:=K) (fun i σ H'=>eO d H3 H'/\(∃kvs ab',bY H' d kvs/\Paired (p8 H') ab' kvs/\ks ab'=ks ab/\(∀x y,aS ab' x=some y->aS ab x=some y)/\(∀T∈Rs.take i,∀c r,T=c::r->aS ab' c=none)/\∀x,(∀T∈Rs.take i,∀r,T≠x::r)->aS ab' x=aS ab x)/\∃o,σ=[some v,some mv,some (.ref d),some (.ref tc),o]) ⟨fun _ _ h _=>h,?_,_,rfl⟩ (fun i σ H' _ ⟨b,_⟩=>bO.of (b _ _ htc fun e=>?_)) ?_ ?_⟩
  .obtain⟨kvs,hk,hp⟩:=hT;exact⟨kvs,ab,cC hk s3,L2.Paired.dP hp fun _ _ ⟨e,t,r,e2,h⟩=>⟨e,t,r,e2,s3 _ _ h⟩,rfl,fun _ _ h=>h,(fun T h=>by simp at h),fun _ _=>rfl⟩
  .obtain⟨kvs,⟨ep,hk⟩,_⟩:=hT;rw[e,s3 _ _ hk]at htc;cases htc
  .rintro i u σ H4 hu ⟨b4,⟨kvs,ab',hk,hp,hks',hup,hcut,hno⟩,o,rfl⟩;obtain⟨T,hT,b,rfl,hb⟩:=L2.Paired.jI hRs hu;obtain⟨c,r,eT,R,hR,hcR⟩:=aW.hd T (mem_of_getElem? hT);have hck:c∈ks ab:=by
    obtain⟨n,e⟩:=(fd.ring R hR).jD hcR;cases hu:aS ab c with
    |none=>rw[Rg.cJ,hu]at e;cases e
    |some w=>exact iZ hu
   have hil:=(List.getElem?_eq_some_iff.mp hT).1;obtain⟨e4,hk4⟩:=id hk;have hbd:b≠d:=fun e=>by
    obtain⟨kvs,⟨ep,hk⟩,_⟩:=hT2;rw[e,s3 _ _ hk]at hb;cases hb
   have hb4:=b4 _ _ hb hbd;rw[eT]at hb4;have hkl:kvs.length<=60:=by
    have h1:=hp.length;have h2:=congrArg List.length hks';unfold ks at h2;rw[length_map,length_map]at h2;omega
   walk_at "vc1";refine⟨lK (by decide),fun p hp0=>⟨lK (by decide),fun p1 hp1=>?_⟩⟩;have s5:=(aG.upd (o:=.tup [V.str (Str.ofString "ring"),V.ref b]) hp0).trans (aG.upd (o:=.tup [.aU,.ref p]) hp1);have e5:upd (upd H4 p (.tup [V.str (Str.ofString "ring"),V.ref b])) p1 (.tup [.aU,.ref p]) p1=some (.tup [.aU,.ref p]):=aB;generalize upd (upd H4 p (.tup [V.str (Str.ofString "ring"),V.ref b])) p1 (.tup [.aU,.ref p])=H5 at s5 e5⊢
   have hd5:=s5 _ _ hk4;have kt6:∀o,eP H5 (upd H5 d (.dK o (e4+1))):=fun o a us h=>by rw[aH (fun e=>by rw[e,hd5]at h;cases h)];exact h
   refine⟨_,bO.of (s5 _ _ hb4),_,DM,.inl ⟨kvs,.inr c,cC hk s5,rfl,iQ (by omega),fun ep=>⟨fun b o h n=>by rw[aH n];exact s5 _ _ (b4 _ _ h n),⟨_,⟨ep,aB⟩,cD ab' c none,J7 (r:=.ref p) (by rw[aH (fun e=>by rw[e,hd5]at e5;cases e5)];exact e5) (L2.Paired.dP hp fun _ _ ⟨e,t,r,e2,h⟩=>⟨e,t,r,e2,by rw[aH (fun e=>by rw[e]at h;rw[hk4]at h;cases h)];exact s5 _ _ h⟩) (by rw[hks'];exact hck),by rw[IE (by rw[hks'];exact hck)];exact hks',fun x y h=>?_,fun T' hT' c' r' e'=>?_,fun x hx=>?_⟩,_,rfl⟩⟩⟩
   .rw[eY]at h;split at h
    .cases h
    .exact hup x y h
   .rw[eY];split
    .rfl
    .rename_i hne;rw[take_snoc hT]at hT';rcases mem_append.mp hT' with h|h
     .exact hcut T' h c' r' e'
     .rw[mem_singleton.mp h,eT]at e';cases e';exact absurd rfl hne
   .rw[eY];split
    .rename_i e;exact absurd (by rw[eT,e]) (hx T (by rw[take_snoc hT];simp) r)
    .exact hno x fun T' hT' r'=>hx T' (by rw[take_snoc hT];exact mem_append_left _ hT') r'
  .rintro σ H4 ⟨b4,⟨kvs,ab',hk,hp,hks',hup,hcut,hno⟩,o,rfl⟩;rw[<-hlR,take_length]at hcut hno;have hac2:∀x,¬Rg.jD (aS ab') x:=Rg.JN fd (fun x ⟨n,e⟩=>hS x (by
    cases hu:aS ab x with
    |none=>rw[Rg.cJ,hu]at e;cases e
    |some w=>exact iZ hu)) hup fun R hR=>by
     obtain⟨T,hT,c,r,eT,hc⟩:=aW.al R hR;exact⟨c,hc,hcut T hT c r eT⟩
   obtain⟨e4,hk4⟩:=id hk;have nd':(ks ab').Nodup:=by rw[hks'];exact nd
   have hkl:(ks ab').length<=60:=by rw[hks'];unfold ks;rw[length_map];omega
   have h0d:∀b o,H b=some o->b≠d:=fun b o h e=>by
    have h1:=s1 _ _ h;rw[e,hd0]at h1;cases h1
   have s04:aG H H4:=fun b o h=>b4 _ _ (s3 _ _ (s12 _ _ h)) (h0d b o h)
   walk_at "vc0";refine⟨_,rfl,d,kvs,ks ab',rfl,⟨e4,.inl hk4⟩,mL hp,by omega,fun ls out pm hso hls=>⟨ls,rfl,⟨_,bM.of aB⟩,fun l hl=>?_⟩⟩;have s5:=aG.upd (o:=.lst (out.map V.str)) hls;have e5:upd H4 ls (.lst (out.map V.str)) ls=some (.lst (out.map V.str)):=aB;generalize upd H4 ls (.lst (out.map V.str))=H5 at s5 e5 hl⊢
   have hol:=pm.length_eq;refine iN (bM.of e5) (fun _=>true) (fun H n v=>∃(b:Addr) (o:Option Str) (r:V),v= .ref b/\H b=some (.tup [.str n,oV o,r])/\(n,o)∈ab') (fun σ=>∃o,σ=[o,some (.ref d)]) ⟨_,rfl⟩ hl (iQ (by omega)) (fun _ _ _ _ k ⟨b,o,r,e,h,m⟩=>⟨b,o,r,e,k _ _ h,m⟩) ?_ ?_
   .rintro n σ H6 ys N hn ⟨o,rfl⟩ s6 e6 hz6 hN1 hN2;obtain⟨z,hz,rfl⟩:=mem_map.mp (pm.mem_iff.mp hn);obtain⟨t,r,hv,ht⟩:=uW hp nd' hz;have hd6:=s6 _ _ (s5 _ _ hk4);have ht6:=s6 _ _ (s5 _ _ ht);unfold dD;walk_at "vc2";exact⟨d,kvs,.inr z.1,_,rfl,⟨e4,.inl hd6⟩,rfl,hv,t,rfl,_,bO.of ht6,_,DM,d,kvs,.inr z.1,_,rfl,⟨e4,.inl hd6⟩,rfl,hv,t,rfl,_,bO.of ht6,_,dW (j:=1) rfl,lK (by decide),fun t7 ht7=>⟨ys,aG.upd ht7 _ _ e6,hz6,hN2 rfl _ _ _ ⟨_,rfl⟩ (aG.upd ht7) ⟨t7,z.2,r,rfl,aB,hz⟩⟩⟩
   .intro H6 ys s6 hpr e6;rw[show out.filter (fun _=>true)=out from filter_eq_self.mpr (by simp)]at hpr;obtain⟨ws,hws,hpw,hsw⟩:=A5 hpr;have ndw:(ks ws).Nodup:=by rw[hws];exact pm.nodup_iff.mpr nd'
    have hkw:∀x,x∈ks ws↔x∈ks ab:=fun x=>by rw[hws,pm.mem_iff,hks']
    have hupw:∀x y,aS ws x=some y->aS ab' x=some y:=fun x y h=>zX nd' (hsw _ (fM h))
    have hwa:∀x,aS ws x=aS ab' x:=fun x=>by
     by_cases hx:x∈ks ws
     .obtain⟨z,hz,rfl⟩:=mem_map.mp hx;rw[uS ndw hz,uS nd' (hsw z hz)]
     .rw[uD hx,uD (fun h=>hx (by rw[hkw,<-hks'];exact h))]
    have byo:o7 (aP xs) hm ws:=⟨ndw,by rw[hws];exact hso,fun x=>by rw[hkw,hks,hmem],aS ab,fun x hx=>by
     obtain⟨z,hz,rfl⟩:=mem_map.mp ((hkw x).mp hx);rw[uS nd hz];exact hch z hz,fun x hx=>uD fun h=>hx ((hkw x).mpr h),fun x=>⟨fun c=>by
     obtain⟨T,hT,r,e⟩:=(hcx.iff fd hS x).mp c;rw[hwa];exact hcut T hT x r e,fun c=>by
     rw[hwa];exact hno x fun T hT r e=>c ((hcx.iff fd hS x).mpr ⟨T,hT,r,e⟩)⟩⟩
    refine⟨l,rfl,ys,bM.of e6,fun t ht=>q _ ws _ (((s04.trans s5).trans s6).trans (aG.upd ht)) ⟨t,ys,rfl,aB,L2.Paired.dP hpw fun _ _ ⟨b,r,e,h⟩=>⟨b,r,e,(aG.upd ht) _ _ h⟩⟩ byo ndw (fun x=>by rw[hkw,hks,hmem]) (fun x y h=>?_) (fun x c=>hac2 x (c.mono hupw)) ?_⟩
    .rw[hkw];have h1:=fM (hup x y (hupw x y h));rw[hks,hmem];rcases hch _ h1 with⟨_,e⟩|⟨_,⟨y0,hy0,_,e⟩|⟨_,⟨y0,hy0,j,_,e,_⟩|⟨_,e⟩⟩⟩
     .exact .inr ⟨_,fM e.symm,.inr rfl⟩
     .exact .inl ⟨y0,hy0,.inr (List.mem_of_getLast? e.symm)⟩
     .exact .inl ⟨y0,hy0,.inr (mem_of_getElem? e.symm)⟩
     .cases e
    .rw[<-length_map (f:=fun z:Str×Option Str=>z.1)];show(ks ws).length<=60;rw[hws];omega
theorem fE:aZ ["pack","marks","roots","first","letter","name","root","rank"] ["pack","marks"] (aC eB):=⟨rfl,rfl,rfl,by decide+kernel,rfl,by decide+kernel,by decide+kernel⟩
set_option maxHeartbeats 4000000 in
theorem DX (T:Txt K mg fs fds tc u) (G_roots_in:bB P w K mg base d8 1 (fs 2) (fds 2) ["above"] LP) (G_standing:bB P w K mg base d8 1 (fs 4) (fds 4) ["pack"] kB) (G_elders_in:bB P w K mg base d8 1 (fs 1) (fds 1) ["ties"] E3) (G_by_names:bB P w K mg base d8 4 (fs 14) (fds 14) ["pack","marks"] zJ):bB P w K mg base d8 5 (fs 15) (fds 15) ["pack","marks"] LB:=by
 refine T.pW.F.ok fE (fun vs H Q E h=>?_) (fun cdv A outer s H vs Q E hr h=>?_)
 .obtain⟨v,mv,xs,hm,zs,rfl,hP,h100,hM,ndM,hml,hac,hz,hsub,q⟩:=h;rfl
 .obtain⟨v,mv,xs,hm,zs,rfl,hP,h100,hM,ndM,hml,hac,hz,hsub,q⟩:=h;refine⟨_,(aD (aQ (i:=2) fE.nd rfl (Or.inl rfl) (bE T.pM G_roots_in hr (by decide) rfl (aA (bE T.oZ G_elders_in hr (by decide) rfl (aA (bE T.lW G_by_names hr (by decide) rfl (aA (pv 0) (aA (pv 1) aE))) aE)) aE)))
   (aD (aQ (i:=3) fE.nd rfl (Or.inr rfl) e9)
   (aD (dB PassesOwn.never rfl (eK K (bE T.fF G_standing hr (by decide) rfl (aA (pv 0) aE))) (aO (i:=4) fE.nd rfl (Or.inl rfl)) (aD (aQ (i:=5) fE.nd rfl (Or.inl rfl) (bA (qE K) (pv 4) aJ (fun _ _=>rfl)))
   (aD (aQ (i:=6) fE.nd rfl (Or.inl rfl) (bA (Mr.BE hr) (pv 2) (pv 5) (fun _ _=>rfl)))
   (aD (aQ (i:=7) fE.nd rfl (Or.inl rfl) (cH (aA (A7 x6 (pv 5) (pv 6) (dM _)) (aA (bA (qE K) (pv 4) aJ (fun _ _=>rfl)) (aA (pv 5) aE)))))
   (aK (eG (fD hr) (pv 3) (pv 6) (bN (Mr.MT K hr) (by rfl) T.mU rG (aA (pv 7) (aA (wD (fD hr) (pv 3) (pv 6) (pv 7) ⟨rfl,by rfl,rfl,rfl⟩) aE))) rfl))))))
   (aK (bF (cE (rW K) (by rfl) T.dI d5 (aA (mR ["root","first"] 1 [3] ["pack","marks","roots","first","letter","name","root","rank"] (aC eB) rfl rfl rfl (j7 K (bN GS (by rfl) T.d6 fH (aA (pv 3) aE))) (by decide+kernel) (fun _=>(aO (i:=0) (show(["root","first"]:List Str).Nodup by decide+kernel) rfl (Or.inl rfl))) (fun _=>dE) (fun _=>(cH (aA (pv 0) (aA (bA (qE K) (bA (Mr.BE hr) (pv 1) (pv 0) (fun _ _=>rfl)) aJ (fun _ _=>rfl)) aE))))) aE))))))),?_⟩
  refine aI ?_;walk_at "vc0"
  refine⟨v,mv,xs,hm,zs,rfl,hP,h100,hM,ndM,hml,hac,hz,hsub,fun w ab H1 s1 hw byo nd hks hcl hac2 hal=>⟨w,ab,rfl,hw,nd,by omega,fun de H2 s2 _ hde=>⟨de,ab,rfl,hde,nd,hal,hcl,hac2,fun dr rt H3 s3 _ hdr ndr hrt hrk=>?_⟩⟩⟩;have s03:=(s1.trans s2).trans s3;refine aI ?_;walk_at "vc0"
  refine fun p hp=>?_
  have s4:=aG.upd (o:=.dK [] 0) hp;have ep:upd H3 p (.dK [] 0) p=some (.dK [] 0):=aB;generalize upd H3 p (.dK [] 0)=H4 at s4 ep⊢
  refine aI ⟨_,rfl,v,xs,rfl,hP.kt (s03.trans s4).kt,fun b ws' H5 s5 hb hws'=>⟨b,rfl,⟨ws',bO.of hb⟩,gW (K:=K) (a:=b) (xs:=ws') (fun i σ H'=>eO p H5 H'/\(∃kvs rv,bY H' p kvs/\Paired (uI H') rv kvs/\(rv.map (·.1)).Nodup/\L5 (aP xs) (aS ab) (ks ab) i rv)/\∃v4 v5 v6 v7,σ=[some v,some mv,some (.ref dr),some (.ref p),v4,v5,v6,v7]) ⟨fun _ _ h _=>h,⟨[],[],⟨0,s5 _ _ ep⟩,.nil,nodup_nil,L5.nil⟩,_,_,_,_,rfl⟩ (fun i σ H' _ ⟨b1,_⟩=>bO.of (b1 _ _ hb fun e=>by rw[e,s5 _ _ ep]at hb;cases hb)) ?_ ?_⟩⟩
  .rintro i u σ H6 hu ⟨b6,⟨kvs,rv,⟨e6,hk6⟩,hrv,ndv,hv6⟩,v4,v5,v6,v7,rfl⟩;obtain⟨y,hy,hL⟩:=L2.Paired.jI hws' hu;have s56:∀c o,H5 c=some o->c≠p->H6 c=some o:=fun c o h n=>b6 c o h n
   have hp5:H5 p=some (.dK [] 0):=s5 _ _ ep;have kt56:eP H5 H6:=fun c us h=>s56 c _ h fun e=>by rw[e,hp5]at h;cases h
   obtain⟨t,r0,rfl,ht,hr0⟩:=(hL.kp kt56).at';have hym:=mem_of_getElem? hy;have hyk:y.n∈ks ab:=(hks y.n).mpr (.inl ⟨y,hym,.inl rfl⟩);obtain⟨ro,hrok,hro,htop⟩:=hrt y.n hyk;obtain⟨e3,hd3⟩:=hdr;have hd6:H6 dr=some (.dK (bK rt) e3):=s56 _ _ (s5 _ _ (s4 _ _ hd3)) (aF hd3 hp);have hrv6:bG (bK rt) (.inr y.n)=some (.str ro):=by rw[lY (iZ hro),hro];rfl
   walk_at "vc0";refine aI ?_;walk_at "vc0"
   refine⟨_,bO.of ht,_,DM,?_⟩;refine aI ?_;walk_at "vc0"
   refine⟨dr,bK rt,.inr y.n,_,rfl,⟨e3,.inl hd6⟩,rfl,hrv6,?_⟩;refine aI ?_;walk_at "vc7"
   refine⟨rfl,_,bO.of ht,_,dW (j:=1) rfl,lK (by decide),fun b1 hb1=>?_⟩;have s7:=aG.upd (o:=.tup [.bl !decide (y.n=ro),.int y.d,.str y.n]) hb1;have e7:upd H6 b1 (.tup [.bl !decide (y.n=ro),.int y.d,.str y.n]) b1=some (.tup [.bl !decide (y.n=ro),.int y.d,.str y.n]):=aB;generalize upd H6 b1 (.tup [.bl !decide (y.n=ro),.int y.d,.str y.n])=H7 at s7 e7⊢
   have hk7:=s7 _ _ hk6;have hrv7:Paired (uI H7) rv kvs:=L2.Paired.dP hrv fun _ _ ⟨e,b,e2,h⟩=>⟨e,b,e2,s7 _ _ h⟩
   obtain⟨o,b2,x2,hog,hoe,hb2,hx2,hxt2,hxl2⟩:∃o b2 x2,n6 H7 p (.str ro) o/\o.getD (V.ref b1)= .ref b2/\H7 b2=some (.tup [.bl (kR ro x2).1,.int x2.d,.str x2.n])/\x2∈aP xs/\Top (aS ab) x2.n ro/\∀y'∈(aP xs).take i,Top (aS ab) y'.n ro->v8 (kR ro x2) (kR ro y'):=by
    by_cases hi:ro∈rv.map (·.1)
    .obtain⟨z,hz,ez⟩:=mem_map.mp hi;obtain⟨b,h1,h2⟩:=p5 hrv7 ndv hz;obtain⟨_,h3,h4,h5⟩:=hv6.is z hz;rw[ez]at h1 h2 h4 h5;exact⟨some (.ref b),b,z.2,.inl ⟨kvs,.inr ro,⟨e6,.inl hk7⟩,rfl,h1.symm⟩,rfl,h2,h3,h4,h5⟩
    .refine⟨none,b1,y,.inl ⟨kvs,.inr ro,⟨e6,.inl hk7⟩,rfl,?_⟩,rfl,e7,hym,htop,fun y' hy' ht'=>?_⟩
     .have h1:=any_keys (n:=ro) (kH hrv7);rw[eF,decide_eq_false hi]at h1;cases hv:bG kvs (.inr ro)with
      |none=>rfl
      |some v=>rw[hv]at h1;cases h1
     .obtain⟨z,hz,hzt⟩:=hv6.all y' hy';exact absurd (mem_map.mpr ⟨z,hz,hzt.uq ht'⟩) hi
   refine⟨.inl ⟨_,e6,.inl hk7⟩,o,hog,?_⟩;rw[hoe];refine⟨.ref b1,.ref b2,oK (kR ro y),oK (kR ro x2),rfl,.cons (FQ (ro:=ro) (x:=y) e7).rep (.cons (FQ hb2).rep .nil),QA _ _,?_⟩;obtain⟨b3,x3,e3',hb3,hx3,hxt3,hxy3,hxl3⟩:∃b3 x3,(if Mr.D3 [oK (kR ro y),oK (kR ro x2)] 1 0=true then V.ref b2 else V.ref b1)= .ref b3/\H7 b3=some (.tup [.bl (kR ro x3).1,.int x3.d,.str x3.n])/\x3∈aP xs/\Top (aS ab) x3.n ro/\v8 (kR ro x3) (kR ro y)/\∀y'∈(aP xs).take i,Top (aS ab) y'.n ro->v8 (kR ro x3) (kR ro y'):=by
    have hbt:=O0 (kR ro y) (kR ro x2);cases hc:Mr.D3 [oK (kR ro y),oK (kR ro x2)] 1 0 with
    |true=>
     rw[hc,if_pos rfl]at hbt;exact⟨b2,x2,rfl,hb2,hx2,hxt2,hbt,hxl2⟩
    |false=>
     rw[hc,if_neg Bool.false_ne_true]at hbt;exact⟨b1,y,rfl,e7,hym,htop,qT _,fun y' hy' ht'=>CC hbt (hxl2 y' hy' ht')⟩
   rw[e3'];have hkl:kvs.length<=60:=by
    rw[<-hrv.length,<-length_map (f:=fun z:Str×Lt=>z.1)];have h1:=dX ndv (ys:=ks ab) fun x hx=>by obtain⟨z,hz,rfl⟩:=mem_map.mp hx;exact(hv6.is z hz).1
    unfold ks at h1;rw[length_map (as:=ab)]at h1;omega
   refine .inl ⟨kvs,.inr ro,⟨e6,hk7⟩,rfl,iQ (by omega),fun ep8=>⟨fun b o h n=>by rw[aH n];exact s7 _ _ (b6 _ _ h n),?_,_,rfl⟩⟩;have kt8:eP H7 (upd H7 p (.dK (putK kvs (.inr ro) (.ref b3)) ep8)):=fun c us h=>by rw[aH fun e=>by rw[e,hk7]at h;cases h];exact h
   obtain⟨rv',h1,h2,h3⟩:=EC (ro:=ro) (x:=x3) (kt8 _ _ hb3) (L2.Paired.dP hrv7 fun _ _ ⟨e,b,e2,h⟩=>⟨e,b,e2,kt8 _ _ h⟩) ndv;exact⟨_,⟨ep8,aB⟩,rv',h1,h2,hv6.step hy htop hrok hx3 hxt3 hxy3 hxl3 h3⟩
  .rintro σ H6 ⟨b6,⟨kvs,rv,hk6,hrv,ndv,hv6⟩,v4,v5,v6,v7,rfl⟩;obtain⟨e4,hk4⟩:=id hk6;have hkl:(rv.map (·.1)).length<=60:=by
    have h1:=dX ndv (ys:=ks ab) fun x hx=>by obtain⟨z,hz,rfl⟩:=mem_map.mp hx;exact(hv6.is z hz).1
    unfold ks at h1;rw[length_map (as:=ab)]at h1;omega
   have s06:aG H H6:=fun b o h=>b6 _ _ (s5 _ _ (s4 _ _ (s03 _ _ h))) (aF (s03 _ _ h) hp)
   walk_at "vc0";refine⟨_,rfl,p,kvs,rv.map (·.1),rfl,⟨e4,.inl hk4⟩,kH hrv,by omega,fun ls out pm hso hls=>⟨ls,rfl,⟨_,bM.of aB⟩,fun l hl=>?_⟩⟩;have s7:=aG.upd (o:=.lst (out.map V.str)) hls;have e7:upd H6 ls (.lst (out.map V.str)) ls=some (.lst (out.map V.str)):=aB;generalize upd H6 ls (.lst (out.map V.str))=H7 at s7 e7 hl⊢
   have hol:=pm.length_eq;refine iN (bM.of e7) (fun _=>true) (fun H n v=>∃(b:Addr) (o:Str),v= .ref b/\H b=some (.tup [.str n,.str o])/\(n,o)∈rv.map fun z:Str×Lt=>(z.1,z.2.n)) (fun σ=>∃o,σ=[o,some (.ref p)]) ⟨_,rfl⟩ hl (iQ (by omega)) (fun _ _ _ _ k ⟨b,o,e,h,m⟩=>⟨b,o,e,k _ _ h,m⟩) ?_ ?_
   .rintro n σ H8 ys N hn ⟨o,rfl⟩ s8 e8 hz8 hN1 hN2;obtain⟨z,hz,rfl⟩:=mem_map.mp (pm.mem_iff.mp hn);obtain⟨t,hv,ht⟩:=p5 hrv ndv hz;have hd8:=s8 _ _ (s7 _ _ hk4);have ht8:=s8 _ _ (s7 _ _ ht);unfold dD;walk_at "vc2";exact⟨p,kvs,.inr z.1,_,rfl,⟨e4,.inl hd8⟩,rfl,hv,t,rfl,_,bO.of ht8,_,dW (j:=2) rfl,lK (by decide),fun t7 ht7=>⟨ys,aG.upd ht7 _ _ e8,hz8,hN2 rfl _ _ _ ⟨_,rfl⟩ (aG.upd ht7) ⟨t7,z.2.n,rfl,aB,mem_map.mpr ⟨z,hz,rfl⟩⟩⟩⟩
   .intro H8 ys s8 hpr e8;rw[show out.filter (fun _=>true)=out from filter_eq_self.mpr (by simp)]at hpr;obtain⟨ws,hws,hpw,hsw⟩:=EZ hpr;have hil:(aP xs).take ws'.length=aP xs:=by rw[<-hws'.length,take_length]
    have vo:lL (aP xs) (aS ab) ws:=by
     refine⟨by rw[hws];exact pm.nodup_iff.mpr ndv,by rw[hws];exact Mr.j9 hso,fun x hx=>?_,fun z hz=>?_⟩
     .obtain⟨z,hz,ht⟩:=hv6.all x (by rw[hil];exact hx);have h1:z.1∈ws.map (·.1):=by rw[hws];exact pm.mem_iff.mpr (mem_map.mpr ⟨z,hz,rfl⟩)
      obtain⟨z',hz',e'⟩:=mem_map.mp h1;exact⟨z',hz',by rw[e'];exact ht⟩
     .obtain⟨z',hz',e'⟩:=mem_map.mp (hsw z hz);obtain⟨_,h2,h3,h4⟩:=hv6.is z' hz';rw[hil]at h4;rw[<-e'];exact⟨z'.2,h2,rfl,h3,h4⟩
    refine⟨l,rfl,ys,bM.of e8,fun t ht=>q t ys ws ab _ (((s06.trans s7).trans s8).trans (aG.upd ht)) aB (L2.Paired.dP hpw fun _ _ ⟨b,e,h⟩=>⟨b,e,(aG.upd ht) _ _ h⟩) byo vo (fun z hz=>by
     obtain⟨z',hz',e'⟩:=mem_map.mp (hsw z hz);rw[<-e'];exact(hks _).mp (hv6.is z' hz').1) ?_⟩
    rw[<-length_map (f:=fun z:Str×Str=>z.1),hws];omega
theorem bU:aZ ["_law_pack_here","_law_marks_here","_law_elder_of","_law_days","_law_name_here","_law_day","_law_head","_law_row","_law_trees","_law_at","_law_step"] ["_law_pack_here","_law_marks_here"] (aC cX):=⟨rfl,rfl,rfl,by decide+kernel,rfl,by decide+kernel,by decide+kernel⟩
set_option maxHeartbeats 4000000 in
theorem yO (T:Txt K mg fs fds tc u) (G_by_names:bB P w K mg base d8 4 (fs 14) (fds 14) ["pack","marks"] zJ):bB P w K mg base d8 5 (fs 24) (fds 24) ["_law_pack_here","_law_marks_here"] BX:=by
 refine T.sV.F.ok bU (fun vs H Q E h=>?_) (fun cdv A outer s H vs Q E hr h=>?_)
 .obtain⟨v,mv,xs,hm,zs,rfl,hP,h100,hM,ndM,hml,hac,hz,hsub,q⟩:=h;rfl
 .obtain⟨v,mv,xs,hm,zs,rfl,hP,h100,hM,ndM,hml,hac,hz,hsub,q⟩:=h;refine⟨_,(aD (aQ (i:=2) bU.nd rfl (Or.inl rfl) (cE (Mr.MS K) (by rfl) T.qY JJ (aA (mR ["_law_row"] 1 [] ["_law_pack_here","_law_marks_here","_law_elder_of","_law_days","_law_name_here","_law_day","_law_head","_law_row","_law_trees","_law_at","_law_step"] (aC cX) rfl rfl rfl (eK K (bE T.lW G_by_names hr (by decide) rfl (aA (pv 0) (aA (pv 1) aE)))) (by decide+kernel) (fun _=>(aO (i:=0) (show(["_law_row"]:List Str).Nodup by decide+kernel) rfl (Or.inl rfl))) (fun _=>dE) (fun _=>(cH (aA (bA (qE K) (pv 0) aJ (fun _ _=>rfl)) (aA (bA (qE K) (pv 0) aJ (fun _ _=>rfl)) aE))))) aE)))
   (aD (aQ (i:=3) bU.nd rfl (Or.inr rfl) e9)
   (aD (dB PassesOwn.never rfl (eK K (pv 0)) (eX (n:=4) K rfl (aY (aO (i:=4) bU.nd rfl (Or.inl rfl)) (aY (aO (i:=5) bU.nd rfl (Or.inl rfl)) (aY (aO (i:=6) bU.nd rfl (Or.inl rfl)) (aY (aO (i:=7) bU.nd rfl (Or.inl rfl)) eW))))) (aK (gP (mE (pv 3) (pv 4) (pv 5) ⟨rfl,by rfl,rfl,rfl⟩))))
   (aD (aQ (i:=8) bU.nd rfl (Or.inl rfl) e9)
   (aD (dB PassesOwn.never rfl (pC (pv 3)) (aO (i:=4) bU.nd rfl (Or.inl rfl)) (aD (aQ (i:=9) bU.nd rfl (Or.inl rfl) (pv 4))
   (aD (dB PassesOwn.never rfl (gB rfl T.fL (aA (bN RI (by rfl) T.tG D9 (aA (pv 2) aE)) aE)) (aO (i:=10) bU.nd rfl (Or.inl rfl)) (aK (fU (bC kI (nA (fD hr) (pv 2) (pv 9) ⟨rfl,by rfl,rfl,rfl⟩) g5 (dM _)) (aK (aQ (i:=9) bU.nd rfl (Or.inl rfl) (nA (fD hr) (pv 2) (pv 9) ⟨rfl,by rfl,rfl,rfl⟩))) cU)))
   (aK (gP (g4 K plainAttrs_list PySem.F.slot_list_append PySem.F.type_list_append d9 (mE (pv 8) (pv 9) (g8 aE) ⟨rfl,by rfl,rfl,rfl⟩) (aA (cH (aA (bA (Mr.BE hr) (pv 3) (pv 4) (fun _ _=>rfl)) (aA (pv 4) aE))) aE)))))))
   (aK (bF (cE (rW K) (by rfl) T.dI d5 (aA (bN (K9 K hr) (by rfl) T.d6 fH (aA (mR ["_law_root","_law_some","_law_days"] 2 [3] ["_law_pack_here","_law_marks_here","_law_elder_of","_law_days","_law_name_here","_law_day","_law_head","_law_row","_law_trees","_law_at","_law_step"] (aC cX) rfl rfl rfl (HF (wK (pv 8))) (by decide+kernel) (fun _=>(eX (n:=2) K rfl (aY (aO (i:=0) (show(["_law_root","_law_some","_law_days"]:List Str).Nodup by decide+kernel) rfl (Or.inl rfl)) (aY (aO (i:=1) (show(["_law_root","_law_some","_law_days"]:List Str).Nodup by decide+kernel) rfl (Or.inl rfl)) eW)))) (fun _=>dE) (fun _=>(cH (aA (pv 0) (aA (yI (bC (Mr.inD hr) (pv 0) (pv 2) (by rfl)) (pv 0) (bA (qE K) (bN (Mr.JU K hr) (by rfl) T.mU rG (aA (pv 1) aE)) aJ (fun _ _=>rfl))) aE))))) aE)) aE))))))))),?_⟩
  refine aI ?_;walk_at "vc0"
  walk_at "vc8";refine⟨_,rfl,_,rfl,v,mv,xs,hm,zs,rfl,hP,by omega,hM,ndM,hml,hac,hz,hsub,fun w ab H1 s1 hw byo nd hks hcl hac2 hal=>?_⟩;obtain⟨t,us,rfl,ht,hp⟩:=hw;have hul:=hp.length;have hzf:(ab.zip us).map (·.1)=ab:=map_fst_zip (by omega);have hzl:(ab.zip us).length=ab.length:=by rw[length_zip,hul,min_self]
  refine⟨t,rfl,⟨us,bO.of ht⟩,fun l5 hl5=>oA (J0 K t) (ab.zip us) (·.2) (fun _=>true) (fun H z v=>FT H z.1 v) (fun σ=>∃o1,σ=[o1]) ⟨_,rfl⟩ hl5 (iQ (by omega)) (fun H' s=>⟨us,(bO.of ht).same s,by omega⟩) (fun i H' hi s=>⟨us,us[i]'(by omega),(bO.of ht).same s,by simp⟩) (fun i H5 v H6 hi s y=>?_) (fun _ _ _ _ k ⟨b,e,h⟩=>⟨b,e,k _ _ h⟩) ?_ ?_⟩
  .have hv:=y.2 us ((bO.of ht).same s);exact⟨y.1,(ab[i]'(by omega),us[i]'(by omega)),by rw[getElem?_eq_getElem hi,getElem_zip],by rw[getElem?_eq_getElem (by omega)]at hv;exact(Option.some.inj hv).symm⟩
  .rintro z σ H5 ys N hz ⟨o1,rfl⟩ s5 e5 hyz hN1 hN2;obtain⟨⟨b,r,eb,hb⟩,_⟩:=u6 hp hz;have hb5:=s5 _ _ hb;rw[eb];unfold dD;walk_at "vc2";exact⟨_,bO.of hb5,_,DM,_,bO.of hb5,_,dW (j:=1) rfl,lK (by decide),fun t7 ht7=>⟨ys,aG.upd ht7 _ _ e5,hyz,hN2 rfl _ _ _ ⟨_,rfl⟩ (aG.upd ht7) ⟨t7,rfl,aB⟩⟩⟩
  intro H5 ys s5 hpr e5;rw[show(ab.zip us).filter (fun _=>true)=ab.zip us from filter_eq_self.mpr (by simp)]at hpr;have hpr2:=EL hpr;rw[hzf]at hpr2;refine⟨l5,ys,bK ab,rfl,bM.of e5,tI hpr2,lK (by rw[dU];omega),fun de epd hde0=>?_⟩;rw[show(bK ab).foldl (fun d z=>putK d z.1 z.2) []=bK ab from yF ab [] nd];have s6:=(s1.trans s5).trans (aG.upd (o:=.dK (bK ab) epd) hde0);have hde:upd H5 de (.dK (bK ab) epd) de=some (.dK (bK ab) epd):=aB;generalize upd H5 de (.dK (bK ab) epd)=H6 at s6 hde⊢
  clear hpr2 hpr e5 hzf hzl hul hp ht hde0 s5 s1;have hP6:=hP.kt s6.kt;obtain⟨ta,ua,rfl,hta,hpa,hxl⟩:=hP6;refine aI ?_;walk_at "vc0"
  refine fun pd hpd=>?_
  have s7:=aG.upd (o:=.dK [] 0) hpd;have ed0:upd H6 pd (.dK [] 0) pd=some (.dK [] 0):=aB;have npd:pd≠de:=(aF hde hpd).symm;generalize upd H6 pd (.dK [] 0)=H7 at s7 ed0⊢
  have hde7:=s7 _ _ hde;have hta7:=s7 _ _ hta;have hpa7:Paired (fun x u=>nH H7 u x) xs ua:=L2.Paired.dP hpa fun _ _ h=>nH.kp h s7.kt
  have ntp:ta≠pd:=aF hta hpd;refine aI ⟨_,rfl,ta,rfl,⟨ua,bO.of hta7⟩,gW (K:=K) (fun i σ H'=>eO pd H7 H'/\(∃kvs,bY H' pd kvs/\Paired (DW H') (aP (xs.take i)) kvs)/\∃v4 v5 v6 v7,σ=[some (.ref ta),some mv,some (.ref de),some (.ref pd),v4,v5,v6,v7,none,none,none]) ⟨fun _ _ h _=>h,⟨[],⟨0,ed0⟩,.nil⟩,_,_,_,_,rfl⟩ (fun i σ H' _ ⟨b,_⟩=>bO.of (b _ _ hta7 ntp)) ?_ ?_⟩
  .rintro i u σ H8 hu ⟨b8,⟨kvs,⟨e8,hd8⟩,hday⟩,v4,v5,v6,v7,rfl⟩;obtain⟨y,hy,hL⟩:=L2.Paired.jI hpa7 hu;have kt8:eP H7 H8:=fun c us h=>b8 c _ h fun e=>by rw[e,ed0]at h;cases h
   obtain⟨t,r,rfl,htt,hrr⟩:=(hL.kp kt8).at';have hil:=(List.getElem?_eq_some_iff.mp hy).1;have hst:=oW hy;have hsl:=dC (xs.take i);have hkl:=hday.length;rw[length_take]at hsl;walk_at "vc4";refine⟨_,bO.of htt,rfl,_,_,rfl,_,_,rfl,_,_,rfl,_,_,rfl,rfl,.inl ⟨kvs,e8,.inl hd8⟩,kvs,⟨e8,hd8⟩,.inr y.n,rfl,iQ (by omega),fun v hv=>?_,fun ep hv=>?_⟩
   .refine⟨b8,⟨kvs,⟨e8,hd8⟩,?_⟩,_,rfl⟩;rw[hst];have hn:(aP (xs.take i)).any (fun z=>decide (z.n=y.n))=true:=by
     rcases iV (n:=y.n) hday with⟨h0,_⟩|⟨z,hz,ez,_⟩
     .rw[h0]at hv;cases hv
     .exact any_eq_true.mpr ⟨z,hz,decide_eq_true ez⟩
    unfold z4;rw[if_pos hn];exact hday
   .refine⟨fun b o h n=>by rw[aH n];exact b8 b o h n,⟨_,⟨ep,aB⟩,?_⟩,_,rfl⟩;rw[hst,D5 _ hv];have hn:¬(aP (xs.take i)).any (fun z=>decide (z.n=y.n))=true:=fun h=>by
     obtain⟨z,hz,ez⟩:=any_eq_true.mp h;exact(xE hday).mp hv z hz (of_decide_eq_true ez)
    unfold z4;rw[if_neg hn];exact gZ (R:=DW _) ⟨rfl,rfl⟩ hday
  rintro σ H8 ⟨b8,⟨kd,⟨ed,hd8⟩,hday⟩,v4,v5,v6,v7,rfl⟩;rw[<-hpa7.length,take_length]at hday;have hde8:=b8 _ _ hde7 npd.symm;have s68:aG H6 H8:=fun b o h=>b8 _ _ (s7 _ _ h) (aF h hpd)
  have ndS:=fZ xs;have hSl:=dC xs;have hkdl:=hday.length;clear b8 s7 ed0 hde7 hta7 hpa7;have hpd0:=hpd;refine aI ?_;walk_at "vc0"
  refine fun pt hpt=>?_
  have I0:=o4.nil (cR:=yL) hpt;have s68':=s6.trans s68;generalize upd H8 pt (.dK [] 0)=H9 at I0⊢
  refine aI ⟨_,rfl,pd,kd,ed,rfl,.inl (I0.s _ _ hd8),qW (fun i σ H'=>(∃kvs C,o4 yL H8 H' pt kvs C/\NP (aP xs) (aS ab) i C/\(∀z∈C,z.2.length<=i)/\C.length<=i)/\∃v4 v9 v10,σ=[some (.ref ta),some mv,some (.ref de),some (.ref pd),v4,v5,v6,v7,some (.ref pt),v9,v10]) ⟨⟨[],[],I0,NP.nil,(fun _ h=>nomatch h),le_refl _⟩,_,_,_,rfl⟩ (fun i σ H' _ ⟨⟨_,_,I,_⟩,_⟩=>.inl (I.s _ _ hd8)) ?_ ?_⟩
  .rintro i kv σ H2 hkv ⟨⟨kvs,C,I,hsem,hlen,hCl⟩,v4,v9,v10,rfl⟩;obtain⟨y,hy,hk1,hk2⟩:=L2.Paired.jI hday hkv;have hil:=(List.getElem?_eq_some_iff.mp hy).1;have ekv:kV kv.1= .str y.n:=by rw[hk1];rfl
   rw[ekv];have hde2:=I.s _ _ hde8;have hpd2:=I.s _ _ hd8;walk_at "vc0";refine aI ?_;walk_at "vc0"
   refine aI ?_;walk_at "vc0"
   have hkvl:((bK ab).length:Int)<=60:=by rw[dU];omega
   refine⟨_,rfl,de,bK ab,rfl,⟨epd,.inl hde2⟩,_,rfl,by omega,by omega,kG (lo:=0) (n:=(bK ab).length) (fun j σ H'=>H'=H2/\∃z o,JC (aS ab) y.n j z/\σ=[some (.ref ta),some mv,some (.ref de),some (.ref pd),some (.str y.n),v5,v6,v7,some (.ref pt),some (.str z),o]) ⟨rfl,_,_,.inl rfl,rfl⟩ ?_ ?_⟩
   .rintro j σ H3 hj ⟨rfl,z,o,hz,rfl⟩;have hv:∃o2,n6 H3 de (.str z) o2/\o2.getD V.aU=oV (aS ab z):=by
     by_cases hx:z∈ks ab
     .exact⟨some (oV (aS ab z)),.inl ⟨bK ab,.inr z,⟨epd,.inl hde2⟩,rfl,(lY hx).symm⟩,rfl⟩
     .exact⟨none,.inl ⟨bK ab,.inr z,⟨epd,.inl hde2⟩,rfl,(M6 hx).symm⟩,by rw[uD hx];rfl⟩
    obtain⟨o2,h1,h2⟩:=hv;walk_at "vc0";refine⟨.inl ⟨_,epd,.inl hde2⟩,o2,h1,?_⟩;rw[h2];cases c:aS ab z with
    |none=>
     rw[show decide (oV none=V.aU)=true from rfl];exact jH ⟨z,hz.mW c,rfl,_,rfl⟩
    |some w'=>
     rw[show decide (oV (some w')=V.aU)=false from decide_eq_false fun z=>nomatch z];exact kM ⟨.inl ⟨_,epd,.inl hde2⟩,o2,h1,w',hz.up1 c,by rw[h2,c];rfl,_,rfl⟩
   rintro σ H3 ⟨rfl,ro,o,hz,rfl⟩;rw[dU]at hz;have htop:=hz.top hac2;clear hz;obtain⟨et,hdt⟩:=id I.d;have hkc:kvs.length=C.length:=I.pr.length.symm;have aL:=wX (n:=ro) (c:=(y.d,y.n)) hlen hCl;have hvd:bG kd (.inr y.n)=some (.int y.d):=by
    rcases iV (n:=y.n) hday with⟨_,h0⟩|⟨y',hy',ey',e⟩
    .exact absurd rfl (h0 y (mem_of_getElem? hy))
    .rw[e,mP ndS hy' (mem_of_getElem? hy) ey']
   walk_at "vc4";refine⟨.inl ⟨kvs,et,.inl hdt⟩,zero_le _,fun l0 hl0=>?_⟩;have s6':=aG.upd (o:=.lst []) hl0;have I6:=o4.same (cR:=yL) (fun k h=>yL.kt k h) I s6';have hdt6:=s6' _ _ hdt;have hpd6:=s6' _ _ hpd2;refine⟨kvs,⟨et,hdt6⟩,.inr ro,rfl,iQ (by omega),fun lv hv=>?_,fun ep hv=>?_⟩
   .rcases yU.val (n:=ro) I6.pr with⟨h0,_⟩|⟨z,hz,ez,kv,hkv,ek,hv2,l,us,el,hl,hcs⟩
    .rw[h0]at hv;cases hv
    rw[hv2]at hv;cases hv;rw[el];refine⟨.inl ⟨us,bM.of hl⟩,pd,kd,.inr y.n,.int y.d,rfl,⟨ed,.inl hpd6⟩,rfl,hvd,lK (by decide),fun b hb=>?_⟩;have s7:=aG.upd (o:=.tup [.int y.d,.str y.n]) hb;have I7:=o4.same (cR:=yL) (fun k h=>yL.kt k h) I6 s7;have hul:us.length<=i:=by rw[<-hcs.length];exact hlen z hz
    have I8:=o4.old (cR:=yL) (fun k h=>yL.kt k h) I7 (c:=(y.d,y.n)) (b:=b) hz hkv (by rw[ek,ez]) el (s7 _ _ hl) ⟨b,rfl,aB⟩;rw[ez]at I8;exact⟨l,rfl,us,s7 _ _ hl,iQ (by omega),⟨kvs,_,I8,hsem.step hy htop,aL.1,aL.2⟩,_,rfl⟩
   .rcases yU.val (n:=ro) I6.pr with⟨h0,hn⟩|⟨z,hz,ez,kv,hkv,ek,hv2,_⟩
    rotate_left
    .rw[hv2]at hv;cases hv
    have hlp:l0≠pt:=(aF hdt hl0).symm;have hA:∀a o,H3 a=some o->a≠pt->upd (upd H3 l0 (.lst [])) pt (.dK (putK kvs (.inr ro) (.ref l0)) ep) a=some o:=fun a o h ha=>by rw[aH ha,aH (aF h hl0)];exact h
    have npt:pd≠pt:=aF hd8 hpt;have hpdA:=hA _ _ hpd2 npt;have hlA:upd (upd H3 l0 (.lst [])) pt (.dK (putK kvs (.inr ro) (.ref l0)) ep) l0=some (.lst []):=by rw[aH hlp];exact aB
    have hpA:upd (upd H3 l0 (.lst [])) pt (.dK (putK kvs (.inr ro) (.ref l0)) ep) pt=some (.dK (putK kvs (.inr ro) (.ref l0)) ep):=aB;generalize upd (upd H3 l0 (.lst [])) pt (.dK (putK kvs (.inr ro) (.ref l0)) ep)=HA at*;refine⟨.inl ⟨[],bM.of hlA⟩,pd,kd,.inr y.n,.int y.d,rfl,⟨ed,.inl hpdA⟩,rfl,hvd,lK (by decide),fun b hb=>?_⟩;have s7:=aG.upd (o:=.tup [.int y.d,.str y.n]) hb;have I8:=o4.new (cR:=yL) (fun k h=>yL.kt k h) I (c:=(y.d,y.n)) (b:=b) hpt hn hv hl0 (fun a o h ha=>s7 _ _ (hA a o h ha)) (s7 _ _ hpA) (s7 _ _ hlA) ⟨b,rfl,aB⟩;exact⟨[],s7 _ _ hlA,iQ (by simp),⟨_,_,I8,hsem.step hy htop,aL.1,aL.2⟩,_,rfl⟩
  .rintro σ H2 ⟨⟨kvs,C,I,hsem,hlen,hCl⟩,v4,v9,v10,rfl⟩;rw[<-hkdl]at hlen hCl;rw[<-hkdl]at hsem;have hsem2:∀n c,(∃z∈C,z.1=n/\c∈z.2)↔∃y∈aP xs,c=(y.d,y.n)/\Top (aS ab) y.n n:=fun n c=>by have:=hsem n c;rwa[take_length]at this
   clear hsem;obtain⟨et,hdt⟩:=id I.d;have hkc:kvs.length=C.length:=I.pr.length.symm;have hpd2:=I.s _ _ hd8;walk_at "vc8";refine⟨⟨kvs,et,.inl hdt⟩,fun it hit=>?_⟩;have s3:=aG.upd (o:=LX it pt) hit;refine⟨pt,aB,kvs,et,.inl (s3 _ _ hdt),fun l hl=>zN pt kvs et (fun H kv v=>∃z:Str×Str,kv.1= .inr z.1/\Q6 (aP xs) (aS ab) z/\HX H z v) (fun σ=>∃o1 o2,σ=[o1,o2,some (.ref pd)]) ⟨_,_,rfl⟩ hl (iQ (by omega)) (s3 _ _ hdt) (fun _ _ _ _ k ⟨z,e,h,b,e2,h2⟩=>⟨z,e,h,b,e2,k _ _ h2⟩) ?_ ?_⟩
   .rintro kv t σ H4 ys N hkv ⟨o1,o2,rfl⟩ s4 ht4 e4 hyl hN;obtain⟨zc,hzc,ek,lz,uz,ekv,hlz,hcs⟩:=i3 I.pr kv hkv;have hpd4:=s4 _ _ (s3 _ _ hpd2);have hlz4:=s4 _ _ (s3 _ _ hlz);rw[ek,ekv]at ht4;unfold dD;walk_at "vc2";have hcs4:Paired (yL H4) zc.2 uz:=L2.Paired.dP hcs fun _ _ h=>yL.kt (s3.trans s4).kt h
    have hne:=I.ne zc hzc;have hto:∀c∈zc.2,∃y∈aP xs,c=(y.d,y.n)/\Top (aS ab) y.n zc.1:=fun c hc=>(hsem2 zc.1 c).mp ⟨zc,hzc,rfl,hc⟩
    have hfr:∀y∈aP xs,Top (aS ab) y.n zc.1->(y.d,y.n)∈zc.2:=fun y hy ht=>by
     obtain⟨z,hz,ez,hc⟩:=(hsem2 zc.1 (y.d,y.n)).mpr ⟨y,hy,rfl,ht⟩;rw[<-show z=zc from iY (f:=fun z:Str×List (Int×Str)=>z.1) I.nd hz hzc ez];exact hc
    refine⟨_,bO.of ht4,rfl,_,_,rfl,_,_,rfl,rfl,pd,kd,.inr zc.1,rfl,⟨ed,.inl hpd4⟩,rfl,_,rfl,?_⟩;rw[if_neg Bool.false_ne_true];rcases iV (n:=zc.1) hday with⟨h0,hno⟩|⟨x0,hx0,ex0,h0⟩
    .rw[h0];refine jH ⟨lz,uz,zc.2.map sA,rfl,bM.of hlz4,(EX hcs4).rep,by rw[length_map];exact List.length_pos_iff.mpr hne,yS zc.2,?_⟩;have hle:=Mr.gJ (Mr.xB (zc.2.map sA)) ((zc.2.map sA).length - 1);have hmin:=fun q hq=>Mr.lQ (ps:=zc.2.map sA) (q:=q) hq
     unfold Mr.JS at hmin;generalize argBest (Mr.xB (zc.2.map sA)) ((zc.2.map sA).length - 1)=j at hle hmin⊢
     rw[length_map]at hle;have hzp:0<zc.2.length:=List.length_pos_iff.mpr hne;have hjz:j<zc.2.length:=by omega
     have hul:=hcs4.length;have huj:uz[j]? =some uz[j]:=getElem?_eq_getElem (by omega);obtain⟨c,hcj,b,eb,hb⟩:=L2.Paired.jI hcs4 huj;have hcm:=mem_of_getElem? hcj;obtain⟨x,hx,ec,hxt⟩:=hto c hcm;rw[getD_eq_getElem?_getD,huj,eb];refine⟨b,rfl,_,bO.of hb,_,dW (j:=1) rfl,lK (by decide),fun p hp=>⟨ys,aG.upd hp _ _ e4,hyl,hN _ _ _ ⟨_,_,rfl⟩ (aG.upd hp) ⟨(zc.1,c.2),ek,⟨x,hx,by rw[ec],hxt,fun y hy ht=>.inr ⟨?_,?_⟩⟩,p,rfl,aB⟩⟩⟩
     .show(!decide (x.n=zc.1))=!decide (y.n=zc.1);rw[decide_eq_false (hno x hx),decide_eq_false (hno y hy)]
     .have h1:=hmin (sA (y.d,y.n)) (mem_map.mpr ⟨_,hfr y hy ht,rfl⟩);rw[getD_eq_getElem?_getD,getElem?_map,hcj]at h1;have h2:=LQ (a:=c) (b:=(y.d,y.n)) h1;rwa[ec]at h2
    .rw[h0];refine kM ⟨lK (by decide),fun p hp=>⟨ys,aG.upd hp _ _ e4,hyl,hN _ _ _ ⟨_,_,rfl⟩ (aG.upd hp) ⟨(zc.1,zc.1),ek,⟨x0,hx0,ex0,?_,fun y hy ht=>?_⟩,p,rfl,aB⟩⟩⟩
     .obtain⟨c,hc⟩:=List.exists_mem_of_ne_nil _ hne;obtain⟨y,hy,_,ht⟩:=hto c hc;rw[ex0];exact Top.self ht.2
     .by_cases e:y.n=zc.1
      .rw[mP ndS hy hx0 (e.trans ex0.symm)];exact qT _
      .refine .inl ⟨?_,?_⟩
       .show(!decide (x0.n=zc.1))=false;rw[decide_eq_true ex0];rfl
       .show(!decide (y.n=zc.1))=true;rw[decide_eq_false e];rfl
   .intro H5 ys s5 hpr e5;obtain⟨rv,hrv,hvz,hkeys⟩:=KW hpr;have hks2:rv.map (·.1)=C.map (·.1):=by
     have h1:=yU.keys I.pr;rw[hkeys]at h1;exact AO h1
    have hrl:=hrv.length;have hrc:rv.length=C.length:=by rw[<-length_map (f:=fun z:Str×Str=>z.1),hks2,length_map]
    refine⟨l,rfl,ys,bM.of e5,rv.map HQ,GI hrv,by omega,fun x hx=>?_,B0 rv,fun ls zt htr hls=>⟨_,bM.of aB,fun tt htt=>?_⟩⟩
    .obtain⟨z,_,rfl⟩:=mem_map.mp hx;rfl
    .obtain⟨wb,pw,ew⟩:=gO (Mr.dG 3 _) rfl;have hso:=Mr.iT 3 (rv.map HQ);rw[ew]at htr hso;have s6':=(aG.upd (o:=.lst zt) hls).trans (aG.upd (o:=.tup zt) htt);have ndw:(wb.map (·.1)).Nodup:=(pw.map (·.1)).nodup_iff.mpr (by rw[hks2];exact I.nd);have hwl:=pw.length_eq;refine q tt zt wb ab _ ?_ aB (L2.Paired.dP (FX htr) fun _ _ ⟨b,e,h⟩=>⟨b,e,s6'.kt _ _ h⟩) byo ⟨ndw,N1 hso,fun x hx=>?_,fun z hz=>hvz z (pw.mem_iff.mp hz)⟩ (by omega)
     .exact((((s68'.trans I.s).trans s3).trans s5).trans s6')
     .obtain⟨r,ht⟩:=N9 hac2 x.n;obtain⟨z,hz,ez,_⟩:=(hsem2 r (x.d,x.n)).mpr ⟨x,hx,rfl,ht⟩;have h1:r∈rv.map (·.1):=by rw[hks2];exact mem_map.mpr ⟨z,hz,ez⟩
      obtain⟨z',hz',e'⟩:=mem_map.mp h1;exact⟨z',pw.mem_iff.mpr hz',by rw[e'];exact ht⟩
theorem lR:aZ ["_law_script","_law_state","_law_turn","_law_pool_here","_law_pack_here","_law_marks_here","_law_due_here"] ["_law_script"] (aC gD):=⟨rfl,rfl,rfl,by decide+kernel,rfl,by decide+kernel,by decide+kernel⟩
set_option maxHeartbeats 4000000 in
theorem L1 (T:Txt K mg fs fds tc u) (G_law_start:bB P w K mg base d8 1 (fs 16) (fds 16) ["_law_script"] (B6 K)) (G_law_pool:bB P w K mg base d8 3 (fs 19) (fds 19) ["_law_state","_law_many"] BA) (G_law_pack:bB P w K mg base d8 3 (fs 23) (fds 23) ["_law_state","_law_pool_here"] xA) (G_law_marks:bB P w K mg base d8 3 (fs 22) (fds 22) ["_law_state","_law_pool_here","_law_share"] AU) (G_law_due:bB P w K mg base d8 5 (fs 24) (fds 24) ["_law_pack_here","_law_marks_here"] BX) (G_law_take:bB P w K mg base d8 1 (fs 17) (fds 17) ["_law_state","_law_many"] DC) (G_voices:bB P w K mg base d8 5 (fs 15) (fds 15) ["pack","marks"] LB):bB P w K mg base d8 6 (fs 25) (fds 25) ["_law_script"] (AZ K):=by
 refine T.P0.F.ok lR (fun vs H Q E h=>?_) (fun cdv A outer s H vs Q E hr h=>?_)
 .obtain⟨a,ns,rfl,hS,hl,q⟩:=h;rfl
 .obtain⟨a,ns,rfl,hS,hl,q⟩:=h;refine⟨_,(aD (aQ (i:=1) lR.nd rfl (Or.inl rfl) (bE T.oF G_law_start hr (by decide) rfl (aA (pv 0) aE)))
   (aD (dB PassesOwn.never rfl (gB rfl T.fL (aA aJ aE)) (aO (i:=2) lR.nd rfl (Or.inl rfl)) (aD (aQ (i:=3) lR.nd rfl (Or.inl rfl) (bE T.rD G_law_pool hr (by decide) rfl (aA (pv 1) (aA (bR fT aJ (bE T.bW G_law_take hr (by decide) rfl (aA (pv 1) (aA aJ aE)))) aE))))
   (aD (aQ (i:=4) lR.nd rfl (Or.inl rfl) (bE T.qM G_law_pack hr (by decide) rfl (aA (pv 1) (aA (pv 3) aE))))
   (aD (aQ (i:=5) lR.nd rfl (Or.inl rfl) (bE T.oG G_law_marks hr (by decide) rfl (aA (pv 1) (aA (pv 3) (aA aJ aE)))))
   (aD (aQ (i:=6) lR.nd rfl (Or.inl rfl) (bE T.sV G_law_due hr (by decide) rfl (aA (pv 4) (aA (pv 5) aE))))
   (aK (fU (PW.pt (PR (bC x6 (bN (kF hr) (by rfl) T.jO pH (aA (bE T.pW G_voices hr (by decide) rfl (aA (pv 4) (aA (pv 5) aE))) aE)) (bN (kF hr) (by rfl) T.jO pH (aA (pv 6) aE)) (dM _)) (ME (bC x6 (bN (kF hr) (by rfl) T.jO pH (aA (bE T.pW G_voices hr (by decide) rfl (aA (pv 4) (aA (pv 5) aE))) aE)) (bN (kF hr) (by rfl) T.jO pH (aA (pv 6) aE)) (dM _))))) (aK (bF pX)) cU)))))))
   (aK (bF pX)))),?_⟩
  refine aI ?_;walk_at "vc0"
  refine⟨a,ns,rfl,hS,hl,fun p H1 hp hp1 s1=>?_⟩;refine aI ⟨_,rfl,by decide,by decide,kG (lo:=0) (n:=2) (fun i σ H'=>Box (500*i) H' p/\∃v2 v3 v4 v5 v6,σ=[some (.ref a),some (.ref p),v2,v3,v4,v5,v6]) ⟨hp1,_,_,_,_,_,rfl⟩ ?_ ?_⟩
  .rintro i σ H2 hi ⟨hp2,v2,v3,v4,v5,v6,rfl⟩;show vB _ _ _ _ _;refine aI ?_;walk_at "vc0"
   refine⟨p,8,_,rfl,hp2,by omega,by decide,by decide,fun d H3 d0 d1 hp3 b3=>?_⟩;obtain⟨m,rfl⟩:∃m:Nat,d=(m:Int):=⟨d.toNat,by omega⟩;refine⟨m,rfl,p,_,2+m,by rw[Int.natCast_add];rfl,hp3,by omega,by omega,by omega,fun l zs H4 hl4 hzl hz1 hzm hzn hp4 b4=>?_⟩;have npl:l≠p:=(Box.ne hp3 hl4).symm;refine aI ?_;walk_at "vc0"
   refine⟨p,l,zs,_,rfl,hp4,by omega,hzl,hz1,by omega,hzn,npl,fun pk xs H5 hP hxl hmem hp5 b5=>?_⟩;refine aI ?_;walk_at "vc0"
   refine⟨p,l,zs,6,_,rfl,hp5,by omega,b5 _ _ hzl npl,hz1,by omega,hzn,npl,by decide,by decide,fun mk hm H6 hM hml ndM hac hms hp6 b6=>?_⟩;have kt6:eP H5 H6:=Box.kt (d:=0) hp5 b6;have hP6:=hP.kt kt6;have hsub:∀x,sG (aP xs) hm x->x∈zs:=fun x hx=>by
    rcases hx with⟨y,hy,h⟩|⟨z,hz,h⟩
    .obtain⟨h1,h2⟩:=hmem y (qJ xs y hy);rcases h with rfl|h
     .exact h1
     .exact h2 x (yX h)
    .rcases h with rfl|h
     .exact(hms z hz).1
     .exact(hms z hz).2 x h
   refine aI ?_;walk_at "vc0"
   refine⟨pk,mk,xs,hm,zs,rfl,hP6,by omega,hM,ndM,by omega,hac,by omega,hsub,fun t us rv ab H7 s7 ht hpp byo vo hrl=>?_⟩;have s67:=s7;walk_at "vc0";refine⟨pk,mk,xs,hm,zs,rfl,hP6.kt s7.kt,by omega,iI.kt s7.kt hM,ndM,by omega,hac,by omega,hsub,fun t2 us2 rv2 ab2 H8 s8 ht2 hpp2 byo2 vo2 hpl2 hrl2=>?_⟩;have uq:∀{rv':List (Str×Str)} {ab':Hl},o7 (aP xs) hm ab'->lL (aP xs) (aS ab') rv'->rv'=rv:=fun by' vo'=>by
    rw[o7.uq (fZ xs) by' byo]at vo';exact vo'.uq vo
   have e2:=uq byo2 vo2;subst e2;have hnm:∀z∈HS rv2,eM z.1=true/\∀y,z.2=some y->eM y=true:=fun z hz=>by
    obtain⟨z',hz',rfl⟩:=mem_map.mp hz;refine⟨hzn _ (hsub _ (hpl2 z' hz')),fun y e=>?_⟩;cases e;obtain⟨x,hx,ex,_⟩:=vo2.is z' hz';exact hzn _ (by rw[<-ex];exact(hmem x (qJ xs x hx)).1)
   have Sm1:Sm 16000000 40 (x4 (HS rv2)):=(MW (by rw[show(HS rv2).length=rv2.length from length_map ..];exact hrl2) hnm).mono (by decide) (by decide);have hd1:FG H7 (x4 (HS rv2)) (.ref t):=pN (qI ht hpp);refine⟨t2,rfl,x4 (HS rv2),pN (qI ht2 hpp2),Sm1,x4 (HS rv2),pN (iI.kt s8.kt (qI ht hpp)),Sm1,rfl,?_⟩;rw[decide_eq_true rfl];refine jH ⟨pk,mk,xs,hm,zs,rfl,(hP6.kt s7.kt).kt s8.kt,by omega,iI.kt s8.kt (iI.kt s7.kt hM),ndM,by omega,hac,by omega,hsub,fun t3 us3 rv3 ab3 H9 s9 ht3 hpp3 byo3 vo3 hpl3 hrl3=>?_⟩;have e3:=uq byo3 vo3;subst e3;refine⟨t3,rfl,x4 (HS rv3),pN (qI ht3 hpp3),Sm1,x4 (HS rv3),pN (iI.kt s9.kt (iI.kt s8.kt (qI ht hpp))),Sm1,rfl,?_⟩;rw[decide_eq_true rfl];exact jH ⟨Box.up (p:=p) (Box.same (p:=p) hp6 ((s7.trans s8).trans s9)) (by omega),_,rfl⟩
  .rintro σ H2 ⟨hp2,v2,v3,v4,v5,v6,rfl⟩;walk_at "vc0";exact q _
end
theorem all_mk {w:World} {h:Heap} {mg:Str->Option Value} {fa f0 f1 f2 f3 f4 f5 f6 f7 f8 f9 f10 f11 f12 f13 f14 f15 f16 f17 f18 f19 f20 f21 f22 f23 f24 f25:Addr} (X:K.In h) (G:h.Ns mainGlobals mg) (hfa:mg "law"=some (.ref fa))
  {od0 an0 od1 an1 od2 an2 od3 an3 od4 an4 od5 an5 od6 an6 od7 an7 od8 an8 od9 an9 od10 an10 od11 an11 od12 an12 od13 an13 od14 an14 od15 an15 od16 an16 od17 an17 od18 an18 od19 an19 od20 an20 od21 an21 od22 an22 od23 an23 od24 an24 od25 an25:Option Addr} {sl0 sl1 sl2 sl3 sl4 sl5 sl6 sl7 sl8 sl9 sl10 sl11 sl12 sl13 sl14 sl15 sl16 sl17 sl18 sl19 sl20 sl21 sl22 sl23 sl24 sl25:Array (Option Value)} {oc0 kV0 dc0 pm0 cd0 ct0 oc1 kV1 dc1 pm1 cd1 ct1 oc2 kV2 dc2 pm2 cd2 ct2 oc3 kV3 dc3 pm3 cd3 ct3 oc4 kV4 dc4 pm4 cd4 ct4 oc5 kV5 dc5 pm5 cd5 ct5 oc6 kV6 dc6 pm6 cd6 ct6 oc7 kV7 dc7 pm7 cd7 ct7 oc8 kV8 dc8 pm8 cd8 ct8 oc9 kV9 dc9 pm9 cd9 ct9 oc10 kV10 dc10 pm10 cd10 ct10 oc11 kV11 dc11 pm11 cd11 ct11 oc12 kV12 dc12 pm12 cd12 ct12 oc13 kV13 dc13 pm13 cd13 ct13 oc14 kV14 dc14 pm14 cd14 ct14 oc15 kV15 dc15 pm15 cd15 ct15 oc16 kV16 dc16 pm16 cd16 ct16 oc17 kV17 dc17 pm17 cd17 ct17 oc18 kV18 dc18 pm18 cd18 ct18 oc19 kV19 dc19 pm19 cd19 ct19 oc20 kV20 dc20 pm20 cd20 ct20 oc21 kV21 dc21 pm21 cd21 ct21 oc22 kV22 dc22 pm22 cd22 ct22 oc23 kV23 dc23 pm23 cd23 ct23 oc24 kV24 dc24 pm24 cd24 ct24 oc25 kV25 dc25 pm25 cd25 ct25:Value}
  (a0:nsIn K mainGlobals "rings_in"=some (some (.ref f0))) (l0:K.lookup f0=some ⟨oc0,od0,.func (fnOf "rings_in" "rings_in" (aN cZ) (aM cZ) (aC cZ) .none kV0 dc0 pm0 an0 cd0 ct0),sl0⟩) (c0:codeIn K cd0 "rings_in"=true) (k0:keepIn K (.ref f0)=true)
  (a1:nsIn K mainGlobals "elders_in"=some (some (.ref f1))) (l1:K.lookup f1=some ⟨oc1,od1,.func (fnOf "elders_in" "elders_in" (aN cB) (aM cB) (aC cB) .none kV1 dc1 pm1 an1 cd1 ct1),sl1⟩) (c1:codeIn K cd1 "elders_in"=true) (k1:keepIn K (.ref f1)=true)
  (a2:nsIn K mainGlobals "roots_in"=some (some (.ref f2))) (l2:K.lookup f2=some ⟨oc2,od2,.func (fnOf "roots_in" "roots_in" (aN dA) (aM dA) (aC dA) .none kV2 dc2 pm2 an2 cd2 ct2),sl2⟩) (c2:codeIn K cd2 "roots_in"=true) (k2:keepIn K (.ref f2)=true)
  (a3:nsIn K mainGlobals "elders"=some (some (.ref f3))) (l3:K.lookup f3=some ⟨oc3,od3,.func (fnOf "elders" "elders" (aN eC) (aM eC) (aC eC) .none kV3 dc3 pm3 an3 cd3 ct3),sl3⟩) (c3:codeIn K cd3 "elders"=true) (k3:keepIn K (.ref f3)=true)
  (a4:nsIn K mainGlobals "standing"=some (some (.ref f4))) (l4:K.lookup f4=some ⟨oc4,od4,.func (fnOf "standing" "standing" (aN dF) (aM dF) (aC dF) .none kV4 dc4 pm4 an4 cd4 ct4),sl4⟩) (c4:codeIn K cd4 "standing"=true) (k4:keepIn K (.ref f4)=true)
  (a5:nsIn K mainGlobals "days_of"=some (some (.ref f5))) (l5:K.lookup f5=some ⟨oc5,od5,.func (fnOf "days_of" "days_of" (aN dQ) (aM dQ) (aC dQ) .none kV5 dc5 pm5 an5 cd5 ct5),sl5⟩) (c5:codeIn K cd5 "days_of"=true) (k5:keepIn K (.ref f5)=true)
  (a6:nsIn K mainGlobals "rows_of"=some (some (.ref f6))) (l6:K.lookup f6=some ⟨oc6,od6,.func (fnOf "rows_of" "rows_of" (aN dR) (aM dR) (aC dR) .none kV6 dc6 pm6 an6 cd6 ct6),sl6⟩) (c6:codeIn K cd6 "rows_of"=true) (k6:keepIn K (.ref f6)=true)
  (a7:nsIn K mainGlobals "claims_of"=some (some (.ref f7))) (l7:K.lookup f7=some ⟨oc7,od7,.func (fnOf "claims_of" "claims_of" (aN cO) (aM cO) (aC cO) .none kV7 dc7 pm7 an7 cd7 ct7),sl7⟩) (c7:codeIn K cd7 "claims_of"=true) (k7:keepIn K (.ref f7)=true)
  (a8:nsIn K mainGlobals "choice"=some (some (.ref f8))) (l8:K.lookup f8=some ⟨oc8,od8,.func (fnOf "choice" "choice" (aN eR) (aM eR) (aC eR) .none kV8 dc8 pm8 an8 cd8 ct8),sl8⟩) (c8:codeIn K cd8 "choice"=true) (k8:keepIn K (.ref f8)=true)
  (a9:nsIn K mainGlobals "choices"=some (some (.ref f9))) (l9:K.lookup f9=some ⟨oc9,od9,.func (fnOf "choices" "choices" (aN cW) (aM cW) (aC cW) .none kV9 dc9 pm9 an9 cd9 ct9),sl9⟩) (c9:codeIn K cd9 "choices"=true) (k9:keepIn K (.ref f9)=true)
  (a10:nsIn K mainGlobals "places"=some (some (.ref f10))) (l10:K.lookup f10=some ⟨oc10,od10,.func (fnOf "places" "places" (aN eV) (aM eV) (aC eV) .none kV10 dc10 pm10 an10 cd10 ct10),sl10⟩) (c10:codeIn K cd10 "places"=true) (k10:keepIn K (.ref f10)=true)
  (a11:nsIn K mainGlobals "cut_one"=some (some (.ref f11))) (l11:K.lookup f11=some ⟨oc11,od11,.func (fnOf "cut_one" "cut_one" (aN cI) (aM cI) (aC cI) .none kV11 dc11 pm11 an11 cd11 ct11),sl11⟩) (c11:codeIn K cd11 "cut_one"=true) (k11:keepIn K (.ref f11)=true)
  (a12:nsIn K mainGlobals "begun_with"=some (some (.ref f12))) (l12:K.lookup f12=some ⟨oc12,od12,.func (fnOf "begun_with" "begun_with" (aN bX) (aM bX) (aC bX) .none kV12 dc12 pm12 an12 cd12 ct12),sl12⟩) (c12:codeIn K cd12 "begun_with"=true) (k12:keepIn K (.ref f12)=true)
  (a13:nsIn K mainGlobals "cut_rings"=some (some (.ref f13))) (l13:K.lookup f13=some ⟨oc13,od13,.func (fnOf "cut_rings" "cut_rings" (aN bL) (aM bL) (aC bL) .none kV13 dc13 pm13 an13 cd13 ct13),sl13⟩) (c13:codeIn K cd13 "cut_rings"=true) (k13:keepIn K (.ref f13)=true)
  (a14:nsIn K mainGlobals "by_names"=some (some (.ref f14))) (l14:K.lookup f14=some ⟨oc14,od14,.func (fnOf "by_names" "by_names" (aN cS) (aM cS) (aC cS) .none kV14 dc14 pm14 an14 cd14 ct14),sl14⟩) (c14:codeIn K cd14 "by_names"=true) (k14:keepIn K (.ref f14)=true)
  (a15:nsIn K mainGlobals "voices"=some (some (.ref f15))) (l15:K.lookup f15=some ⟨oc15,od15,.func (fnOf "voices" "voices" (aN eB) (aM eB) (aC eB) .none kV15 dc15 pm15 an15 cd15 ct15),sl15⟩) (c15:codeIn K cd15 "voices"=true) (k15:keepIn K (.ref f15)=true)
  (a16:nsIn K mainGlobals "_law_start"=some (some (.ref f16))) (l16:K.lookup f16=some ⟨oc16,od16,.func (fnOf "_law_start" "_law_start" (aN cM) (aM cM) (aC cM) .none kV16 dc16 pm16 an16 cd16 ct16),sl16⟩) (c16:codeIn K cd16 "_law_start"=true) (k16:keepIn K (.ref f16)=true)
  (a17:nsIn K mainGlobals "_law_take"=some (some (.ref f17))) (l17:K.lookup f17=some ⟨oc17,od17,.func (fnOf "_law_take" "_law_take" (aN dN) (aM dN) (aC dN) .none kV17 dc17 pm17 an17 cd17 ct17),sl17⟩) (c17:codeIn K cd17 "_law_take"=true) (k17:keepIn K (.ref f17)=true)
  (a18:nsIn K mainGlobals "_law_name"=some (some (.ref f18))) (l18:K.lookup f18=some ⟨oc18,od18,.func (fnOf "_law_name" "_law_name" (aN cQ) (aM cQ) (aC cQ) .none kV18 dc18 pm18 an18 cd18 ct18),sl18⟩) (c18:codeIn K cd18 "_law_name"=true) (k18:keepIn K (.ref f18)=true)
  (a19:nsIn K mainGlobals "_law_pool"=some (some (.ref f19))) (l19:K.lookup f19=some ⟨oc19,od19,.func (fnOf "_law_pool" "_law_pool" (aN dH) (aM dH) (aC dH) .none kV19 dc19 pm19 an19 cd19 ct19),sl19⟩) (c19:codeIn K cd19 "_law_pool"=true) (k19:keepIn K (.ref f19)=true)
  (a20:nsIn K mainGlobals "_law_of"=some (some (.ref f20))) (l20:K.lookup f20=some ⟨oc20,od20,.func (fnOf "_law_of" "_law_of" (aN fA) (aM fA) (aC fA) .none kV20 dc20 pm20 an20 cd20 ct20),sl20⟩) (c20:codeIn K cd20 "_law_of"=true) (k20:keepIn K (.ref f20)=true)
  (a21:nsIn K mainGlobals "_law_leads"=some (some (.ref f21))) (l21:K.lookup f21=some ⟨oc21,od21,.func (fnOf "_law_leads" "_law_leads" (aN cK) (aM cK) (aC cK) .none kV21 dc21 pm21 an21 cd21 ct21),sl21⟩) (c21:codeIn K cd21 "_law_leads"=true) (k21:keepIn K (.ref f21)=true)
  (a22:nsIn K mainGlobals "_law_marks"=some (some (.ref f22))) (l22:K.lookup f22=some ⟨oc22,od22,.func (fnOf "_law_marks" "_law_marks" (aN cL) (aM cL) (aC cL) .none kV22 dc22 pm22 an22 cd22 ct22),sl22⟩) (c22:codeIn K cd22 "_law_marks"=true) (k22:keepIn K (.ref f22)=true)
  (a23:nsIn K mainGlobals "_law_pack"=some (some (.ref f23))) (l23:K.lookup f23=some ⟨oc23,od23,.func (fnOf "_law_pack" "_law_pack" (aN cP) (aM cP) (aC cP) .none kV23 dc23 pm23 an23 cd23 ct23),sl23⟩) (c23:codeIn K cd23 "_law_pack"=true) (k23:keepIn K (.ref f23)=true)
  (a24:nsIn K mainGlobals "_law_due"=some (some (.ref f24))) (l24:K.lookup f24=some ⟨oc24,od24,.func (fnOf "_law_due" "_law_due" (aN cX) (aM cX) (aC cX) .none kV24 dc24 pm24 an24 cd24 ct24),sl24⟩) (c24:codeIn K cd24 "_law_due"=true) (k24:keepIn K (.ref f24)=true)
  (a25:nsIn K mainGlobals "law"=some (some (.ref f25))) (l25:K.lookup f25=some ⟨oc25,od25,.func (fnOf "law" "law" (aN gD) (aM gD) (aC gD) .none kV25 dc25 pm25 an25 cd25 ct25),sl25⟩) (c25:codeIn K cd25 "law"=true) (k25:keepIn K (.ref f25)=true)
  (dI:nsIn K mainGlobals "tuple"=some none)
  (dZ:nsIn K mainGlobals "enumerate"=some none)
  (mU:nsIn K mainGlobals "min"=some none)
  (d6:nsIn K mainGlobals "sorted"=some none)
  (fL:nsIn K mainGlobals "range"=some none)
  (tG:nsIn K mainGlobals "len"=some none)
  (wU:nsIn K mainGlobals "set"=some none)
  (qY:nsIn K mainGlobals "dict"=some none)
  (jO:nsIn K mainGlobals "repr"=some none)
  :∃fd:FuncData,(∀(s:Shared) (v:Value),BindsTo s fd ⟨[v],[]⟩ [("_law_script",v)])/\∀base:Heap,K.In base->base.Ns mainGlobals mg->bB l.prog w K mg base d8 6 fa fd ["_law_script"] (AZ K):=by
 have e:=hfa.symm.trans (mg_of X G a25);cases e;have F0:=bT (st:=cZ) l0 c0 k0;have b0:=F0.binds (ps:=["above"]) fun _ _ _ _ _ _ us hl=>match us,hl with|[_],_=>rfl
 have F1:=bT (st:=cB) l1 c1 k1;have b1:=F1.binds (ps:=["ties"]) fun _ _ _ _ _ _ us hl=>match us,hl with|[_],_=>rfl
 have F2:=bT (st:=dA) l2 c2 k2;have b2:=F2.binds (ps:=["above"]) fun _ _ _ _ _ _ us hl=>match us,hl with|[_],_=>rfl
 have F3:=bT (st:=eC) l3 c3 k3;have b3:=F3.binds (ps:=["letter"]) fun _ _ _ _ _ _ us hl=>match us,hl with|[_],_=>rfl
 have F4:=bT (st:=dF) l4 c4 k4;have b4:=F4.binds (ps:=["pack"]) fun _ _ _ _ _ _ us hl=>match us,hl with|[_],_=>rfl
 have F5:=bT (st:=dQ) l5 c5 k5;have b5:=F5.binds (ps:=["pack"]) fun _ _ _ _ _ _ us hl=>match us,hl with|[_],_=>rfl
 have F6:=bT (st:=dR) l6 c6 k6;have b6:=F6.binds (ps:=["pack"]) fun _ _ _ _ _ _ us hl=>match us,hl with|[_],_=>rfl
 have F7:=bT (st:=cO) l7 c7 k7;have b7:=F7.binds (ps:=["pack"]) fun _ _ _ _ _ _ us hl=>match us,hl with|[_],_=>rfl
 have F8:=bT (st:=eR) l8 c8 k8;have b8:=F8.binds (ps:=["held","rows","claimed","name"]) fun _ _ _ _ _ _ us hl=>match us,hl with|[_,_,_,_],_=>rfl
 have F9:=bT (st:=cW) l9 c9 k9;have b9:=F9.binds (ps:=["pack","marks","names"]) fun _ _ _ _ _ _ us hl=>match us,hl with|[_,_,_],_=>rfl
 have F10:=bT (st:=eV) l10 c10 k10;have b10:=F10.binds (ps:=["pack","marks"]) fun _ _ _ _ _ _ us hl=>match us,hl with|[_,_],_=>rfl
 have F11:=bT (st:=cI) l11 c11 k11;have b11:=F11.binds (ps:=["ring","held","days"]) fun _ _ _ _ _ _ us hl=>match us,hl with|[_,_,_],_=>rfl
 have F12:=bT (st:=bX) l12 c12 k12;have b12:=F12.binds (ps:=["ring","name"]) fun _ _ _ _ _ _ us hl=>match us,hl with|[_,_],_=>rfl
 have F13:=bT (st:=bL) l13 c13 k13;have b13:=F13.binds (ps:=["pack","marks","ties"]) fun _ _ _ _ _ _ us hl=>match us,hl with|[_,_,_],_=>rfl
 have F14:=bT (st:=cS) l14 c14 k14;have b14:=F14.binds (ps:=["pack","marks"]) fun _ _ _ _ _ _ us hl=>match us,hl with|[_,_],_=>rfl
 have F15:=bT (st:=eB) l15 c15 k15;have b15:=F15.binds (ps:=["pack","marks"]) fun _ _ _ _ _ _ us hl=>match us,hl with|[_,_],_=>rfl
 have F16:=bT (st:=cM) l16 c16 k16;have b16:=F16.binds (ps:=["_law_script"]) fun _ _ _ _ _ _ us hl=>match us,hl with|[_],_=>rfl
 have F17:=bT (st:=dN) l17 c17 k17;have b17:=F17.binds (ps:=["_law_state","_law_many"]) fun _ _ _ _ _ _ us hl=>match us,hl with|[_,_],_=>rfl
 have F18:=bT (st:=cQ) l18 c18 k18;have b18:=F18.binds (ps:=["_law_state"]) fun _ _ _ _ _ _ us hl=>match us,hl with|[_],_=>rfl
 have F19:=bT (st:=dH) l19 c19 k19;have b19:=F19.binds (ps:=["_law_state","_law_many"]) fun _ _ _ _ _ _ us hl=>match us,hl with|[_,_],_=>rfl
 have F20:=bT (st:=fA) l20 c20 k20;have b20:=F20.binds (ps:=["_law_state","_law_some"]) fun _ _ _ _ _ _ us hl=>match us,hl with|[_,_],_=>rfl
 have F21:=bT (st:=cK) l21 c21 k21;have b21:=F21.binds (ps:=["_law_held","_law_at","_law_goal"]) fun _ _ _ _ _ _ us hl=>match us,hl with|[_,_,_],_=>rfl
 have F22:=bT (st:=cL) l22 c22 k22;have b22:=F22.binds (ps:=["_law_state","_law_pool_here","_law_share"]) fun _ _ _ _ _ _ us hl=>match us,hl with|[_,_,_],_=>rfl
 have F23:=bT (st:=cP) l23 c23 k23;have b23:=F23.binds (ps:=["_law_state","_law_pool_here"]) fun _ _ _ _ _ _ us hl=>match us,hl with|[_,_],_=>rfl
 have F24:=bT (st:=cX) l24 c24 k24;have b24:=F24.binds (ps:=["_law_pack_here","_law_marks_here"]) fun _ _ _ _ _ _ us hl=>match us,hl with|[_,_],_=>rfl
 have F25:=bT (st:=gD) l25 c25 k25;have b25:=F25.binds (ps:=["_law_script"]) fun _ _ _ _ _ _ us hl=>match us,hl with|[_],_=>rfl
 have T:Txt K mg (fun i=>([f0,f1,f2,f3,f4,f5,f6,f7,f8,f9,f10,f11,f12,f13,f14,f15,f16,f17,f18,f19,f20,f21,f22,f23,f24,fa]:List Addr).getD i 0) (fun i=>([fnOf "rings_in" "rings_in" (aN cZ) (aM cZ) (aC cZ) .none kV0 dc0 pm0 an0 cd0 ct0,fnOf "elders_in" "elders_in" (aN cB) (aM cB) (aC cB) .none kV1 dc1 pm1 an1 cd1 ct1,fnOf "roots_in" "roots_in" (aN dA) (aM dA) (aC dA) .none kV2 dc2 pm2 an2 cd2 ct2,fnOf "elders" "elders" (aN eC) (aM eC) (aC eC) .none kV3 dc3 pm3 an3 cd3 ct3,fnOf "standing" "standing" (aN dF) (aM dF) (aC dF) .none kV4 dc4 pm4 an4 cd4 ct4,fnOf "days_of" "days_of" (aN dQ) (aM dQ) (aC dQ) .none kV5 dc5 pm5 an5 cd5 ct5,fnOf "rows_of" "rows_of" (aN dR) (aM dR) (aC dR) .none kV6 dc6 pm6 an6 cd6 ct6,fnOf "claims_of" "claims_of" (aN cO) (aM cO) (aC cO) .none kV7 dc7 pm7 an7 cd7 ct7,fnOf "choice" "choice" (aN eR) (aM eR) (aC eR) .none kV8 dc8 pm8 an8 cd8 ct8,fnOf "choices" "choices" (aN cW) (aM cW) (aC cW) .none kV9 dc9 pm9 an9 cd9 ct9,fnOf "places" "places" (aN eV) (aM eV) (aC eV) .none kV10 dc10 pm10 an10 cd10 ct10,fnOf "cut_one" "cut_one" (aN cI) (aM cI) (aC cI) .none kV11 dc11 pm11 an11 cd11 ct11,fnOf "begun_with" "begun_with" (aN bX) (aM bX) (aC bX) .none kV12 dc12 pm12 an12 cd12 ct12,fnOf "cut_rings" "cut_rings" (aN bL) (aM bL) (aC bL) .none kV13 dc13 pm13 an13 cd13 ct13,fnOf "by_names" "by_names" (aN cS) (aM cS) (aC cS) .none kV14 dc14 pm14 an14 cd14 ct14,fnOf "voices" "voices" (aN eB) (aM eB) (aC eB) .none kV15 dc15 pm15 an15 cd15 ct15,fnOf "_law_start" "_law_start" (aN cM) (aM cM) (aC cM) .none kV16 dc16 pm16 an16 cd16 ct16,fnOf "_law_take" "_law_take" (aN dN) (aM dN) (aC dN) .none kV17 dc17 pm17 an17 cd17 ct17,fnOf "_law_name" "_law_name" (aN cQ) (aM cQ) (aC cQ) .none kV18 dc18 pm18 an18 cd18 ct18,fnOf "_law_pool" "_law_pool" (aN dH) (aM dH) (aC dH) .none kV19 dc19 pm19 an19 cd19 ct19,fnOf "_law_of" "_law_of" (aN fA) (aM fA) (aC fA) .none kV20 dc20 pm20 an20 cd20 ct20,fnOf "_law_leads" "_law_leads" (aN cK) (aM cK) (aC cK) .none kV21 dc21 pm21 an21 cd21 ct21,fnOf "_law_marks" "_law_marks" (aN cL) (aM cL) (aC cL) .none kV22 dc22 pm22 an22 cd22 ct22,fnOf "_law_pack" "_law_pack" (aN cP) (aM cP) (aC cP) .none kV23 dc23 pm23 an23 cd23 ct23,fnOf "_law_due" "_law_due" (aN cX) (aM cX) (aC cX) .none kV24 dc24 pm24 an24 cd24 ct24,fnOf "law" "law" (aN gD) (aM gD) (aC gD) .none kV25 dc25 pm25 an25 cd25 ct25]:List FuncData).getD i (fnOf "law" "law" (aN gD) (aM gD) (aC gD) .none kV25 dc25 pm25 an25 cd25 ct25)) (fun i=>([]:List Addr).getD i 0) (fun i=>([]:List Value).getD i .none):=⟨⟨F0,mg_of X G a0,b0⟩,⟨F1,mg_of X G a1,b1⟩,⟨F2,mg_of X G a2,b2⟩,⟨F3,mg_of X G a3,b3⟩,⟨F4,mg_of X G a4,b4⟩,⟨F5,mg_of X G a5,b5⟩,⟨F6,mg_of X G a6,b6⟩,⟨F7,mg_of X G a7,b7⟩,⟨F8,mg_of X G a8,b8⟩,⟨F9,mg_of X G a9,b9⟩,⟨F10,mg_of X G a10,b10⟩,⟨F11,mg_of X G a11,b11⟩,⟨F12,mg_of X G a12,b12⟩,⟨F13,mg_of X G a13,b13⟩,⟨F14,mg_of X G a14,b14⟩,⟨F15,mg_of X G a15,b15⟩,⟨F16,mg_of X G a16,b16⟩,⟨F17,mg_of X G a17,b17⟩,⟨F18,mg_of X G a18,b18⟩,⟨F19,mg_of X G a19,b19⟩,⟨F20,mg_of X G a20,b20⟩,⟨F21,mg_of X G a21,b21⟩,⟨F22,mg_of X G a22,b22⟩,⟨F23,mg_of X G a23,b23⟩,⟨F24,mg_of X G a24,b24⟩,⟨F25,mg_of X G a25,b25⟩,mg_none_of X G dI,mg_none_of X G dZ,mg_none_of X G mU,mg_none_of X G d6,mg_none_of X G fL,mg_none_of X G tG,mg_none_of X G wU,mg_none_of X G qY,mg_none_of X G jO⟩;refine⟨fnOf "law" "law" (aN gD) (aM gD) (aC gD) .none kV25 dc25 pm25 an25 cd25 ct25,fun s v=>.of_eq rfl,fun base _ _=>?_⟩;have G_rings_in:=yA (P:=l.prog) (w:=w) (base:=base) T;have G_elders_in:=vJ (P:=l.prog) (w:=w) (base:=base) T;have G_roots_in:=yG (P:=l.prog) (w:=w) (base:=base) T;have G_elders:=C9 (P:=l.prog) (w:=w) (base:=base) T;have G_standing:=xF (P:=l.prog) (w:=w) (base:=base) T;have G_choice:=CK (P:=l.prog) (w:=w) (base:=base) T;have G_cut_one:=zF (P:=l.prog) (w:=w) (base:=base) T;have G_begun_with:=sM (P:=l.prog) (w:=w) (base:=base) T;have G_law_start:=vK (P:=l.prog) (w:=w) (base:=base) T;have G_law_take:=xO (P:=l.prog) (w:=w) (base:=base) T;have G_law_leads:=uQ (P:=l.prog) (w:=w) (base:=base) T;have G_days_of:=yY (P:=l.prog) (w:=w) (base:=base) T G_standing;have G_rows_of:=y3 (P:=l.prog) (w:=w) (base:=base) T G_elders G_standing;have G_claims_of:=vW (P:=l.prog) (w:=w) (base:=base) T G_standing G_elders;have G_places:=CZ (P:=l.prog) (w:=w) (base:=base) T G_standing G_elders;have G_law_name:=xK (P:=l.prog) (w:=w) (base:=base) T G_law_take;have G_law_of:=DB (P:=l.prog) (w:=w) (base:=base) T G_law_take;have G_choices:=zV (P:=l.prog) (w:=w) (base:=base) T G_rows_of G_claims_of G_choice;have G_cut_rings:=vM (P:=l.prog) (w:=w) (base:=base) T G_days_of G_rings_in G_begun_with G_cut_one;have G_law_pool:=xM (P:=l.prog) (w:=w) (base:=base) T G_law_name;have G_law_marks:=uG (P:=l.prog) (w:=w) (base:=base) T G_law_take G_law_of G_law_leads;have G_law_pack:=yE (P:=l.prog) (w:=w) (base:=base) T G_law_take G_law_of;have G_by_names:=wI (P:=l.prog) (w:=w) (base:=base) T G_choices G_cut_rings G_places;have G_voices:=DX (P:=l.prog) (w:=w) (base:=base) T G_roots_in G_standing G_elders_in G_by_names;have G_law_due:=yO (P:=l.prog) (w:=w) (base:=base) T G_by_names;exact L1 T G_law_start G_law_pool G_law_pack G_law_marks G_law_due G_law_take G_voices
theorem walk {q:Program} {loose:List Str} {XP:(Str->Option Value)->Heap->Prop} {YP:World->Heap->Prop} {d:DefRec} {K:Params->Frag} (hn:l.most=some 63) (hdf:d.params.defaults=[])
  (hY:∀(w:World) (h:Heap),YP w h->(K w.params).In h)
  (F:∀(w:World) (mg:Str->Option Value) (fa:Addr) (h:Heap),(K w.params).In h->h.Ns mainGlobals mg->mg d.name=some (.ref fa)->
   ∃fd:FuncData,(∀(s:Shared) (u:Value),BindsTo s fd ⟨[u],[]⟩ [("_law_script",u)])/\∀base:Heap,(K w.params).In base->base.Ns mainGlobals mg->bB l.prog w (K w.params) mg base d8 6 fa fd ["_law_script"] (AZ (K w.params))):
  PySem.W.WalkO q loose XP YP l.row.toRowW d [] (fun f vs=>PySem.call f vs):=
 L2.KU (n:=63) (k:=6) (x:="_law_script") (CX:=fun _=>d8) (sp:=fun w=>AZ (K w.params)) hn (by decide) hdf ⟨rfl,by decide,by decide,rfl⟩ hY F (fun _ _ a ns hl _ hS=>⟨a,ns,rfl,hS,hl,fun _=>rfl⟩) fun _ _ _ _ _ z=>z
end My
open PySem PySem.W PyProof.Rows
set_option maxRecDepth 100000 in
set_option maxHeartbeats 0 in
theorem PySem.Challenge.cw_answertrees_k27_voices_holds : PySem.Challenge.rw_answertrees_k27_voices.Holds := by
 refine PySem.W.holds_law My.R8 fun said=>PySem.W.holds_open (q:=My.QS) (loose:=[]) (XP:=PySem.W.XL My.QS []) (YP:=PySem.W.InK My.RZ) (N:=My.RU) My.R5 (PySem.W.InK.of fun _=>by kernel_rfl) PySem.W.InK.keeps (fun s e=>xl_of s (Bool.and_eq_true_iff.mp e).1) PySem.W.XL.keeps (by rfl) (by rfl) (by rfl) (fun s e=>PySem.W.recFacts_of (Bool.and_eq_true_iff.mp e).2) rfl said (by decide+kernel) ⟨rfl,rfl,rfl,rfl,rfl,by decide+kernel⟩ ?hw ?hc
 case hw=>w_witness2
 k_fill
 refine My.walk (l:=PySem.Challenge.rw_answertrees_k27_voices) rfl rfl (fun w h Y=>Y) ?F
 case F=>
  intro w mg fa h KX G hmg
  refine' My.all_mk KX G hmg ?a0 ?l0 ?c0 ?k0 ?a1 ?l1 ?c1 ?k1 ?a2 ?l2 ?c2 ?k2 ?a3 ?l3 ?c3 ?k3 ?a4 ?l4 ?c4 ?k4 ?a5 ?l5 ?c5 ?k5 ?a6 ?l6 ?c6 ?k6 ?a7 ?l7 ?c7 ?k7 ?a8 ?l8 ?c8 ?k8 ?a9 ?l9 ?c9 ?k9 ?a10 ?l10 ?c10 ?k10 ?a11 ?l11 ?c11 ?k11 ?a12 ?l12 ?c12 ?k12 ?a13 ?l13 ?c13 ?k13 ?a14 ?l14 ?c14 ?k14 ?a15 ?l15 ?c15 ?k15 ?a16 ?l16 ?c16 ?k16 ?a17 ?l17 ?c17 ?k17 ?a18 ?l18 ?c18 ?k18 ?a19 ?l19 ?c19 ?k19 ?a20 ?l20 ?c20 ?k20 ?a21 ?l21 ?c21 ?k21 ?a22 ?l22 ?c22 ?k22 ?a23 ?l23 ?c23 ?k23 ?a24 ?l24 ?c24 ?k24 ?a25 ?l25 ?c25 ?k25 ?dI ?dZ ?mU ?d6 ?fL ?tG ?wU ?qY ?jO
  (case a0=>k_is)
  (case l0=>k_is)
  (case c0=>k_is)
  (case k0=>k_is)
  (case a1=>k_is)
  (case l1=>k_is)
  (case c1=>k_is)
  (case k1=>k_is)
  (case a2=>k_is)
  (case l2=>k_is)
  (case c2=>k_is)
  (case k2=>k_is)
  (case a3=>k_is)
  (case l3=>k_is)
  (case c3=>k_is)
  (case k3=>k_is)
  (case a4=>k_is)
  (case l4=>k_is)
  (case c4=>k_is)
  (case k4=>k_is)
  (case a5=>k_is)
  (case l5=>k_is)
  (case c5=>k_is)
  (case k5=>k_is)
  (case a6=>k_is)
  (case l6=>k_is)
  (case c6=>k_is)
  (case k6=>k_is)
  (case a7=>k_is)
  (case l7=>k_is)
  (case c7=>k_is)
  (case k7=>k_is)
  (case a8=>k_is)
  (case l8=>k_is)
  (case c8=>k_is)
  (case k8=>k_is)
  (case a9=>k_is)
  (case l9=>k_is)
  (case c9=>k_is)
  (case k9=>k_is)
  (case a10=>k_is)
  (case l10=>k_is)
  (case c10=>k_is)
  (case k10=>k_is)
  (case a11=>k_is)
  (case l11=>k_is)
  (case c11=>k_is)
  (case k11=>k_is)
  (case a12=>k_is)
  (case l12=>k_is)
  (case c12=>k_is)
  (case k12=>k_is)
  (case a13=>k_is)
  (case l13=>k_is)
  (case c13=>k_is)
  (case k13=>k_is)
  (case a14=>k_is)
  (case l14=>k_is)
  (case c14=>k_is)
  (case k14=>k_is)
  (case a15=>k_is)
  (case l15=>k_is)
  (case c15=>k_is)
  (case k15=>k_is)
  (case a16=>k_is)
  (case l16=>k_is)
  (case c16=>k_is)
  (case k16=>k_is)
  (case a17=>k_is)
  (case l17=>k_is)
  (case c17=>k_is)
  (case k17=>k_is)
  (case a18=>k_is)
  (case l18=>k_is)
  (case c18=>k_is)
  (case k18=>k_is)
  (case a19=>k_is)
  (case l19=>k_is)
  (case c19=>k_is)
  (case k19=>k_is)
  (case a20=>k_is)
  (case l20=>k_is)
  (case c20=>k_is)
  (case k20=>k_is)
  (case a21=>k_is)
  (case l21=>k_is)
  (case c21=>k_is)
  (case k21=>k_is)
  (case a22=>k_is)
  (case l22=>k_is)
  (case c22=>k_is)
  (case k22=>k_is)
  (case a23=>k_is)
  (case l23=>k_is)
  (case c23=>k_is)
  (case k23=>k_is)
  (case a24=>k_is)
  (case l24=>k_is)
  (case c24=>k_is)
  (case k24=>k_is)
  (case a25=>k_is)
  (case l25=>k_is)
  (case c25=>k_is)
  (case k25=>k_is)
  (case dI=>k_is)
  (case dZ=>k_is)
  (case mU=>k_is)
  (case d6=>k_is)
  (case fL=>k_is)
  (case tG=>k_is)
  (case wU=>k_is)
  (case qY=>k_is)
  (case jO=>k_is)
#print axioms PySem.Challenge.cw_answertrees_k27_voices_holds
