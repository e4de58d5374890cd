import PyProof.Rows.All
import Wide.All
import OpenK.AllK
import Wide.FinOn
import Lean
import PyProof.EqAt
import PyProof.EqKinds
import PyProof.TupleCall
import PySem.Challenge.RW_answertrees_k57_wishes_known
import KE.KSortKey
open List (mem_filter mem_range mem_cons_self mem_cons_of_mem mem_cons mem_append mem_append_left set_comm mem_append_right append_nil nodup_cons of_mem_zip length_take getElem?_map take_sublist mem_of_getElem? length_append length_map length_replicate size_toArray length_drop length_set all_cons any_cons map_nil map_cons lookup_cons forIn_cons length_cons range_succ_eq_map all_map all_eq_true getElem_mem length_filter_le map_append take_length mem_map length_range take_of_length_le drop_of_length_le filter_eq_self map_map drop_zero find?_cons cons_append length_nil nodup_nil ext_getElem getElem?_eq_getElem getD_eq_getElem?_getD not_lt pairwise_cons lt_irrefl mem_singleton not_mem_nil zipIdx_cons zipIdx_nil forIn_nil length_pos_of_mem nodup_append map_congr_left length_pos_iff take_succ mem_nil_iff nil_append set_cons_zero set_cons_succ length_eq_zero_iff map_drop map_id')
open Nat (lt_of_lt_of_le ne_of_lt le_trans le_of_lt ne_of_gt le_refl zero_le le_succ lt_succ_self lt_succ_of_lt sub_zero lt_trans le_add_right)
open Bool (and_eq_true false_eq_true or_eq_true not_eq_true')
open Option (isSome_iff_exists getD_none map_some isSome_map)
open Array (length_toList getElem?_toList getElem?_eq_none perm_iff_toList_perm toArray_toList toList_push toList_append)
open Int (toNat_natCast zero_add emod_nonneg emod_lt_of_pos)
open PySem.Heap (get?_push_size lt_size get?_push_of_some get?_update_self get?_update_other size_push size_update)
open PySem.W (fnOf Frag view LeftO xlAt recOk instObj methodObj lookIn plainGet findIn mroIn kitOne kia_one kitx_list kitx_dict keepIn codeIn nsIn mg_of mg_none_of xl_of)
open PySem.F (slot_dict_get entry_dict_get plainAttrs_dict type_dict_get slot_list_index plainAttrs_list slot_list_pop type_list_pop)
set_option compiler.extract_closed false
set_option Elab.async false
set_option linter.all false
set_option maxRecDepth 100000
namespace L2
open PySem PySem.Spec PyProof.Rows
noncomputable def aM (s:Stmt):Arguments:=match s with
 | .FunctionDef _ a _ _ _ _ _ _ _ _=>a
 |_=>{posonlyargs:=[],args:=[],vararg:=none,kwonlyargs:=[],kw_defaults:=[],kwarg:=none,defaults:=[]}
noncomputable def aL (s:Stmt):List Stmt:=match s with
 | .FunctionDef _ _ b _ _ _ _ _ _ _=>b
 |_=>[]
noncomputable def aD (s:Stmt):Scope:=match s with
 | .FunctionDef _ _ _ _ _ _ sc _ _ _=>sc
 |_=>{kind:=.function,names:=[],isGenerator:=false,isCoroutine:=false}
end L2
namespace My
set_option maxHeartbeats 0
open PySem PySem.W L2
abbrev UI:Program:=PySem.Challenge.pw_answertrees_k57_wishes_known
noncomputable abbrev UK (i:Nat):Stmt:=UI.main.body.getD i (.Pass ⟨0,0,0,0⟩)
noncomputable abbrev lU (i:Nat) (n m:Str) (t:Tok) (c:Addr):Obj:=⟨.type "function",none,.func (fnOf n n (aM (UK i)) (aL (UK i)) (aD (UK i)) .none .none .none (.str m t) none (.ref c) .none), #[]⟩
noncomputable abbrev iY (P:Params) (n:Str) (t:Tok) (v:Value):DictEntry:=⟨PyData.keyHash P n,.str n t,v⟩
noncomputable def UO:Params->Frag:=fun P=>
 (nat_lit 3,⟨(.type "dict"),none,.dict #[iY P "__name__" 165 (.str "law_answertrees_k57_wishes_known" 272),iY P "__doc__" 166 .none,iY P "__package__" 167 .none,iY P "__loader__" 168 (.builtin "__main__.__loader__#opaque"),iY P "__spec__" 169 .none,iY P "__annotations__" 170 (.ref 6),iY P "__builtins__" 171 (.ref 4),iY P "__file__" 173 (.str "/claim/cut.py" 172),iY P "__cached__" 174 .none,iY P "standing" 197 (.ref 21),iY P "rings_in" 211 (.ref 28),iY P "shown" 224 (.ref 35),iY P "NAME_SIGNS" 228 (.str "abcdefghijklmnopqrstuvwxyz0123456789" 227),iY P "LONGEST_NAME" 230 (.int 12 229),iY P "is_name" 236 (.ref 40),iY P "rises" 242 (.ref 45),iY P "is_mark" 251 (.ref 52),iY P "has_ring" 257 (.ref 57),iY P "is_marks" 263 (.ref 62),iY P "is_wish" 271 (.ref 67),iY P "_law_hand" 283 (.ref 74),iY P "_law_take" 293 (.ref 81),iY P "_law_name" 299 (.ref 86),iY P "_law_names" 309 (.ref 93),iY P "_law_letter" 315 (.ref 98),iY P "_law_pack" 326 (.ref 105),iY P "_law_stand" 335 (.ref 112),iY P "_law_elders" 341 (.ref 117),iY P "_law_up" 357 (.ref 124),iY P "_law_rings" 368 (.ref 131),iY P "_law_weakest" 374 (.ref 136),iY P "_law_shown" 380 (.ref 141),iY P "_law_any" 393 (.ref 148),iY P "_law_beneath" 405 (.ref 155),iY P "_law_moved" 411 (.ref 160),iY P "_law_wish" 426 (.ref 167),iY P "_law_is_name" 432 (.ref 172),iY P "_law_is_pair" 439 (.ref 179),iY P "_law_is_due" 445 (.ref 184),iY P "_law_odd" 456 (.ref 191),iY P "_law_long" 464 (.ref 198),iY P "_law_first" 471 (.ref 205),iY P "_law_spoilt" 487 (.ref 212),iY P "_law_right" 493 (.ref 217),iY P "law" 501 (.ref 224)] 45, #[]⟩)::
 (nat_lit 20,⟨(.type "code"),none,.fields #[.str "standing" 189,.str "standing" 190,.str "/claim/cut.py" 191,.int 2 0,.int 1 0,.int 0 0,.int 0 0,.int 3 0,.ref 15,.bool true,.int 181 0,.ref 16,.none,.ref 17,.ref 18,.ref 19,.int 195 0,.int 2 0,.str "/claim/cut.py" 196], #[]⟩)::
 (nat_lit 21,lU 1 "standing" "answertrees.elders" 187 20)::
 (nat_lit 27,⟨(.type "code"),none,.fields #[.str "rings_in" 200,.str "rings_in" 201,.str "/claim/cut.py" 202,.int 9 0,.int 1 0,.int 0 0,.int 0 0,.int 3 0,.ref 22,.bool true,.int 181 0,.ref 23,.none,.ref 24,.ref 25,.ref 26,.int 209 0,.int 9 0,.str "/claim/cut.py" 210], #[]⟩)::
 (nat_lit 28,lU 3 "rings_in" "answertrees.climbs" 198 27)::
 (nat_lit 34,⟨(.type "code"),none,.fields #[.str "shown" 214,.str "shown" 215,.str "/claim/cut.py" 216,.int 23 0,.int 2 0,.int 0 0,.int 0 0,.int 3 0,.ref 29,.bool true,.int 181 0,.ref 30,.none,.ref 31,.ref 32,.ref 33,.int 222 0,.int 23 0,.str "/claim/cut.py" 223], #[]⟩)::
 (nat_lit 35,lU 5 "shown" "answertrees.forests" 212 34)::
 (nat_lit 39,⟨(.type "code"),none,.fields #[.str "is_name" 231,.str "is_name" 232,.str "/claim/cut.py" 233,.int 34 0,.int 1 0,.int 0 0,.int 0 0,.int 3 0,.ref 36,.bool true,.int 181 0,.ref 37,.none,.none,.none,.ref 38,.int 234 0,.int 34 0,.str "/claim/cut.py" 235], #[]⟩)::
 (nat_lit 40,lU 9 "is_name" "answertrees.letters" 225 39)::
 (nat_lit 44,⟨(.type "code"),none,.fields #[.str "rises" 237,.str "rises" 238,.str "/claim/cut.py" 239,.int 38 0,.int 1 0,.int 0 0,.int 0 0,.int 3 0,.ref 41,.bool true,.int 181 0,.ref 42,.none,.none,.none,.ref 43,.int 240 0,.int 38 0,.str "/claim/cut.py" 241], #[]⟩)::
 (nat_lit 45,lU 10 "rises" "answertrees.letters" 225 44)::
 (nat_lit 51,⟨(.type "code"),none,.fields #[.str "is_mark" 245,.str "is_mark" 246,.str "/claim/cut.py" 247,.int 41 0,.int 1 0,.int 0 0,.int 0 0,.int 3 0,.ref 46,.bool true,.int 181 0,.ref 47,.none,.ref 48,.ref 49,.ref 50,.int 249 0,.int 41 0,.str "/claim/cut.py" 250], #[]⟩)::
 (nat_lit 52,lU 12 "is_mark" "answertrees.hands" 243 51)::
 (nat_lit 56,⟨(.type "code"),none,.fields #[.str "has_ring" 252,.str "has_ring" 253,.str "/claim/cut.py" 254,.int 45 0,.int 1 0,.int 0 0,.int 0 0,.int 3 0,.ref 53,.bool true,.int 181 0,.ref 54,.none,.none,.none,.ref 55,.int 255 0,.int 45 0,.str "/claim/cut.py" 256], #[]⟩)::
 (nat_lit 57,lU 13 "has_ring" "answertrees.hands" 243 56)::
 (nat_lit 61,⟨(.type "code"),none,.fields #[.str "is_marks" 258,.str "is_marks" 259,.str "/claim/cut.py" 260,.int 47 0,.int 1 0,.int 0 0,.int 0 0,.int 3 0,.ref 58,.bool true,.int 181 0,.ref 59,.none,.none,.none,.ref 60,.int 261 0,.int 47 0,.str "/claim/cut.py" 262], #[]⟩)::
 (nat_lit 62,lU 14 "is_marks" "answertrees.hands" 243 61)::
 (nat_lit 66,⟨(.type "code"),none,.fields #[.str "is_wish" 266,.str "is_wish" 267,.str "/claim/cut.py" 268,.int 52 0,.int 2 0,.int 0 0,.int 0 0,.int 3 0,.ref 63,.bool true,.int 181 0,.ref 64,.none,.none,.none,.ref 65,.int 269 0,.int 52 0,.str "/claim/cut.py" 270], #[]⟩)::
 (nat_lit 67,lU 16 "is_wish" "answertrees.wishes" 264 66)::
 (nat_lit 73,⟨(.type "code"),none,.fields #[.str "_law_hand" 274,.str "_law_hand" 275,.str "/claim/cut.py" 276,.int 62 0,.int 2 0,.int 0 0,.int 0 0,.int 3 0,.ref 68,.bool true,.int 181 0,.ref 69,.none,.ref 70,.ref 71,.ref 72,.int 281 0,.int 62 0,.str "/claim/cut.py" 282], #[]⟩)::
 (nat_lit 74,lU 18 "_law_hand" "law_answertrees_k57_wishes_known" 272 73)::
 (nat_lit 80,⟨(.type "code"),none,.fields #[.str "_law_take" 284,.str "_law_take" 285,.str "/claim/cut.py" 286,.int 68 0,.int 2 0,.int 0 0,.int 0 0,.int 3 0,.ref 75,.bool true,.int 181 0,.ref 76,.none,.ref 77,.ref 78,.ref 79,.int 291 0,.int 68 0,.str "/claim/cut.py" 292], #[]⟩)::
 (nat_lit 81,lU 19 "_law_take" "law_answertrees_k57_wishes_known" 272 80)::
 (nat_lit 85,⟨(.type "code"),none,.fields #[.str "_law_name" 294,.str "_law_name" 295,.str "/claim/cut.py" 296,.int 78 0,.int 2 0,.int 0 0,.int 0 0,.int 3 0,.ref 82,.bool true,.int 181 0,.ref 83,.none,.none,.none,.ref 84,.int 297 0,.int 78 0,.str "/claim/cut.py" 298], #[]⟩)::
 (nat_lit 86,lU 20 "_law_name" "law_answertrees_k57_wishes_known" 272 85)::
 (nat_lit 92,⟨(.type "code"),none,.fields #[.str "_law_names" 300,.str "_law_names" 301,.str "/claim/cut.py" 302,.int 85 0,.int 2 0,.int 0 0,.int 0 0,.int 3 0,.ref 87,.bool true,.int 181 0,.ref 88,.none,.ref 89,.ref 90,.ref 91,.int 307 0,.int 85 0,.str "/claim/cut.py" 308], #[]⟩)::
 (nat_lit 93,lU 21 "_law_names" "law_answertrees_k57_wishes_known" 272 92)::
 (nat_lit 97,⟨(.type "code"),none,.fields #[.str "_law_letter" 310,.str "_law_letter" 311,.str "/claim/cut.py" 312,.int 90 0,.int 3 0,.int 0 0,.int 0 0,.int 3 0,.ref 94,.bool true,.int 181 0,.ref 95,.none,.none,.none,.ref 96,.int 313 0,.int 90 0,.str "/claim/cut.py" 314], #[]⟩)::
 (nat_lit 98,lU 22 "_law_letter" "law_answertrees_k57_wishes_known" 272 97)::
 (nat_lit 104,⟨(.type "code"),none,.fields #[.str "_law_pack" 316,.str "_law_pack" 317,.str "/claim/cut.py" 318,.int 94 0,.int 2 0,.int 0 0,.int 0 0,.int 3 0,.ref 99,.bool true,.int 181 0,.ref 100,.none,.ref 101,.ref 102,.ref 103,.int 324 0,.int 94 0,.str "/claim/cut.py" 325], #[]⟩)::
 (nat_lit 105,lU 23 "_law_pack" "law_answertrees_k57_wishes_known" 272 104)::
 (nat_lit 111,⟨(.type "code"),none,.fields #[.str "_law_stand" 327,.str "_law_stand" 328,.str "/claim/cut.py" 329,.int 100 0,.int 1 0,.int 0 0,.int 0 0,.int 3 0,.ref 106,.bool true,.int 181 0,.ref 107,.none,.ref 108,.ref 109,.ref 110,.int 333 0,.int 100 0,.str "/claim/cut.py" 334], #[]⟩)::
 (nat_lit 112,lU 24 "_law_stand" "law_answertrees_k57_wishes_known" 272 111)::
 (nat_lit 116,⟨(.type "code"),none,.fields #[.str "_law_elders" 336,.str "_law_elders" 337,.str "/claim/cut.py" 338,.int 106 0,.int 1 0,.int 0 0,.int 0 0,.int 3 0,.ref 113,.bool true,.int 181 0,.ref 114,.none,.none,.none,.ref 115,.int 339 0,.int 106 0,.str "/claim/cut.py" 340], #[]⟩)::
 (nat_lit 117,lU 25 "_law_elders" "law_answertrees_k57_wishes_known" 272 116)::
 (nat_lit 123,⟨(.type "code"),none,.fields #[.str "_law_up" 342,.str "_law_up" 343,.str "/claim/cut.py" 344,.int 109 0,.int 2 0,.int 0 0,.int 0 0,.int 3 0,.ref 118,.bool true,.int 181 0,.ref 119,.none,.ref 120,.ref 121,.ref 122,.int 355 0,.int 109 0,.str "/claim/cut.py" 356], #[]⟩)::
 (nat_lit 124,lU 26 "_law_up" "law_answertrees_k57_wishes_known" 272 123)::
 (nat_lit 130,⟨(.type "code"),none,.fields #[.str "_law_rings" 358,.str "_law_rings" 359,.str "/claim/cut.py" 360,.int 128 0,.int 1 0,.int 0 0,.int 0 0,.int 3 0,.ref 125,.bool true,.int 181 0,.ref 126,.none,.ref 127,.ref 128,.ref 129,.int 366 0,.int 128 0,.str "/claim/cut.py" 367], #[]⟩)::
 (nat_lit 131,lU 27 "_law_rings" "law_answertrees_k57_wishes_known" 272 130)::
 (nat_lit 135,⟨(.type "code"),none,.fields #[.str "_law_weakest" 369,.str "_law_weakest" 370,.str "/claim/cut.py" 371,.int 139 0,.int 3 0,.int 0 0,.int 0 0,.int 3 0,.ref 132,.bool true,.int 181 0,.ref 133,.none,.none,.none,.ref 134,.int 372 0,.int 139 0,.str "/claim/cut.py" 373], #[]⟩)::
 (nat_lit 136,lU 28 "_law_weakest" "law_answertrees_k57_wishes_known" 272 135)::
 (nat_lit 140,⟨(.type "code"),none,.fields #[.str "_law_shown" 375,.str "_law_shown" 376,.str "/claim/cut.py" 377,.int 142 0,.int 2 0,.int 0 0,.int 0 0,.int 3 0,.ref 137,.bool true,.int 181 0,.ref 138,.none,.none,.none,.ref 139,.int 378 0,.int 142 0,.str "/claim/cut.py" 379], #[]⟩)::
 (nat_lit 141,lU 29 "_law_shown" "law_answertrees_k57_wishes_known" 272 140)::
 (nat_lit 147,⟨(.type "code"),none,.fields #[.str "_law_any" 381,.str "_law_any" 382,.str "/claim/cut.py" 383,.int 149 0,.int 2 0,.int 0 0,.int 0 0,.int 3 0,.ref 142,.bool true,.int 181 0,.ref 143,.none,.ref 144,.ref 145,.ref 146,.int 391 0,.int 149 0,.str "/claim/cut.py" 392], #[]⟩)::
 (nat_lit 148,lU 30 "_law_any" "law_answertrees_k57_wishes_known" 272 147)::
 (nat_lit 154,⟨(.type "code"),none,.fields #[.str "_law_beneath" 394,.str "_law_beneath" 395,.str "/claim/cut.py" 396,.int 156 0,.int 2 0,.int 0 0,.int 0 0,.int 3 0,.ref 149,.bool true,.int 181 0,.ref 150,.none,.ref 151,.ref 152,.ref 153,.int 403 0,.int 156 0,.str "/claim/cut.py" 404], #[]⟩)::
 (nat_lit 155,lU 31 "_law_beneath" "law_answertrees_k57_wishes_known" 272 154)::
 (nat_lit 159,⟨(.type "code"),none,.fields #[.str "_law_moved" 406,.str "_law_moved" 407,.str "/claim/cut.py" 408,.int 163 0,.int 2 0,.int 0 0,.int 0 0,.int 3 0,.ref 156,.bool true,.int 181 0,.ref 157,.none,.none,.none,.ref 158,.int 409 0,.int 163 0,.str "/claim/cut.py" 410], #[]⟩)::
 (nat_lit 160,lU 32 "_law_moved" "law_answertrees_k57_wishes_known" 272 159)::
 (nat_lit 166,⟨(.type "code"),none,.fields #[.str "_law_wish" 412,.str "_law_wish" 413,.str "/claim/cut.py" 414,.int 170 0,.int 3 0,.int 0 0,.int 0 0,.int 3 0,.ref 161,.bool true,.int 181 0,.ref 162,.none,.ref 163,.ref 164,.ref 165,.int 424 0,.int 170 0,.str "/claim/cut.py" 425], #[]⟩)::
 (nat_lit 167,lU 33 "_law_wish" "law_answertrees_k57_wishes_known" 272 166)::
 (nat_lit 171,⟨(.type "code"),none,.fields #[.str "_law_is_name" 427,.str "_law_is_name" 428,.str "/claim/cut.py" 429,.int 182 0,.int 1 0,.int 0 0,.int 0 0,.int 3 0,.ref 168,.bool true,.int 181 0,.ref 169,.none,.none,.none,.ref 170,.int 430 0,.int 182 0,.str "/claim/cut.py" 431], #[]⟩)::
 (nat_lit 172,lU 34 "_law_is_name" "law_answertrees_k57_wishes_known" 272 171)::
 (nat_lit 178,⟨(.type "code"),none,.fields #[.str "_law_is_pair" 433,.str "_law_is_pair" 434,.str "/claim/cut.py" 435,.int 185 0,.int 1 0,.int 0 0,.int 0 0,.int 3 0,.ref 173,.bool true,.int 181 0,.ref 174,.none,.ref 175,.ref 176,.ref 177,.int 437 0,.int 185 0,.str "/claim/cut.py" 438], #[]⟩)::
 (nat_lit 179,lU 35 "_law_is_pair" "law_answertrees_k57_wishes_known" 272 178)::
 (nat_lit 183,⟨(.type "code"),none,.fields #[.str "_law_is_due" 440,.str "_law_is_due" 441,.str "/claim/cut.py" 442,.int 189 0,.int 2 0,.int 0 0,.int 0 0,.int 3 0,.ref 180,.bool true,.int 181 0,.ref 181,.none,.none,.none,.ref 182,.int 443 0,.int 189 0,.str "/claim/cut.py" 444], #[]⟩)::
 (nat_lit 184,lU 36 "_law_is_due" "law_answertrees_k57_wishes_known" 272 183)::
 (nat_lit 190,⟨(.type "code"),none,.fields #[.str "_law_odd" 446,.str "_law_odd" 447,.str "/claim/cut.py" 448,.int 209 0,.int 2 0,.int 0 0,.int 0 0,.int 3 0,.ref 185,.bool true,.int 181 0,.ref 186,.none,.ref 187,.ref 188,.ref 189,.int 454 0,.int 209 0,.str "/claim/cut.py" 455], #[]⟩)::
 (nat_lit 191,lU 37 "_law_odd" "law_answertrees_k57_wishes_known" 272 190)::
 (nat_lit 197,⟨(.type "code"),none,.fields #[.str "_law_long" 457,.str "_law_long" 458,.str "/claim/cut.py" 459,.int 215 0,.int 2 0,.int 0 0,.int 0 0,.int 3 0,.ref 192,.bool true,.int 181 0,.ref 193,.none,.ref 194,.ref 195,.ref 196,.int 462 0,.int 215 0,.str "/claim/cut.py" 463], #[]⟩)::
 (nat_lit 198,lU 38 "_law_long" "law_answertrees_k57_wishes_known" 272 197)::
 (nat_lit 204,⟨(.type "code"),none,.fields #[.str "_law_first" 465,.str "_law_first" 466,.str "/claim/cut.py" 467,.int 217 0,.int 1 0,.int 0 0,.int 0 0,.int 3 0,.ref 199,.bool true,.int 181 0,.ref 200,.none,.ref 201,.ref 202,.ref 203,.int 469 0,.int 217 0,.str "/claim/cut.py" 470], #[]⟩)::
 (nat_lit 205,lU 39 "_law_first" "law_answertrees_k57_wishes_known" 272 204)::
 (nat_lit 211,⟨(.type "code"),none,.fields #[.str "_law_spoilt" 472,.str "_law_spoilt" 473,.str "/claim/cut.py" 474,.int 219 0,.int 3 0,.int 0 0,.int 0 0,.int 3 0,.ref 206,.bool true,.int 181 0,.ref 207,.none,.ref 208,.ref 209,.ref 210,.int 485 0,.int 219 0,.str "/claim/cut.py" 486], #[]⟩)::
 (nat_lit 212,lU 40 "_law_spoilt" "law_answertrees_k57_wishes_known" 272 211)::
 (nat_lit 216,⟨(.type "code"),none,.fields #[.str "_law_right" 488,.str "_law_right" 489,.str "/claim/cut.py" 490,.int 246 0,.int 1 0,.int 0 0,.int 0 0,.int 3 0,.ref 213,.bool true,.int 181 0,.ref 214,.none,.none,.none,.ref 215,.int 491 0,.int 246 0,.str "/claim/cut.py" 492], #[]⟩)::
 (nat_lit 217,lU 41 "_law_right" "law_answertrees_k57_wishes_known" 272 216)::
 (nat_lit 223,⟨(.type "code"),none,.fields #[.str "law" 494,.str "law" 495,.str "/claim/cut.py" 496,.int 261 0,.int 1 0,.int 0 0,.int 0 0,.int 3 0,.ref 218,.bool true,.int 181 0,.ref 219,.none,.ref 220,.ref 221,.ref 222,.int 499 0,.int 261 0,.str "/claim/cut.py" 500], #[]⟩)::
 (nat_lit 224,lU 42 "law" "law_answertrees_k57_wishes_known" 272 223)::[]
noncomputable abbrev U1:List Addr:=[3,20,21,27,28,34,35,39,40,44,45,51,52,56,57,61,62,66,67,73,74,80,81,85,86,92,93,97,98,104,105,111,112,116,117,123,124,130,131,135,136,140,141,147,148,154,155,159,160,166,167,171,172,178,179,183,184,190,191,197,198,204,205,211,212,216,217,223,224]
noncomputable def SV:Program:=view UI [1,3,5,7,8,9,10,12,13,14,16,18,19,20,21,22,23,24,25,26,27,28,29,30,31,32,33,34,35,36,37,38,39,40,41,42]
noncomputable abbrev UQ:Nat:=2322
theorem U9:LeftO UI SV [] (fun s=>xlAt SV [] s && recOk [] s) (fun s=>U1.map s.heap.get?) (fun w=>(UO w.params).map fun p=>some p.2) UQ:=by
 intro w;rw[PySem.W.Fast.te4187177175401517315,PySem.W.Fast.te5923862056798008813,PySem.W.Fast.te14364793385576792824]
 kernel_rfl
theorem UZ:PySem.Challenge.rw_answertrees_k57_wishes_known.wellSaid=true:=by
 rw[PySem.W.Fast.te9446332074065402090]
 kernel_rfl
end My
namespace L2
open PySem PySem.Spec PyProof.Rows
variable {C a b dx it:Addr} {A:Around} {g':Array GenState} {op op':CmpOp} {X:Cx} {d':Drawn} {CX:EI} {D:Ends} {c e l:Expr} {base h:Heap} {H:Hp} {lo:Int} {g:Int->Int->Int} {pins:List (Addr×Obj)} {ch fp:List Addr} {es:List Expr} {body:List Stmt} {N ps:List Str} {xs:List V} {us:List Value} {M:Model} {i j k n t':Nat} {o:Obj} {pos:Pos} {K:Frag} {r r':R2} {scope:Scope} {s:Shared} {σ:St} {qual x:Str} {kindOf:Str->Option NameKind} {mA mg:Str->Option Value} {ta:TA} {t te tl:TE} {tb:TS} {tc:TT} {α:Type} {y:V} {u v:Value} {E Q:Value->Shared->Prop} {f:Value->Value->Sem Value} {w:World}
abbrev Key:=Sum Int Str
noncomputable def gC:Key->Value->Bool
 | .inl k,v=>Value.isInt k v
 | .inr x,v=>Value.isStrOf x v
noncomputable def PY (w:World):Key->Int
 | .inl k=>hashInt k
 | .inr x=>hashStr w x
theorem bB:∀{k:Key} {v:Value},gC k v=true->(∃i t,k=Sum.inl i/\v=Value.int i t)\/ (∃x t,k=Sum.inr x/\v=Value.str x t)
 | .inl i,v,h=>by
  obtain⟨t,e⟩:=Value.isInt_shape (k:=i) (v:=v) h;exact .inl ⟨i,t,rfl,e⟩
 | .inr x,v,h=>by
  obtain⟨t,e⟩:=Value.isStrOf_shape (x:=x) (v:=v) h;exact .inr ⟨x,t,rfl,e⟩
theorem D7 (i:Int) (t:Tok):gC (.inl i) (.int i t)=true:=by simp[gC,Value.isInt]
theorem EE (x:Str) (t:Tok):gC (.inr x) (.str x t)=true:=by simp[gC,Value.isStrOf]
theorem O7 (a b:Int):decide ((Sum.inl a:Key)=Sum.inl b)=(a==b):=by
 by_cases e:a=b
 .subst e;simp
 .have h:¬(Sum.inl a:Key)=Sum.inl b:=fun q=>e (Sum.inl.inj q)
  rw[decide_eq_false h];exact(beq_eq_false_iff_ne.mpr e).symm
theorem NX (a b:Str):decide ((Sum.inr a:Key)=Sum.inr b)=decide (a=b):=by
 by_cases e:a=b
 .subst e;simp
 .have h:¬(Sum.inr a:Key)=Sum.inr b:=fun q=>e (Sum.inr.inj q)
  rw[decide_eq_false h,decide_eq_false e]
theorem N3 (a:Int) (b:Str):decide ((Sum.inl a:Key)=Sum.inr b)=false:=decide_eq_false (fun q=>nomatch q)
theorem QA (a:Str) (b:Int):decide ((Sum.inr a:Key)=Sum.inl b)=false:=decide_eq_false (fun q=>nomatch q)
noncomputable def bA (prog:Program) (w:World):PySem.KeyKind prog w Key where
 is:=gC
 hash:=PY w
 inj:=fun v a b ha hb=>by
  rcases bB ha with⟨i,t,rfl,rfl⟩|⟨x,t,rfl,rfl⟩
  .rcases bB hb with⟨j,u,rfl,e⟩|⟨y,u,rfl,e⟩
   .injection e with e1 _;rw[e1]
   .exact nomatch e
  .rcases bB hb with⟨j,u,rfl,e⟩|⟨y,u,rfl,e⟩
   .exact nomatch e
   .injection e with e1 _;rw[e1]
 byValue:=fun k v h=>by
  rcases bB h with⟨i,t,rfl,rfl⟩|⟨x,t,rfl,rfl⟩<;>rfl
 pyHash:=fun hv h=>by
  rcases bB hv with⟨i,t,rfl,rfl⟩|⟨x,t,rfl,rfl⟩
  .exact wpAny_pyHash_int h
  .exact wpAny_pyHash_str h
 eqBool:=fun hu hv h=>by
  rcases bB hu with⟨i,t,rfl,rfl⟩|⟨x,t,rfl,rfl⟩
  .rcases bB hv with⟨j,u,rfl,rfl⟩|⟨y,u,rfl,rfl⟩
   .rw[O7]at h;exact wpAny_eqBool_int h
   .rw[N3]at h;exact SeqAt.EqAt.int_str i t y u _ _ _ _ h
  .rcases bB hv with⟨j,u,rfl,rfl⟩|⟨y,u,rfl,rfl⟩
   .rw[QA]at h;exact SeqAt.EqAt.str_int x t j u _ _ _ _ h
   .rw[NX]at h;exact wpAny_eqBool_str h
 «strs»:=fun k x t v h=>by
  rcases bB h with⟨i,u,rfl,e⟩|⟨y,u,rfl,e⟩
  .exact nomatch e
  .injection e with e1 _
   subst e1;cases v<;>rfl
theorem zS (prog:Program) (w:World) (i:Int) (t:Tok):(bA prog w).is (.inl i) (.int i t)=true:=D7 i t
theorem yQ (prog:Program) (w:World) (x:Str) (t:Tok):(bA prog w).is (.inr x) (.str x t)=true:=EE x t
inductive V where
 |aP|bl (b:Bool)|int (i:Int)|str (x:Str)|GY (b:Array UInt8)|QB (b:UInt64)|ref (a:Addr)|ty (n:String)
 deriving DecidableEq
def RelV:V->Value->Prop
 | .aP,u=>u=Value.none
 | .bl b,u=>u=Value.bool b
 | .int i,u=>∃t,u=Value.int i t
 | .str x,u=>∃t,u=Value.str x t
 | .GY b,u=>∃t,u=Value.bytes b t
 | .QB b,u=>∃t,u=Value.float b t
 | .ref a,u=>u=Value.ref a
 | .ty n,u=>u=Value.type n
abbrev Vals:List V->List Value->Prop:=Paired RelV
theorem Vals.length (r:Vals xs us):xs.length=us.length:=Paired.length r
theorem Vals.get:∀{xs:List V} {us:List Value} {i:Nat} {x:V},Vals xs us->xs[i]? =some x->∃u,us[i]? =some u/\RelV x u
 |_,_,_,_,.nil,e=>by simp at e
 |_,_,0,_,.cons r _,e=>by simp at e;subst e;exact⟨_,rfl,r⟩
 |_,_,i+1,x,.cons _ t,e=>by
  obtain⟨u,h1,h2⟩:=Vals.get (i:=i) (x:=x) t (by simpa using e);exact⟨u,by simpa using h1,h2⟩
theorem Vals.set {x:V} (r:RelV x u):∀{xs:List V} {us:List Value} (i:Nat),Vals xs us->Vals (xs.set i x) (us.set i u)
 |_,_,_,.nil=>.nil
 |_,_,0,.cons _ t=>.cons r t
 |_,_,i+1,.cons q t=>.cons q (Vals.set r i t)
theorem Vals.append:∀{xs ys:List V} {us ws:List Value},Vals xs us->Vals ys ws->Vals (xs++ys) (us++ws)
 |_,_,_,_,.nil,s=>s
 |_,_,_,_,.cons r t,s=>.cons r (Vals.append t s)
theorem Vals.take:∀{xs:List V} {us:List Value} (n:Nat),Vals xs us->Vals (xs.take n) (us.take n)
 |_,_,0,_=>.nil
 |_,_,_+1,.nil=>.nil
 |_,_,n+1,.cons r t=>.cons r (Vals.take n t)
theorem Vals.drop:∀{xs:List V} {us:List Value} (n:Nat),Vals xs us->Vals (xs.drop n) (us.drop n)
 |_,_,0,r=>r
 |_,_,_+1,.nil=>.nil
 |_,_,n+1,.cons _ t=>Vals.drop n t
def nU:Option V->Option Value->Prop
 |some v,some u=>RelV v u
 |none,none=>True
 |_,_=>False
def KV {κ:Type}:List (κ×V)->List (κ×Value)->Prop:=Paired fun(p:κ×V) (q:κ×Value)=>p.1=q.1/\RelV p.2 q.2
noncomputable def kV:Key->V
 | .inl i=>.int i
 | .inr x=>.str x
inductive HO where
 |lst (xs:List V)
 |tup (xs:List V)
 |dK (kvs:List (Key×V)) (ep:Nat)|dT (kvs:List (List Key×V))
 |set (S:Int->Bool) (n:Nat)
 |ins (C dx:Addr) (fs:List (Str×V))
 |own (x:Addr)
 |xd (fs:List (Str×V))
 |met (f x:Addr)
 |T3 (lo hi:Int)
 |C3 (o:Obj) (u:HO)
 |N9 (ps:Array Value)
 |ext (φ:Heap->Prop)
abbrev Hp:=Addr->Option HO
noncomputable def upd (H:Hp) (a:Addr) (o:HO):Hp:=fun b=>if b=a then some o else H b
theorem aB {o:HO}:upd H a o a=some o:=by unfold upd;rw[if_pos rfl]
theorem aG {o:HO} (h:b≠a):upd H a o b=H b:=by unfold upd;rw[if_neg h]
theorem nP {o u:HO}:upd (upd H a o) a u=upd H a u:=by
 funext b;unfold upd;split<;>rfl
theorem B8 {o u:HO} (h:H a=some o) (h':H b=some u) (d:o≠u):a≠b:=by
 intro e;subst e;rw[h]at h';exact d (Option.some.inj h')
theorem aJ {o:HO} (h:H a=some o) (h':H b=none):a≠b:=by
 intro e;subst e;rw[h]at h';cases h'
def o8 (h:Heap) (a:Addr) (items:Array Value):Prop:=IsTup h a items/\∀o,h.get? a=some o->o.dict=none
theorem o8.new (h:Heap) (items:Array Value):o8 (h.push {cls:=.type "tuple",data:=.seq items}) h.objs.size items:=⟨IsTup.new _ _,fun o e=>by rw[get?_push_size _ rfl]at e;cases e;rfl⟩
theorem o8.of {items:Array Value} {sl:Array (Option Value)} (e:h.get? a=some {cls:=.type "tuple",dict:=none,data:=.seq items n,slots:=sl}):o8 h a items:=⟨⟨_,e,rfl,_,rfl⟩,fun o q=>by rw[e]at q;cases q;rfl⟩
section
variable (P:Program) (w:World)
def cB (H:Hp) (h:Heap) (a:Addr):HO->Prop
 | .lst xs=>xs.length<=sizeLine/\∃(its:List Value) (n:Nat),Vals xs its/\h.get? a=some {cls:=.type "list",data:=.seq its.toArray n}
 | .tup xs=>xs.length<=sizeLine/\∃its:List Value,Vals xs its/\o8 h a its.toArray
 | .dK kvs ep=>kvs.length<=sizeLine/\(a==sysModules)=false/\∃vs,KV kvs vs/\h.DictAt (bA P w) a vs ep
 | .dT kvs=>kvs.length<=sizeLine/\(a==sysModules)=false/\∃xs:List (List Key×Addr×Value),
   Paired (fun(p:List Key×V) (q:List Key×Addr×Value)=>p.1=q.1/\H q.2.1=some (.tup (p.1.map kV))/\RelV p.2 q.2.2) kvs xs/\
   ∃o es ep,h.get? a=some o/\o.ExactDict/\o.data= .dict es ep/\es.toList=xs.map (entryOfKey (tupleKind (bA P w)))/\(xs.map (·.1)).Nodup
 | .set S n=>h.SetOf (intKind P w) a S n
 | .ins C dx fs=>H dx=some (.own a)/\fs.length<=1000/\dx≠a/\h.get? a=some (instObj C dx)/\
   ∃mA,h.Ns1 dx mA/\(∀f,nU (fs.lookup f) (mA f))/\PySem.Within mA (fs.map (·.1))
 | .own _=>∃o,h.get? a=some o
 | .xd fs=>∃mA,h.Ns1 a mA/\∀f,nU (fs.lookup f) (mA f)
 | .T3 lo hi=>∃t u v,h.get? a=some {cls:=.type "range",data:=.fields #[.int lo t,.int hi u,.int 1 v]}
 | .C3 o u=>h.get? a=some o/\cB H h a u
 | .N9 ps=>h.get? a=some {cls:=.none,data:=.fields ps}
 | .met f x=>h.get? a=some (methodObj (.ref f) (.ref x))
 | .ext φ=>φ h/\(∃o,h.get? a=some o)/\∀h1 h2:Heap,φ h1->(∀o,h1.get? a=some o->h2.get? a=some o)->φ h2
def jL (H:Hp) (h:Heap):Prop:=∀a o,H a=some o->cB P w H h a o
end
section
variable {P:Program} {w:World} {H H':Hp} {h h':Heap} {a:Addr} {o:HO}
theorem cB.lt (x:cB P w H h a o):a<h.objs.size:=by
 cases o with
 |lst xs=>obtain⟨_,_,_,_,e⟩:=x;exact lt_size e
 |tup xs=>obtain⟨_,_,_,p⟩:=x;exact p.1.lt
 |dK kvs ep=>obtain⟨_,_,_,_,o,_,e,_⟩:=x;exact lt_size e
 |dT kvs=>obtain⟨_,_,_,_,o,_,_,e,_⟩:=x;exact lt_size e
 |set S n=>obtain⟨o,_,_,_,e,_⟩:=x;exact lt_size e
 |ins C dx fs=>obtain⟨_,_,_,e,_⟩:=x;exact lt_size e
 |own y=>obtain⟨_,e⟩:=x;exact lt_size e
 |xd fs=>obtain⟨_,⟨_,_,_,e,_⟩,_⟩:=x;exact lt_size e
 |T3 lo hi=>obtain⟨_,_,_,e⟩:=x;exact lt_size e
 |C3 ob u=>obtain⟨e,_⟩:=x;exact lt_size e
 |N9 ps=>exact lt_size (show h.get? a=some _ from x)
 |met f y=>exact lt_size (show h.get? a=some _ from x)
 |ext φ=>obtain⟨_,⟨_,e⟩,_⟩:=x;exact lt_size e
theorem Paired.fN {β:Type} {F G:α->β->Prop}:∀{l₁:List α} {l₂:List β},Paired F l₁ l₂->(∀a b,F a b->G a b)->Paired G l₁ l₂
 |_,_,.nil,_=>.nil
 |_,_,.cons r t,f=>.cons (f _ _ r) (Paired.fN t f)
theorem cB.wU (x:cB P w H h a o) (k:∀b u,(b=a\/ H b=some (.own a))->h.get? b=some u->h'.get? b=some u)
  (ho:∀b,H b=some (.own a)->H' b=some (.own a)) (ht:∀b xs,H b=some (.tup xs)->H' b=some (.tup xs)):cB P w H' h' a o:=by
 induction o with
 |lst xs=>obtain⟨z,its,n,r,e⟩:=x;exact⟨z,its,n,r,k _ _ (.inl rfl) e⟩
 |tup xs=>obtain⟨z,its,r,⟨ob,e,c⟩,nd⟩:=x;exact⟨z,its,r,⟨ob,k _ _ (.inl rfl) e,c⟩,fun o' e'=>by rw[k _ _ (.inl rfl) e]at e';cases e';exact nd _ e⟩
 |dK kvs ep=>obtain⟨z,y,vs,r,ob,es,e,c⟩:=x;exact⟨z,y,vs,r,ob,es,k _ _ (.inl rfl) e,c⟩
 |dT kvs=>
  obtain⟨z,y,xs,r,ob,es,ep,e,c⟩:=x;exact⟨z,y,xs,Paired.fN r fun p q z=>⟨z.1,ht _ _ z.2.1,z.2.2⟩,ob,es,ep,k _ _ (.inl rfl) e,c⟩
 |set S n=>obtain⟨ob,es,ep,t,e,c⟩:=x;exact⟨ob,es,ep,t,k _ _ (.inl rfl) e,c⟩
 |ins C dx fs=>
  obtain⟨d,z,ne,e,mA,⟨od,es,ep,e2,c⟩,r⟩:=x;exact⟨ho _ d,z,ne,k _ _ (.inl rfl) e,mA,⟨od,es,ep,k _ _ (.inr d) e2,c⟩,r⟩
 |own y=>obtain⟨ob,e⟩:=x;exact⟨ob,k _ _ (.inl rfl) e⟩
 |xd fs=>obtain⟨mA,⟨od,es,ep,e,c⟩,r⟩:=x;exact⟨mA,⟨od,es,ep,k _ _ (.inl rfl) e,c⟩,r⟩
 |T3 lo hi=>obtain⟨t,u,v,e⟩:=x;exact⟨t,u,v,k _ _ (.inl rfl) e⟩
 |C3 ob u ih=>obtain⟨e,q⟩:=x;exact⟨k _ _ (.inl rfl) e,ih q⟩
 |N9 ps=>
  have e:h.get? a=some {cls:=.none,data:=.fields ps}:=x;show h'.get? a=some {cls:=.none,data:=.fields ps};exact k a _ (.inl rfl) e
 |met f y=>
  have e:h.get? a=some (methodObj (.ref f) (.ref y)):=x;show h'.get? a=some (methodObj (.ref f) (.ref y));exact k a _ (.inl rfl) e
 |ext φ=>obtain⟨p,⟨o,e⟩,st⟩:=x;exact⟨st _ _ p fun o q=>k _ _ (.inl rfl) q,⟨o,k _ _ (.inl rfl) e⟩,st⟩
theorem jL.lt (x:jL P w H h) (e:H a=some o):a<h.objs.size:=(x a o e).lt
theorem jL.fresh (x:jL P w H h) (e:h.objs.size<=a):H a=none:=by
 cases q:H a with
 |none=>rfl
 |some u=>exact absurd (lt_of_lt_of_le (x.lt q) e) (Nat.lt_irrefl _)
theorem jL.kept (x:jL P w H h) (k:∀b u,h.get? b=some u->h'.get? b=some u):jL P w H h':=fun a o e=>
 (x a o e).wU (fun b u _ q=>k b u q) (fun _ q=>q) fun _ _ q=>q
theorem jL.laid (x:jL P w H h) (k:∀b u,h.get? b=some u->h'.get? b=some u) (hp:h.objs.size<=a) (new:cB P w (upd H a o) h' a o):jL P w (upd H a o) h':=fun b u e=>by
 have hn:=x.fresh hp
 by_cases hb:b=a
 .subst hb;rw[aB]at e;cases e;exact new
 .rw[aG hb]at e;exact(x b u e).wU (fun c v _ q=>k c v q) (fun c q=>by rw[aG (aJ q hn)];exact q) fun c xs q=>by rw[aG (aJ q hn)];exact q
end
def Rd (H:Hp) (a:Addr) (u:HO):Prop:=H a=some u\/ ∃o,H a=some (.C3 o u)
theorem Rd.ok {P:Program} {a:Addr} {u:HO} (r:Rd H a u) (x:jL P w H h):cB P w H h a u:=by
 rcases r with r|⟨o,r⟩
 .exact x a u r
 .obtain⟨_,q⟩:=x a _ r;exact q
def QF:Option HO->Prop
 |some (.lst _)=>True
 |some (.dK _ _)=>True
 |some (.dT _)=>True
 |some (.set _ _)=>True
 |some (.ins _ _ _)=>True
 |some (.ext _)=>True
 |_=>False
section
variable {P:Program} {w:World} {H:Hp} {h h':Heap} {x e:Addr} {o':HO}
theorem jL.write (ok:jL P w H h) (mu:QF (H x)) (he:e=x\/ H e=some (.own x)) (k:∀b u,b≠e->h.get? b=some u->h'.get? b=some u) (heo:∃u,h'.get? e=some u)
  (new:cB P w (upd H x o') h' x o'):jL P w (upd H x o') h':=fun b u q=>by
 have nown:∀c y,H c=some (.own y)->c≠x:=fun c y r z=>by subst z;rw[r]at mu;exact mu
 have ntup:∀c xs,H c=some (.tup xs)->c≠x:=fun c xs r z=>by subst z;rw[r]at mu;exact mu
 by_cases hb:b=x
 .subst hb;rw[aB]at q;cases q;exact new
 .rw[aG hb]at q
  by_cases hbe:b=e
  .have q':H b=some (.own x):=by
    rcases he with z|z
    .exact absurd (hbe.trans z) hb
    .rw[hbe];exact z
   rw[q]at q';cases q'
   obtain⟨v,hv⟩:=heo;exact⟨v,by rw[hbe];exact hv⟩
  .refine(ok b u q).wU (fun c v hc r=>k c v ?_ r) (fun c r=>by rw[aG (nown c b r)];exact r) fun c xs r=>by rw[aG (ntup c xs r)];exact r
   rcases hc with rfl|hc
   .exact hbe
   .rintro rfl;rcases he with z|z
    .exact nown c b hc z
    .rw[hc]at z;cases z;exact hb rfl
end
structure Un (fs ex:List Addr) (H H':Hp) (h h':Heap):Prop where
 keep:∀b o,h.get? b=some o->H b=none->b∉fs->b∉ex->h'.get? b=some o
 slot:∀b o,h.get? b=some o->H b=none->b∈fs->b∉ex->∃sl,h'.get? b=some {o with slots:=sl}
 free:∀b o,h.get? b=some o->H b=none->b∉ex->H' b=none
 there:∀b o,h.get? b=some o->b∉ex->∃o',h'.get? b=some o'
 oI:∀b xs,H b=some (.tup xs)->H' b=some (.tup xs)
 nR:∀b o u,H b=some (.C3 o u)->H' b=some (.C3 o u)
 nW:∀b ps,H b=some (.N9 ps)->∃more,H' b=some (.N9 (ps++more))
section
variable {fs fs' ex ex':List Addr} {H H1 H2:Hp} {h h1 h2 h':Heap} {a x e:Addr} {o:HO}
theorem Un.any (u:Un fs ex H H1 h h1) {ob:Obj} (q:h.get? b=some ob) (n:H b=none) (hx:b∉ex):∃sl,h1.get? b=some {ob with slots:=sl}:=by
 by_cases hb:b∈fs
 .exact u.slot b ob q n hb hx
 .exact⟨ob.slots,u.keep b ob q n hb hx⟩
theorem Un.trans (a:Un fs ex H H1 h h1) (b:Un fs ex H1 H2 h1 h2):Un fs ex H H2 h h2 where
 keep:=fun c ob q n hc hx=>b.keep c ob (a.keep c ob q n hc hx) (a.free c ob q n hx) hc hx
 slot:=fun c ob q n hc hx=>by
  obtain⟨sl,e1⟩:=a.slot c ob q n hc hx;obtain⟨sl',e2⟩:=b.slot c _ e1 (a.free c ob q n hx) hc hx;exact⟨sl',e2⟩
 free:=fun c ob q n hx=>by
  obtain⟨o',e1⟩:=a.there c ob q hx;exact b.free c o' e1 (a.free c ob q n hx) hx
 there:=fun c ob q hx=>by
  obtain⟨o',e1⟩:=a.there c ob q hx;exact b.there c o' e1 hx
 oI:=fun c xs q=>b.oI c xs (a.oI c xs q)
 nR:=fun c ob xs q=>b.nR c ob xs (a.nR c ob xs q)
 nW:=fun c ps q=>by
  obtain⟨m1,e1⟩:=a.nW c ps q;obtain⟨m2,e2⟩:=b.nW c _ e1;exact⟨m1++m2,by rw[e2,Array.append_assoc]⟩
theorem Un.kept (k:∀b u,h.get? b=some u->h'.get? b=some u):Un fs ex H H h h':=
 ⟨fun b ob q _ _ _=>k b ob q,fun b ob q _ _ _=>⟨ob.slots,k b ob q⟩,fun _ _ _ n _=>n,fun b ob q _=>⟨ob,k b ob q⟩,fun _ _ q=>q,fun _ _ _ q=>q,fun _ ps q=>⟨#[],by rw[q];simp⟩⟩
theorem Un.refl:Un fs ex H H h h:=Un.kept fun _ _ q=>q
theorem Un.laid (k:∀b u,h.get? b=some u->h'.get? b=some u) (hp:h.objs.size<=a) (hn:H a=none):Un fs ex H (upd H a o) h h' where
 keep:=fun b u q _ _ _=>k b u q
 slot:=fun b u q _ _ _=>⟨u.slots,k b u q⟩
 free:=fun b u q n _=>by rw[aG (ne_of_lt (lt_of_lt_of_le (lt_size q) hp))];exact n
 there:=fun b u q _=>⟨u,k b u q⟩
 oI:=fun b xs q=>by rw[aG (aJ q hn)];exact q
 nR:=fun b u xs q=>by rw[aG (aJ q hn)];exact q
 nW:=fun b ps q=>⟨#[],by rw[aG (aJ q hn),q];simp⟩
theorem Un.write (mu:QF (H x)) (he:e=x\/ H e=some (.own x)) (k:∀b u,b≠e->h.get? b=some u->h'.get? b=some u) (heo:∃u,h'.get? e=some u):Un fs ex H (upd H x o) h h':=by
 have hx:∀b,H b=none->b≠x:=fun b n z=>by subst z;rw[n]at mu;exact mu
 have hb:∀b,H b=none->b≠e:=fun b n z=>by
  subst z;rcases he with r|r
  .exact hx b n r
  .rw[n]at r;cases r
 have hm:∀b u,H b=some u->¬QF (some u)->b≠x:=fun b u q nm z=>by subst z;rw[q]at mu;exact nm mu
 refine⟨fun b u q n _ _=>k b u (hb b n) q,fun b u q n _ _=>⟨u.slots,k b u (hb b n) q⟩,fun b u q n _=>by rw[aG (hx b n)];exact n,fun b u q _=>?_,
  fun b xs q=>by rw[aG (hm b _ q fun z=>z)];exact q,fun b u xs q=>by rw[aG (hm b _ q fun z=>z)];exact q,fun b ps q=>⟨#[],by rw[aG (hm b _ q fun z=>z),q];simp⟩⟩
 by_cases hbe:b=e
 .subst hbe;exact heo
 .exact⟨u,k b u hbe q⟩
end
noncomputable def S4 (h:Heap) (H:Hp):List Addr:=(List.range h.objs.size).filter fun a=>(H a).isSome
noncomputable def vQ (h:Heap) (H:Hp):Heap:=PySem.W.hideAll h (S4 h H)
theorem EH (h:Heap) (H:Hp):(vQ h H).objs.size=h.objs.size:=PySem.W.hideAll_size _ _
theorem JD (e:h.get? b=some o) (n:H b=none):(vQ h H).get? b=some o:=
 PySem.W.hideAll_get _ e fun hm=>by
  have q:(H b).isSome=true:=(mem_filter.mp hm).2;rw[n]at q;simp at q
theorem J8 {H:Hp} {b:Addr} (e:(vQ h H).get? b=some o):h.get? b=some o/\H b=none:=by
 have e':h.get? b=some o:=PySem.W.of_hideAll (S4 h H) e;refine⟨e',?_⟩;cases q:H b with
 |none=>rfl
 |some x=>
  have hm:b∈S4 h H:=mem_filter.mpr ⟨mem_range.mpr (lt_size e'),by simp[q]⟩;have z:(vQ h H).get? b=none:=PySem.W.hideAll_none (S4 h H) hm;rw[z]at e;cases e
noncomputable def L6 (g h:Heap) (L:Addr):List (Addr×Obj):=(List.range h.objs.size).filterMap fun a=>if a=L\/ (g.get? a).isSome=true then none else(h.get? a).map fun o=>(a,o)
noncomputable def rest (g h:Heap) (L d:Addr):List (Addr×Obj):=(L6 g h L).filter fun p=>decide (p.1≠d)
structure Mod (K:Frag) (mg:Str->Option Value) (base:Heap):Prop where
 TH:K.In base
 glob:base.Ns mainGlobals mg
 blt:∃mb,base.Ns builtinsNs mb/\∀x:Str,x≠"__name__"->mb x=bootBuiltins x
 nolimit:base.NoLimit
structure Cx where
 prog:Program
 w:World
 K:Frag
 mg:Str->Option Value
 base:Heap
 A:Around
 N:List Str
 iO:Shared
 GQ:Hp
 env:Env
 outer:List Env
 stack:List Env
 ex:List Addr
 fn:Str->Bool
 calm:Bool
 pn:List (Addr×Obj)
 xe:Value->Shared->Prop
noncomputable def AQ (l:List Env):List Addr:=l.filterMap (·.frame)
noncomputable abbrev Cx.fs (X:Cx):List Addr:=AQ X.outer
def T7 (sc:Scope) (x:Str):Prop:=sc.names.lookup x=some .local\/ sc.names.lookup x=some .cell\/ sc.names.lookup x=some .free
def Loc (sc:Scope) (x:Str):Prop:=sc.names.lookup x=some .local\/ sc.names.lookup x=some .cell
def Look (env:Env) (h:Heap) (m:Str->Option Value) (x:Str) (u:Value):Prop:=
 (env.kindOf x=some .local/\m x=some u)\/ ((env.kindOf x=some .cell\/ env.kindOf x=some .free)/\∃c,env.cells.lookup x=some c/\h.IsCell c (some u))
structure Cx.Ok (X:Cx):Prop where
 mod:Mod X.K X.mg X.base
 kind:X.env.scope.kind= .function
 glob:X.env.globals=mainGlobals
 blt:X.env.builtins=builtinsNs
 above:X.iO.heap.objs.size<=X.env.locals
 inj:∀x y c,X.env.cells.lookup x=some c->X.env.cells.lookup y=some c->x=y
 has:∀x,(X.env.kindOf x=some .cell\/ X.env.kindOf x=some .free)->∃c,X.env.cells.lookup x=some c
 QE:∀x c,X.fn x=true->X.env.cells.lookup x=some c->X.iO.heap.objs.size<=c
 hd:X.calm=true->X.A.handled=none
 frames:X.A.frames=some X.stack
 SH:X.stack=X.outer\/ (X.stack=X.env::X.outer/\X.env.frame=some X.env.locals)
 UH:∀b∈X.ex,b≠X.env.locals/\∀x c,X.env.cells.lookup x=some c->c≠b
 bs:∀b o,X.base.get? b=some o->X.iO.heap.get? b=some o/\X.GQ b=none
 J2:X.base.objs.size<=X.iO.heap.objs.size
 D0:∀b o,X.base.get? b=some o->b∉X.ex
 xV:∀b∈X.ex,b∉X.fs
 pJ:X.iO.heap.FunFrames X.base X.outer
 M6:∀b∈X.fs,X.GQ b=none
structure Inv (X:Cx) (pins:List (Addr×Obj)) (σ:List (Option V)) (H:Hp) (s:Shared):Prop where
 ok:X.Ok
 os:s.os=X.iO.os
 bare:AllBare s.gens
 base:Un X.fs X.ex X.GQ H X.iO.heap s.heap
 loc:∃m,s.heap.Ns X.env.locals m/\∀(i:Nat) (x:Str) (v:V),X.N[i]? =some x->σ[i]? =some (some v)->T7 X.env.scope x->∃u,RelV v u/\Look X.env s.heap m x u
 cell:∀x c,X.env.cells.lookup x=some c->∃v,s.heap.IsCell c v
 free:H X.env.locals=none
 lF:∀x c,X.env.cells.lookup x=some c->H c=none
 pin:∀p∈X.pn++pins,s.heap.get? p.1=some p.2/\H p.1=none/\p.1≠X.env.locals/\p.1∉X.fs/\∀v,p.2.data≠ .cell v
 bH:jL X.prog X.w H s.heap
 len:σ.length=X.N.length
section
variable {X:Cx} {pins:List (Addr×Obj)} {σ:List (Option V)} {H H':Hp} {s:Shared} {h':Heap}
theorem Cx.Ok.T5 (ok:X.Ok) (e:X.base.get? b=some o):b∉X.fs:=fun hb=>by
 have:=(ok.pJ.mem hb).1;rw[e]at this;cases this
theorem Inv.bs (I:Inv X pins σ H s):∀b o,X.base.get? b=some o->s.heap.get? b=some o/\H b=none:=fun b o e=>
 ⟨I.base.keep b o (I.ok.bs b o e).1 (I.ok.bs b o e).2 (I.ok.T5 e) (I.ok.D0 b o e),I.base.free b o (I.ok.bs b o e).1 (I.ok.bs b o e).2 (I.ok.D0 b o e)⟩
theorem Inv.bk (I:Inv X pins σ H s):∀b o,X.base.get? b=some o->s.heap.get? b=some o:=fun b o e=>(I.bs b o e).1
theorem Inv.mod (I:Inv X pins σ H s):Mod X.K X.mg X.base:=I.ok.mod
theorem Inv.xA (I:Inv X pins σ H s):X.K.In s.heap:=I.ok.mod.TH.keeps I.bk
theorem Inv.lt (I:Inv X pins σ H s):X.env.locals<s.heap.objs.size:=let⟨_,hn,_⟩:=I.loc;hn.lt
theorem Inv.sz (I:Inv X pins σ H s):X.iO.heap.objs.size<=s.heap.objs.size:=le_trans I.ok.above (le_of_lt I.lt)
theorem Inv.QZ (I:Inv X pins σ H s) (h:s.heap.objs.size<=a):a∉X.fs:=fun hb=>by
 obtain⟨_,o,ho,_⟩:=I.ok.pJ.mem hb;exact absurd (lt_of_lt_of_le (lt_size ho) (le_trans I.sz h)) (Nat.lt_irrefl _)
theorem Inv.OS (I:Inv X pins σ H s):∀x c,X.env.cells.lookup x=some c->c≠X.env.locals:=fun x c e z=>by
 obtain⟨v,o,ho,hd⟩:=I.cell x c e;obtain⟨m,⟨o',es,ep,ho',hd',_⟩,_⟩:=I.loc;rw[z,ho']at ho;cases ho;rw[hd']at hd;cases hd
theorem Inv.pJ (I:Inv X pins σ H s):s.heap.FunFrames X.base X.outer:=by
 have all:∀(l:List Env),(∀b∈AQ l,b∈X.fs)->X.iO.heap.FunFrames X.base l->s.heap.FunFrames X.base l:=by
  intro l
  induction l with
  |nil=>intro _ _;trivial
  |cons env r ih=>
   intro hs hl;obtain⟨hk,⟨L,o,hf,hn,ho,hd⟩,hr⟩:=hl;have hL:L∈X.fs:=hs L (by unfold AQ;rw[List.filterMap_cons,hf];exact mem_cons_self);obtain⟨sl,e⟩:=I.base.slot L o ho (I.ok.M6 L hL) hL fun z=>I.ok.xV L z hL
   exact⟨hk,⟨L,_,hf,hn,e,hd⟩,ih (fun b hb=>hs b (by unfold AQ;rw[List.filterMap_cons,hf];exact mem_cons_of_mem _ hb)) hr⟩
 exact all X.outer (fun _ hb=>hb) I.ok.pJ
theorem Inv.stack (I:Inv X pins σ H s):s.heap.FunFrames X.base X.stack:=by
 rcases I.ok.SH with e|⟨e,hf⟩
 .rw[e];exact I.pJ
 .rw[e];obtain⟨m,hn,_⟩:=I.loc;refine .cons (by rw[I.ok.kind];decide) hf hn ?_ I.pJ;exact Heap.get?_none_of_le (le_trans I.ok.J2 I.ok.above)
theorem Inv.BD (I:Inv X pins σ H s):∀b∈AQ X.stack,b∈X.env.locals::X.fs:=fun b hb=>by
 rcases I.ok.SH with e|⟨e,hf⟩
 .rw[e]at hb;exact mem_cons_of_mem _ hb
 .rw[e]at hb;unfold AQ at hb;rw[List.filterMap_cons,hf]at hb;exact hb
theorem Inv.CW (I:Inv X pins σ H s):∀b∈AQ X.stack,H b=none:=fun b hb=>by
 rcases mem_cons.mp (I.BD b hb)with e|hb
 .rw[e];exact I.free
 .obtain⟨_,o,ho,_⟩:=I.ok.pJ.mem hb;exact I.base.free b o ho (I.ok.M6 b hb) fun z=>I.ok.xV b z hb
theorem Inv.step (I:Inv X pins σ H s)
  (hch:∀b∈ch,(b∈X.ex\/ X.iO.heap.objs.size<=b)/\b≠X.env.locals/\(∀x c,X.env.cells.lookup x=some c->c≠b)/\∀p∈X.pn++pins,p.1≠b)
  (keep:∀b o,b≠X.env.locals->b∉X.fs->b∉ch->s.heap.get? b=some o->H b=none->h'.get? b=some o)
  (slot:∀b o,b≠X.env.locals->b∈X.fs->b∉ch->s.heap.get? b=some o->H b=none->∃sl,h'.get? b=some {o with slots:=sl}) (free:∀b o,b∉ch->s.heap.get? b=some o->H b=none->H' b=none)
  (there:∀b o,b∉ch->s.heap.get? b=some o->∃o',h'.get? b=some o')
  (oI:∀b xs,H b=some (.tup xs)->H' b=some (.tup xs)) (nR:∀b o u,H b=some (.C3 o u)->H' b=some (.C3 o u)) (nW:∀b ps,H b=some (.N9 ps)->∃more,H' b=some (.N9 (ps++more)))
  (ns:∀m,s.heap.Ns X.env.locals m->h'.Ns X.env.locals m) (bH:jL X.prog X.w H' h') (hg:AllBare g'):
  Inv X pins σ H' {s with heap:=h',gens:=g',drawn:=d',toks:=t'}:=by
 have R4:∀b o,X.iO.heap.get? b=some o->b≠X.env.locals:=fun b o e=>ne_of_lt (lt_of_lt_of_le (lt_size e) I.ok.above)
 have neC:∀b o,X.iO.heap.get? b=some o->b∉X.ex->b∉ch:=fun b o e hx hb=>by
  rcases(hch b hb).1 with z|z
  .exact hx z
  .exact absurd (lt_of_lt_of_le (lt_size e) z) (Nat.lt_irrefl _)
 have cellK:∀x c,X.env.cells.lookup x=some c->∀v,s.heap.IsCell c v->h'.IsCell c v:=fun x c e v ⟨o,ho,hd⟩=>by
  have nch:c∉ch:=fun z=>(hch c z).2.2.1 x c e rfl
  by_cases hc:c∈X.fs
  .obtain⟨sl,q⟩:=slot c o (I.OS x c e) hc nch ho (I.lF x c e);exact⟨_,q,hd⟩
  .exact⟨o,keep c o (I.OS x c e) hc nch ho (I.lF x c e),hd⟩
 refine⟨I.ok,I.os,hg,⟨fun b o e n hb hx=>?_,fun b o e n hb hx=>?_,fun b o e n hx=>?_,fun b o e hx=>?_,fun b xs e=>oI b xs (I.base.oI b xs e),fun b o xs e=>nR b o xs (I.base.nR b o xs e),fun b ps e=>?_⟩,?_,fun x c e=>?_,?_,fun x c e=>?_,fun p hp=>?_,bH,I.len⟩
 .exact keep b o (R4 b o e) hb (neC b o e hx) (I.base.keep b o e n hb hx) (I.base.free b o e n hx)
 .obtain⟨sl,e1⟩:=I.base.slot b o e n hb hx;obtain⟨sl',e2⟩:=slot b _ (R4 b o e) hb (neC b o e hx) e1 (I.base.free b o e n hx);exact⟨sl',e2⟩
 .obtain⟨o',e1⟩:=I.base.there b o e hx;exact free b o' (neC b o e hx) e1 (I.base.free b o e n hx)
 .obtain⟨o',e1⟩:=I.base.there b o e hx;exact there b o' (neC b o e hx) e1
 .obtain⟨m1,e1⟩:=I.base.nW b ps e;obtain⟨m2,e2⟩:=nW b _ e1;exact⟨m1++m2,by rw[e2,Array.append_assoc]⟩
 .obtain⟨m,hn,hl⟩:=I.loc;refine⟨m,ns m hn,fun i x v e1 e2 e3=>?_⟩;obtain⟨u,r,l⟩:=hl i x v e1 e2 e3;refine⟨u,r,?_⟩;rcases l with l|⟨k,c,e,z⟩
  .exact .inl l
  .exact .inr ⟨k,c,e,cellK x c e _ z⟩
 .obtain⟨v,z⟩:=I.cell x c e;exact⟨v,cellK x c e v z⟩
 .obtain⟨m,⟨o,_,_,ho,_⟩,_⟩:=I.loc;exact free _ o (fun z=>(hch _ z).2.1 rfl) ho I.free
 .obtain⟨v,o,ho,hd⟩:=I.cell x c e;exact free c o (fun z=>(hch c z).2.2.1 x c e rfl) ho (I.lF x c e)
 .obtain⟨e,n,ne,nf,d⟩:=I.pin p hp;have nch:p.1∉ch:=fun z=>(hch p.1 z).2.2.2 p hp rfl
  exact⟨keep p.1 p.2 ne nf nch e n,free p.1 p.2 nch e n,ne,nf,d⟩
theorem Inv.un (I:Inv X pins σ H s) (u:Un X.fs [] H H' s.heap h') (bH:jL X.prog X.w H' h'):Inv X pins σ H' {s with heap:=h',toks:=t'}:=by
 obtain⟨m,⟨o,es,ep,ho,r⟩,_⟩:=id I.loc;obtain⟨sl,hL⟩:=u.any ho I.free (by simp);exact I.step (g':=s.gens) (d':=s.drawn) (ch:=[]) (fun _ z=>nomatch z) (fun b o _ hb _ e n=>u.keep b o e n hb (by simp)) (fun b o _ hb _ e n=>u.slot b o e n hb (by simp)) (fun b o _ e n=>u.free b o e n (by simp)) (fun b o _ e=>u.there b o e (by simp)) u.oI u.nR u.nW (fun m' hm=>by
  obtain⟨o',es',ep',ho',r'⟩:=hm;rw[ho]at ho';cases ho'
  exact⟨_,es',ep',hL,r'⟩) bH I.bare
theorem Inv.call (I:Inv X pins σ H s) (u:Un (AQ X.stack) ch H H' s.heap h') (bH:jL X.prog X.w H' h') (hg:AllBare g')
  (hch:∀b∈ch,(b∈X.ex\/ X.iO.heap.objs.size<=b)/\b≠X.env.locals/\(∀x c,X.env.cells.lookup x=some c->c≠b)/\∀p∈X.pn++pins,p.1≠b):
  Inv X pins σ H' {s with heap:=h',gens:=g',drawn:=d',toks:=t'}:=by
 obtain⟨m,⟨o,es,ep,ho,r⟩,_⟩:=id I.loc;obtain⟨sl,hL⟩:=u.any ho I.free fun z=>(hch _ z).2.1 rfl
 exact I.step (ch:=ch) hch (fun b o hL hb hc e n=>u.keep b o e n (fun z=>(mem_cons.mp (I.BD b z)).elim hL hb) hc) (fun b o _ _ hc e n=>u.any e n hc) (fun b o hc e n=>u.free b o e n hc) (fun b o hc e=>u.there b o e hc) u.oI u.nR u.nW (fun m' hm=>by
  obtain⟨o',es',ep',ho',r'⟩:=hm;rw[ho]at ho';cases ho'
  exact⟨_,es',ep',hL,r'⟩) bH hg
theorem Inv.turned (I:Inv X pins σ H s) (k:∀b o,b≠it->s.heap.get? b=some o->h'.get? b=some o) (hn:H it=none) (hL:it≠X.env.locals)
  (h1:it∈X.ex\/ X.iO.heap.objs.size<=it) (h2:∀x c,X.env.cells.lookup x=some c->c≠it) (h3:∀p∈X.pn++pins,p.1≠it):Inv X pins σ H {s with heap:=h',toks:=t'}:=by
 have nit:∀b u,H b=some u->b≠it:=fun b u e z=>by rw[z,hn]at e;cases e
 refine I.step (g':=s.gens) (d':=s.drawn) (ch:=[it]) (fun b hb=>?_) (fun b o _ _ hc e _=>k b o (fun z=>hc (by simp[z])) e) (fun b o _ _ hc e _=>⟨o.slots,k b o (fun z=>hc (by simp[z])) e⟩) (fun _ _ _ _ n=>n)
  (fun b o hc e=>⟨o,k b o (fun z=>hc (by simp[z])) e⟩) (fun _ _ e=>e) (fun _ _ _ e=>e) (fun b ps e=>⟨#[],by rw[e];simp⟩) (fun m hm=>?_) (fun b u e=>?_) I.bare
 .have e:b=it:=by simpa using hb
  subst e;exact⟨h1,hL,h2,h3⟩
 .obtain⟨o,es,ep,ho,r⟩:=hm;exact⟨o,es,ep,k _ o (Ne.symm hL) ho,r⟩
 .refine(I.bH b u e).wU (fun c v hc q=>k c v ?_ q) (fun _ q=>q) fun _ _ q=>q
  rcases hc with z|z
  .rw[z];exact nit b u e
  .exact nit c _ z
theorem Inv.tok (I:Inv X pins σ H s) (t:Nat):Inv X pins σ H {s with toks:=t}:=I.un (h':=s.heap) (t':=t) Un.refl I.bH
theorem Inv.kept (I:Inv X pins σ H s) (k:∀b u,s.heap.get? b=some u->h'.get? b=some u):Inv X pins σ H {s with heap:=h',toks:=t'}:=I.un (Un.kept k) (I.bH.kept k)
theorem Inv.laid {o:HO} (I:Inv X pins σ H s) (k:∀b u,s.heap.get? b=some u->h'.get? b=some u) (hp:s.heap.objs.size<=a) (new:cB X.prog X.w (upd H a o) h' a o):
  Inv X pins σ (upd H a o) {s with heap:=h',toks:=t'}:=I.un (Un.laid k hp (I.bH.fresh hp)) (I.bH.laid k hp new)
theorem Inv.write {x e:Addr} {o:HO} (I:Inv X pins σ H s) (mu:QF (H x)) (he:e=x\/ H e=some (.own x)) (k:∀b u,b≠e->s.heap.get? b=some u->h'.get? b=some u) (heo:∃u,h'.get? e=some u)
  (new:cB X.prog X.w (upd H x o) h' x o):Inv X pins σ (upd H x o) {s with heap:=h',toks:=t'}:=I.un (Un.write mu he k heo) (I.bH.write mu he k heo new)
theorem Inv.qP {pins':List (Addr×Obj)} (I:Inv X pins σ H s) (h:∀p∈pins',s.heap.get? p.1=some p.2/\H p.1=none/\p.1≠X.env.locals/\p.1∉X.fs/\∀v,p.2.data≠ .cell v):Inv X pins' σ H s:=
 ⟨I.ok,I.os,I.bare,I.base,I.loc,I.cell,I.free,I.lF,fun p hp=>(mem_append.mp hp).elim (fun z=>I.pin p (mem_append_left _ z)) (h p),I.bH,I.len⟩
theorem zQ (hN:N.Nodup) (a:N[i]? =some x) (b:N[j]? =some x):i=j:=by
 obtain⟨h1,e1⟩:=List.getElem?_eq_some_iff.mp a;obtain⟨h2,e2⟩:=List.getElem?_eq_some_iff.mp b;exact(List.getElem_inj hN).mp (e1.trans e2.symm)
theorem DU {x:Str} {v:V} {Q:Unit->Shared->Prop} (I:Inv X pins σ H s) (hN:X.N.Nodup) (hi:X.N[i]? =some x) (hx:Loc X.env.scope x) (r:RelV v u)
  (h:∀s',Inv X pins (σ.set i (some v)) H s'->(∃a,Heap.SameBut a s.heap s'.heap/\(a=X.env.locals\/ X.env.cells.lookup x=some a))->Q () s') (hf:X.fn x=true\/ X.env.scope.names.lookup x=some .local:=by first|exact .inl rfl|exact .inr rfl|assumption):wpAny M A (storeName X.env x u) Q E s:=by
 obtain⟨m,hn,hl⟩:=id I.loc;have hcls:(X.env.scope.kind== .class||(X.env.scope.kind== .module && X.env.locals !=X.env.globals))=false:=by rw[I.ok.kind];rfl
 have hiσ:i<σ.length:=by rw[I.len];exact(List.getElem?_eq_some_iff.mp hi).1
 have OS:=I.OS;have tracked:∀{a:Addr} {h':Heap},(∃o,s.heap.get? a=some o/\H a=none)->Heap.SameBut a s.heap h'->jL X.prog X.w H h':=fun{a h'} ha hs b ob e=>by
  obtain⟨_,_,hfree⟩:=ha;refine(I.bH b ob e).wU (fun c w' hc q=>(hs.2 c ?_).trans q) (fun _ q=>q) fun _ _ q=>q
  rintro rfl;rcases hc with rfl|hc
  .rw[hfree]at e;cases e
  .rw[hfree]at hc;cases hc
 rcases hx with hk|hk
 .refine wpAny_storeName_local hk hn (fun h' hn' hs=>?_) hcls;obtain⟨oL,_,_,hoL,_⟩:=id hn;refine h _ ⟨I.ok,I.os,I.bare,⟨fun b o e n hb hx=>?_,fun b o e n hb hx=>?_,I.base.free,fun b o e hx=>?_,I.base.oI,I.base.nR,I.base.nW⟩,⟨_,hn',fun j y v' e1 e2 e3=>?_⟩,fun y c e=>?_,I.free,I.lF,fun p hp=>?_,tracked ⟨oL,hoL,I.free⟩ hs,by simpa using I.len⟩ ⟨_,hs,.inl rfl⟩
  .exact(hs.2 b (ne_of_lt (lt_of_lt_of_le (lt_size e) I.ok.above))).trans (I.base.keep b o e n hb hx)
  .obtain⟨sl,e1⟩:=I.base.slot b o e n hb hx;exact⟨sl,(hs.2 b (ne_of_lt (lt_of_lt_of_le (lt_size e) I.ok.above))).trans e1⟩
  .obtain⟨o',e1⟩:=I.base.there b o e hx;exact⟨o',(hs.2 b (ne_of_lt (lt_of_lt_of_le (lt_size e) I.ok.above))).trans e1⟩
  .by_cases hj:j=i
   .subst hj;rw[hi]at e1;cases e1
    rw[List.getElem?_set_self hiσ]at e2;cases e2;exact⟨u,r,.inl ⟨hk,by simp⟩⟩
   .rw[List.getElem?_set_ne (Ne.symm hj)]at e2;obtain⟨u',r',q⟩:=hl j y v' e1 e2 e3;refine⟨u',r',?_⟩;rcases q with⟨k,e⟩|⟨k,c,e,z⟩
    .refine .inl ⟨k,?_⟩;have:y≠x:=fun e=>hj (zQ hN e1 (e▸hi))
     simp[this,e]
    .exact .inr ⟨k,c,e,z.sameBut hs (OS y c e)⟩
  .obtain⟨w',z⟩:=I.cell y c e;exact⟨w',z.sameBut hs (OS y c e)⟩
  .obtain⟨e,n,ne,nf,d⟩:=I.pin p hp;exact⟨(hs.2 p.1 ne).trans e,n,ne,nf,d⟩
 .have hfn:X.fn x=true:=by
   rcases hf with z|z
   .exact z
   .rw[z]at hk;cases hk
  obtain⟨c,hc⟩:=I.ok.has x (.inl hk);obtain⟨w',z⟩:=I.cell x c hc;refine wpAny_storeName_cell I.ok.kind hk hc z (fun h' hc' hs=>?_);obtain⟨oc,hoc,hocd⟩:=id z;refine h {s with heap:=h'} ⟨I.ok,I.os,I.bare,⟨fun b o e n hb hx=>?_,fun b o e n hb hx=>?_,I.base.free,fun b o e hx=>?_,I.base.oI,I.base.nR,I.base.nW⟩,⟨m,hn.sameBut hs (Ne.symm (OS x c hc)),fun j y v' e1 e2 e3=>?_⟩,fun y c' e=>?_,I.free,I.lF,fun p hp=>?_,tracked ⟨oc,hoc,I.lF x c hc⟩ hs,by simpa using I.len⟩ ⟨c,hs,.inr hc⟩
  .exact(hs.2 b (ne_of_lt (lt_of_lt_of_le (lt_size e) (I.ok.QE x c hfn hc)))).trans (I.base.keep b o e n hb hx)
  .obtain⟨sl,e1⟩:=I.base.slot b o e n hb hx;exact⟨sl,(hs.2 b (ne_of_lt (lt_of_lt_of_le (lt_size e) (I.ok.QE x c hfn hc)))).trans e1⟩
  .obtain⟨o',e1⟩:=I.base.there b o e hx;exact⟨o',(hs.2 b (ne_of_lt (lt_of_lt_of_le (lt_size e) (I.ok.QE x c hfn hc)))).trans e1⟩
  .by_cases hj:j=i
   .subst hj;rw[hi]at e1;cases e1
    rw[List.getElem?_set_self hiσ]at e2;cases e2;exact⟨u,r,.inr ⟨.inl hk,c,hc,hc'⟩⟩
   .rw[List.getElem?_set_ne (Ne.symm hj)]at e2;obtain⟨u',r',q⟩:=hl j y v' e1 e2 e3;refine⟨u',r',?_⟩;rcases q with q|⟨k,c',e,z'⟩
    .exact .inl q
    .refine .inr ⟨k,c',e,z'.sameBut hs ?_⟩;rintro rfl;exact hj (zQ hN e1 (I.ok.inj _ _ _ e hc▸hi))
  .by_cases hcc:c'=c
   .subst hcc;exact⟨_,hc'⟩
   .obtain⟨w2,z2⟩:=I.cell y c' e;exact⟨w2,z2.sameBut hs hcc⟩
  .obtain⟨e,n,ne,nf,d⟩:=I.pin p hp;refine⟨(hs.2 p.1 ?_).trans e,n,ne,nf,d⟩;intro q;rw[q,hoc]at e;have q':oc=p.2:=Option.some.inj e;exact d w' (by rw[<-q'];exact hocd)
theorem gT {v:V} {Q:Unit->Shared->Prop} (I:Inv X pins σ H s) (hN:X.N.Nodup) (hi:X.N[i]? =some x) (hx:Loc X.env.scope x) (r:RelV v u)
  (h:∀s',Inv X pins (σ.set i (some v)) H s'->Q () s') (hf:X.fn x=true\/ X.env.scope.names.lookup x=some .local:=by first|exact .inl rfl|exact .inr rfl|assumption):wpAny M A (storeName X.env x u) Q E s:=
 DU I hN hi hx r (fun s' I' _=>h s' I') hf
theorem Inv.xS {s':Shared} (I:Inv X pins σ H s) (ho:s'.os=s.os) (u:Un (AQ X.stack) ch H H' s.heap s'.heap) (bH:jL X.prog X.w H' s'.heap) (hg:AllBare s'.gens)
  (hch:∀b∈ch,(b∈X.ex\/ X.iO.heap.objs.size<=b)/\b≠X.env.locals/\(∀x c,X.env.cells.lookup x=some c->c≠b)/\∀p∈X.pn++pins,p.1≠b):Inv X pins σ H' s':=by
 obtain⟨h',g',d',t',o'⟩:=s';have e:o'=s.os:=ho;subst e;exact I.call (g':=g') (t':=t') (d':=d') u bH hg hch
end
abbrev XK:=Value->Option Addr->Hp->Prop
abbrev St:=List (Option V)
abbrev VK:=V->Hp->Prop
abbrev TE:=St->Hp->VK->Prop
abbrev TT:=St->Hp->(Bool->Hp->Prop)->Prop
abbrev TA:=St->Hp->(List V->Hp->Prop)->Prop
structure Ends where
 nx:St->Hp->Prop
 rt:VK
 bk:St->Hp->Prop:=fun _ _=>False
 ct:St->Hp->Prop:=fun _ _=>False
abbrev TS:=Ends->St->Hp->Prop
def EP (X:Cx) (pins:List (Addr×Obj)) (σ:St) (Q:VK) (u:Value) (s':Shared):Prop:=∃v H',Inv X pins σ H' s'/\RelV v u/\Q v H'
def TP (X:Cx) (pins:List (Addr×Obj)) (σ:St) (Q:Bool->Hp->Prop) (b:Bool) (s':Shared):Prop:=∃H',Inv X pins σ H' s'/\Q b H'
def AP (X:Cx) (pins:List (Addr×Obj)) (σ:St) (Q:List V->Hp->Prop) (us:List Value) (s':Shared):Prop:=∃vs H',Inv X pins σ H' s'/\Vals vs us/\Q vs H'
def SP (X:Cx) (pins:List (Addr×Obj)) (D:Ends) (f:Flow) (s':Shared):Prop:=
 match f with
 | .next=>∃σ' H',Inv X pins σ' H' s'/\D.nx σ' H'
 | .brk=>∃σ' H',Inv X pins σ' H' s'/\D.bk σ' H'
 | .cont=>∃σ' H',Inv X pins σ' H' s'/\D.ct σ' H'
 | .ret u=>∃v σ' H',Inv X pins σ' H' s'/\RelV v u/\D.rt v H'
def PE (X:Cx) (e:Expr) (t:TE):Prop:=
 ∀(pins:List (Addr×Obj)) (s:Shared) (σ:St) (H:Hp) (Q:VK),Inv X pins σ H s->t σ H Q->wpAny (model X.prog X.w) X.A (eval e X.env) (EP X pins σ Q) X.xe s
def PT (X:Cx) (e:Expr) (t:TT):Prop:=
 ∀(pins:List (Addr×Obj)) (s:Shared) (σ:St) (H:Hp) (Q:Bool->Hp->Prop),Inv X pins σ H s->t σ H Q->wpAny (model X.prog X.w) X.A (isTrue e X.env (eval e X.env)) (TP X pins σ Q) X.xe s
def PW (X:Cx) (e:Expr) (t:TT):Prop:=
 ∀(whole:Sem Value) (pins:List (Addr×Obj)) (s:Shared) (σ:St) (H:Hp) (Q:Bool->Hp->Prop),Inv X pins σ H s->t σ H Q->wpAny (model X.prog X.w) X.A (isTrue e X.env whole) (TP X pins σ Q) X.xe s
theorem PW.pt {t:TT} (h:PW X e t):PT X e t:=h _
def PA (X:Cx) (es:List Expr) (t:TA):Prop:=
 ∀(pos:Pos) (pins:List (Addr×Obj)) (s:Shared) (σ:St) (H:Hp) (Q:List V->Hp->Prop),Inv X pins σ H s->t σ H Q->wpAny (model X.prog X.w) X.A (spliced (backTo pos (starEach es X.env))) (AP X pins σ Q) X.xe s
def PS (X:Cx) (st:Stmt) (t:TS):Prop:=
 ∀(pins:List (Addr×Obj)) (s:Shared) (σ:St) (H:Hp) (D:Ends),Inv X pins σ H s->t D σ H->wpAny (model X.prog X.w) X.A (exec st X.env) (SP X pins D) X.xe s
def DZ (X:Cx) (st:List Stmt) (t:TS):Prop:=
 ∀(pins:List (Addr×Obj)) (s:Shared) (σ:St) (H:Hp) (D:Ends),Inv X pins σ H s->t D σ H->wpAny (model X.prog X.w) X.A (execs st X.env) (SP X pins D) X.xe s
theorem bY {t:Sem α} {Q Q':α->Shared->Prop} (h:wpAny M A t Q E s) (hQ:∀a s,Q a s->Q' a s):wpAny M A t Q' E s:=wpAny_mono h hQ fun _ _ x=>x
section
variable {X:Cx}
def bS (i:Nat):TE:=fun σ H Q=>∃v,σ[i]? =some (some v)/\Q v H
def tC (v:V):TE:=fun _ H Q=>Q v H
theorem OB {i:Nat} {x:Str} (hN:X.N[i]? =some x) (hv:T7 X.env.scope x) (hd:(x==("__debug__":Str))=false:=by decide) (hcd:(x==("__classdict__":Str))=false:=by decide):PE X (.Name x pos) (bS i):=by
 intro pins s σ H Q I h;obtain⟨v,e,h⟩:=h;obtain⟨m,hn,hl⟩:=I.loc;obtain⟨u,r,l⟩:=hl i x v hN e hv;have fin:EP X pins σ Q u s:=⟨v,H,I,r,h⟩;rcases l with⟨hk,hm⟩|⟨hk,c,hc,hcell⟩
 .exact wpAny_Name (wpAny_loadName_local I.ok.kind hk hn hm fin) hd
 .rcases hk with hk|hk
  .exact wpAny_Name (wpAny_loadName_cell I.ok.kind hk hc hcell fin) hd
  .exact wpAny_Name (wpAny_loadName_free I.ok.kind hk hc hcell fin hcd) hd
theorem aI {i j pos}:PE X (.Constant (.int i) j pos) (tC (.int i)):=fun _ _ _ H _ I h=>wpAny_Constant_int ⟨.int i,H,I.tok _,⟨_,rfl⟩,h⟩
theorem eK {b j pos}:PE X (.Constant (.bool b) j pos) (tC (.bl b)):=fun _ _ _ H _ I h=>Constant_bool ⟨.bl b,H,I,rfl,h⟩
theorem cK {j pos}:PE X (.Constant .none j pos) (tC .aP):=fun _ _ _ H _ I h=>Constant_none ⟨.aP,H,I,rfl,h⟩
theorem g9 {x j pos}:PE X (.Constant (.str x) j pos) (tC (.str x)):=fun _ _ _ H _ I h=>Calls.Constant_str ⟨.str x,H,I.tok _,⟨_,rfl⟩,h⟩
def Gl (X:Cx) (x:Str):Prop:=X.env.kindOf x=some .globalImplicit
theorem B0 (I:Inv X pins σ H s) (hg:Gl X x) (hm:X.mg x=some u) (h:Q u s)
  (hd:(x==("__debug__":Str))=false:=by decide):wpAny (model X.prog X.w) X.A (eval (.Name x pos) X.env) Q E s:=
 Calls.Name_function_global I.ok.kind hg (Calls.loadGlobal_global (by rw[I.ok.glob];exact I.mod.glob.keeps I.bk) hm h) hd
theorem m6 (I:Inv X pins σ H s) (hg:Gl X x) (hm:X.mg x=none) (hv:bootBuiltins x=some u) (h:Q u s)
  (hn:x≠"__name__":=by decide) (hd:(x==("__debug__":Str))=false:=by decide):wpAny (model X.prog X.w) X.A (eval (.Name x pos) X.env) Q E s:=by
 obtain⟨mb,h1,h2⟩:=I.mod.blt;exact Calls.Name_function_global I.ok.kind hg (Calls.loadGlobal_builtin (by rw[I.ok.glob];exact I.mod.glob.keeps I.bk) hm (by rw[I.ok.blt];exact h1.keeps I.bk) ((h2 x hn).trans hv) h) hd
theorem wA {v:V} (hg:Gl X x) (hm:X.mg x=some u) (r:RelV v u) (hd:(x==("__debug__":Str))=false:=by decide):PE X (.Name x pos) (tC v):=
 fun _ _ _ H _ I h=>B0 I hg hm ⟨v,H,I,r,h⟩ hd
theorem lN {v:V} (hg:Gl X x) (hm:X.mg x=none) (hv:bootBuiltins x=some u) (r:RelV v u) (hn:x≠"__name__":=by decide) (hd:(x==("__debug__":Str))=false:=by decide):PE X (.Name x pos) (tC v):=
 fun _ _ _ H _ I h=>m6 I hg hm hv ⟨v,H,I,r,h⟩ hn hd
variable {a b:Expr} {ta tb:TE} {pos:Pos}
def tB (t:TE):TT:=fun σ H Q=>t σ H fun x H1=>∃c,x= .bl c/\Q c H1
theorem fB (h:PE X e t) (he:∀whole,isTrue e X.env whole=(do let v<-whole;standAt e.pos;holding [v] (truthy v)):=by intro _;rfl):PT X e (tB t):=by
 intro pins s σ H Q I hw;refine isTrue_plain (bY (h pins s σ H _ I hw) fun v s1 ⟨x,H1,I1,r1,q1⟩=>?_) (he _);obtain⟨d,rfl,q⟩:=q1;cases r1;exact wpAny_truthy_bool ⟨H1,I1,q⟩
variable {tA tB':TT} {rest:List Expr}
def wG (t u:TT):TT:=fun σ H Q=>t σ H fun c H1=>if c=true then u σ H1 Q else Q false H1
def Q9 (t u:TT):TT:=fun σ H Q=>t σ H fun c H1=>if c=true then Q true H1 else u σ H1 Q
def JB (t:TT):TT:=fun σ H Q=>t σ H fun c H1=>Q (!c) H1
theorem kC (ha:PT X a tA):PW X (.BoolOp .And [a] pos) tA:=by
 intro wh pins s σ H Q I h;refine isTrue_and (bY (ha pins s σ H Q I h) fun c s1 e=>?_);cases c with
 |true=>exact isTrue_and_nil e
 |false=>exact e
theorem mR (ha:PT X a tA):PW X (.BoolOp .Or [a] pos) tA:=by
 intro wh pins s σ H Q I h;refine isTrue_or (bY (ha pins s σ H Q I h) fun c s1 e=>?_);cases c with
 |false=>exact isTrue_or_nil e
 |true=>exact e
theorem mX (ha:PT X a tA) (hb:PW X (.BoolOp .And (b::rest) pos) tB'):PW X (.BoolOp .And (a::b::rest) pos) (wG tA tB'):=by
 intro wh pins s σ H Q I h;refine isTrue_and (bY (ha pins s σ H _ I h) fun c s1 ⟨H1,I1,q1⟩=>?_);cases c with
 |true=>exact hb wh pins s1 σ H1 Q I1 q1
 |false=>exact⟨H1,I1,q1⟩
theorem m9 (ha:PT X a tA) (hb:PW X (.BoolOp .Or (b::rest) pos) tB'):PW X (.BoolOp .Or (a::b::rest) pos) (Q9 tA tB'):=by
 intro wh pins s σ H Q I h;refine isTrue_or (bY (ha pins s σ H _ I h) fun c s1 ⟨H1,I1,q1⟩=>?_);cases c with
 |true=>exact⟨H1,I1,q1⟩
 |false=>exact hb wh pins s1 σ H1 Q I1 q1
theorem fA (ha:PT X a tA):PT X (.UnaryOp .Not a pos) (JB tA):=by
 intro pins s σ H Q I h;exact isTrue_not (ha pins s σ H (fun c H1=>Q (!c) H1) I h)
def zF (ta tb:TE):TE:=fun σ H Q=>ta σ H fun x H1=>∃c,x= .bl c/\if c=true then tb σ H1 Q else Q (.bl false) H1
def JF (ta tb:TE):TE:=fun σ H Q=>ta σ H fun x H1=>∃c,x= .bl c/\if c=true then Q (.bl true) H1 else tb σ H1 Q
def yH (ta:TE):TE:=fun σ H Q=>ta σ H fun x H1=>∃c,x= .bl c/\Q (.bl (!c)) H1
theorem kY {op} (h:PE X a t):PE X (.BoolOp op [a] pos) t:=fun pins s σ H Q I hw=>BoolOp_one (h pins s σ H Q I hw)
theorem qY (ha:PE X a ta) (hb:PE X (.BoolOp .And (b::rest) pos) tb):PE X (.BoolOp .And (a::b::rest) pos) (zF ta tb):=by
 intro pins s σ H Q I h;refine BoolOp_and (bY (ha pins s σ H _ I h) fun v s1 ⟨x,H1,I1,r1,q1⟩=>?_);obtain⟨c,rfl,q1⟩:=q1;cases r1;refine wpAny_truthy_bool ?_;cases c with
 |true=>exact hb pins s1 σ H1 Q I1 q1
 |false=>exact⟨.bl false,H1,I1,rfl,q1⟩
theorem CM (ha:PE X a ta) (hb:PE X (.BoolOp .Or (b::rest) pos) tb):PE X (.BoolOp .Or (a::b::rest) pos) (JF ta tb):=by
 intro pins s σ H Q I h;refine BoolOp_or (bY (ha pins s σ H _ I h) fun v s1 ⟨x,H1,I1,r1,q1⟩=>?_);obtain⟨c,rfl,q1⟩:=q1;cases r1;refine wpAny_truthy_bool ?_;cases c with
 |false=>exact hb pins s1 σ H1 Q I1 q1
 |true=>exact⟨.bl true,H1,I1,rfl,q1⟩
theorem OZ (ha:PE X a ta):PE X (.UnaryOp .Not a pos) (yH ta):=by
 intro pins s σ H Q I h;refine UnaryOp_ (bY (ha pins s σ H _ I h) fun v s1 ⟨x,H1,I1,r1,q1⟩=>?_);obtain⟨c,rfl,q1⟩:=q1;cases r1;exact not_of (wpAny_truthy_bool ⟨.bl (!c),H1,I1,rfl,q1⟩)
def SJ (t:TT) (ta tb:TE):TE:=fun σ H Q=>t σ H fun c H1=>if c=true then ta σ H1 Q else tb σ H1 Q
theorem GV (hc:PT X c tA) (ha:PE X a ta) (hb:PE X b tb):PE X (.IfExp c a b pos) (SJ tA ta tb):=by
 intro pins s σ H Q I h;refine wpAny_IfExp (bY (hc pins s σ H _ I h) fun d s1 ⟨H1,I1,q1⟩=>?_);cases d with
 |true=>exact ha pins s1 σ H1 Q I1 q1
 |false=>exact hb pins s1 σ H1 Q I1 q1
end
def bC (K:Frag) (H:Hp) (a:Addr) (xs:List V):Prop:=
 Rd H a (.lst xs)\/
  ∃(o:Obj) (its:Array Value) (n:Nat),K.lookup a=some o/\o.cls= .type "list"/\o.dict=none/\o.data= .seq its n/\its.size<=sizeLine/\Vals xs its.toList
def bU (K:Frag) (H:Hp) (a:Addr) (xs:List V):Prop:=
 Rd H a (.tup xs)\/
  ∃(o:Obj) (its:Array Value) (n:Nat),K.lookup a=some o/\o.cls= .type "tuple"/\o.data= .seq its n/\its.size<=sizeLine/\Vals xs its.toList
noncomputable def TM:Value->Option V
 | .none=>some .aP
 | .bool b=>some (.bl b)
 | .int i _=>some (.int i)
 | .str x _=>some (.str x)
 | .bytes b _=>some (.GY b)
 | .float b _=>some (.QB b)
 | .ref a=>some (.ref a)
 | .type n=>some (.ty n)
 |_=>none
theorem RelV.abs {x:V} (r:RelV x u):TM u=some x:=by
 cases x with
 |aP=>cases r;rfl
 |bl _=>cases r;rfl
 |int _=>obtain⟨t,rfl⟩:=r;rfl
 |str _=>obtain⟨t,rfl⟩:=r;rfl
 |GY _=>obtain⟨t,rfl⟩:=r;rfl
 |QB _=>obtain⟨t,rfl⟩:=r;rfl
 |ref _=>cases r;rfl
 |ty _=>cases r;rfl
theorem RelV.inj {x:V} (r:RelV x u) (q:RelV y u):x=y:=Option.some.inj (r.abs.symm.trans q.abs)
theorem Vals.inj:∀{xs ys:List V} {us:List Value},Vals xs us->Vals ys us->xs=ys
 |_,_,_,.nil,.nil=>rfl
 |_,_,_,.cons r t,.cons r' t'=>by rw[r.inj r',Vals.inj t t']
section
variable {X:Cx} {pins:List (Addr×Obj)} {σ:St} {H:Hp} {s:Shared} {a:Addr} {xs ys:List V}
theorem bC.of (h:H a=some (.lst xs)):bC K H a xs:=.inl (.inl h)
theorem bU.of (h:H a=some (.tup xs)):bU K H a xs:=.inl (.inl h)
theorem Inv.list (I:Inv X pins σ H s) (h:bC X.K H a xs):∃its:List Value,Vals xs its/\PlainL s.heap a its.toArray/\xs.length<=sizeLine:=by
 rcases h with h|⟨o,its,n,hk,hc,hd,hs,hz,r⟩
 .obtain⟨z,its,n,r,e⟩:=h.ok I.bH;exact⟨its,r,⟨_,n,e,rfl,rfl,rfl⟩,z⟩
 .refine⟨its.toList,r,⟨o,n,I.xA a o hk,hc,hd,by simpa using hs⟩,?_⟩;have e:=r.length;simp only[length_toList]at e;omega
theorem Inv.tuple (I:Inv X pins σ H s) (h:bU X.K H a xs):∃its:List Value,Vals xs its/\IsTup s.heap a its.toArray/\xs.length<=sizeLine:=by
 rcases h with h|⟨o,its,n,hk,hc,hs,hz,r⟩
 .obtain⟨z,its,r,p⟩:=h.ok I.bH;exact⟨its,r,p.1,z⟩
 .refine⟨its.toList,r,⟨o,I.xA a o hk,hc,n,by simpa using hs⟩,?_⟩;have e:=r.length;simp only[length_toList]at e;omega
theorem Inv.yV (I:Inv X pins σ H s) (h:bC X.K H a xs) (h':bC X.K H a ys):xs=ys:=by
 obtain⟨its,r,⟨o,n,e,_,_,d⟩,_⟩:=I.list h;obtain⟨its',r',⟨o',n',e',_,_,d'⟩,_⟩:=I.list h';rw[e]at e';cases e'
 rw[d]at d';injection d' with d1 _
 have:its=its':=by simpa using congrArg Array.toList d1
 subst this;exact r.inj r'
theorem Inv.lQ (I:Inv X pins σ H s) (h:bU X.K H a xs) (h':bU X.K H a ys):xs=ys:=by
 obtain⟨its,r,⟨o,e,_,n,d⟩,_⟩:=I.tuple h;obtain⟨its',r',⟨o',e',_,n',d'⟩,_⟩:=I.tuple h';rw[e]at e';cases e'
 rw[d]at d';injection d' with d1 _
 have:its=its':=by simpa using congrArg Array.toList d1
 subst this;exact r.inj r'
end
noncomputable abbrev Cx.tQ (X:Cx) (E:Value->Shared->Prop):Cx:={X with xe:=E}
noncomputable abbrev Cx.S9 (X:Cx):Cx:=X.tQ fun _ _=>False
theorem Cx.Ok.tQ (ok:X.Ok) (E:Value->Shared->Prop):(X.tQ E).Ok:=
 ⟨ok.mod,ok.kind,ok.glob,ok.blt,ok.above,ok.inj,ok.has,ok.QE,ok.hd,ok.frames,ok.SH,ok.UH,ok.bs,ok.J2,ok.D0,ok.xV,ok.pJ,ok.M6⟩
theorem Cx.Ok.lA (ok:(X.tQ E).Ok):X.Ok:=
 ⟨ok.mod,ok.kind,ok.glob,ok.blt,ok.above,ok.inj,ok.has,ok.QE,ok.hd,ok.frames,ok.SH,ok.UH,ok.bs,ok.J2,ok.D0,ok.xV,ok.pJ,ok.M6⟩
section
variable {X:Cx} {pins:List (Addr×Obj)} {σ:St} {H:Hp} {s:Shared} {E:Value->Shared->Prop}
theorem Inv.tQ (I:Inv X pins σ H s) (E:Value->Shared->Prop):Inv (X.tQ E) pins σ H s:=⟨I.ok.tQ E,I.os,I.bare,I.base,I.loc,I.cell,I.free,I.lF,I.pin,I.bH,I.len⟩
theorem Inv.lA (I:Inv (X.tQ E) pins σ H s):Inv X pins σ H s:=⟨I.ok.lA,I.os,I.bare,I.base,I.loc,I.cell,I.free,I.lF,I.pin,I.bH,I.len⟩
theorem SP.lA {f:Flow} {s':Shared} (h:SP (X.tQ E) pins D f s'):SP X pins D f s':=by
 cases f with
 |next=>obtain⟨σ',H',I,q⟩:=h;exact⟨σ',H',I.lA,q⟩
 |brk=>obtain⟨σ',H',I,q⟩:=h;exact⟨σ',H',I.lA,q⟩
 |cont=>obtain⟨σ',H',I,q⟩:=h;exact⟨σ',H',I.lA,q⟩
 |ret u=>obtain⟨v,σ',H',I,r,q⟩:=h;exact⟨v,σ',H',I.lA,r,q⟩
theorem DZ.S9 {st:List Stmt} {t:TS} (h:DZ X.S9 st t):DZ X st t:=fun pins s σ H D I hw=>
 wpAny_mono (h pins s σ H D (I.tQ _) hw) (fun _ _ q=>q.lA) fun _ _ z=>False.elim z
end
section
variable {X:Cx} {st:Stmt} {rest:List Stmt} {t u:TS} {e:Expr} {te:TE} {pos:Pos}
def rP:TS:=fun D σ H=>D.nx σ H
def p9 (t u:TS):TS:=fun D σ H=>t {D with nx:=u D} σ H
theorem bI:DZ X [] rP:=fun _ _ σ H _ I h=>wpAny_execs_nil ⟨σ,H,I,h⟩
theorem aE (h1:PS X st t) (h2:DZ X rest u):DZ X (st::rest) (p9 t u):=by
 intro pins s σ H D I h;refine wpAny_execs_cons (bY (h1 pins s σ H {D with nx:=u D} I h) fun f s1 q=>?_);cases f with
 |next=>
  obtain⟨σ',H',I',q⟩:=q;exact h2 pins s1 σ' H' D I' q
 |ret v=>exact q
 |brk=>exact q
 |cont=>exact q
theorem aH (h1:PS X st t):DZ X [st] t:=by
 intro pins s σ H D I h;refine wpAny_execs_cons (bY (h1 pins s σ H D I h) fun f s1 q=>?_);cases f with
 |next=>exact wpAny_execs_nil q
 |ret v=>exact q
 |brk=>exact q
 |cont=>exact q
theorem Inv.quiet (I:Inv X pins σ H s):interactive X.env=false:=by simp[interactive,I.ok.kind]
def nL (te:TE):TS:=fun D σ H=>te σ H fun _ H1=>D.nx σ H1
theorem fX (he:PE X e te) (hs:swapsWith e none pos.line X.env=pure false:=by rfl):PS X (.Expr e pos) (nL te):=by
 intro pins s σ H D I h;exact wpAny_Expr_any (bY (he pins s σ H _ I h) fun v s1 ⟨x,H1,I1,r1,q1⟩=>⟨σ,H1,I1,q1⟩) I.quiet hs
def w5 (te:TE):TS:=fun D σ H=>te σ H D.rt
theorem aV (he:PE X e te):PS X (.Return (some e) pos) (w5 te):=by
 intro pins s σ H D I h;exact wpAny_Return_some (bY (he pins s σ H _ I h) fun v s1 ⟨x,H1,I1,r1,q1⟩=>⟨x,σ,H1,I1,r1,q1⟩)
def zL (c:TT) (t u:TS):TS:=fun D σ H=>c σ H fun b H1=>if b=true then t D σ H1 else u D σ H1
theorem cA {a b:List Stmt} (hc:PT X c tc) (ha:DZ X a t) (hb:DZ X b u):PS X (.If c a b pos) (zL tc t u):=by
 intro pins s σ H D I h;refine wpAny_If (bY (hc pins s σ H _ I h) fun d s1 ⟨H1,I1,q1⟩=>?_);cases d with
 |true=>exact ha pins s1 σ H1 D I1 q1
 |false=>exact hb pins s1 σ H1 D I1 q1
end
abbrev TG:=V->St->Hp->(St->Hp->Prop)->Prop
abbrev NH:=List V->St->Hp->(St->Hp->Prop)->Prop
def PG (X:Cx) (target:Expr) (t:TG):Prop:=
 ∀(pins:List (Addr×Obj)) (s:Shared) (σ:St) (H:Hp) (v:V) (u:Value) (Q:St->Hp->Prop),Inv X pins σ H s->RelV v u->t v σ H Q->
  wpAny (model X.prog X.w) X.A (assign target X.env u) (fun _ s'=>∃σ' H',Inv X pins σ' H' s'/\Q σ' H') X.xe s
def Q5 (X:Cx) (ts:List Expr) (t:NH):Prop:=
 ∀(pins:List (Addr×Obj)) (s:Shared) (σ:St) (H:Hp) (vs:List V) (us:List Value) (Q:St->Hp->Prop),Inv X pins σ H s->Vals vs us->t vs σ H Q->
  wpAny (model X.prog X.w) X.A (assignInOrder ((assignEach ts X.env).map (·.2)) us) (fun _ s'=>∃σ' H',Inv X pins σ' H' s'/\Q σ' H') X.xe s
abbrev OC:=V->V->V->Hp->(Hp->Prop)->Prop
def SU (X:Cx) (t:OC):Prop:=
 ∀(pins:List (Addr×Obj)) (s:Shared) (σ:St) (H:Hp) (o i v:V) (ov iv u:Value) (Q:Hp->Prop),Inv X pins σ H s->RelV o ov->RelV i iv->RelV v u->t o i v H Q->
  wpAny (model X.prog X.w) X.A (setItem ov iv u) (fun _ s'=>∃H',Inv X pins σ H' s'/\Q H') X.xe s
section
variable {X:Cx} {pos:Pos}
def iP (i:Nat):TG:=fun v σ H Q=>Q (σ.set i (some v)) H
theorem aO (hN:X.N.Nodup) (hi:X.N[i]? =some x) (hx:Loc X.env.scope x) (hf:X.fn x=true\/ X.env.scope.names.lookup x=some .local:=by first|exact .inl rfl|exact .inr rfl|assumption):PG X (.Name x pos) (iP i):=by
 intro pins s σ H v u Q I r h;exact wpAny_assign_Name (gT I hN hi hx r (fun s' I'=>⟨_,H,I',h⟩) hf)
def GB:NH:=fun vs σ H Q=>vs=[]/\Q σ H
def xQ (t:TG) (u:NH):NH:=fun vs σ H Q=>∃v r,vs=v::r/\t v σ H fun σ' H'=>u r σ' H' Q
theorem fY:Q5 X [] GB:=by
 intro pins s σ H vs us Q I r h;obtain⟨e,h⟩:=h;subst e;cases r;exact assignInOrder_nil ⟨σ,H,I,h⟩
theorem bJ {t:TG} {u:NH} (h1:PG X e t) (h2:Q5 X es u)
  (hs:(assignEach (e::es) X.env).map (·.2)=assign e X.env::(assignEach es X.env).map (·.2):=by rfl):Q5 X (e::es) (xQ t u):=by
 intro pins s σ H vs us Q I r h;obtain⟨v,vr,e1,h⟩:=h;subst e1;cases r with
 |cons r rr=>
  rw[hs];refine assignInOrder_cons (bY (h1 pins s σ H _ _ _ I r h) fun _ s1 ⟨σ1,H1,I1,q1⟩=>?_);exact h2 pins s1 σ1 H1 _ _ Q I1 rr q1
def EJ (K:Frag) (n:Nat) (t:NH):TG:=fun v σ H Q=>∃a xs,v= .ref a/\bU K H a xs/\xs.length=n/\t xs σ H Q
theorem OG {t:NH} (hc:X.calm=true) (h:Q5 X es t)
  (hn:(assignEach es X.env).length=n:=by rfl) (hst:(assignEach es X.env).findIdx? (·.1)=none:=by rfl):PG X (.Tuple es k pos) (EJ X.K n t):=by
 intro pins s σ H v u Q I r hw;obtain⟨a,xs,e1,hq,hl,hw⟩:=hw;subst e1;cases r;obtain⟨its,rv,ht,hz⟩:=I.tuple hq;refine assign_Tuple_tuple (I.ok.hd hc) ht (by simp[hn,<-hl,rv.length]) hst fun h' hx=>?_
 have I1:Inv X pins σ H {s with heap:=h'}:=I.kept (t':=s.toks) fun b o e=>hx b o (ne_of_lt (lt_size e)) e
 exact h pins _ σ H xs _ Q I1 (by simpa using rv) hw
def DY (to ti:TE) (t:OC):TG:=fun v σ H Q=>to σ H fun o H1=>ti σ H1 fun i H2=>t o i v H2 fun H3=>Q σ H3
theorem pA {o i:Expr} {to ti:TE} {t:OC} (ho:PE X o to) (hi:PE X i ti) (hs:SU X t)
  (ha:∀v,assign (.Subscript o i pos) X.env v=(do
   let ov<-holding [v] (eval o X.env)
   let iv<-holding [v,ov] (eval i X.env)
   standAt pos
   holding [v,ov,iv] (setItem ov iv v)
   release [v,ov,iv] []):=by intro _;rfl):PG X (.Subscript o i pos) (DY to ti t):=by
 intro pins s σ H v u Q I r h;rw[ha];refine wpAny_bind (wpAny_holding (bY (ho pins s σ H _ I h) fun ov s1 ⟨x,H1,I1,r1,q1⟩=>?_));refine wpAny_bind (wpAny_holding (bY (hi pins s1 σ H1 _ I1 q1) fun iv s2 ⟨y,H2,I2,r2,q2⟩=>?_));refine wpAny_bind (wpAny_standAt (wpAny_bind (wpAny_holding (bY (hs pins s2 σ H2 x y v ov iv u _ I2 r1 r2 r q2) fun _ s3 ⟨H3,I3,q3⟩=>?_))));exact wpAny_release ⟨σ,H3,I3,q3⟩
def o5 (te:TE) (g:TG):TS:=fun D σ H=>te σ H fun x H1=>g x σ H1 D.nx
theorem kW {tg:Expr} {g:TG} (he:PE X e te) (hg:PG X tg g) (hs:swapsWithSole [tg] e pos.line X.env=pure false:=by rfl) (hw:swappedStores [tg] e X.env=pure none:=by rfl)
  (h1:(assignEach [tg] X.env).map (·.2)=[assign tg X.env]:=by rfl):PS X (.Assign [tg] e pos) (o5 te g):=by
 intro pins s σ H D I h;refine wpAny_Assign_stores (bY (he pins s σ H _ I h) fun v s1 ⟨x,H1,I1,r1,q1⟩=>?_) hs hw;rw[h1];exact bY (hg pins s1 σ H1 x v _ I1 r1 q1) fun _ s2 q=>q
theorem aR {pos':Pos} (hN:X.N.Nodup) (hi:X.N[i]? =some x) (hx:Loc X.env.scope x) (he:PE X e te) (hs:swapsWith e (some (.Name x pos')) pos.line X.env=pure false:=by rfl) (hf:X.fn x=true\/ X.env.scope.names.lookup x=some .local:=by first|exact .inl rfl|exact .inr rfl|assumption):
  PS X (.Assign [.Name x pos'] e pos) (o5 te (iP i)):=by
 intro pins s σ H D I h;refine wpAny_Assign_Name (bY (he pins s σ H _ I h) fun v s1 ⟨y,H1,I1,r1,q1⟩=>?_) hs;exact gT I1 hN hi hx r1 (fun s2 I2=>⟨_,H1,I2,q1⟩) hf
def IS (i j:Nat) (ta:TA):TS:=fun D σ H=>ta σ H fun vs H1=>∃v w,vs=[v,w]/\D.nx ((σ.set i (some v)).set j (some w)) H1
theorem rL {y:Str} {a b:Expr} {px py pt:Pos} {kt k2 pt2} (hc:X.calm=true) (hN:X.N.Nodup) (hi:X.N[i]? =some x) (hj:X.N[j]? =some y) (hij:i≠j)
  (hx:X.env.scope.names.lookup x=some .local) (hy:X.env.scope.names.lookup y=some .local) (ha:PA X [a,b] ta)
  (hw:swappedStores [.Tuple [.Name x px,.Name y py] kt pt] (.Tuple [a,b] k2 pt2) X.env=pure (some [x,y]))
  (hs:swapsWithSole [.Tuple [.Name x px,.Name y py] kt pt] (.Tuple [a,b] k2 pt2) pos.line X.env=pure false:=by rfl):
  PS X (.Assign [.Tuple [.Name x px,.Name y py] kt pt] (.Tuple [a,b] k2 pt2) pos) (IS i j ta):=by
 intro pins s σ H D I h;rw[exec_Assign_arm];refine wpAny_bind (wpAny_standAt ?_);rw[hs];refine wpAny_bind (wpAny_pure ?_);rw[if_neg (by decide)];refine wpAny_bind (Tuple_ (bY (ha _ pins s σ H _ I h) fun us s1 ⟨vs,H1,I1,r1,q1⟩=>?_));obtain⟨v,w,e1,q1⟩:=q1;subst e1;obtain⟨u1,u2,rfl,rv,tY⟩:∃u1 u2,us=[u1,u2]/\RelV v u1/\RelV w u2:=by
  cases r1 with
  | cons p q=>
   cases q with
   |cons p' q'=>
    cases q';exact⟨_,_,rfl,p,p'⟩
 refine wpAny_newObj_type ?_ (by show 2<=sizeLine;decide);have I2:Inv X pins σ H1 {s1 with heap:=s1.heap.push {cls:=.type "tuple",data:=.seq [u1,u2].toArray}}:=I1.kept (t':=s1.toks) fun b o e=>get?_push_of_some _ e
 rw[hw];refine wpAny_bind (wpAny_pure ?_);show wpAny (model X.prog X.w) X.A (do rule "assign.swapped-stores";let items<-unpackItems (.ref s1.heap.objs.size) 2 none;assignInOrder [fun v=>bindName X.env y v,fun v=>bindName X.env x v] items.reverse;pure Flow.next) _ _ _;refine wpAny_bind (wpAny_rule (wpAny_bind (unpackItems_tuple (items:= #[u1,u2]) (I.ok.hd hc) (IsTup.new s1.heap _) fun h' hx'=>?_)));have I3:=I2.kept (h':=h') (t':=s1.toks) fun b o e=>hx' b o (ne_of_lt (lt_size e)) e
 show wpAny _ _ (assignInOrder [fun v=>bindName X.env y v,fun v=>bindName X.env x v] [u2,u1]>>=fun _=>pure Flow.next) _ _ _;refine wpAny_bind (assignInOrder_cons (wpAny_bindName (gT I3 hN hj (.inl hy) tY (fun s2 I4=>?_) (.inr hy))));refine assignInOrder_cons (wpAny_bindName (gT I4 hN hi (.inl hx) rv (fun s3 I5=>assignInOrder_nil (wpAny_pure ?_)) (.inr hx)));rw[set_comm _ _ (Ne.symm hij)]at I5;exact⟨_,H1,I5,q1⟩
end
section
variable {X:Cx} {pos:Pos}
def pB (c:TT) (tb:TS):TS:=fun D σ H=>∃W:Nat->St->Hp->Prop,(∃m,W m σ H)/\∀m σ H,W m σ H->
 c σ H fun b H1=>if b=true then∃N:St->Hp->Prop,(∀σ' H',N σ' H'->∃m',m'<m/\W m' σ' H')/\tb {D with nx:=N,ct:=N,bk:=D.nx} σ H1 else D.nx σ H1
theorem lH (hp:PassesOwn (model X.prog X.w) X.A X.env X.xe) (hc:PT X c tc) (hb:DZ X body tb):PS X (.While c body [] pos) (pB tc tb):=by
 intro pins s σ H D I h;obtain⟨W,⟨m0,w0⟩,turn⟩:=h;refine wpAny_While (codeAny_whileLoop (fun n s'=>∃σ' H',Inv X pins σ' H' s'/\W n σ' H') ?_ m0 ⟨σ,H,I,w0⟩);rintro n s1 ⟨σ1,H1,I1,w1⟩;refine wpAny_passesOwn hp (bY (hc pins s1 σ1 H1 _ I1 (turn n σ1 H1 w1)) fun b s2 ⟨H2,I2,q2⟩=>?_);cases b with
 | true=>
  obtain⟨N,hN,q2⟩:=q2;rw[if_pos rfl];refine wpAny_passesOwn hp (bY (hb pins s2 σ1 H2 _ I2 q2) fun f s3 q3=>?_);cases f with
  |next=>
   obtain⟨σ3,H3,I3,n3⟩:=q3;obtain⟨m',hm,w3⟩:=hN σ3 H3 n3;exact⟨m',hm,σ3,H3,I3,w3⟩
  |cont=>
   obtain⟨σ3,H3,I3,n3⟩:=q3;obtain⟨m',hm,w3⟩:=hN σ3 H3 n3;exact⟨m',hm,σ3,H3,I3,w3⟩
  |brk=>exact q3
  |ret v=>exact q3
 |false=>
  rw[if_neg Bool.false_ne_true];exact wpAny_execs_nil ⟨σ1,H2,I2,q2⟩
end
structure It where
 go:Nat->Hp->Prop
 AX:Nat->Hp->V->Hp->Prop
 stop:Nat->Hp->Prop
def n6 (X:Cx) (pins:List (Addr×Obj)) (H:Hp) (b:Addr):Prop:=
 H b=none/\b≠X.env.locals/\b∉X.fs/\(b∈X.ex\/ X.iO.heap.objs.size<=b)/\(∀x c,X.env.cells.lookup x=some c->c≠b)/\∀p∈X.pn++pins,p.1≠b
theorem Inv.nD {H':Hp} (I:Inv X pins σ H s) (hb:s.heap.objs.size<=b) (hn:H' b=none):n6 X pins H' b:=by
 refine⟨hn,ne_of_gt (lt_of_lt_of_le I.lt hb),I.QZ hb,.inr (le_trans I.sz hb),fun x c e z=>?_,fun p hp z=>?_⟩
 .obtain⟨v,q⟩:=I.cell x c e;exact absurd (lt_of_lt_of_le q.lt (by rw[z];exact hb)) (Nat.lt_irrefl _)
 .exact absurd (lt_of_lt_of_le (lt_size (I.pin p hp).1) (by rw[z];exact hb)) (Nat.lt_irrefl _)
structure Turn (P:Program) (w:World) (K:Frag) (tg:Expr) (J:It) (fp:List Addr) (it:Addr) (tn:Nat->Heap->Prop):Prop where
 mem:it∈fp
 obj:∀i h,tn i h->∀b∈fp,∃o,h.get? b=some o/\∀v,o.data≠ .cell v
 keep:∀i h h',tn i h->(∀b∈fp,∀o,h.get? b=some o->h'.get? b=some o)->tn i h'
 item:∀(X:Cx),X.prog=P->X.w=w->X.K=K->X.calm=true->∀(i:Nat) (pins:List (Addr×Obj)) (s:Shared) (σ:St) (H:Hp) (E:Value->Shared->Prop),Inv X pins σ H s->(∀b∈fp,n6 X pins H b)->tn i s.heap->J.go i H->
  wpAny (model P w) X.A (pyNext (.ref it)) (fun r s1=>∃u,r=some u/\
   wpAny (model P w) X.A (letOwnedTupleGo tg (.ref it) u) (fun _ s2=>∃x H',Inv X pins σ H' s2/\RelV x u/\J.AX i H x H'/\tn (i+1) s2.heap/\∀b∈fp,H' b=none) E s1) E s
 done:∀(X:Cx),X.prog=P->X.w=w->X.K=K->X.calm=true->∀(i:Nat) (pins:List (Addr×Obj)) (s:Shared) (σ:St) (H:Hp) (E:Value->Shared->Prop),Inv X pins σ H s->(∀b∈fp,n6 X pins H b)->tn i s.heap->J.stop i H->
  wpAny (model P w) X.A (pyNext (.ref it)) (fun r s1=>r=none/\Inv X pins σ H s1) E s
 self:∀(A:Around) (i:Nat) (s:Shared) (Q:Value->Shared->Prop) (E:Value->Shared->Prop),tn i s.heap->Q (.ref it) s->wpAny (model P w) A (pyIter (.ref it)) Q E s
abbrev TI:=St->Hp->(It->Hp->Prop)->Prop
def UU (X:Cx) (pins:List (Addr×Obj)) (σ:St) (tg:Expr) (R:It->Hp->Prop) (itv:Value) (s2:Shared):Prop:=
 ∃(it:Addr) (fp:List Addr) (tn:Nat->Heap->Prop) (J:It) (H':Hp),itv= .ref it/\Inv X pins σ H' s2/\Turn X.prog X.w X.K tg J fp it tn/\tn 0 s2.heap/\(∀b∈fp,n6 X pins H' b)/\R J H'
def PI (X:Cx) (tg iter:Expr) (wi:TI):Prop:=
 ∀(pins:List (Addr×Obj)) (s:Shared) (σ:St) (H:Hp) (R:It->Hp->Prop),Inv X pins σ H s->wi σ H R->
  wpAny (model X.prog X.w) X.A (eval iter X.env) (fun v s1=>wpAny (model X.prog X.w) X.A (pyIter v) (UU X pins σ tg R) X.xe s1) X.xe s
theorem sL {tg:Expr} {u:Value} {n:String} {vs:Array Value} {Q:Unit->Shared->Prop} (ho:s.heap.get? it=some o) (hc:o.cls= .type n) (hd:o.data= .fields vs)
    (hn:["enumerate","zip","dict_itemiterator","dict_reverseitemiterator","odict_iterator","itertools.zip_longest","itertools.pairwise"].contains n=false) (hQ:Q () s):wpAny M A (letOwnedTupleGo tg (.ref it) u) Q E s:=by
  unfold letOwnedTupleGo;cases tg<;>first
    |exact wpAny_pure hQ
    |(cases u<;>first
        |exact wpAny_pure hQ
        | (refine wpAny_bind (wpAny_load ho ?_)
           rw[hc,hd];show wpAny M A (if(["enumerate","zip","dict_itemiterator","dict_reverseitemiterator","odict_iterator","itertools.zip_longest","itertools.pairwise"].contains n && vs[0]? ==some (rawInt _))=true then _ else _) Q E s;rw[if_neg (by intro h;rw[hn,Bool.false_and]at h;cases h)];exact wpAny_pure hQ))
noncomputable def KD (K:Frag) (a:Addr):It:=
 ⟨fun i H=>∃xs x,bC K H a xs/\xs[i]? =some x,fun i H x H'=>H'=H/\∀xs,bC K H a xs->xs[i]? =some x,fun i H=>∃xs,bC K H a xs/\xs.length<=i⟩
noncomputable def MI (K:Frag) (a:Addr):It:=
 ⟨fun i H=>∃xs x,bU K H a xs/\xs[i]? =some x,fun i H x H'=>H'=H/\∀xs,bU K H a xs->xs[i]? =some x,fun i H=>∃xs,bU K H a xs/\xs.length<=i⟩
noncomputable def E6 (lo:Int) (n:Nat):It:=⟨fun i _=>i<n,fun i H x H'=>H'=H/\x= .int (lo+i),fun i _=>n<=i⟩
theorem D5 {P:Program} {tg:Expr} (a it:Addr):Turn P w K tg (KD K a) [it] it (fun i h=>h.IsListIter it a i)where
 mem:=by simp
 obj:=fun i h st b hb=>by
  have e:b=it:=by simpa using hb
  subst e;obtain⟨o,e,c,d⟩:=st;exact⟨o,e,fun v z=>by rw[d]at z;cases z⟩
 keep:=fun i h h' st k=>st.at fun o e=>k it (by simp) o e
 item:=by
  intro X hP hw hK hc i pins s σ H E I hf st hg;subst hP hw hK;obtain⟨xs,x,hq,hx⟩:=hg;obtain⟨its,rv,p,hz⟩:=I.list hq;obtain⟨u,hu,ru⟩:=rv.get hx;obtain⟨f0,f1,f2,f3,f4,f5⟩:=hf it (by simp);refine wpAny_pyNext_list_item st p.isList (x:=u) (by simpa using hu) fun h' st' sb=>?_
  have I1:Inv X pins σ H {s with heap:=h'}:=I.turned (t':=s.toks) (fun b o hb e=>(sb.2 b hb).trans e) f0 f1 f3 f4 f5;obtain⟨o,e,c,d⟩:=id st';exact⟨u,rfl,sL (s:={s with heap:=h'}) e c d (by decide) ⟨x,H,I1,ru,⟨rfl,fun ys hy=>by rw[I.yV hy hq];exact hx⟩,st',fun b hb=>(hf b hb).1⟩⟩
 done:=by
  intro X hP hw hK hc i pins s σ H E I hf st hg;subst hP hw hK;obtain⟨xs,hq,hx⟩:=hg;obtain⟨its,rv,p,hz⟩:=I.list hq;obtain⟨f0,f1,f2,f3,f4,f5⟩:=hf it (by simp);have hl:=rv.length;exact wpAny_pyNext_list_end (I.ok.hd hc) st p.isList (by simp;omega) fun h' eb=>⟨rfl,I.turned (t':=s.toks) (fun b o hb e=>eb b o hb e) f0 f1 f3 f4 f5⟩
 self:=fun _ _ _ _ _ st h=>wpAny_pyIter_listiter st h
theorem BC {P:Program} {tg:Expr} (a it:Addr):Turn P w K tg (MI K a) [it] it (fun i h=>h.IsTupleIter it a i)where
 mem:=by simp
 obj:=fun i h st b hb=>by
  have e:b=it:=by simpa using hb
  subst e;obtain⟨o,e,c,d⟩:=st;exact⟨o,e,fun v z=>by rw[d]at z;cases z⟩
 keep:=fun i h h' st k=>st.at fun o e=>k it (by simp) o e
 item:=by
  intro X hP hw hK hc i pins s σ H E I hf st hg;subst hP hw hK;obtain⟨xs,x,hq,hx⟩:=hg;obtain⟨its,rv,p,hz⟩:=I.tuple hq;obtain⟨u,hu,ru⟩:=rv.get hx;obtain⟨f0,f1,f2,f3,f4,f5⟩:=hf it (by simp);refine wpAny_pyNext_tuple_item st (show s.heap.IsTuple a its.toArray from p) (x:=u) (by simpa using hu) fun h' st' sb=>?_
  have I1:Inv X pins σ H {s with heap:=h'}:=I.turned (t':=s.toks) (fun b o hb e=>(sb.2 b hb).trans e) f0 f1 f3 f4 f5;obtain⟨o,e,c,d⟩:=id st';exact⟨u,rfl,sL (s:={s with heap:=h'}) e c d (by decide) ⟨x,H,I1,ru,⟨rfl,fun ys hy=>by rw[I.lQ hy hq];exact hx⟩,st',fun b hb=>(hf b hb).1⟩⟩
 done:=by
  intro X hP hw hK hc i pins s σ H E I hf st hg;subst hP hw hK;obtain⟨xs,hq,hx⟩:=hg;obtain⟨its,rv,p,hz⟩:=I.tuple hq;obtain⟨f0,f1,f2,f3,f4,f5⟩:=hf it (by simp);have hl:=rv.length;exact wpAny_pyNext_tuple_end (I.ok.hd hc) st (show s.heap.IsTuple a its.toArray from p) (by simp;omega) fun h' eb=>⟨rfl,I.turned (t':=s.toks) (fun b o hb e=>eb b o hb e) f0 f1 f3 f4 f5⟩
 self:=fun _ _ _ _ _ st h=>wpAny_pyIter_tupleiter st h
theorem AW {P:Program} {tg:Expr} (it:Addr) (lo:Int) (n:Nat):Turn P w K tg (E6 lo n) [it] it (fun i h=>IsRangeIter h it (lo+(i:Nat)*1) ((n:Int) - (i:Nat)) 1)where
 mem:=by simp
 obj:=fun i h st b hb=>by
  have e:b=it:=by simpa using hb
  subst e;exact⟨_,st,fun v z=>by
   have z':Data.fields _=Data.cell v:=z;cases z'⟩
 keep:=fun i h h' st k=>k it (by simp) _ st
 item:=by
  intro X hP hw hK hc i pins s σ H E I hf st hg;subst hP hw hK;obtain⟨f0,f1,f2,f3,f4,f5⟩:=hf it (by simp);have W:=Walks.range (prog:=X.prog) (w:=X.w) (I.ok.hd hc) it lo 1 n;refine W.item i s _ _ hg st fun v h' tk hv st' kk=>?_
  obtain⟨t,rfl⟩:=hv;have I1:Inv X pins σ H {s with heap:=h',toks:=tk}:=I.turned (fun b o hb e=>kk b o (by simpa using hb) e) f0 f1 f3 f4 f5;refine⟨_,rfl,sL (s:={s with heap:=h',toks:=tk}) (n:="range_iterator") st' rfl rfl (by decide) ⟨.int (lo+i),H,I1,⟨t,?_⟩,⟨rfl,rfl⟩,st',fun b hb=>(hf b hb).1⟩⟩;rw[Int.mul_one]
 done:=by
  intro X hP hw hK hc i pins s σ H E I hf st hg;subst hP hw hK;obtain⟨f0,f1,f2,f3,f4,f5⟩:=hf it (by simp);exact wpAny_pyNext_range_end (I.ok.hd hc) st (by have:n<=i:=hg;omega) fun h' eb=>⟨rfl,I.turned (t':=s.toks) (fun b o hb e=>eb b o hb e) f0 f1 f3 f4 f5⟩
 self:=fun _ _ _ _ _ st h=>wpAny_pyIter_rangeiter st h
section
variable {X:Cx} {tg:Expr}
def MZ (K:Frag) (tl:TE):TI:=fun σ H R=>tl σ H fun x H1=>∃a,x= .ref a/\(∃xs,bC K H1 a xs)/\R (KD K a) H1
def NU (K:Frag) (tl:TE):TI:=fun σ H R=>tl σ H fun x H1=>∃a,x= .ref a/\(∃xs,bU K H1 a xs)/\R (MI K a) H1
theorem K7 (hl:PE X l tl):PI X tg l (MZ X.K tl):=by
 intro pins s σ H R I h;refine bY (hl pins s σ H _ I h) fun v s1 ⟨x,H1,I1,r1,q1⟩=>?_
 obtain⟨a,e,⟨xs,hq⟩,q⟩:=q1;subst e;cases r1;obtain⟨its,rv,p,hz⟩:=I1.list hq;refine wpAny_pyIter_list p.isList ?_;refine⟨s1.heap.objs.size,[s1.heap.objs.size],_,_,H1,rfl,I1.kept (t':=s1.toks) fun b o e=>get?_push_of_some _ e,D5 a _,⟨_,get?_push_size _ rfl,rfl,rfl⟩,fun b hb=>?_,q⟩;have e:b=s1.heap.objs.size:=by simpa using hb
 subst e;exact I1.nD (le_refl _) (I1.bH.fresh (le_refl _))
theorem OA (hl:PE X l tl):PI X tg l (NU X.K tl):=by
 intro pins s σ H R I h;refine bY (hl pins s σ H _ I h) fun v s1 ⟨x,H1,I1,r1,q1⟩=>?_
 obtain⟨a,e,⟨xs,hq⟩,q⟩:=q1;subst e;cases r1;obtain⟨its,rv,p,hz⟩:=I1.tuple hq;refine wpAny_pyIter_tuple (show s1.heap.IsTuple a its.toArray from p) ?_;refine⟨s1.heap.objs.size,[s1.heap.objs.size],_,_,H1,rfl,I1.kept (t':=s1.toks) fun b o e=>get?_push_of_some _ e,BC a _,⟨_,get?_push_size _ rfl,rfl,rfl⟩,fun b hb=>?_,q⟩;have e:b=s1.heap.objs.size:=by simpa using hb
 subst e;exact I1.nD (le_refl _) (I1.bH.fresh (le_refl _))
theorem IT {R:It->Hp->Prop} {hi:Int} {t u v:Tok} {tk:Nat} (I:Inv X pins σ H s) (h1: -(2^62)<=lo) (h2:lo<2^62) (h3: -(2^62)<=hi) (h4:hi<2^62)
  (q:R (E6 lo (hi - lo).toNat) H):wpAny (model X.prog X.w) X.A (pyIter (.ref s.heap.objs.size)) (UU X pins σ tg R) E {s with heap:=s.heap.push {cls:=.type "range",data:=.fields #[.int lo t,.int hi u,.int 1 v]},toks:=tk}:=by
 refine wpAny_pyIter_range (IsRange.new ..) (small_one h1 h2 h3 h4) ?_;have I1:Inv X pins σ H {s with heap:=s.heap.push {cls:=.type "range",data:=.fields #[.int lo t,.int hi u,.int 1 v]},toks:=tk}:=I.kept fun b o e=>get?_push_of_some _ e
 refine⟨(s.heap.push {cls:=.type "range",data:=.fields #[.int lo t,.int hi u,.int 1 v]}).objs.size,[(s.heap.push {cls:=.type "range",data:=.fields #[.int lo t,.int hi u,.int 1 v]}).objs.size],_,_,H,rfl,
  I1.kept (t':=tk) fun b o e=>get?_push_of_some _ e,AW _ lo (hi - lo).toNat,?_,fun b hb=>?_,q⟩
 .have e1:lo+((0:Nat):Int)*1=lo:=by simp
  have e2:(((hi - lo).toNat:Nat):Int) - ((0:Nat):Int)=Builtin.Range.rangeSize lo hi 1:=by rw[rangeSize_one];split<;>omega
  show IsRangeIter _ _ (lo+((0:Nat):Int)*1) ((((hi - lo).toNat:Nat):Int) - ((0:Nat):Int)) 1;rw[e1,e2];exact get?_push_size _ rfl
 .have e:b=(s.heap.push {cls:=.type "range",data:=.fields #[.int lo t,.int hi u,.int 1 v]}).objs.size:=by simpa using hb
  subst e;exact I1.nD (le_refl _) (I1.bH.fresh (le_refl _))
def M9 (ta:TA):TI:=fun σ H R=>ta σ H fun vs H1=>∃j:Int,vs=[.int j]/\ -(2^62)<=j/\j<2^62/\R (E6 0 j.toNat) H1
theorem eR {a:Expr} {p:Pos} (hg:Gl X "range") (hm:X.mg "range"=none) (ha:PA X [a] ta) (hs:starEach [a] X.env=[(false,eval a X.env)]:=by rfl):PI X tg (.Call (.Name "range" p) [a] [] pos) (M9 ta):=by
 intro pins s σ H R I h;refine Call_ (m6 I hg hm boot_range (PyProof.Rows.callWith_type1 (bY (ha pos pins s σ H _ I h) fun us s1 ⟨vs,H1,I1,r1,q1⟩=>?_) hs rfl));obtain⟨j,e,q1,q2,q⟩:=q1;subst e;cases r1 with
 |cons r rr=>
  cases rr;obtain⟨t,rfl⟩:=r;exact call_range_1 (IT I1 (by omega) (by omega) q1 q2 (by simpa using q))
def P6 (wi:TI) (g:TG) (tb:TS):TS:=fun D σ H=>wi σ H fun J H1=>∃W:Nat->Nat->St->Hp->Prop,(∃m,W 0 m σ H1)/\∀i m σ H,W i m σ H->
 (J.stop i H/\D.nx σ H)\/ (J.go i H/\∃N:St->Hp->Prop,(∀σ' H',N σ' H'->∃m',m'<m/\W (i+1) m' σ' H')/\∀x H',J.AX i H x H'->g x σ H' fun σ2 H2=>tb {D with nx:=N,ct:=N,bk:=D.nx} σ2 H2)
noncomputable def m3 (fp:List Addr) (h:Heap):List (Addr×Obj):=fp.filterMap fun b=>(h.get? b).map fun o=>(b,o)
theorem fD (hb:b∈fp) (e:h.get? b=some o):(b,o)∈m3 fp h:=List.mem_filterMap.mpr ⟨b,hb,by rw[e];rfl⟩
theorem DL {h:Heap} {p:Addr×Obj} (hp:p∈m3 fp h):p.1∈fp/\h.get? p.1=some p.2:=by
 obtain⟨b,hb,e⟩:=List.mem_filterMap.mp hp;cases q:h.get? b with
 |none=>rw[q]at e;cases e
 |some o=>
  rw[q]at e;have e':(b,o)=p:=Option.some.inj e;subst e';exact⟨hb,q⟩
theorem Inv.pinned (I:Inv X pins σ H s) (hf:∀b∈fp,n6 X pins H b) (ho:∀b∈fp,∃o,s.heap.get? b=some o/\∀v,o.data≠ .cell v):Inv X (pins++m3 fp s.heap) σ H s:=
 I.qP fun p hp=>(mem_append.mp hp).elim (fun z=>I.pin p (mem_append_right _ z)) fun z=>by
  obtain⟨hb,e⟩:=DL z;obtain⟨f0,f1,f2,_⟩:=hf p.1 hb;obtain⟨o,e',d⟩:=ho p.1 hb;rw[e]at e';cases e'
  exact⟨e,f0,f1,f2,d⟩
theorem Inv.jR {pl:List (Addr×Obj)} (I:Inv X (pins++pl) σ H s):Inv X pins σ H s:=I.qP fun p hp=>I.pin p (mem_append_right _ (mem_append_left _ hp))
theorem cJ {iter:Expr} {wi:TI} {g:TG} (hp:PassesOwn (model X.prog X.w) X.A X.env X.xe) (hc:X.calm=true) (hi:PI X tg iter wi) (hg:PG X tg g) (hb:DZ X body tb)
  (hs:∀x,foldedSetIterable iter X.env x=pure x:=by intro _;rfl):PS X (.For tg iter body [] pos) (P6 wi g tb):=by
 intro pins s σ H D I h;refine wpAny_For (bY (hi pins s σ H _ I h) fun v s1 h1=>bY h1 fun itv s2 h2=>?_) hs;obtain⟨it,fp,tn,J,H2,e,I2,T,st2,f2,W,⟨m0,w0⟩,turn⟩:=h2;subst e;have stat:∀{H':Hp},(∀b∈fp,H' b=none)->∀b∈fp,n6 X pins H' b:=fun hn b hb=>⟨hn b hb,(f2 b hb).2⟩
 refine codeAny_forLoop_any (fun n s'=>∃i σ' H',Inv X pins σ' H' s'/\tn i s'.heap/\(∀b∈fp,H' b=none)/\W i n σ' H') ?_ m0 ⟨0,σ,H2,I2,st2,fun b hb=>(f2 b hb).1,w0⟩;rintro n s3 ⟨i,σ3,H3,I3,st3,fr3,w3⟩;rcases turn i n σ3 H3 w3 with⟨stop,qn⟩|⟨go,N,hN,step⟩
 .refine wpAny_passesOwn hp (bY (T.done X rfl rfl rfl hc i pins s3 σ3 H3 X.xe I3 (stat fr3) st3 stop) fun r s4 ⟨hr,I4⟩=>?_);subst hr;exact wpAny_execs_nil ⟨σ3,H3,I4,qn⟩
 .refine wpAny_passesOwn hp (bY (T.item X rfl rfl rfl hc i pins s3 σ3 H3 X.xe I3 (stat fr3) st3 go) fun r s4 ⟨u,hr,h4⟩=>?_);subst hr;refine wpAny_passesOwn hp (bY h4 fun _ s5 ⟨x,H5,I5,r5,y5,st5,fr5⟩=>?_);have I5':=I5.pinned (stat fr5) (T.obj _ _ st5);refine wpAny_passesOwn hp (bY (hg _ s5 σ3 H5 x u _ I5' r5 (step x H5 y5)) fun _ s6 ⟨σ6,H6,I6,q6⟩=>?_);refine wpAny_passesOwn hp (bY (hb _ s6 σ6 H6 _ I6 q6) fun f s7 q7=>?_);have again:∀{σ7:St} {H7:Hp},Inv X (pins++m3 fp s5.heap) σ7 H7 s7->N σ7 H7->∃m,m<n/\∃i σ' H',Inv X pins σ' H' s7/\tn i s7.heap/\(∀b∈fp,H' b=none)/\W i m σ' H':=fun{σ7 H7} I7 n7=>by
   obtain⟨m',hm,w7⟩:=hN σ7 H7 n7;refine⟨m',hm,i+1,σ7,H7,I7.jR,T.keep _ _ _ st5 fun b hb o e=>(I7.pin (b,o) (mem_append_right _ (mem_append_right _ (fD hb e)))).1,fun b hb=>?_,w7⟩;obtain⟨o,e,d⟩:=T.obj _ _ st5 b hb;exact(I7.pin (b,o) (mem_append_right _ (mem_append_right _ (fD hb e)))).2.1
  cases f with
  |next=>obtain⟨σ7,H7,I7,n7⟩:=q7;exact again I7 n7
  |cont=>obtain⟨σ7,H7,I7,n7⟩:=q7;exact again I7 n7
  |brk=>obtain⟨σ7,H7,I7,q7⟩:=q7;exact⟨σ7,H7,I7.jR,q7⟩
  |ret v=>obtain⟨x7,σ7,H7,I7,r7,q7⟩:=q7;exact⟨x7,σ7,H7,I7.jR,r7,q7⟩
end
theorem sT {g:TG} {σ:St} {H:Hp} (Pv:Nat->St->Hp->Prop) (h0:Pv 0 σ H) (hl:∀i σ H,i<=xs.length->Pv i σ H->bC K H a xs)
  (hs:∀i x σ H,xs[i]? =some x->Pv i σ H->g x σ H fun σ2 H2=>tb {D with nx:=Pv (i+1),ct:=Pv (i+1),bk:=D.nx} σ2 H2) (hd:∀σ H,Pv xs.length σ H->D.nx σ H):
  ∃W:Nat->Nat->St->Hp->Prop,(∃m,W 0 m σ H)/\∀i m σ H,W i m σ H->
   ((KD K a).stop i H/\D.nx σ H)\/ ((KD K a).go i H/\∃N:St->Hp->Prop,(∀σ' H',N σ' H'->∃m',m'<m/\W (i+1) m' σ' H')/\∀x H',(KD K a).AX i H x H'->g x σ H' fun σ2 H2=>tb {D with nx:=N,ct:=N,bk:=D.nx} σ2 H2):=by
 refine⟨fun i m σ H=>m=xs.length - i/\i<=xs.length/\Pv i σ H,⟨xs.length,by simp,zero_le _,h0⟩,?_⟩;rintro i m σ H ⟨rfl,hi,p⟩;have q:=hl i σ H hi p
 by_cases hlt:i<xs.length
 .refine .inr ⟨⟨xs,xs[i],q,by simp[hlt]⟩,Pv (i+1),fun σ' H' p'=>⟨xs.length - (i+1),by omega,rfl,hlt,p'⟩,fun x H' y=>?_⟩;obtain⟨e,y⟩:=y;subst e;exact hs i x σ _ (y xs q) p
 .have e:i=xs.length:=by omega
  subst e;exact .inl ⟨⟨xs,q,le_refl _⟩,hd σ H p⟩
theorem qL {g:TG} {σ:St} {H:Hp} (Pv:Nat->St->Hp->Prop) (h0:Pv 0 σ H) (hl:∀i σ H,i<=xs.length->Pv i σ H->bU K H a xs)
  (hs:∀i x σ H,xs[i]? =some x->Pv i σ H->g x σ H fun σ2 H2=>tb {D with nx:=Pv (i+1),ct:=Pv (i+1),bk:=D.nx} σ2 H2) (hd:∀σ H,Pv xs.length σ H->D.nx σ H):
  ∃W:Nat->Nat->St->Hp->Prop,(∃m,W 0 m σ H)/\∀i m σ H,W i m σ H->
   ((MI K a).stop i H/\D.nx σ H)\/ ((MI K a).go i H/\∃N:St->Hp->Prop,(∀σ' H',N σ' H'->∃m',m'<m/\W (i+1) m' σ' H')/\∀x H',(MI K a).AX i H x H'->g x σ H' fun σ2 H2=>tb {D with nx:=N,ct:=N,bk:=D.nx} σ2 H2):=by
 refine⟨fun i m σ H=>m=xs.length - i/\i<=xs.length/\Pv i σ H,⟨xs.length,by simp,zero_le _,h0⟩,?_⟩;rintro i m σ H ⟨rfl,hi,p⟩;have q:=hl i σ H hi p
 by_cases hlt:i<xs.length
 .refine .inr ⟨⟨xs,xs[i],q,by simp[hlt]⟩,Pv (i+1),fun σ' H' p'=>⟨xs.length - (i+1),by omega,rfl,hlt,p'⟩,fun x H' y=>?_⟩;obtain⟨e,y⟩:=y;subst e;exact hs i x σ _ (y xs q) p
 .have e:i=xs.length:=by omega
  subst e;exact .inl ⟨⟨xs,q,le_refl _⟩,hd σ H p⟩
theorem iG {g:TG} {σ:St} {H:Hp} (Pv:Nat->St->Hp->Prop) (h0:Pv 0 σ H)
  (hs:∀i σ H,i<n->Pv i σ H->g (.int (lo+i)) σ H fun σ2 H2=>tb {D with nx:=Pv (i+1),ct:=Pv (i+1),bk:=D.nx} σ2 H2) (hd:∀σ H,Pv n σ H->D.nx σ H):
  ∃W:Nat->Nat->St->Hp->Prop,(∃m,W 0 m σ H)/\∀i m σ H,W i m σ H->
   ((E6 lo n).stop i H/\D.nx σ H)\/ ((E6 lo n).go i H/\∃N:St->Hp->Prop,(∀σ' H',N σ' H'->∃m',m'<m/\W (i+1) m' σ' H')/\∀x H',(E6 lo n).AX i H x H'->g x σ H' fun σ2 H2=>tb {D with nx:=N,ct:=N,bk:=D.nx} σ2 H2):=by
 refine⟨fun i m σ H=>m=n - i/\i<=n/\Pv i σ H,⟨n,by simp,zero_le _,h0⟩,?_⟩;rintro i m σ H ⟨rfl,hi,p⟩
 by_cases hlt:i<n
 .refine .inr ⟨hlt,Pv (i+1),fun σ' H' p'=>⟨n - (i+1),by omega,rfl,hlt,p'⟩,fun x H' y=>?_⟩;obtain⟨e,y⟩:=y;subst e y;exact hs i σ _ hlt p
 .have e:i=n:=by omega
  subst e;exact .inl ⟨le_refl _,hd σ H p⟩
abbrev R2:=V->V->Hp->VK->Prop
def j3 (X:Cx) (f:Value->Value->Sem Value) (r:R2):Prop:=
 ∀(pins:List (Addr×Obj)) (s:Shared) (σ:St) (H:Hp) (x y:V) (v u:Value) (Q:VK),Inv X pins σ H s->RelV x v->RelV y u->r x y H Q->
  wpAny (model X.prog X.w) X.A (f v u) (EP X pins σ Q) X.xe s
def T4 (X:Cx) (f:Value->Sem Value) (r:V->Hp->VK->Prop):Prop:=
 ∀(pins:List (Addr×Obj)) (s:Shared) (σ:St) (H:Hp) (x:V) (v:Value) (Q:VK),Inv X pins σ H s->RelV x v->r x H Q->
  wpAny (model X.prog X.w) X.A (f v) (EP X pins σ Q) X.xe s
def dW (X:Cx) (f:Value) (r:List V->Hp->VK->Prop):Prop:=
 ∀(pins:List (Addr×Obj)) (s:Shared) (σ:St) (H:Hp) (xs:List V) (us:List Value) (Q:VK),Inv X pins σ H s->Vals xs us->r xs H Q->
  wpAny (model X.prog X.w) X.A (call f us) (EP X pins σ Q) X.xe s
def jS (r:R2) (ta tb:TE):TE:=fun σ H Q=>ta σ H fun x H1=>tb σ H1 fun y H2=>r x y H2 Q
def ML (r:V->Hp->VK->Prop) (ta:TE):TE:=fun σ H Q=>ta σ H fun x H1=>r x H1 Q
def rI (C:Int->Int->Prop) (g:Int->Int->V):R2:=fun x y H Q=>∃i j,x= .int i/\y= .int j/\C i j/\Q (g i j) H
def zZ (g:Int->Int->V):R2:=fun x y H Q=>∃i j,x= .int i/\y= .int j/\Q (g i j) H
def rU (g:Int->V):V->Hp->VK->Prop:=fun x H Q=>∃i,x= .int i/\Q (g i) H
section
variable {X:Cx} {a b c:Expr} {ta tb tc:TE} {pos:Pos}
theorem N8 (ha:PE X a ta) (hb:PE X b tb) {R:V->V->Hp->Prop} (I:Inv X pins σ H s)
  (h:ta σ H fun x H1=>tb σ H1 fun y H2=>R x y H2)
  (hf:∀v u s2 x y H2,Inv X pins σ H2 s2->RelV x v->RelV y u->R x y H2->wpAny (model X.prog X.w) X.A (f v u) Q X.xe s2):
  wpAny (model X.prog X.w) X.A (eval a X.env) (fun v s₁=>wpAny (model X.prog X.w) X.A (eval b X.env) (fun u s₂=>wpAny (model X.prog X.w) X.A (f v u) Q X.xe s₂) X.xe s₁) X.xe s:=by
 refine bY (ha pins s σ H _ I h) fun v s1 ⟨x,H1,I1,r1,q1⟩=>?_
 refine bY (hb pins s1 σ H1 _ I1 q1) fun u s2 ⟨y,H2,I2,r2,q2⟩=>?_
 exact hf v u s2 x y H2 I2 r1 r2 q2
theorem bD {op:Operator} (ho:j3 X (binaryOp op) r) (ha:PE X a ta) (hb:PE X b tb):PE X (.BinOp a op b pos) (jS r ta tb):=by
 intro pins s σ H Q I h;exact wpAny_BinOp (N8 ha hb I h fun v u s2 x y H2 I2 rx ry q=>ho pins s2 σ H2 x y v u Q I2 rx ry q)
theorem y0 {op:UnaryOp} {r:V->Hp->VK->Prop} (ho:T4 X (unaryOp op) r) (ha:PE X a ta):PE X (.UnaryOp op a pos) (ML r ta):=by
 intro pins s σ H Q I h;exact UnaryOp_ (bY (ha pins s σ H _ I h) fun v s1 ⟨x,H1,I1,r1,q1⟩=>ho pins s1 σ H1 x v Q I1 r1 q1)
theorem SD {C:Int->Int->Prop}
  (rule:∀(i j:Int) (t u:Tok) (s:Shared) (Q:Value->Shared->Prop) (E:Value->Shared->Prop),C i j->Q (.int (g i j) s.toks) {s with toks:=s.toks+1}->wpAny (model X.prog X.w) X.A (f (.int i t) (.int j u)) Q E s):
  j3 X f (rI C fun i j=>.int (g i j)):=by
 intro pins s σ H x y v u Q I rx ry h;obtain⟨i,j,rfl,rfl,hc,q⟩:=h;obtain⟨t,rfl⟩:=rx;obtain⟨t',rfl⟩:=ry;exact rule i j t t' s _ _ hc ⟨.int (g i j),H,I.tok _,⟨_,rfl⟩,q⟩
theorem QT
  (rule:∀(i j:Int) (t u:Tok) (s:Shared) (Q:Value->Shared->Prop) (E:Value->Shared->Prop),Q (.int (g i j) s.toks) {s with toks:=s.toks+1}->wpAny (model X.prog X.w) X.A (f (.int i t) (.int j u)) Q E s):
  j3 X f (zZ fun i j=>.int (g i j)):=by
 intro pins s σ H x y v u Q I rx ry h;obtain⟨i,j,rfl,rfl,q⟩:=h;obtain⟨t,rfl⟩:=rx;obtain⟨t',rfl⟩:=ry;exact rule i j t t' s _ _ ⟨.int (g i j),H,I.tok _,⟨_,rfl⟩,q⟩
theorem MD {g:Int->Int->Bool}
  (rule:∀(i j:Int) (t u:Tok) (s:Shared) (Q:Value->Shared->Prop) (E:Value->Shared->Prop),Q (.bool (g i j)) s->wpAny (model X.prog X.w) X.A (f (.int i t) (.int j u)) Q E s):
  j3 X f (zZ fun i j=>.bl (g i j)):=by
 intro pins s σ H x y v u Q I rx ry h;obtain⟨i,j,rfl,rfl,q⟩:=h;obtain⟨t,rfl⟩:=rx;obtain⟨t',rfl⟩:=ry;exact rule i j t t' s _ _ ⟨.bl (g i j),H,I,rfl,q⟩
def DV (i j:Int):Prop:=(-(2^64)<i/\i<2^64)\/ (-(2^64)<j/\j<2^64)
theorem DV.ok {i j:Int} (h:DV i j):IntMulOk i j:=by
 rcases h with⟨h1,h2⟩|⟨h1,h2⟩
 .exact .of_left (intBits_le_64 h1 h2)
 .exact .of_right (intBits_le_64 h1 h2)
theorem fM:j3 X (binaryOp .Add) (zZ fun i j=>.int (i+j)):=QT fun _ _ _ _ _ _ _ q=>add_int q
theorem wY:j3 X (binaryOp .Sub) (zZ fun i j=>.int (i - j)):=QT fun _ _ _ _ _ _ _ q=>sub_int q
theorem lE:j3 X (binaryOp .Mult) (rI DV fun i j=>.int (i*j)):=SD fun _ _ _ _ _ _ _ hc q=>mul_int q hc.ok
theorem iL:j3 X (binaryOp .Mod) (rI (fun _ j=>0<j) fun i j=>.int (i % j)):=SD fun i j _ _ _ _ _ hc q=>by
 have h1:(0:Int)<j:=hc;exact mod_int' (by omega) (by rw[Int.fmod_eq_emod_of_nonneg i (by omega)];exact q)
theorem U7 {f:Value->Sem Value} {g:Int->Int}
  (rule:∀(i:Int) (t:Tok) (s:Shared) (Q:Value->Shared->Prop) (E:Value->Shared->Prop),Q (.int (g i) s.toks) {s with toks:=s.toks+1}->wpAny (model X.prog X.w) X.A (f (.int i t)) Q E s):
  T4 X f (rU fun i=>.int (g i)):=by
 intro pins s σ H x v Q I rx h;obtain⟨i,rfl,q⟩:=h;obtain⟨t,rfl⟩:=rx;exact rule i t s _ _ ⟨.int (g i),H,I.tok _,⟨_,rfl⟩,q⟩
theorem rX:T4 X (unaryOp .USub) (rU fun i=>.int (-i)):=U7 fun _ _ _ _ _ q=>neg_int q
end
noncomputable def RE:V->V->Bool
 | .aP,.aP=>true| .aP,.int _=>true| .int _,.aP=>true| .aP,.bl _=>true| .bl _,.aP=>true| .aP,.str _=>true| .str _,.aP=>true
 | .int _,.int _=>true| .bl _,.bl _=>true| .str _,.str _=>true| .GY _,.GY _=>true
 | .int _,.str _=>true| .str _,.int _=>true| .bl _,.str _=>true| .str _,.bl _=>true
 |_,_=>false
def RZ:R2:=fun x y H Q=>RE x y=true/\Q (.bl (decide (x=y))) H
def SA:R2:=fun x y H Q=>RE x y=true/\Q (.bl (!decide (x=y))) H
theorem CV {i j:Int}:decide (V.int i=V.int j)=(i==j):=by
 rw[Bool.eq_iff_iff];simp
theorem GI {i j:Bool}:decide (V.bl i=V.bl j)=(i==j):=by
 rw[Bool.eq_iff_iff];simp
theorem CF {i j:Str}:decide (V.str i=V.str j)=(i==j):=by
 rw[Bool.eq_iff_iff];simp
theorem C0 {i j:Array UInt8}:decide (V.GY i=V.GY j)=(i.toList==j.toList):=by
 rw[Bool.eq_iff_iff];cases i;cases j;simp
section
variable {X:Cx} {a b c:Expr} {ta tb tc:TE} {pos:Pos}
theorem bM {Q:VK} {k k':Bool} (I:Inv X pins σ H s) (q:Q (.bl k) H) (e:k=k'):EP X pins σ Q (.bool k') s:=by
 subst e;exact⟨.bl k,H,I,rfl,q⟩
theorem lJ:j3 X (compareOp .Eq) RZ:=by
 intro pins s σ H x y v u Q I rx ry h;obtain⟨hs,q⟩:=h;cases x with
 |aP=>
  cases rx;cases y with
  |aP=>cases ry;exact PySem.EqNone.eq_none_none (bM I q (by simp))
  |bl j=>cases ry;exact PySem.EqNone.eq_none_bool (bM I q (by simp))
  |int j=>obtain⟨t',rfl⟩:=ry;exact PySem.EqNone.eq_none_int (bM I q (by simp))
  |str j=>obtain⟨t',rfl⟩:=ry;exact PySem.EqNone.eq_none_str (bM I q (by simp))
  |_=>exact absurd (show false=true from hs) Bool.false_ne_true
 |bl i=>
  cases rx;cases y with
  |aP=>cases ry;exact PySem.EqNone.eq_bool_none (bM I q (by simp))
  |bl j=>cases ry;exact eq_bool (bM I q GI)
  |str j=>obtain⟨t',rfl⟩:=ry;exact PySem.EqMixed.eq_bool_str (bM I q (by simp))
  |_=>exact absurd (show false=true from hs) Bool.false_ne_true
 |int i=>
  obtain⟨t,rfl⟩:=rx;cases y with
  |aP=>cases ry;exact PySem.EqNone.eq_int_none (bM I q (by simp))
  |int j=>obtain⟨t',rfl⟩:=ry;exact eq_int (bM I q CV)
  |str j=>obtain⟨t',rfl⟩:=ry;exact PySem.EqMixed.eq_int_str (bM I q (by simp))
  |_=>exact absurd (show false=true from hs) Bool.false_ne_true
 |str i=>
  obtain⟨t,rfl⟩:=rx;cases y with
  |aP=>cases ry;exact PySem.EqNone.eq_str_none (bM I q (by simp))
  |bl j=>cases ry;exact PySem.EqMixed.eq_str_bool (bM I q (by simp))
  |int j=>obtain⟨t',rfl⟩:=ry;exact PySem.EqMixed.eq_str_int (bM I q (by simp))
  |str j=>obtain⟨t',rfl⟩:=ry;exact eq_str (bM I q CF)
  |_=>exact absurd (show false=true from hs) Bool.false_ne_true
 |GY i=>
  obtain⟨t,rfl⟩:=rx;cases y with
  |GY j=>obtain⟨t',rfl⟩:=ry;exact PySem.W.eq_bytes (bM I q C0)
  |_=>exact absurd (show false=true from hs) Bool.false_ne_true
 |_=>cases y<;>exact absurd (show false=true from hs) Bool.false_ne_true
theorem rB:j3 X (compareOp .NotEq) SA:=by
 intro pins s σ H x y v u Q I rx ry h;obtain⟨hs,q⟩:=h;cases x with
 |aP=>
  cases rx;cases y with
  |aP=>cases ry;exact PySem.EqNone.ne_none_none (bM I q (by simp))
  |bl j=>cases ry;exact PySem.EqNone.ne_none_bool (bM I q (by simp))
  |int j=>obtain⟨t',rfl⟩:=ry;exact PySem.EqNone.ne_none_int (bM I q (by simp))
  |str j=>obtain⟨t',rfl⟩:=ry;exact PySem.EqNone.ne_none_str (bM I q (by simp))
  |_=>exact absurd (show false=true from hs) Bool.false_ne_true
 |bl i=>
  cases rx;cases y with
  |aP=>cases ry;exact PySem.EqNone.ne_bool_none (bM I q (by simp))
  |bl j=>cases ry;exact ne_bool (bM I q (congrArg not GI))
  |str j=>obtain⟨t',rfl⟩:=ry;exact PySem.EqMixed.ne_bool_str (bM I q (by simp))
  |_=>exact absurd (show false=true from hs) Bool.false_ne_true
 |int i=>
  obtain⟨t,rfl⟩:=rx;cases y with
  |aP=>cases ry;exact PySem.EqNone.ne_int_none (bM I q (by simp))
  |int j=>obtain⟨t',rfl⟩:=ry;exact ne_int (bM I q (congrArg not CV))
  |str j=>obtain⟨t',rfl⟩:=ry;exact PySem.EqMixed.ne_int_str (bM I q (by simp))
  |_=>exact absurd (show false=true from hs) Bool.false_ne_true
 |str i=>
  obtain⟨t,rfl⟩:=rx;cases y with
  |aP=>cases ry;exact PySem.EqNone.ne_str_none (bM I q (by simp))
  |bl j=>cases ry;exact PySem.EqMixed.ne_str_bool (bM I q (by simp))
  |int j=>obtain⟨t',rfl⟩:=ry;exact PySem.EqMixed.ne_str_int (bM I q (by simp))
  |str j=>obtain⟨t',rfl⟩:=ry;exact ne_str (bM I q (congrArg not CF))
  |_=>exact absurd (show false=true from hs) Bool.false_ne_true
 |GY i=>
  obtain⟨t,rfl⟩:=rx;cases y with
  |GY j=>obtain⟨t',rfl⟩:=ry;exact PySem.W.ne_bytes (bM I q (congrArg not C0))
  |_=>exact absurd (show false=true from hs) Bool.false_ne_true
 |_=>cases y<;>exact absurd (show false=true from hs) Bool.false_ne_true
theorem NL:j3 X (compareOp .Lt) (zZ fun i j=>.bl (decide (i<j))):=MD fun _ _ _ _ _ _ _ q=>lt_int q
theorem C8:j3 X (compareOp .LtE) (zZ fun i j=>.bl (decide (i<=j))):=MD fun _ _ _ _ _ _ _ q=>le_int q
theorem HS:j3 X (compareOp .Gt) (zZ fun i j=>.bl (decide (j<i))):=MD fun _ _ _ _ _ _ _ q=>gt_int q
theorem RT:j3 X (compareOp .GtE) (zZ fun i j=>.bl (decide (j<=i))):=MD fun _ _ _ _ _ _ _ q=>ge_int q
theorem tW:j3 X (compareOp .Lt) (fun x y H Q=>∃i j,x= .str i/\y= .str j/\Q (.bl (decide (i.cps.toList<j.cps.toList))) H):=by
 intro pins s σ H x y v u Q I rx ry h;obtain⟨i,j,rfl,rfl,q⟩:=h;obtain⟨t,rfl⟩:=rx;obtain⟨t',rfl⟩:=ry;exact lt_str (bM I q rfl)
theorem uC:j3 X (compareOp .In) (fun x y H Q=>∃i j,x= .str i/\y= .str j/\Q (.bl (!(Builtin.Str.occurrences j i 0 j.length 1).isEmpty)) H):=by
 intro pins s σ H x y v u Q I rx ry h;obtain⟨i,j,rfl,rfl,q⟩:=h;obtain⟨t,rfl⟩:=rx;obtain⟨t',rfl⟩:=ry;exact in_str (bM I q rfl)
theorem wD:j3 X (compareOp .Is) (fun x y H Q=>y= .aP/\Q (.bl (decide (x= .aP))) H):=by
 intro pins s σ H x y v u Q I rx ry h;obtain⟨rfl,q⟩:=h;cases ry;refine is_none_gen (bM I q ?_);cases x<;>first
  |(cases rx;rfl)
  |(obtain⟨t,rfl⟩:=rx;rfl)
theorem jY:j3 X (compareOp .IsNot) (fun x y H Q=>y= .aP/\Q (.bl (!decide (x= .aP))) H):=by
 intro pins s σ H x y v u Q I rx ry h;obtain⟨rfl,q⟩:=h;cases ry;refine isnot_none_gen (bM I q ?_);cases x<;>first
  |(cases rx;rfl)
  |(obtain⟨t,rfl⟩:=rx;rfl)
theorem bG (b:Expr) {op:CmpOp} (h:op≠ .In:=by decide) (h2:op≠ .NotIn:=by decide):behindInMarks op b=false:=by
 have e1:(op==CmpOp.In)=false:=by cases op<;>first|rfl|exact absurd rfl h
 have e2:(op==CmpOp.NotIn)=false:=by cases op<;>first|rfl|exact absurd rfl h2
 cases b<;>simp[behindInMarks,e1,e2]
theorem cR (ho:j3 X (compareOp op) r) (ha:PE X a ta) (hb:PE X b tb) (hm:behindInMarks op b=false):PE X (.Compare a [op] [b] pos) (jS r ta tb):=by
 intro pins s σ H Q I h;exact wpAny_Compare1 (N8 ha hb I h fun v u s2 x y H2 I2 rx ry q=>ho pins s2 σ H2 x y v u Q I2 rx ry q) hm
def gZ (t:TE):TT:=fun σ H Q=>t σ H fun x H'=>∃k,x= .bl k/\Q k H'
theorem aT (ho:j3 X (compareOp op) r) (ha:PE X a ta) (hb:PE X b tb) (hm:behindInMarks op b=false):PT X (.Compare a [op] [b] pos) (gZ (jS r ta tb)):=by
 intro pins s σ H Q I h;refine wpAny_isTrue_Compare1 (bY (ha pins s σ H _ I h) fun v s1 ⟨x,H1,I1,r1,q1⟩=>bY (hb pins s1 σ H1 _ I1 q1) fun u s2 ⟨y,H2,I2,r2,q2⟩=>
  bY (ho pins s2 σ H2 x y v u _ I2 r1 r2 q2) fun c s3 ⟨z,H3,I3,r3,k,e,q3⟩=>?_) hm
 subst e;cases r3;exact wpAny_truthy_bool ⟨H3,I3,q3⟩
def pI (r r':R2) (ta tb tc:TE):TE:=fun σ H Q=>ta σ H fun x H1=>tb σ H1 fun y H2=>r x y H2 fun z H3=>∃k,z= .bl k/\
 (if k=true then tc σ H3 fun w' H4=>r' y w' H4 Q else Q (.bl false) H3)
theorem HN (ho:j3 X (compareOp op) r) (ho':j3 X (compareOp op') r') (ha:PE X a ta) (hb:PE X b tb) (hc:PE X c tc)
  (hm:lastMarks [op,op'] [b,c]=false:=by with_unfolding_all rfl):PE X (.Compare a [op,op'] [b,c] pos) (pI r r' ta tb tc):=by
 intro pins s σ H Q I h;refine Compare_chain (bY (ha pins s σ H _ I h) fun v s1 ⟨x,H1,I1,r1,q1⟩=>chain_link (bY (hb pins s1 σ H1 _ I1 q1) fun u s2 ⟨y,H2,I2,r2,q2⟩=>
  bY (ho pins s2 σ H2 x y v u _ I2 r1 r2 q2) fun d s3 ⟨z,H3,I3,r3,k,e,q3⟩=>?_)) hm
 subst e;cases r3;refine wpAny_truthy_bool ?_;cases k with
 |false=>exact ite_ff ⟨.bl false,H3,I3,rfl,q3⟩
 |true=>exact ite_tt (chain_last (bY (hc pins s3 σ H3 _ I3 q3) fun w' s4 ⟨z',H4,I4,r4,q4⟩=>ho' pins s4 σ H4 y z' u w' Q I4 r2 r4 q4))
theorem HQ (ho:j3 X (compareOp op) r) (ho':j3 X (compareOp op') r') (ha:PE X a ta) (hb:PE X b tb) (hc:PE X c tc)
  (hm:lastMarks [op,op'] [b,c]=false:=by with_unfolding_all rfl):PT X (.Compare a [op,op'] [b,c] pos) (gZ (pI r r' ta tb tc)):=by
 intro pins s σ H Q I h;refine isTrue_chain (bY (ha pins s σ H _ I h) fun v s1 ⟨x,H1,I1,r1,q1⟩=>test_link (bY (hb pins s1 σ H1 _ I1 q1) fun u s2 ⟨y,H2,I2,r2,q2⟩=>
  bY (ho pins s2 σ H2 x y v u _ I2 r1 r2 q2) fun d s3 ⟨z,H3,I3,r3,k,e,q3⟩=>?_)) hm
 subst e;cases r3;refine wpAny_truthy_bool ?_;cases k with
 |false=>
  obtain⟨k',e',q'⟩:=q3;cases e';exact ite_ff ⟨H3,I3,q'⟩
 |true=>
  refine ite_tt (test_last (bY (hc pins s3 σ H3 _ I3 q3) fun w' s4 ⟨z',H4,I4,r4,q4⟩=>bY (ho' pins s4 σ H4 y z' u w' _ I4 r2 r4 q4) fun d' s5 ⟨z2,H5,I5,r5,k2,e2,q5⟩=>?_));subst e2;cases r5;exact wpAny_truthy_bool ⟨H5,I5,q5⟩
theorem pK:(sizeLine:Nat)<2^63:=by rw[sizeLine_eq];decide
theorem jV:j3 X (binaryOp .Add) (fun x y H Q=>∃i j,x= .str i/\y= .str j/\i.length+j.length<=sizeLine/\Q (.str (i++j)) H):=by
 intro pins s σ H x y v u Q I rx ry h;obtain⟨i,j,rfl,rfl,hz,q⟩:=h;obtain⟨t,rfl⟩:=rx;obtain⟨t',rfl⟩:=ry;exact add_str (fun t' tk=>⟨.str (i++j),H,I.tok _,⟨_,rfl⟩,q⟩) hz
theorem vals1 {x:V} (r:Vals [x] us):∃u,us=[u]/\RelV x u:=by
 cases r with
 |cons r1 r2=>cases r2;exact⟨_,rfl,r1⟩
theorem vals2 {x:V} (r:Vals [x,y] us):∃u w',us=[u,w']/\RelV x u/\RelV y w':=by
 cases r with
 |cons r1 r2=>
  cases r2 with
  |cons r3 r4=>cases r4;exact⟨_,_,rfl,r1,r3⟩
theorem DS (hc:X.calm=true):dW X (.builtin "max") (fun xs H Q=>∃i j,xs=[.int i,.int j]/\Q (.int (if j>i then j else i)) H):=by
 intro pins s σ H xs us Q I r h;obtain⟨i,j,rfl,q⟩:=h;obtain⟨u,w',rfl,⟨t,rfl⟩,⟨t',rfl⟩⟩:=vals2 r;refine max_two_ints (I.ok.hd hc) fun h' tk k=>⟨_,H,I.kept k,?_,q⟩
 by_cases hj:j>i
 .rw[if_pos hj,if_pos hj];exact⟨_,rfl⟩
 .rw[if_neg hj,if_neg hj];exact⟨_,rfl⟩
theorem DT (hc:X.calm=true):dW X (.builtin "min") (fun xs H Q=>∃i j,xs=[.int i,.int j]/\Q (.int (if j<i then j else i)) H):=by
 intro pins s σ H xs us Q I r h;obtain⟨i,j,rfl,q⟩:=h;obtain⟨u,w',rfl,⟨t,rfl⟩,⟨t',rfl⟩⟩:=vals2 r;refine min_two_ints (I.ok.hd hc) fun h' tk k=>⟨_,H,I.kept k,?_,q⟩
 by_cases hj:j<i
 .rw[if_pos hj,if_pos hj];exact⟨_,rfl⟩
 .rw[if_neg hj,if_neg hj];exact⟨_,rfl⟩
theorem uW:dW X (.type "int") (fun xs H Q=>(∃i,xs=[.int i]/\Q (.int i) H)\/ ∃k,xs=[.bl k]/\Q (.int (if k then 1 else 0)) H):=by
 intro pins s σ H xs us Q I r h;rcases h with⟨i,rfl,q⟩|⟨k,rfl,q⟩
 .obtain⟨u,rfl,t,rfl⟩:=vals1 r;exact call_int_int ⟨.int i,H,I,⟨_,rfl⟩,q⟩
 .obtain⟨u,rfl,r1⟩:=vals1 r;cases r1;exact call_int_bool ⟨.int (if k then 1 else 0),H,I.tok _,⟨_,rfl⟩,q⟩
end
structure O0 (h:Heap) (x dx C:Addr) (mA:Str->Option Value):Prop where
 obj:h.get? x=some (instObj C dx)
 ns:h.Ns1 dx mA
 ne:dx≠x
theorem EY (n:h.Ns1 dx mA):∃od,h.get? dx=some od/\∀name,lookIn name od=some (mA name):=by
 obtain⟨o,es,ep,ho,hd,hk,_,hm⟩:=n;refine⟨o,ho,fun name=>?_⟩;have e:=hm name;unfold nsFind findBy at e;rw[<-Array.find?_toList]at e;unfold lookIn;rw[hd];dsimp only;split
 .rename_i y q;rw[q]at e;exact congrArg some e
 .rename_i q;rw[q]at e;have a:es.toList.any (·.refKey)=false:=by
   rw[List.any_eq_false];intro y hy;obtain⟨z,t,hkey⟩:=hk y (Array.mem_toList_iff.mp hy);simp[DictEntry.refKey,hkey]
  have a':¬es.toList.any (·.refKey)=true:=by rw[a];exact Bool.false_ne_true
  rw[if_neg a'];exact congrArg some e
theorem O0.look {x:Addr} (I:O0 h x dx C mA):∃od,PySem.W.InstAt h x (instObj C dx) C (some od)/\∀name,lookIn name od=some (mA name):=
 let⟨od,ho,hl⟩:=EY I.ns
 ⟨od,⟨I.obj,rfl,rfl,ho⟩,hl⟩
theorem nU.some_of {v:V} {o:Option Value} (r:nU (some v) o):∃u,o=some u/\RelV v u:=by
 cases o with
 |none=>exact(show False from r).elim
 |some u=>exact⟨u,rfl,r⟩
section
variable {P:Program} {w:World} {H H':Hp} {h h':Heap} {a C dx:Addr} {fs fs':List (Str×V)}
theorem KG (bH:jL P w H h) (e:H a=some (.ins C dx fs)):∃mA,O0 h a dx C mA/\(∀f,nU (fs.lookup f) (mA f))/\PySem.Within mA (fs.map (·.1))/\fs.length<=1000/\H dx=some (.own a):=by
 obtain⟨d,z,ne,ob,mA,n,r,q⟩:=(show cB P w H h a (.ins C dx fs)from bH a _ e);exact⟨mA,⟨ob,n,ne⟩,r,q,z,d⟩
end
structure UJ (K:Frag) (C:Addr):Prop where
 pg:plainGet K C Str.empty=true
 hd:PySem.W.hasDictIn K C=true
 po:PySem.W.plainOver K C=true
 sa:findIn K (.ref C) "__setattr__"=some (some (.builtin "object.__setattr__"))
theorem UJ.get (c:UJ K C) (f:Str):plainGet K C f=true:=c.pg
section
variable {X:Cx} {pins:List (Addr×Obj)} {σ:St} {H:Hp} {s:Shared} {A:Around} {E:Value->Shared->Prop} {Q:Value->Shared->Prop} {c:Value} {b:Bool}
inductive mP (K:Frag) (H:Hp):V->Value->Prop where
 |aP:mP K H .aP (.type "NoneType")
 |bl (x:Bool):mP K H (.bl x) (.type "bool")
 |int (i:Int):mP K H (.int i) (.type "int")
 |str (x:Str):mP K H (.str x) (.type "str")
 |QB (x:UInt64):mP K H (.QB x) (.type "float")
 |lst {a:Addr} {xs:List V} (e:H a=some (.lst xs)):mP K H (.ref a) (.type "list")
 |C3 {a:Addr} {o:Obj} {xs:List V} (e:H a=some (.C3 o (.lst xs))):mP K H (.ref a) (.type "list")
 |tup {a:Addr} {xs:List V} (e:H a=some (.tup xs)):mP K H (.ref a) (.type "tuple")
 |dK {a:Addr} {kvs:List (Key×V)} {ep:Nat} (e:H a=some (.dK kvs ep)):mP K H (.ref a) (.type "dict")
 |dT {a:Addr} {kvs:List (List Key×V)} (e:H a=some (.dT kvs)):mP K H (.ref a) (.type "dict")
 | ins {a C dx:Addr} {fs:List (Str×V)} (e:H a=some (.ins C dx fs)) (cl:UJ K C) (ha:findIn K (.ref C) "__class__"=some (some (.builtin "object.__class__")))
   (hn:PySem.W.specialIn K (.builtin "object.__class__") "__get__"=some (some (.builtin "getset_descriptor.__get__"))) (htk:PySem.W.takesIn K (.builtin "object.__class__")=some true)
   (hm:mroIn K C (.type "object")=some true):mP K H (.ref a) (.ref C)
theorem EN {x:V} {u t:Value} (I:Inv X pins σ H s) (rx:RelV x u) (ty:mP X.K H x t) (e:kitOne X.K t c=some b) (h:∀tk,Q (.bool b) {s with toks:=tk}):
  wpAny (model X.prog X.w) A (call (.builtin "isinstance") [u,c]) Q E s:=by
 cases ty with
 |aP=>cases(show u=Value.none from rx);exact kia_one PySem.W.kitx_none I.xA True.intro e (fun z=>nomatch z) h
 |bl y=>cases(show u=Value.bool y from rx);exact kia_one PySem.W.kitx_bool I.xA True.intro e (fun z=>nomatch z) h
 |int i=>obtain⟨t,q⟩:=(show∃t,u=Value.int i t from rx);cases q;exact kia_one PySem.W.kitx_int I.xA True.intro e (fun z=>nomatch z) h
 |str y=>obtain⟨t,q⟩:=(show∃t,u=Value.str y t from rx);cases q;exact kia_one PySem.W.kitx_str I.xA True.intro e (fun z=>nomatch z) h
 |QB y=>obtain⟨t,q⟩:=(show∃t,u=Value.float y t from rx);cases q;exact kia_one PySem.W.kitx_float I.xA True.intro e (fun z=>nomatch z) h
 | @lst a xs ea=>
  cases(show u=Value.ref a from rx);obtain⟨_,_,n,_,h1⟩:=(show cB X.prog X.w H s.heap a (.lst xs)from I.bH a _ ea);exact kia_one kitx_list I.xA ⟨_,h1,rfl⟩ e (fun z=>nomatch z) h
 | @C3 a ob xs ea=>
  cases(show u=Value.ref a from rx);obtain⟨_,_,_,n,_,h1⟩:=(show cB X.prog X.w H s.heap a (.C3 ob (.lst xs))from I.bH a _ ea);exact kia_one kitx_list I.xA ⟨_,h1,rfl⟩ e (fun z=>nomatch z) h
 | @tup a xs ea=>
  cases(show u=Value.ref a from rx);obtain⟨_,_,_,p⟩:=(show cB X.prog X.w H s.heap a (.tup xs)from I.bH a _ ea);obtain⟨⟨o,h1,h2,_⟩,_⟩:=p;exact kia_one PySem.W.kitx_tuple I.xA ⟨o,h1,h2⟩ e (fun z=>nomatch z) h
 | @dK a kvs ep ea=>
  cases(show u=Value.ref a from rx);obtain⟨_,_,vs,_,p⟩:=(show cB X.prog X.w H s.heap a (.dK kvs ep)from I.bH a _ ea);obtain⟨o,es,h1,h2,_⟩:=p;exact kia_one kitx_dict I.xA ⟨o,h1,h2.1⟩ e (fun z=>nomatch z) h
 | @dT a kvs ea=>
  cases(show u=Value.ref a from rx);obtain⟨_,_,xs,_,o,es,ep,h1,h2,_⟩:=(show cB X.prog X.w H s.heap a (.dT kvs)from I.bH a _ ea);exact kia_one kitx_dict I.xA ⟨o,h1,h2.1⟩ e (fun z=>nomatch z) h
 | @ins a C dx fs ea cl ha hn htk hm=>
  cases(show u=Value.ref a from rx);obtain⟨mA,O,_⟩:=KG I.bH ea;obtain⟨od,J,_⟩:=O.look;exact kia_one (PySem.W.kitx_own (cl.get _) cl.hd ha hn htk hm) I.xA J e (fun z=>nomatch z) h
end
structure d6 (k:Nat) (A:Around):Prop where
 hd:A.handled=none
 dp:A.depth+3*k+5<recursionLimit
 un:A.units+16*k+200<cLine
 gd:A.guards=some []
theorem d6.mono (r:d6 k A) (h:j<=k):d6 j A:=⟨r.hd,by have:=r.dp;omega,by have:=r.un;omega,r.gd⟩
theorem d6.deeper (r:d6 (k+1) A) (env:Env):d6 k (A.deeper env):=
 ⟨r.hd,by have:=r.dp;show A.depth+1+3*k+5<_;omega,by have:=r.un;show A.units+3+16*k+200<_;omega,r.gd⟩
theorem d6.in1 (r:d6 (k+1) A):d6 k A.in1:=
 ⟨r.hd,by have:=r.dp;show A.depth+3*k+5<_;omega,by have:=r.un;show A.units+1+16*k+200<_;omega,r.gd⟩
theorem d6.depth (r:d6 k A):A.depth<recursionLimit:=by have:=r.dp;omega
theorem d6.units (r:d6 k A):A.units+64<cLine:=by have:=r.un;omega
theorem d6.vP (r:d6 k A):A.units<cLine:=by have:=r.un;omega
def jZ:TA:=fun _ H Q=>Q [] H
def eV (ta:TE) (tr:TA):TA:=fun σ H Q=>ta σ H fun x H1=>tr σ H1 fun xs H2=>Q (x::xs) H2
section
variable {X:Cx} {e:Expr} {es:List Expr} {te:TE} {t:TA} {pos:Pos}
theorem aC:PA X [] jZ:=fun _ _ _ _ H Q I h=>Calls.spliced_nil ⟨[],H,I,.nil,h⟩
theorem aA (ha:PE X e te) (hr:PA X es t) (hs:starEach (e::es) X.env=(false,eval e X.env)::starEach es X.env:=by rfl):PA X (e::es) (eV te t):=by
 intro pos pins s σ H Q I h;rw[hs];show wpAny _ _ (spliced ((false,eval e X.env)::backTo pos (starEach es X.env))) _ _ s;refine Calls.spliced_cons (bY (ha pins s σ H _ I h) fun u s1 ⟨x,H1,I1,r1,q1⟩=>?_);exact bY (hr pos pins s1 σ H1 _ I1 q1) fun us s2 ⟨xs,H2,I2,r2,q2⟩=>⟨x::xs,H2,I2,.cons r1 r2,q2⟩
def IB (t:TA):TE:=fun σ H Q=>t σ H fun xs H1=>xs.length<=sizeLine/\∀p,H1 p=none->Q (.ref p) (upd H1 p (.tup xs))
def AH (t:TA):TE:=fun σ H Q=>t σ H fun xs H1=>xs.length<=sizeLine/\∀p,H1 p=none->Q (.ref p) (upd H1 p (.lst xs))
theorem bP {x1} (h:PA X es t):PE X (.Tuple es x1 pos) (IB t):=by
 intro pins s σ H Q I hq;refine wpAny_Tuple_spliced (bY (h pos pins s σ H _ I hq) fun us s1 ⟨xs,H1,I1,r,z,q⟩=>⟨by rw[<-r.length];exact z,?_⟩);have hf:H1 s1.heap.objs.size=none:=I1.bH.fresh (le_refl _);refine⟨.ref s1.heap.objs.size,upd H1 s1.heap.objs.size (.tup xs),I1.laid (t':=s1.toks) (fun b u e=>get?_push_of_some _ e) (le_refl _) ?_,rfl,q _ hf⟩;exact⟨z,us,r,o8.new _ _⟩
theorem eG (h:PA X es t):PE X (.List es pos) (AH t):=by
 intro pins s σ H Q I hq;refine wpAny_List_spliced (bY (h pos pins s σ H _ I hq) fun us s1 ⟨xs,H1,I1,r,z,q⟩=>⟨by rw[<-r.length];exact z,?_⟩);have hf:H1 s1.heap.objs.size=none:=I1.bH.fresh (le_refl _);refine⟨.ref s1.heap.objs.size,upd H1 s1.heap.objs.size (.lst xs),I1.laid (t':=s1.toks) (fun b u e=>get?_push_of_some _ e) (le_refl _) ?_,rfl,q _ hf⟩;exact⟨z,us,0,r,get?_push_size _ rfl⟩
end
abbrev Sp:=List V->Hp->VK->XK->Prop
abbrev EI:=List Env->Hp->Shared->XK->Value->Shared->Prop
structure MC (P:Program) (w:World) (K:Frag) (mg:Str->Option Value) (base:Heap) (A:Around) (outer:List Env) (s:Shared) (H:Hp):Prop where
 frames:A.frames=some outer
 mod:Mod K mg base
 bs:∀b o,base.get? b=some o->s.heap.get? b=some o/\H b=none
 J2:base.objs.size<=s.heap.objs.size
 pJ:s.heap.FunFrames base outer
 M6:∀b∈AQ outer,H b=none
 bH:jL P w H s.heap
 bare:AllBare s.gens
def CE (outer:List Env) (P:Program) (w:World) (H:Hp) (s:Shared) (Q:VK) (u:Value) (s':Shared):Prop:=
 ∃v H',s'.os=s.os/\AllBare s'.gens/\Un (AQ outer) [] H H' s.heap s'.heap/\jL P w H' s'.heap/\RelV v u/\Q v H'
def CR (CX:EI) (outer:List Env) (P:Program) (w:World) (H:Hp) (s:Shared) (Q:VK) (E:XK) (r:Result) (s':Shared):Prop:=
 match r with
 | .ok (.ret u)=>CE outer P w H s Q u s'
 | .ok _=>False
 | .error e=>CX outer H s E e s'
structure aZ (P:Program) (w:World) (K:Frag) (mg:Str->Option Value) (base:Heap) (CX:EI) (k:Nat) (f:Addr) (fd:FuncData) (ps:List Str) (sp:Sp):Prop where
 len:∀vs H Q E,sp vs H Q E->vs.length=ps.length
 run:∀(A:Around) (outer:List Env) (s:Shared) (H:Hp) (args:Args) (us:List Value) (vs:List V) (Q:VK) (E:XK),d6 k A->MC P w K mg base A outer s H->BindsTo s fd args (ps.zip us)->Vals vs us->sp vs H Q E->
  codeAny (model P w) A (.call (.ref f) args) (CR CX outer P w H s Q E) s
section
variable {X:Cx} {pins:List (Addr×Obj)} {σ:St} {H:Hp} {s s':Shared}
theorem Inv.KO (I:Inv X pins σ H s):MC X.prog X.w X.K X.mg X.base X.A X.stack s H:=
 ⟨I.ok.frames,I.ok.mod,I.bs,le_trans I.ok.J2 I.sz,I.stack,I.CW,I.bH,I.bare⟩
theorem Inv.after {Q:VK} (I:Inv X pins σ H s) (h:CE X.stack X.prog X.w H s Q u s'):EP X pins σ Q u s':=by
 obtain⟨v,H',os,bare,un,bH,r,q⟩:=h;obtain⟨hh,g,d,t,os'⟩:=s';obtain rfl:os'=s.os:=os;exact⟨v,H',I.call (h':=hh) (g':=g) (d':=d) (t':=t) (ch:=[]) un bH bare (fun b z=>absurd z (by simp)),r,q⟩
end
def pP (sp:Sp) (dvs:List V) (E:XK) (t:TA):TE:=fun σ H Q=>t σ H fun vs H1=>sp (vs++dvs) H1 Q E
def Binds (K:Frag) (fd:FuncData) (ps:List Str) (ds:List Value):Prop:=
 ∀(s:Shared) (us:List Value),K.In s.heap->(us++ds).length=ps.length->BindsTo s fd ⟨us,[]⟩ (ps.zip (us++ds))
theorem Binds.all {fd:FuncData} (h:∀us:List Value,us.length=ps.length->bindArgs fd ⟨us,[]⟩=pure (ps.zip us)):Binds K fd ps []:=fun s us _ hl=>by
 rw[append_nil]at hl⊢
 exact .of_eq (h us hl)
def Passes (CX:EI) (X:Cx) (E:XK):Prop:=∀(pins:List (Addr×Obj)) (σ:St) (H:Hp) (s:Shared) (e:Value) (s':Shared),Inv X pins σ H s->CX X.stack H s E e s'->X.xe e s'
section
variable {X:Cx} {CX:EI} {k:Nat} {f C:Addr} {fd:FuncData} {ps:List Str} {sp:Sp} {dvs:List V} {ds:List Value} {E:XK} {x m:Str} {p pos apos:Pos} {e o:Expr} {es:List Expr} {ta:TE} {t:TA}
theorem NP {Q:VK} {vs:List V} (F:aZ X.prog X.w X.K X.mg X.base CX k f fd ps sp) (hr:d6 k X.A) (hb:Binds X.K fd ps ds) (hd:Vals dvs ds) (hx:Passes CX X E)
  (I:Inv X pins σ H s) (r:Vals vs us) (h:sp (vs++dvs) H Q E):wpAny (model X.prog X.w) X.A (call (.ref f) us) (EP X pins σ Q) X.xe s:=by
 have r2:Vals (vs++dvs) (us++ds):=r.append hd;have hl:(us++ds).length=ps.length:=by rw[<-r2.length];exact F.len _ _ _ _ h
 refine wpAny_call (codeAny_mono (F.run X.A X.stack s H ⟨us,[]⟩ (us++ds) (vs++dvs) Q E hr I.KO (hb s us I.xA hl) r2 h) fun r s' hq=>?_);cases r with
 |error e=>exact hx pins σ H s e s' I hq
 |ok fl=>
  cases fl with
  |ret u=>exact I.after hq
  |next=>exact False.elim hq
  |brk=>exact False.elim hq
  |cont=>exact False.elim hq
theorem L9 (F:aZ X.prog X.w X.K X.mg X.base CX k f fd ps sp) (hr:d6 k X.A) (hg:Gl X x) (hm:X.mg x=some (.ref f)) (hk:keepIn X.K (.ref f)=true) (hb:Binds X.K fd ps ds) (hd:Vals dvs ds) (hx:Passes CX X E)
  (ha:PA X (e::es) t) (hdb:(x==("__debug__":Str))=false:=by decide) (he:starEach (e::es) X.env=(false,eval e X.env)::starEach es X.env:=by rfl) (hpl:(backTo pos (starEach es X.env)).any (·.1)=false:=by rfl):
  PE X (.Call (.Name x p) (e::es) [] pos) (pP sp dvs E t):=by
 intro pins s σ H Q I h;refine wpAny_Call_Name_kw (B0 I hg hm ?_ hdb);refine PySem.W.callWith_K (h₀:=X.base) I.ok.mod.TH hk (bY (ha pos pins s σ H _ I h) fun us s1 ⟨vs,H1,I1,r,q⟩=>⟨I1.xA,?_⟩) he hpl;exact NP F hr hb hd hx I1 r q
end
def PK (X:Cx) (kws:List Keyword) (t:TA):Prop:=
 ∀(pos:Pos) (pins:List (Addr×Obj)) (s:Shared) (σ:St) (H:Hp) (Q:List V->Hp->Prop),Inv X pins σ H s->t σ H Q->wpAny (model X.prog X.w) X.A (evalAll ((backToKw pos (keywordEach kws X.env)).map (·.2))) (AP X pins σ Q) X.xe s
section
variable {X:Cx} {CX:EI} {k:Nat} {f C:Addr} {fd:FuncData} {ps ks:List Str} {sp:Sp} {E:XK} {x m:Str} {p pos apos kpos:Pos} {e o:Expr} {es:List Expr} {kws:List Keyword} {te ta:TE} {t tk:TA} {nm:Option Str}
theorem P1:PK X [] jZ:=fun _ _ _ _ H Q I h=>wpAny_evalAll_nil ⟨[],H,I,.nil,h⟩
theorem J7 (ha:PE X e te) (hr:PK X kws t):PK X (⟨nm,e,kpos⟩::kws) (eV te t):=by
 intro pos pins s σ H Q I h;show wpAny _ _ (evalAll ((do let v<-eval e X.env;standAt pos;pure v)::(backToKw pos (keywordEach kws X.env)).map (·.2))) _ _ s;refine wpAny_evalAll_cons (wpAny_bind (bY (ha pins s σ H _ I h) fun u s1 ⟨x,H1,I1,r1,q1⟩=>wpAny_bind (wpAny_standAt (wpAny_pure ?_))));exact bY (hr pos pins s1 σ H1 _ I1 q1) fun us s2 ⟨xs,H2,I2,r2,q2⟩=>⟨x::xs,H2,I2,.cons r1 r2,q2⟩
variable {g:List Value->List Value->List Value} {gV:List V->List V->List V}
end
structure aX (N P:List Str) (sc:Scope):Prop where
 kind:sc.kind= .function
 co:sc.isCoroutine=false
 gen:sc.isGenerator=false
 nd:N.Nodup
 pre:N.take P.length=P
 par:∀x∈P,sc.names.lookup x=some .local\/ sc.names.lookup x=some .cell
 PX:∀y∈sc.names,y.2≠ .free
theorem uO:∀{binds:List (Str×Value)} {m:Str->Option Value},(∀v,(x,v)∉binds)->bindL kindOf binds m x=m x
 |[],_,_=>rfl
 | (n,v)::r,m,h=>by
  unfold bindL;rw[uO fun w hw=>h w (mem_cons_of_mem _ hw)];split
  .have:x≠n:=by rintro rfl;exact h v mem_cons_self
   simp[this]
  .rfl
theorem uA:∀{binds:List (Str×Value)} {m:Str->Option Value},(∀v,(x,v)∉binds)->bindC kindOf binds m x=m x
 |[],_,_=>rfl
 | (n,v)::r,m,h=>by
  unfold bindC;rw[uA fun w hw=>h w (mem_cons_of_mem _ hw)];split
  .rfl
  .have:x≠n:=by rintro rfl;exact h v mem_cons_self
   simp[this]
theorem uM:∀{P:List Str} {vs:List Value} {i:Nat} {m:Str->Option Value},P.Nodup->P[i]? =some x->vs[i]? =some v->kindOf x=some .local->
  bindL kindOf (P.zip vs) m x=some v
 |[],_,_,_,_,h,_,_=>by simp at h
 |_::_,[],_,_,_,_,h,_=>by simp at h
 |p::P,w::vs,0,m,nd,h1,h2,hk=>by
  simp at h1 h2;subst h1;subst h2
  show bindL kindOf ((p,w)::P.zip vs) m p=_;unfold bindL;rw[uO fun v hv=>(nodup_cons.mp nd).1 (of_mem_zip hv).1,if_pos hk];simp
 |p::P,w::vs,i+1,m,nd,h1,h2,hk=>by
  show bindL kindOf ((p,w)::P.zip vs) m x=_;unfold bindL;exact uM (i:=i) (nodup_cons.mp nd).2 (by simpa using h1) (by simpa using h2) hk
theorem u6:∀{P:List Str} {vs:List Value} {i:Nat} {m:Str->Option Value},P.Nodup->P[i]? =some x->vs[i]? =some v->kindOf x≠some .local->
  bindC kindOf (P.zip vs) m x=some v
 |[],_,_,_,_,h,_,_=>by simp at h
 |_::_,[],_,_,_,_,h,_=>by simp at h
 |p::P,w::vs,0,m,nd,h1,h2,hk=>by
  simp at h1 h2;subst h1;subst h2
  show bindC kindOf ((p,w)::P.zip vs) m p=_;unfold bindC;rw[uA fun v hv=>(nodup_cons.mp nd).1 (of_mem_zip hv).1,if_neg hk];simp
 |p::P,w::vs,i+1,m,nd,h1,h2,hk=>by
  show bindC kindOf ((p,w)::P.zip vs) m x=_;unfold bindC;exact u6 (i:=i) (nodup_cons.mp nd).2 (by simpa using h1) (by simpa using h2) hk
noncomputable def start (N:List Str) (vs:List V):St:=vs.map some++List.replicate (N.length - vs.length) none
noncomputable def BJ (CX:EI) (P:Program) (w:World) (K:Frag) (mg:Str->Option Value) (base:Heap) (N:List Str) (qual:Str) (scope:Scope) (f:Addr) (cd:Value) (A:Around) (outer:List Env) (s:Shared) (H:Hp) (E:XK):Cx where
 prog:=P
 w:=w
 K:=K
 mg:=mg
 base:=base
 A:=A.deeper (envOfC qual scope s.heap.objs.size f cd)
 N:=N
 iO:=s
 GQ:=H
 env:=envOfC qual scope s.heap.objs.size f cd
 outer:=outer
 stack:=envOfC qual scope s.heap.objs.size f cd::outer
 ex:=[]
 calm:=true
 fn:=fun _=>true
 pn:=[]
 xe:=fun e s'=>wpAny (model P w) (A.deeper (envOfC qual scope s.heap.objs.size f cd)) (leaving (envOfC qual scope s.heap.objs.size f cd) e) (fun _ s''=>CX outer H s E e s'') (fun e' s''=>CX outer H s E e' s'') s'
theorem y9 {sc:Scope} (h:sc.names.lookup x=some .cell):∃c,(cellsFrom n sc.names []).lookup x=some c:=by
 have q:=PySem.W.cellsFrom_some sc.names n [] (.inl h);exact isSome_iff_exists.mp q
theorem EV {P:Program} {f:Addr} {cd:Value} {outer:List Env} {s s1:Shared} {E:XK} {vs:List V}
  (S:aX N ps scope) (hd:A.handled=none) (e0:MC P w K mg base A outer s H) (hl:vs.length=ps.length) (r:Vals vs us)
  (x:InCallC s s.heap.objs.size (bindL (envOfC qual scope s.heap.objs.size f cd).kindOf (ps.zip us) fun _=>none) (cellsFrom (s.heap.objs.size+1) scope.names []) (bindC (envOfC qual scope s.heap.objs.size f cd).kindOf (ps.zip us) fun _=>none) s1):
  Inv (BJ CX P w K mg base N qual scope f cd A outer s H E) [] (start N vs) H s1:=by
 have hpl:ps.length<=N.length:=by have:=congrArg List.length S.pre;rw[length_take]at this;omega
 obtain⟨h1,tk,rfl,hk⟩:=x.done;have J1:∀b:Addr,b∉(BJ CX P w K mg base N qual scope f cd A outer s H E).ex:=fun b z=>absurd (show b∈([]:List Addr)from z) (by simp)
 refine⟨⟨e0.mod,S.kind,rfl,rfl,le_refl _,fun y z c h1 h2=>?_,fun y hy=>?_,fun y c _ h=>?_,fun _=>hd,Around.frames_deeper e0.frames,.inr ⟨rfl,rfl⟩,fun b z=>absurd z (J1 b),e0.bs,e0.J2,fun b _ _=>J1 b,fun b z=>absurd z (J1 b),e0.pJ,e0.M6⟩,
  rfl,e0.bare,Un.kept hk,⟨_,x.toInCall.ns,fun i y v h1 h2 h3=>?_⟩,fun y c h=>⟨_,x.cell y c h⟩,e0.bH.fresh (le_refl _),fun y c h=>?_,fun p hp=>absurd (show p∈([]:List (Addr×Obj))from hp) (by simp),e0.bH.kept hk,?_⟩
 .exact name_of_addr x.apart (PySem.mem_of_lookup h1) (PySem.mem_of_lookup h2)
 .have hy:scope.names.lookup y=some .cell\/ scope.names.lookup y=some .free:=hy;rcases hy with hy|hy
  .exact y9 hy
  .exact absurd rfl (S.PX _ (PySem.mem_of_lookup hy))
 .exact le_of_lt (x.above y c (PySem.mem_of_lookup h))
 .have hi:i<vs.length:=by
   unfold start at h2
   by_cases hi:i<vs.length
   .exact hi
   .rw[List.getElem?_append_right (by simpa using hi)]at h2;rw[List.getElem?_replicate]at h2;split at h2<;>cases h2
  have ha:vs[i]? =some v:=by
   unfold start at h2;rw[List.getElem?_append_left (by simpa using hi),getElem?_map]at h2;cases e:vs[i]? with
   |none=>rw[e]at h2;cases h2
   |some a=>rw[e]at h2;cases h2;rfl
  obtain⟨u,hu,rv⟩:=r.get ha;have hp:ps[i]? =some y:=by
   rw[<-S.pre,List.getElem?_take_of_lt (by omega)];exact h1
  have ndP:ps.Nodup:=by rw[<-S.pre];exact S.nd.sublist (take_sublist _ _)
  refine⟨u,rv,?_⟩;rcases S.par y (mem_of_getElem? hp)with k|k
  .exact .inl ⟨k,uM ndP hp hu k⟩
  .obtain⟨c,e⟩:=y9 (n:=s.heap.objs.size+1) k;refine .inr ⟨.inl k,c,e,?_⟩;have q:=x.cell y c e;rw[u6 ndP hp hu (by show scope.names.lookup y≠_;rw[k];decide)]at q;exact q
 .exact e0.bH.fresh (le_of_lt (x.above y c (PySem.mem_of_lookup h)))
 .unfold start;show _=N.length;rw[length_append,length_map,length_replicate];omega
theorem R3 {P:Program} {f:Addr} {name:Str} {params:Arguments} {dV kV doc pm cdv ct oc:Value} {an od:Option Addr}
  {osl:Array (Option Value)} {sp:Sp} (lk:K.lookup f=some ⟨oc,od,.func (fnOf name qual params body scope dV kV doc pm an cdv ct),osl⟩) (hcd:codeIn K cdv qual=true) (S:aX N ps scope)
  (len:∀vs H Q E,sp vs H Q E->vs.length=ps.length)
  (hbody:∀(A:Around) (outer:List Env) (s:Shared) (H:Hp) (vs:List V) (Q:VK) (E:XK),d6 k (A.deeper (envOfC qual scope s.heap.objs.size f cdv))->sp vs H Q E->
   ∃t,DZ (BJ CX P w K mg base N qual scope f cdv A outer s H E) body t/\t {nx:=fun _ H'=>Q .aP H',rt:=Q} (start N vs) H):
  aZ P w K mg base CX (k+1) f (fnOf name qual params body scope dV kV doc pm an cdv ct) ps sp:=by
 refine⟨len,fun A outer s H args us vs Q E hr e0 hb r hsp=>?_⟩;have hl:=len _ _ _ _ hsp;have KX:K.In s.heap:=e0.mod.TH.keeps fun b o e=>(e0.bs b o e).1
 have lim:s.heap.NoLimit:=e0.mod.nolimit.keeps fun b o e=>(e0.bs b o e).1
 have hkind:∀y∈ps.zip us,scope.names.lookup y.1=some .local\/ (scope.names.lookup y.1=some .cell/\((cellsFrom (s.heap.objs.size+1) scope.names []).lookup y.1).isSome=true):=fun⟨n,v⟩ hy=>by
  rcases S.par n (of_mem_zip hy).1 with q|q
  .exact .inl q
  .exact .inr ⟨q,PySem.W.cellsFrom_some _ _ _ (.inl q)⟩
 refine codeAny_call_function hr.depth (KX _ _ lk) rfl S.co S.gen rfl (PySem.W.codeRec_of KX hcd) (hb _ _ _ _ ?_);refine wpAny_newFunctionEnv_cells S.kind hkind fun env he s1 x=>?_
 subst he;refine⟨lim.keeps x.toInCall.keep,codeAny_func ?_⟩;obtain⟨t,ht,hq⟩:=hbody A outer s H vs Q E (hr.deeper _) hsp;have I:Inv (BJ CX P w K mg base N qual scope f cdv A outer s H E) [] (start N vs) H s1:=EV S hr.hd e0 hl r x;refine wpAny_mono (ht [] s1 (start N vs) H _ I hq) (fun fl s' hs=>?_) fun e s' hs=>hs
 have fin:∀{σ':St} {H':Hp} {v:V} {u:Value},Inv (BJ CX P w K mg base N qual scope f cdv A outer s H E) [] σ' H' s'->RelV v u->Q v H'->CE outer P w H s Q u s':=
  fun{σ' H' v u} J rv q=>⟨v,H',J.os,J.bare,J.base,J.bH,rv,q⟩
 cases fl with
 |ret u=>
  obtain⟨v,σ',H',J,rv,q⟩:=hs;exact fin J rv q
 |next=>
  obtain⟨σ',H',J,q⟩:=hs;exact fin (v:=V.aP) (u:=Value.none) J rfl q
 |brk=>
  obtain⟨_,_,_,q⟩:=hs;exact False.elim q
 |cont=>
  obtain⟨_,_,_,q⟩:=hs;exact False.elim q
section
variable {X:Cx} {x:Str} {p pos:Pos} {e:Expr} {es:List Expr} {t:TA} {id T:String} {r:List V->Hp->VK->Prop}
def J5 (r:List V->Hp->VK->Prop) (t:TA):TE:=fun σ H Q=>t σ H fun vs H1=>r vs H1 Q
theorem aN (hc:dW X (.builtin id) r) (hg:Gl X x) (hm:X.mg x=none) (hv:bootBuiltins x=some (.builtin id)) (ha:PA X (e::es) t) (hn:x≠"__name__":=by decide) (hdb:(x==("__debug__":Str))=false:=by decide)
  (he:starEach (e::es) X.env=(false,eval e X.env)::starEach es X.env:=by rfl) (hpl:(backTo pos (starEach es X.env)).any (·.1)=false:=by rfl):PE X (.Call (.Name x p) (e::es) [] pos) (J5 r t):=by
 intro pins s σ H Q I h;refine wpAny_Call_Name_kw (m6 I hg hm hv ?_ hn hdb);exact PyProof.Rows.callWith_builtin1 (bY (ha pos pins s σ H _ I h) fun us s1 ⟨vs,H1,I1,r1,q1⟩=>hc pins s1 σ H1 vs us Q I1 r1 q1) he hpl
theorem eN (hc:dW X (.type T) r) (hg:Gl X x) (hm:X.mg x=none) (hv:bootBuiltins x=some (.type T)) (ha:PA X (e::es) t) (hn:x≠"__name__":=by decide) (hdb:(x==("__debug__":Str))=false:=by decide)
  (he:starEach (e::es) X.env=(false,eval e X.env)::starEach es X.env:=by rfl) (hpl:(backTo pos (starEach es X.env)).any (·.1)=false:=by rfl):PE X (.Call (.Name x p) (e::es) [] pos) (J5 r t):=by
 intro pins s σ H Q I h;refine wpAny_Call_Name_kw (m6 I hg hm hv ?_ hn hdb);exact PyProof.Rows.callWith_type1 (bY (ha pos pins s σ H _ I h) fun us s1 ⟨vs,H1,I1,r1,q1⟩=>hc pins s1 σ H1 vs us Q I1 r1 q1) he hpl
end
end L2
namespace HT
open PySem PyProof.Rows
variable {sl:Addr} {vl vu:Value}
section
variable {prog:Program} {w:World} {A:Around} {E:Value->Shared->Prop} {s:Shared}
noncomputable def fL (n d:Nat):Option Int->Nat
 |none=>d
 |some v=>if v<0 then(v+(n:Int)).toNat else min v.toNat n
theorem qS (n d:Nat):fL n d none=d:=rfl
theorem CZ (n d k:Nat):fL n d (some (k:Int))=min k n:=by
 show(if(k:Int)<0 then((k:Int)+(n:Int)).toNat else min (k:Int).toNat n)=min k n;rw[if_neg (by omega),toNat_natCast]
theorem O8 (n d:Nat) (hd:d<=n) (o:Option Int):fL n d o<=n:=by
 cases o with
 |none=>exact hd
 |some v=>
  show(if v<0 then(v+(n:Int)).toNat else min v.toNat n)<=n
  by_cases hv:v<0
  .rw[if_pos hv];omega
  .rw[if_neg hv];exact Nat.min_le_right _ _
theorem C6 (v:Int) (n d:Nat):(if v<0 then max (v+(n:Int)) 0 else min v (n:Int))=((fL n d (some v):Nat):Int):=by
 show(if v<0 then max (v+(n:Int)) 0 else min v (n:Int))=(((if v<0 then(v+(n:Int)).toNat else min v.toNat n):Nat):Int)
 by_cases hv:v<0
 .simp only[if_pos hv];omega
 .simp only[if_neg hv];omega
theorem BV (lo hi:Option Int) (n:Nat):Builtin.Slice.sliceAdjust lo hi 1 (n:Int)=(((fL n 0 lo:Nat):Int),((fL n n hi:Nat):Int)):=by
 have h1:¬((1:Int)<0):=by omega
 unfold Builtin.Slice.sliceAdjust;simp only[h1,if_false];refine Prod.ext ?_ ?_
 .cases lo with
  |none=>rfl
  |some v=>exact C6 v n 0
 .cases hi with
  |none=>rfl
  |some v=>exact C6 v n n
theorem AU (i j:Nat):Builtin.Slice.slicePlaces (i:Int) (j:Int) 1=j - i:=by
 unfold Builtin.Slice.slicePlaces;have h1:(1:Int)>0:=by omega
 simp only[h1,if_true,Int.ediv_one];split<;>omega
theorem sF {v:Value} {o:Option Int} {Q:Option Int->Shared->Prop} (p:IsPart v o) (h:Q o s):wpAny (model prog w) A (Builtin.Slice.slicePartIndex v) Q E s:=by
 cases p with
 |none=>exact slicePart_none h
 |int i t=>exact slicePart_int h
theorem jO {lo hi:Option Int} {n:Nat} {Q:Int×Int×Nat->Shared->Prop} (hs:s.heap.IsSliceOf sl vl vu .none) (pl:IsPart vl lo) (pu:IsPart vu hi)
  (h:Q (((fL n 0 lo:Nat):Int),1,fL n n hi - fL n 0 lo) s):wpAny (model prog w) A (Builtin.Slice.sliceApplied (.ref sl) (pure (n:Int))) Q E s:=by
 obtain⟨os,hos,hcs,hds⟩:=id hs;unfold Builtin.Slice.sliceApplied Builtin.Slice.sliceFields;refine wpAny_bind (wpAny_bind (wpAny_field hos hds (x:=vl) rfl (wpAny_bind (wpAny_field hos hds (x:=vu) rfl (wpAny_bind (wpAny_field hos hds (x:=.none) rfl (wpAny_pure ?_)))))));refine wpAny_bind (slicePart_none ?_);show wpAny _ _ (if((1:Int)==0)=true then _ else _) _ _ s;rw[if_neg (by decide)];refine wpAny_bind (sF pl (wpAny_bind (sF pu (wpAny_bind (wpAny_pure ?_)))));show wpAny _ _ (match Builtin.Slice.sliceAdjust lo hi 1 (n:Int)with|(lo,hi)=>pure (lo,(1:Int),Builtin.Slice.slicePlaces lo hi 1)) _ _ s;rw[BV lo hi n];show wpAny _ _ (pure (((fL n 0 lo:Nat):Int),(1:Int),Builtin.Slice.slicePlaces ((fL n 0 lo:Nat):Int) ((fL n n hi:Nat):Int) 1)) _ _ s;rw[AU];exact wpAny_pure h
theorem GJ (xs:Array Value) (i k:Nat):((List.range k).filterMap fun(m:Nat)=>xs[((i:Int)+(m:Int)*1).toNat]?).toArray=((xs.toList.drop i).take k).toArray:=by
 have e:(fun(m:Nat)=>xs[((i:Int)+(m:Int)*1).toNat]?)=fun m=>xs[i+m]?:=by
  funext m;have:((i:Int)+(m:Int)*1).toNat=i+m:=by omega
  rw[this]
 rw[e];have:=pick_run xs i k;rw[List.filterMap_map]at this;have e2:((fun x=>xs[x]?)∘fun x=>i+x)=fun m=>xs[i+m]?:=rfl
 rw[e2]at this;rw[this]
theorem nV {t:Addr} {items:Array Value} {lo hi:Option Int} {Q:Value->Shared->Prop} (ht:IsTup s.heap t items) (hs:s.heap.IsSliceOf sl vl vu .none) (pl:IsPart vl lo) (pu:IsPart vu hi)
  (hw:¬(fL items.size 0 lo=0/\fL items.size items.size hi=items.size))
  (h:Q (.ref s.heap.objs.size) {s with heap:=s.heap.push {cls:=.type "tuple",data:=.seq ((items.toList.drop (fL items.size 0 lo)).take (fL items.size items.size hi - fL items.size 0 lo)).toArray}})
  (hsz:items.size<=sizeLine):wpAny (model prog w) A (getItem (.ref t) (.ref sl)) Q E s:=by
 have htake:sizeOk (.seq ((items.toList.drop (fL items.size 0 lo)).take (fL items.size items.size hi - fL items.size 0 lo)).toArray):=by
  show((items.toList.drop (fL items.size 0 lo)).take (fL items.size items.size hi - fL items.size 0 lo)).toArray.size<=sizeLine;rw[size_toArray,length_take,length_drop,length_toList];omega
 have hj:fL items.size items.size hi<=items.size:=O8 _ _ (le_refl _) hi;obtain⟨os,hos,hcs,hds⟩:=id hs;have hTs:s.TypeIs (.ref sl) "slice":=⟨os,hos,hcs⟩;unfold getItem
 try with_reducible refine wpAny_holding ?_
 first|refine wpAny_bind (wpAny_pure ?_)|skip
 refine wpAny_bind (wpAny_sequenceKey ht.typeIs (by decide) ?_);refine wpAny_bind (wpAny_callSpecial?_slot (name:=Str.ofString "__getitem__") ht.typeIs PyProof.Rows.slot_tuple_getitem
  (wpAny_call_entry PyProof.Rows.slot_tuple_getitem ht.typeIs entry_tuple_getitem ?_ (args_tuple_getitem _ _)))
 show wpAny _ _ (Builtin.Tuple.tupleItemsOf (.ref t)>>=_) _ _ s;refine wpAny_bind (tupleItemsOf_ ht ?_);refine wpAny_bind (wpAny_typeOf hTs ?_);rw[if_pos (by decide)];refine wpAny_bind (jO hs pl pu ?_);have hno:¬((((fL items.size 0 lo:Nat):Int)==0 && (1:Int)==1 && (fL items.size items.size hi - fL items.size 0 lo)==items.size)=true):=by
  intro q;rw[and_eq_true,and_eq_true]at q;have q1:((fL items.size 0 lo:Nat):Int)=0:=eq_of_beq q.1.1;have q2:fL items.size items.size hi - fL items.size 0 lo=items.size:=eq_of_beq q.2;exact hw ⟨by omega,by omega⟩
 show wpAny _ _ (if(((fL items.size 0 lo:Nat):Int)==0 && (1:Int)==1 && (fL items.size items.size hi - fL items.size 0 lo)==items.size)=true then _ else _) _ _ s;rw[if_neg hno,GJ]
 first
  |exact wpAny_bind (m:=Builtin.Tuple.tupleExact _) (wpAny_newObj_type (wpAny_pure ⟨_,rfl,wpAny_pure h⟩) htake)
  |exact wpAny_bind (m:=Builtin.Tuple.tupleExact _) (wpAny_newObj_type (wpAny_bind (wpAny_pure (wpAny_pure ⟨_,rfl,wpAny_pure h⟩))) htake)
  |exact wpAny_bind (wpAny_bind (m:=Builtin.Tuple.tupleExact _) (wpAny_newObj_type (wpAny_pure (wpAny_pure ⟨_,rfl,wpAny_pure h⟩)) htake))
  |exact wpAny_bind (wpAny_bind (m:=Builtin.Tuple.tupleExact _) (wpAny_newObj_type (wpAny_pure ⟨_,rfl,wpAny_pure h⟩) htake))
end
end HT
namespace L2
open PySem PySem.Spec PyProof.Rows
variable {A:Around} {H:Hp} {pins:List (Addr×Obj)} {xs:List V} {its its':List Value} {j n t':Nat} {s:Shared} {σ:St} {α:Type} {x:V} {u v:Value}
abbrev TO:=St->Hp->(Option Int->Hp->Prop)->Prop
def PO (X:Cx) (e:Option Expr) (t:TO):Prop:=
 ∀(pins:List (Addr×Obj)) (s:Shared) (σ:St) (H:Hp) (Q:Option Int->Hp->Prop),Inv X pins σ H s->t σ H Q->
  wpAny (model X.prog X.w) X.A (evalPart e X.env) (fun u s'=>∃o H',Inv X pins σ H' s'/\IsPart u o/\Q o H') X.xe s
def nN:TO:=fun _ H Q=>Q none H
def xT (t:TE):TO:=fun σ H Q=>t σ H fun x H1=>∃i,x= .int i/\Q (some i) H1
section
variable {X:Cx} {e:Expr} {te:TE} {lo hi:Option Expr} {tl th:TO} {pos p2:Pos}
theorem gR:PO X none nN:=by
 intro pins s σ H Q I h;rw[evalPart_none];exact wpAny_pure ⟨none,H,I,.none,h⟩
theorem gP (h:PE X e te):PO X (some e) (xT te):=by
 intro pins s σ H Q I hw;rw[evalPart_some];refine bY (h pins s σ H _ I hw) fun u s1 ⟨x,H1,I1,r1,q1⟩=>?_
 obtain⟨i,rfl,q⟩:=q1;obtain⟨t,rfl⟩:=r1;exact⟨some i,H1,I1,.int i t,q⟩
def QG (X:Cx) (r:V->Option Int->Option Int->Hp->VK->Prop):Prop:=
 ∀(pins:List (Addr×Obj)) (s:Shared) (σ:St) (H:Hp) (x:V) (v vl vu:Value) (lo hi:Option Int) (sl:Addr) (Q:VK),Inv X pins σ H s->RelV x v->s.heap.IsSliceOf sl vl vu .none->IsPart vl lo->IsPart vu hi->r x lo hi H Q->
  ∃T id,typeLookup (.type T) "__getitem__"=pure (some (.builtin id))/\s.TypeIs v T/\wpAny (model X.prog X.w) X.A (getItem v (.ref sl)) (EP X pins σ Q) X.xe s
def QY (r:V->Option Int->Option Int->Hp->VK->Prop) (te:TE) (tl th:TO):TE:=fun σ H Q=>te σ H fun x H1=>tl σ H1 fun l H2=>th σ H2 fun u H3=>r x l u H3 Q
theorem fS {r:V->Option Int->Option Int->Hp->VK->Prop} (hr:QG X r) (he:PE X e te) (hl:PO X lo tl) (hu:PO X hi th):PE X (.Subscript e (.Slice lo hi none p2) pos) (QY r te tl th):=by
 intro pins s σ H Q I h;refine Subscript_ (bY (he pins s σ H _ I h) fun v s1 ⟨x,H1,I1,r1,q1⟩=>?_);refine wpAny_Slice (bY (hl pins s1 σ H1 _ I1 q1) fun vl s2 ⟨l,H2,I2,pl,q2⟩=>bY (hu pins s2 σ H2 _ I2 q2) fun vu s3 ⟨u,H3,I3,pu,q3⟩=>?_);rw[evalPart_none];refine wpAny_pure ?_;have I4:Inv X pins σ H3 {s3 with heap:=s3.heap.push {cls:=.type "slice",data:=.fields #[vl,vu,.none]}}:=I3.kept (t':=s3.toks) fun b ob q=>get?_push_of_some _ q
 obtain⟨T,id,hT,ht,hg⟩:=hr pins {s3 with heap:=s3.heap.push {cls:=.type "slice",data:=.fields #[vl,vu,.none]}} σ H3 x v vl vu l u s3.heap.objs.size Q I4 r1 (Heap.IsSliceOf.new ..) pl pu q3;show wpAny (model X.prog X.w) X.A (subscriptTail e (.Slice lo hi none p2) v (.ref s3.heap.objs.size)) (EP X pins σ Q) X.xe {s3 with heap:=s3.heap.push {cls:=.type "slice",data:=.fields #[vl,vu,.none]}};exact tail_any (ops:=[.ref s3.heap.objs.size,v]) ht hT hg (by with_unfolding_all rfl)
noncomputable def hJ (xs:List V) (lo hi:Option Int):List V:=(xs.drop (HT.fL xs.length 0 lo)).take (HT.fL xs.length xs.length hi - HT.fL xs.length 0 lo)
theorem pM (xs:List V) (lo hi:Option Int):(hJ xs lo hi).length<=xs.length:=by
 unfold hJ;rw[length_take,length_drop];omega
def HC (K:Frag):V->Option Int->Option Int->Hp->VK->Prop:=fun x lo hi H Q=>∃a xs,x= .ref a/\bU K H a xs/\
 ¬(HT.fL xs.length 0 lo=0/\HT.fL xs.length xs.length hi=xs.length)/\∀p,H p=none->Q (.ref p) (upd H p (.tup (hJ xs lo hi)))
theorem P0:QG X (HC X.K):=by
 intro pins s σ H x v vl vu lo hi sl Q I rx hs pl pu h;obtain⟨a,xs,rfl,hx,hw,q⟩:=h;cases rx;obtain⟨its,r,ht,hz⟩:=I.tuple hx;have hlen:its.toArray.size=xs.length:=by rw[size_toArray];exact r.length.symm
 refine⟨"tuple",_,PyProof.Rows.slot_tuple_getitem.lookup,ht.typeIs,?_⟩;refine HT.nV ht hs pl pu (by rw[hlen];exact hw) ?_ (by rw[hlen];exact hz);rw[hlen];refine⟨.ref s.heap.objs.size,_,I.laid (t':=s.toks) (o:=.tup (hJ xs lo hi)) (fun b ob q=>get?_push_of_some _ q) (le_refl _) ?_,rfl,q _ (I.bH.fresh (le_refl _))⟩;exact⟨le_trans (pM xs lo hi) hz,_,(r.drop (HT.fL xs.length 0 lo)).take (HT.fL xs.length xs.length hi - HT.fL xs.length 0 lo),o8.new _ _⟩
end
noncomputable def JZ (n:Nat) (i:Int):Option Nat:=if 0<=i then(if i<n then some i.toNat else none)else if -(n:Int)<=i then some (i+n).toNat else none
noncomputable def uR (xs:List α) (i:Int):Option α:=(JZ xs.length i).bind fun j=>xs[j]?
theorem B5 {i:Int} (h:JZ n i=some j):seqIndex? i n=some j/\j<n/\ -(n:Int)<=i/\i<n:=by
 unfold JZ at h
 by_cases h0:0<=i
 .rw[if_pos h0]at h
  by_cases h1:i<n
  .rw[if_pos h1]at h;have e:i.toNat=j:=Option.some.inj h;exact⟨by rw[seqIndex_of h0 h1,e],by omega,by omega,h1⟩
  .rw[if_neg h1]at h;cases h
 .rw[if_neg h0]at h
  by_cases h1: -(n:Int)<=i
  .rw[if_pos h1]at h;have e:(i+n).toNat=j:=Option.some.inj h;exact⟨by rw[seqIndex_neg (by omega) h1,e],by omega,h1,by omega⟩
  .rw[if_neg h1]at h;cases h
theorem vV {xs:List α} {i:Int} {v:α} (h:uR xs i=some v):∃j,seqIndex? i xs.length=some j/\xs[j]? =some v/\j<xs.length/\ -(xs.length:Int)<=i/\i<xs.length:=by
 unfold uR at h;cases e:JZ xs.length i with
 |none=>rw[e]at h;cases h
 |some j=>
  rw[e]at h;obtain⟨h1,h2,h3,h4⟩:=B5 e;exact⟨j,h1,h,h2,h3,h4⟩
theorem cQ {xs:List α} {v:α} (h:xs[j]? =some v):uR xs (j:Int)=some v:=by
 have hj:j<xs.length:=(List.getElem?_eq_some_iff.mp h).1;have e:JZ xs.length (j:Int)=some j:=by
  unfold JZ;rw[if_pos (by omega),if_pos (by omega)];simp
 unfold uR;rw[e];exact h
def MA (b:Expr):Prop:=∀o i,subscripted b false o i=operate [o,i] (getItem o i)
def NS (X:Cx) (r:R2):Prop:=
 ∀(value slice:Expr) (pins:List (Addr×Obj)) (s:Shared) (σ:St) (H:Hp) (x y:V) (v u:Value) (Q:VK),Inv X pins σ H s->RelV x v->RelV y u->r x y H Q->
  subscripted slice false v u=operate [v,u] (getItem v u)->wpAny (model X.prog X.w) X.A (subscriptTail value slice v u) (EP X pins σ Q) X.xe s
def SO (X:Cx) (id:String) (r:V->List V->Hp->VK->Prop):Prop:=
 ∀(pins:List (Addr×Obj)) (s:Shared) (σ:St) (H:Hp) (x:V) (xs:List V) (v:Value) (us:List Value) (Q:VK),Inv X pins σ H s->RelV x v->Vals xs us->r x xs H Q->
  wpAny (model X.prog X.w) X.A (call (.builtin id) (v::us)) (EP X pins σ Q) X.xe s
section
variable {X:Cx} {a b:Expr} {ta tb:TE} {pos:Pos}
theorem aS {r:R2} (hr:NS X r) (ha:PE X a ta) (hb:PE X b tb) (hs:MA b):PE X (.Subscript a b pos) (jS r ta tb):=by
 intro pins s σ H Q I h;exact Subscript_ (N8 ha hb I h fun v u s2 x y H2 I2 rx ry q=>hr a b pins s2 σ H2 x y v u Q I2 rx ry q (hs _ _))
def zO (K:Frag):R2:=fun x y H Q=>∃p xs i v,x= .ref p/\y= .int i/\bC K H p xs/\uR xs i=some v/\Q v H
def xJ (K:Frag):R2:=fun x y H Q=>∃p xs i v,x= .ref p/\y= .int i/\bU K H p xs/\uR xs i=some v/\Q v H
def FU:R2:=fun x y H Q=>∃z i c,x= .str z/\y= .int i/\z.length<=sizeLine/\uR z.cps.toList i=some c/\Q (.str ⟨#[c]⟩) H
theorem LZ:NS X (zO X.K):=by
 intro value slice pins s σ H x y v u Q I rx ry h hs;obtain⟨p,xs,i,z,rfl,rfl,hq,he,q⟩:=h;cases rx;obtain⟨t,rfl⟩:=ry;obtain⟨its,r,pl,hz⟩:=I.list hq;obtain⟨j,h1,h2,h3,h4,h5⟩:=vV he;obtain⟨w,ew,tY⟩:=r.get h2;have hl:=r.length;have hn:=pK;have fin:EP X pins σ Q w s:=⟨z,H,I,tY,q⟩
 by_cases h0:0<=i
 .have hj:i.toNat=j:=by
   rw[seqIndex_of h0 h5]at h1;exact Option.some.inj h1
  exact item_listR pl.isList h0 (by omega) (by rw[hj];simpa using ew) fin hs
 .have hj:(i+(its.toArray.size:Int)).toNat=j:=by
   rw[seqIndex_neg (by omega) h4]at h1;rw[size_toArray,<-hl];exact Option.some.inj h1
  exact subscriptTail_builtinR (x:=w) pl.isList.typeIs slot_list_getitem.lookup
   (wpAny_getItem_list_neg (Q:=fun r s'=>r=w/\EP X pins σ Q r s') pl.isList (by omega) (by rw[size_toArray]<;>omega) (by omega) (by rw[hj];simpa using ew) ⟨rfl,fin⟩) hs
theorem OP:NS X (xJ X.K):=by
 intro value slice pins s σ H x y v u Q I rx ry h hs;obtain⟨p,xs,i,z,rfl,rfl,hq,he,q⟩:=h;cases rx;obtain⟨t,rfl⟩:=ry;obtain⟨its,r,pl,hz⟩:=I.tuple hq;obtain⟨j,h1,h2,h3,h4,h5⟩:=vV he;obtain⟨w,ew,tY⟩:=r.get h2;have hl:=r.length;have hn:=pK;have fin:EP X pins σ Q w s:=⟨z,H,I,tY,q⟩;exact subscriptTail_builtinR (x:=w) pl.typeIs slot_tuple_getitem.lookup
  (getItem_tuple (j:=j) (Q:=fun r s'=>r=w/\EP X pins σ Q r s') pl (by omega) (by omega) (by rw[size_toArray,<-hl];exact h1) (by simpa using ew) ⟨rfl,fin⟩) hs
theorem NT:NS X FU:=by
 intro value slice pins s σ H x y v u Q I rx ry h hs;obtain⟨z,i,c,rfl,rfl,hz,he,q⟩:=h;obtain⟨t,rfl⟩:=rx;obtain⟨t',rfl⟩:=ry;obtain⟨j,h1,h2,h3,h4,h5⟩:=vV he;have hl:z.cps.toList.length=z.length:=by simp[Str.length]
 rw[hl]at h1 h4 h5;have hn:=pK;exact tail_any (typeIs_str s z t) slot_str_getitem.lookup (getItem_str (c:=c) (by
  have e1:decide (i< -(2^63:Int))=false:=decide_eq_false (by omega);have e2:decide (i≥2^63)=false:=decide_eq_false (by omega);rw[e1,e2,Bool.or_false]) (by rw[h1];simpa using h2) ⟨.str ⟨#[c]⟩,H,I.tok _,⟨_,rfl⟩,q⟩) hs
theorem BM (its:List Value) (n j:Nat) (u:Value):Obj.mapSeq (·.setIfInBounds j u) {cls:=.type "list",data:=.seq its.toArray n}={cls:=.type "list",data:=.seq (its.set j u).toArray n}:=by
 simp[Obj.mapSeq]
theorem Inv.lst {p:Addr} (I:Inv X pins σ H s) (h:H p=some (.lst xs)):
  ∃(its:List Value) (n:Nat),Vals xs its/\s.heap.get? p=some {cls:=.type "list",data:=.seq its.toArray n}/\xs.length<=sizeLine:=by
 obtain⟨z,its,n,r,e⟩:=I.bH p _ h;exact⟨its,n,r,e,z⟩
theorem Inv.OI {p:Addr} {ys:List V} {n':Nat} {f:Obj->Obj} (I:Inv X pins σ H s) (h:H p=some (.lst xs))
  (ho:s.heap.get? p=some {cls:=.type "list",data:=.seq its.toArray n}) (hf:f {cls:=.type "list",data:=.seq its.toArray n}={cls:=.type "list",data:=.seq its'.toArray n'}) (r:Vals ys its') (hz:ys.length<=sizeLine) (t:Nat):
  Inv X pins σ (upd H p (.lst ys)) {s with heap:=s.heap.update p f,toks:=t}:=by
 have e:(s.heap.update p f).get? p=some {cls:=.type "list",data:=.seq its'.toArray n'}:=by
  rw[get?_update_self f ho (by rw[hf]<;>rfl),hf]
 refine I.write (x:=p) (e:=p) (by rw[h];trivial) (.inl rfl) (fun b u hb q=>(get?_update_other _ _ (Ne.symm hb)).trans q) ⟨_,e⟩ ?_;exact⟨hz,its',n',r,e⟩
def zC:V->V->V->Hp->(Hp->Prop)->Prop:=fun o i v H Q=>∃p xs k j,o= .ref p/\i= .int k/\H p=some (.lst xs)/\JZ xs.length k=some j/\Q (upd H p (.lst (xs.set j v)))
theorem set_list:SU X zC:=by
 intro pins s σ H o i v ov iv u Q I ro ri rv h;obtain⟨p,xs,k,j,rfl,rfl,hp,hj,q⟩:=h;cases ro;obtain⟨t,rfl⟩:=ri;obtain⟨its,n,r,ho,hz⟩:=I.lst hp;obtain⟨h1,h2,h3,h4⟩:=B5 hj;have hl:=r.length;have hn:=pK;have I':Inv X pins σ (upd H p (.lst (xs.set j v))) {s with heap:=s.heap.update p (Obj.mapSeq (·.setIfInBounds j u))}:=
  I.OI hp ho (BM its n j u) (r.set rv j) (by rw[length_set];exact hz) s.toks
 by_cases h0:0<=k
 .have hk:k.toNat=j:=by
   rw[seqIndex_of h0 h4]at h1;exact Option.some.inj h1
  exact PySem.W.ki_setAt ho h0 (by omega) (by rw[size_toArray,<-hl];exact h4) (by rw[hk];exact⟨_,I',q⟩)
 .have hk:(k+(its.toArray.size:Int)).toNat=j:=by
   rw[seqIndex_neg (by omega) h3]at h1;rw[size_toArray,<-hl];exact Option.some.inj h1
  exact PySem.W.ki_setBack ho (by omega) (by rw[size_toArray,<-hl];exact h3) (by omega) (by rw[hk];exact⟨_,I',q⟩)
theorem wZ (lo hi:Option Int) (n:Nat):(sliceBounds lo hi none n).1=((HT.fL n 0 lo:Nat):Int)/\(sliceBounds lo hi none n).2.1=((HT.fL n n hi:Nat):Int)/\(sliceBounds lo hi none n).2.2=1:=by
 refine⟨?_,?_,rfl⟩
 .cases lo with
  |none=>simp[sliceBounds,HT.fL]
  |some i=>
   simp only[sliceBounds,HT.fL,getD_none,show(1:Int)>0 by decide,if_true]
   by_cases h:i<0
   .simp only[h,if_true]<;>omega
   .simp only[h,if_false]<;>omega
 .cases hi with
  |none=>simp[sliceBounds,HT.fL]
  |some i=>
   simp only[sliceBounds,HT.fL,getD_none,show(1:Int)>0 by decide,if_true]
   by_cases h:i<0
   .simp only[h,if_true]<;>omega
   .simp only[h,if_false]<;>omega
theorem tL (its:List Value) (lo hi:Option Int):slicePick its.toArray lo hi none=((its.drop (HT.fL its.length 0 lo)).take (HT.fL its.length its.length hi - HT.fL its.length 0 lo)).toArray:=by
 obtain⟨h1,h2,h3⟩:=wZ lo hi its.toArray.size;unfold slicePick;rw[h1,h2,h3];simp only[sliceRange_one,pick_run,size_toArray]<;>rfl
def DC (K:Frag):V->Option Int->Option Int->Hp->VK->Prop:=fun x lo hi H Q=>∃a xs,x= .ref a/\bC K H a xs/\∀p,H p=none->Q (.ref p) (upd H p (.lst (hJ xs lo hi)))
theorem LL:QG X (DC X.K):=by
 intro pins s σ H x v vl vu lo hi sl Q I rx hs pl pu h;obtain⟨a,xs,rfl,hx,q⟩:=h;cases rx;obtain⟨its,r,ht,hz⟩:=I.list hx;have hlen:=r.length;refine⟨"list",_,slot_list_getitem.lookup,ht.isList.typeIs,?_⟩;refine wpAny_getItem_list_slice ht.isList hs pl pu .none (by simp) ?_ (by rw[size_toArray]<;>omega);rw[tL,<-hlen];refine⟨.ref s.heap.objs.size,_,I.laid (t':=s.toks) (o:=.lst (hJ xs lo hi)) (fun b ob q=>get?_push_of_some _ q) (le_refl _) ?_,rfl,q _ (I.bH.fresh (le_refl _))⟩;exact⟨le_trans (pM xs lo hi) hz,_,0,(r.drop (HT.fL xs.length 0 lo)).take (HT.fL xs.length xs.length hi - HT.fL xs.length 0 lo),get?_push_size _ rfl⟩
noncomputable def iT:V->Bool
 | .aP=>true
 | .bl _=>true
 | .int _=>true
 | .str _=>true
 |_=>false
noncomputable def E5:V->V->Bool
 | .aP,.aP=>true
 | .bl a,.bl b=>a==b
 | .bl a,.int b=>(if a then 1 else 0)==b
 | .int a,.bl b=>a==(if b then 1 else 0)
 | .int a,.int b=>a==b
 | .str a,.str b=>a==b
 |_,_=>false
theorem AB {y x:V} (ry:RelV y u) (rx:RelV x v) (fy:iT y=true) (fx:iT x=true):SeqAt.EqAt A s u v (E5 y x):=by
 cases y with
 |aP=>
  cases ry;cases x with
  |aP=>cases rx;exact SeqAt.EqAt.same _
  |bl b=>cases rx;exact SeqAt.EqAt.none_bool b
  |int b=>obtain⟨t,rfl⟩:=rx;exact SeqAt.EqAt.none_int b t
  |str b=>obtain⟨t,rfl⟩:=rx;exact SeqAt.EqAt.none_str b t
  |_=>exact absurd (show false=true from fx) Bool.false_ne_true
 |bl a=>
  cases ry;cases x with
  |aP=>cases rx;exact SeqAt.EqAt.bool_none a
  |bl b=>cases rx;exact SeqAt.EqAt.bool_bool a b
  |int b=>obtain⟨t,rfl⟩:=rx;exact SeqAt.EqAt.bool_int a b t
  |str b=>obtain⟨t,rfl⟩:=rx;exact SeqAt.EqAt.bool_str a b t
  |_=>exact absurd (show false=true from fx) Bool.false_ne_true
 |int a=>
  obtain⟨t',rfl⟩:=ry;cases x with
  |aP=>cases rx;exact SeqAt.EqAt.int_none a t'
  |bl b=>cases rx;exact SeqAt.EqAt.int_bool a t' b
  |int b=>obtain⟨t,rfl⟩:=rx;exact SeqAt.EqAt.int_int a t' b t
  |str b=>obtain⟨t,rfl⟩:=rx;exact SeqAt.EqAt.int_str a t' b t
  |_=>exact absurd (show false=true from fx) Bool.false_ne_true
 |str a=>
  obtain⟨t',rfl⟩:=ry;cases x with
  |aP=>cases rx;exact SeqAt.EqAt.str_none a t'
  |bl b=>cases rx;exact SeqAt.EqAt.str_bool a t' b
  |int b=>obtain⟨t,rfl⟩:=rx;exact SeqAt.EqAt.str_int a t' b t
  |str b=>obtain⟨t,rfl⟩:=rx;exact SeqAt.EqAt.str_str a t' b t
  |_=>exact absurd (show false=true from fx) Bool.false_ne_true
 |_=>exact absurd (show false=true from fy) Bool.false_ne_true
noncomputable def BO (x:V) (u:Value):Bool:=match u with
 | .none=>E5 .aP x
 | .bool b=>E5 (.bl b) x
 | .int i _=>E5 (.int i) x
 | .str z _=>E5 (.str z) x
 |_=>false
theorem JP {y:V} (r:RelV y u) (f:iT y=true):BO x u=E5 y x:=by
 cases y with
 |aP=>cases r;rfl
 |bl b=>cases r;rfl
 |int i=>obtain⟨t,rfl⟩:=r;rfl
 |str z=>obtain⟨t,rfl⟩:=r;rfl
 |_=>exact absurd (show false=true from f) Bool.false_ne_true
theorem nA:∀{xs:List V} {us:List Value},Vals xs us->xs.all iT=true->us.any (BO x)=xs.any fun y=>E5 y x
 |_,_,.nil,_=>rfl
 |y::xs,u::us,.cons r t,f=>by
  rw[all_cons,and_eq_true]at f;rw[any_cons,any_cons,JP r f.1,nA t f.2]
theorem kX (rx:RelV x v) (fx:iT x=true):∀{xs:List V} {us:List Value},Vals xs us->xs.all iT=true->∀u∈us,SeqAt.EqAt A s u v (BO x u)
 |_,_,.nil,_=>fun u hu=>by cases hu
 |y::xs,u::us,.cons r t,f=>fun u' hu=>by
  rw[all_cons,and_eq_true]at f;rcases mem_cons.mp hu with rfl|hu
  .rw[JP r f.1];exact AB r rx f.1 fx
  .exact kX rx fx t f.2 u' hu
noncomputable def FG (x:V) (xs:List V):Bool:=xs.any fun y=>E5 y x
def MO (K:Frag) (neg:Bool):R2:=fun x y H Q=>∃p xs,y= .ref p/\(bC K H p xs\/ bU K H p xs)/\iT x=true/\xs.all iT=true/\Q (.bl (if neg then !FG x xs else FG x xs)) H
theorem ES:j3 X (compareOp .In) (MO X.K false):=by
 intro pins s σ H x y v u Q I rx ry h;obtain⟨p,xs,rfl,hq,fx,fs,q⟩:=h;cases ry;rcases hq with hq|hq
 .obtain⟨its,r,pl,hz⟩:=I.list hq;refine SeqAt.in_listAt (BO x) pl.isList (fun w hw=>kX rx fx r fs w (by simpa using hw)) ⟨.bl _,H,I,rfl,?_⟩;rw[show its.toArray.any (BO x)=its.any (BO x) by simp,nA r fs];exact q
 .obtain⟨its,r,pl,hz⟩:=I.tuple hq;refine SeqAt.in_tupleAt (BO x) pl (fun w hw=>kX rx fx r fs w (by simpa using hw)) ⟨.bl _,H,I,rfl,?_⟩;rw[show its.toArray.any (BO x)=its.any (BO x) by simp,nA r fs];exact q
theorem wL:j3 X (compareOp .NotIn) (MO X.K true):=by
 intro pins s σ H x y v u Q I rx ry h;obtain⟨p,xs,rfl,hq,fx,fs,q⟩:=h;cases ry;rcases hq with hq|hq
 .obtain⟨its,r,pl,hz⟩:=I.list hq;refine SeqAt.notIn_listAt (BO x) pl.isList (fun w hw=>kX rx fx r fs w (by simpa using hw)) ⟨.bl _,H,I,rfl,?_⟩;rw[show its.toArray.any (BO x)=its.any (BO x) by simp,nA r fs];exact q
 .obtain⟨its,r,pl,hz⟩:=I.tuple hq;refine SeqAt.notIn_tupleAt (BO x) pl (fun w hw=>kX rx fx r fs w (by simpa using hw)) ⟨.bl _,H,I,rfl,?_⟩;rw[show its.toArray.any (BO x)=its.any (BO x) by simp,nA r fs];exact q
theorem nB:dW X (.builtin "len") (fun xs H Q=>∃p ys,xs=[.ref p]/\(bC X.K H p ys\/ bU X.K H p ys)/\Q (.int ys.length) H):=by
 intro pins s σ H xs us Q I r h;obtain⟨p,ys,rfl,hq,q⟩:=h;obtain⟨u,rfl,rx⟩:=vals1 r;cases rx;have hn:=pK;rcases hq with hq|hq
 .obtain⟨its,r',pl,hz⟩:=I.list hq;have hlen:=r'.length;exact Calls.call_len_list pl.isList (by simp only[size_toArray]<;>omega) ⟨.int ys.length,H,I.tok _,⟨s.toks+1,by rw[size_toArray,hlen]⟩,q⟩
 .obtain⟨its,r',pl,hz⟩:=I.tuple hq;have hlen:=r'.length;exact len_tuple pl (by simp only[size_toArray]<;>omega) ⟨.int ys.length,H,I.tok _,⟨s.toks+1,by rw[size_toArray,hlen]⟩,q⟩
theorem nX:dW X (.builtin "len") (fun xs H Q=>∃z,xs=[.str z]/\z.length<=sizeLine/\Q (.int z.length) H):=by
 intro pins s σ H xs us Q I r h;obtain⟨z,rfl,hz,q⟩:=h;obtain⟨u,rfl,t,rfl⟩:=vals1 r;have hn:=pK;exact len_str (by omega) ⟨.int z.length,H,I.tok _,⟨_,rfl⟩,q⟩
theorem wF:dW X (.type "list") (fun xs H Q=>∃p ys,xs=[.ref p]/\(bC X.K H p ys\/ bU X.K H p ys)/\∀l,H l=none->Q (.ref l) (upd H l (.lst ys))):=by
 intro pins s σ H xs us Q I r h;obtain⟨p,ys,rfl,hq,q⟩:=h;obtain⟨u,rfl,rx⟩:=vals1 r;cases rx;have fin:∀(its:List Value),Vals ys its->ys.length<=sizeLine->∀(h':Heap) (c':Nat),(∀b o',s.heap.get? b=some o'->h'.get? b=some o')->
   h'.get? s.heap.objs.size=some {cls:=.type "list",dict:=none,data:=.seq its.toArray c',slots:= #[]}->EP X pins σ Q (.ref s.heap.objs.size) {s with heap:=h'}:=fun its r' hz h' c' kp e=>
  ⟨.ref s.heap.objs.size,_,I.laid (t':=s.toks) kp (le_refl _) (show cB X.prog X.w _ h' _ (.lst ys)from⟨hz,its,c',r',e⟩),rfl,q _ (I.bH.fresh (le_refl _))⟩
 rcases hq with hq|hq
 .obtain⟨its,r',pl,hz⟩:=I.list hq;have hlen:=r'.length;obtain⟨o,ho,hc,n,hd⟩:=pl.isList;exact call_list_seq p (.inl rfl) ho hc hd (fun h' c' kp e=>fin its r' hz h' c' kp e) (by simp only[size_toArray]<;>omega)
 .obtain⟨its,r',pl,hz⟩:=I.tuple hq;have hlen:=r'.length;obtain⟨o,ho,hc,n,hd⟩:=pl;exact call_list_seq p (.inr rfl) ho hc hd (fun h' c' kp e=>fin its r' hz h' c' kp e) (by simp only[size_toArray]<;>omega)
theorem tP:dW X (.type "tuple") (fun xs H Q=>∃p ys,xs=[.ref p]/\((bC X.K H p ys/\∀l,H l=none->Q (.ref l) (upd H l (.tup ys)))\/ (bU X.K H p ys/\Q (.ref p) H))):=by
 intro pins s σ H xs us Q I r h;obtain⟨p,ys,rfl,h⟩:=h;obtain⟨u,rfl,rx⟩:=vals1 r;cases rx;rcases h with⟨hq,q⟩|⟨hq,q⟩
 .obtain⟨its,r',pl,hz⟩:=I.list hq;have hlen:=r'.length;refine call_tuple_list pl.isList (fun h' kp=>?_) (by simp only[size_toArray]<;>omega);have I1:Inv X pins σ H {s with heap:=h'}:=I.kept (t':=s.toks) kp;have I2:Inv X pins σ (upd H h'.objs.size (.tup ys)) {s with heap:=h'.push {cls:=.type "tuple",data:=.seq its.toArray}}:=
   I1.laid (t':=s.toks) (fun b o e=>get?_push_of_some _ e) (le_refl _) (show cB X.prog X.w _ _ _ (.tup ys)from⟨hz,its,r',o8.new _ _⟩)
  exact⟨.ref h'.objs.size,_,I2,rfl,q _ (I1.bH.fresh (le_refl _))⟩
 .obtain⟨its,r',pl,hz⟩:=I.tuple hq;exact call_tuple_same pl ⟨.ref p,H,I,rfl,q⟩
def QC (K:Frag) (T:String) (x:V) (H:Hp):Prop:=match x with
 | .str _=>T="str"
 | .int _=>T="int"
 | .ref p=>(T="list"/\∃xs,bC K H p xs)\/ (T="tuple"/\∃o,K.lookup p=some o/\o.cls= .type "tuple"/\o.dict=none)\/
   (T="dict"/\((∃kvs ep,H p=some (.dK kvs ep))\/ ∃kvs,H p=some (.dT kvs)))\/ (T="set"/\∃S n,H p=some (.set S n))
 |_=>False
theorem P9 {T:String} {x:V} (I:Inv X pins σ H s) (r:RelV x v) (ty:QC X.K T x H):
  s.TypeIs v T/\∀a,v= .ref a->∃ob,s.heap.get? a=some ob/\ob.dict=none:=by
 cases x with
 |str z=>
  obtain⟨t,rfl⟩:=r;cases(show T="str"from ty);exact⟨typeIs_str s z t,fun _ e=>nomatch e⟩
 |int i=>
  obtain⟨t,rfl⟩:=r;cases(show T="int"from ty);exact⟨typeIs_int s i t,fun _ e=>nomatch e⟩
 | ref p=>
  cases r;rcases ty with⟨rfl,xs,hq⟩|⟨rfl,o,hk,hc,hd⟩|⟨rfl,hk⟩|⟨rfl,S,n,hk⟩
  .obtain⟨its,_,pl,_⟩:=I.list hq;refine⟨pl.isList.typeIs,fun a e=>?_⟩;cases e;obtain⟨o,n,e,c,hd,_⟩:=pl;exact⟨o,e,hd⟩
  .refine⟨⟨o,I.xA p o hk,hc⟩,fun a e=>?_⟩;cases e;exact⟨o,I.xA _ o hk,hd⟩
  .have z:∃o,s.heap.get? p=some o/\o.ExactDict:=by
    rcases hk with⟨kvs,ep,hk⟩|⟨kvs,hk⟩
    .obtain⟨_,_,_,_,o,_,e,ex,_⟩:=I.bH p _ hk;exact⟨o,e,ex⟩
    .obtain⟨_,_,_,_,o,_,_,e,ex,_⟩:=I.bH p _ hk;exact⟨o,e,ex⟩
   obtain⟨o,e,ex⟩:=z;refine⟨⟨o,e,ex.1⟩,fun a e2=>?_⟩;cases e2;exact⟨o,e,ex.2.1⟩
  .obtain⟨o,_,_,_,e,ex,_⟩:=I.bH p _ hk;refine⟨⟨o,e,ex.1⟩,fun a e2=>?_⟩;cases e2;exact⟨o,e,ex.2.1⟩
 |_=>exact False.elim ty
def NG (K:Frag) (T:String) (r:V->List V->Hp->VK->Prop) (to:TE) (t:TA):TE:=fun σ H Q=>to σ H fun x H1=>QC K T x H1/\t σ H1 fun xs H2=>r x xs H2 Q
variable {o e:Expr} {es:List Expr} {to:TE} {t:TA} {name:Str} {apos cpos:Pos} {T id:String} {r:V->List V->Hp->VK->Prop}
theorem QK (pa:PlainAttrs T) (slot:Slot T name id) (hty:typeOf (.builtin id)=pure (.type "method_descriptor")) (hm:SO X id r) (ho:PE X o to) (ha:PA X (e::es) t)
  (hbase:attributeBase o name X.env (eval o X.env)=eval o X.env:=by rfl)
  (hfew:((backTo cpos (starEach (e::es) X.env)).all (fun x=>!x.1) && (backToKw cpos (keywordEach [] X.env)).all (fun x=>x.1.isSome)
   && decide ((e::es).length+([]:List Keyword).length+(if([]:List Keyword).isEmpty then 0 else 1)<30))=true:=by rfl)
  (hline:(apos.endLine==cpos.line)=true:=by rfl) (hs:starEach (e::es) X.env=(false,eval e X.env)::starEach es X.env:=by rfl) (hplain:(backTo cpos (starEach es X.env)).any (·.1)=false:=by rfl):
  PE X (.Call (.Attribute o name apos) (e::es) [] cpos) (NG X.K T r to t):=by
 intro pins s σ H Q I h;refine wpAny_Call_method_late hbase hfew hline rfl (bY (ho pins s σ H _ I h) fun v s1 ⟨x,H1,I1,r1,ty,q1⟩=>?_);obtain⟨h1,h2⟩:=P9 I1 r1 ty;refine⟨T,id,pa,slot,hty,h1,h2,?_⟩;have hA:=ha cpos pins s1 σ H1 _ I1 q1;rw[hs]at hA⊢
 refine Calls.callWith_builtin (by show(false||(backTo cpos (starEach es X.env)).any (·.1))=false;rw[hplain]<;>rfl) (Calls.evalArgs_plain ?_);exact bY hA fun us s2 ⟨vs,H2,I2,r2,q2⟩=>hm pins s2 σ H2 x vs v us Q I2 r1 r2 q2
end
def TY (X:Cx) (id:String) (r:V->List V->Hp->VK->Prop):Prop:=
 ∀(pins:List (Addr×Obj)) (s:Shared) (σ:St) (H:Hp) (x:V) (xs:List V) (v:Value) (us:List Value) (Q:VK),Inv X pins σ H s->RelV x v->Vals xs us->r x xs H Q->
  wpAny (model X.prog X.w) X.A (call (.builtin id) (v::us)) (EP X pins σ Q) X.xe s
theorem Vals.one:∀{x:V} {us:List Value},Vals [x] us->∃u,us=[u]/\RelV x u
 |_,_,.cons r .nil=>⟨_,rfl,r⟩
theorem Vals.eraseIdx:∀{xs:List V} {us:List Value} (i:Nat),Vals xs us->Vals (xs.eraseIdx i) (us.eraseIdx i)
 |_,_,_,.nil=>.nil
 |_,_,0,.cons _ t=>t
 |_,_,i+1,.cons r t=>.cons r (Vals.eraseIdx i t)
theorem tT:∀(l:List α) (i:Nat),(l.eraseIdx i).length<=l.length
 |[],_=>le_refl _
 |_::_,0=>le_succ _
 |_::r,i+1=>Nat.succ_le_succ (tT r i)
section
variable {X:Cx} {pins:List (Addr×Obj)} {σ:St} {H:Hp} {s:Shared} {l b:Addr} {xs ys zs:List V}
theorem Inv.OF {f:Array Value->Array Value} (I:Inv X pins σ H s) (hH:H l=some (.lst xs))
  (e:s.heap.get? l=some {cls:=.type "list",data:=.seq its.toArray n}) (hf:f its.toArray=its'.toArray) (hv:Vals ys its') (hz:ys.length<=sizeLine):
  Inv X pins σ (upd H l (.lst ys)) {s with heap:=s.heap.update l (Obj.mapSeq f),toks:=t'}:=by
 have q:=PySem.IsL.update e f;rw[hf]at q;refine I.write (x:=l) (e:=l) (by rw[hH];exact trivial) (.inl rfl) (fun b' u hb hu=>(get?_update_other s.heap (Obj.mapSeq f) (Ne.symm hb)).trans hu) ⟨_,q⟩ ?_;exact⟨hz,its',_,hv,q⟩
theorem Inv.TJ (I:Inv X pins σ H s) (hv:Vals ys its) (hz:ys.length<=sizeLine):
  Inv X pins σ (upd H s.heap.objs.size (.lst ys)) {s with heap:=s.heap.push {cls:=.type "list",data:=.seq its.toArray},toks:=t'}:=
 I.laid (fun _ _ q=>get?_push_of_some _ q) (le_refl _) ⟨hz,its,0,hv,get?_push_size _ rfl⟩
theorem Inv.fresh (I:Inv X pins σ H s):H s.heap.objs.size=none:=I.bH.fresh (le_refl _)
theorem Inv.JH (I:Inv X pins σ H s) (hH:H l=some (.lst xs)):xs.length<=sizeLine/\∃(its:List Value) (n:Nat),Vals xs its/\xs.length=its.length/\s.heap.get? l=some {cls:=.type "list",data:=.seq its.toArray n}:=by
 obtain⟨z,its,n,r,e⟩:=I.bH l _ hH;exact⟨z,its,n,r,r.length,e⟩
end
section
variable {X:Cx}
def jC:V->List V->Hp->VK->Prop:=fun x vs H Q=>∃l xs y,x= .ref l/\vs=[y]/\H l=some (.lst xs)/\xs.length<sizeLine/\Q .aP (upd H l (.lst (xs++[y])))
theorem eQ:TY X "list.append" jC:=by
 intro pins s σ H x vs v us Q I rx rv h;obtain⟨l,xs,y,rfl,rfl,hH,hz,q⟩:=h;cases rx;obtain⟨u,rfl,ru⟩:=rv.one;obtain⟨z,its,n,r,hl,e⟩:=I.JH hH;refine call_meets F.slot_list_append ⟨_,e,rfl⟩ F.entry_list_append (F.args_list_append_2 _ _) (PySem.list_append l its.toArray n u (by rw[size_toArray];omega)) ⟨e,?_⟩;refine⟨.aP,_,I.OF (its':=its++[u]) hH e (by simp) (r.append (.cons ru .nil)) ?_,rfl,q⟩;rw[length_append,List.length_singleton];omega
def sS:V->List V->Hp->VK->Prop:=fun x vs H Q=>∃l xs i k y,x= .ref l/\vs=[.int i]/\H l=some (.lst xs)/\ -(2^63)<=i/\i<2^63/\seqIndex? i xs.length=some k/\xs[k]? =some y/\Q y (upd H l (.lst (xs.eraseIdx k)))
theorem zW:TY X "list.pop" sS:=by
 intro pins s σ H x vs v us Q I rx rv h;obtain⟨l,xs,i,k,y,rfl,rfl,hH,h1,h2,hk,hy,q⟩:=h;cases rx;obtain⟨u,rfl,ru⟩:=rv.one;obtain⟨t,rfl⟩:=ru;obtain⟨z,its,n,r,hl,e⟩:=I.JH hH;obtain⟨w,hw,tY⟩:=r.get hy;refine call_meets F.slot_list_pop ⟨_,e,rfl⟩ F.entry_list_pop (F.args_list_pop_2 _ _)
  (MeetsSeq.list_pop_at l its.toArray n i t k w (fitsIndex_both h1 h2) (by rw[size_toArray,<-hl];exact hk) (by rw[<-getElem?_toList];exact hw) (by rw[size_toArray];omega)) ⟨e,?_⟩
 refine⟨y,_,I.OF (its':=its.eraseIdx k) hH e ?_ (r.eraseIdx k) ?_,tY,q⟩
 .show its.toArray.eraseIdxIfInBounds k=(its.eraseIdx k).toArray;rw[List.eraseIdxIfInBounds_toArray]
 .have:=tT xs k;omega
def IH:R2:=fun x y H Q=>∃l b xs zs,x= .ref l/\y= .ref b/\H l=some (.lst xs)/\H b=some (.lst zs)/\xs.length+zs.length<=sizeLine/\∀p,H p=none->Q (.ref p) (upd H p (.lst (xs++zs)))
theorem sH:j3 X (binaryOp .Add) IH:=by
 intro pins s σ H x y v u Q I rx ry h;obtain⟨l,b,xs,zs,rfl,rfl,hH,hB,hz,q⟩:=h;cases rx;cases ry;obtain⟨z,its,n,r,hl,e⟩:=I.JH hH;obtain⟨z2,its2,n2,r2,hl2,e2⟩:=I.JH hB;refine PySem.P.add_list e e2 ?_ (by rw[size_toArray,size_toArray];omega);have ea:its.toArray++its2.toArray=(its++its2).toArray:=by simp
 rw[ea];exact⟨.ref _,_,I.TJ (t':=s.toks) (r.append r2) (by rw[length_append];omega),rfl,q _ I.fresh⟩
end
end L2
namespace UR
open PySem PySem.W PySem.Calls PyProof.Rows
variable {h:Heap} {n:Nat} {l:OpenLaw}
theorem p4 {P:Params}:∀(ns:List Int) (vs:List Value),WellAll P h vs (ns.map WData.int)->IntsAre vs ns:=by
 intro ns
 induction ns with
 |nil=>
  intro vs w;rw[map_nil]at w;cases w;exact .nil
 | cons n ns ih=>
  intro vs w;rw[map_cons]at w;cases w with
  |cons a b=>
   cases a;exact .cons _ _ (ih _ b)
theorem D3 (hn:l.most=some n) {P:Params} {args:List WData} {vals:List Value}
  (hpre:l.row.toRowW.claim.pre args=true) (hwl:WellAll P h vals args):
  ∃a vs ns,vals=[Value.ref a]/\args=[WData.list (ns.map WData.int)]/\h.get? a=some {cls:=.type "list",data:=.seq vs.toArray}/\IntsAre vs ns/\ns.length<=n:=by
 have hsh:WShape.hasAll [] args [.list .int]=true:=(pre_splitW hpre).1;have hc:l.pre.holds [] {args:=args}=true:=(pre_splitW hpre).2;obtain⟨d,r,rfl,h1,h2⟩:=hasAllW_cons hsh;obtain rfl:=hasAllW_nil h2;obtain⟨xs,rfl,h3⟩:=hasW_list h1;obtain⟨ns,rfl⟩:=items_int h3;have hlen:ns.length<=n:=by
  unfold OpenLaw.pre at hc;have h4:(WTm.not (.lt (.lit (.int (n:Int))) (.len (.arg 0)))).holds [] {args:=[.list (ns.map .int)]}=true:=by
   have h4:=(holds_andW hc).1;rw[hn]at h4;exact h4
  have h5:=condW_of h4 (w_not (w_lt w_lit (w_len_list (w_arg rfl))));rw[length_map]at h5;refine Nat.le_of_not_lt fun q=>?_
  have q':(n:Int)<((ns.length:Nat):Int):=by omega
  first
   |(rw[decide_eq_true q']at h5;exact absurd h5 (by decide))
   |(simp at h5;omega)
 cases hwl with
 |cons w1 w2=>
  cases w2;cases w1 with
  |list ho hall=>exact⟨_,_,ns,rfl,rfl,ho,p4 ns _ hall,hlen⟩
theorem EK (l:OpenLaw) (args:List WData):l.row.toRowW.claim.post args (.bool true) args=true:=
 postW_of (r:=l.row.toRowW) (X:=(true==true))
  (show WShape.has [] (.bool true) .bool=true by first|rfl|decide|simp[WShape.has,WShape.arms,WShape.armsAll])
  (show(WTm.eq .res (.lit (.bool true))).value [] {args:=args,res:=some (.bool true),after:=args}=some (.bool (true==true))from w_eq_bool (w_res rfl) w_lit) rfl
theorem yW {q:Program} {loose:List Str} {XP:(Str->Option Value)->Heap->Prop} {YP:World->Heap->Prop} {d:DefRec}
  (hn:l.most=some n) (hdf:d.params.defaults=[])
  (call:∀(w:World) (iO s₁:Shared) (mg mb:Str->Option Value) (fa:Addr) (o:Obj) (pm cd doc:Value) (a:Addr) (vs:List Value) (ns:List Int),
   Ground q loose [] XP w iO mg mb s₁.heap->YP w s₁.heap->
   s₁.heap.get? fa=some o->o.data= .func (docDef d.name d.params d.body d.scope pm cd doc)->s₁.heap.CodeRec cd d.name->mg d.name=some (.ref fa)->
   s₁.heap.get? a=some {cls:=.type "list",data:=.seq vs.toArray}->IntsAre vs ns->ns.length<=n->s₁.gens= #[]->
   codeAny (model l.prog w) callerA (.call (.ref fa) ⟨[.ref a],[]⟩) (fun r s'=>r= .ok (.ret (.bool true))/\OldK s₁.heap s'.heap/\s'.os=s₁.os/\AllBare s'.gens) s₁):
  WalkO q loose XP YP l.row.toRowW d [] (fun f vs=>PySem.call f vs):=by
 intro w iO s₁ mg mb G Y fa o pm cd doc dV kV ho hd hcd hD hmg hg args vals as hpre hlay hrd hwl hlo;obtain rfl:dV= .none:=Dflts.none hD hdf;obtain rfl:kV= .none:=Dflts.noKw hD;obtain⟨a,vs,ns,rfl,rfl,hobj,hints,hlen⟩:=D3 hn hpre hwl;refine enter_call (codeAny_mono (call w iO s₁ mg mb fa o pm cd doc a vs ns G Y ho (fd_plain hd) hcd hmg hobj hints hlen hg) fun r s' hq=>?_);obtain⟨rfl,h2,h3,h4⟩:=hq;exact⟨.inl ⟨.bool true,.bool true,[],rfl,fun _=>rfl,.bool true,EK l _,fun _=>⟨List.Pairwise.nil,fun _ hm=>(nomatch hm)⟩⟩,h2,h3,h4⟩
end UR
namespace L2
open PySem PySem.Spec PyProof.Rows
variable {f:Addr} {fd:FuncData} {H:Hp} {ps:List Str} {k:Nat} {A B:Prop} {sp:Sp} {st:Stmt} {qual x:Str}
theorem uU:∀{vs:List Value} {ns:List Int},IntsAre vs ns->Vals (ns.map V.int) vs
 |_,_,.nil=>.nil
 |_,_,.cons n t h=>.cons ⟨t,rfl⟩ (uU h)
def N0 (H:Hp):Prop:=∀b,H b=none\/ ∃o xs,H b=some (.C3 o (.lst xs))
theorem IG {P:Program} {w:World} {K:Frag} {mg mb:Str->Option Value} {CX:EI} {fa a:Addr} {s₁:Shared} {vs:List Value} {ns:List Int}
  (KX:K.In s₁.heap) (hns:s₁.heap.Ns mainGlobals mg) (hb:s₁.heap.Ns builtinsNs mb) (hbb:∀x:Str,x≠"__name__"->mb x=bootBuiltins x) (hlim:s₁.heap.NoLimit) (hg:s₁.gens= #[])
  (ha:s₁.heap.get? a=some {cls:=.type "list",data:=.seq vs.toArray}) (hi:IntsAre vs ns) (hl:ns.length<=sizeLine) (hr:d6 k callerA)
  (F:∀base:Heap,K.In base->base.Ns mainGlobals mg->aZ P w K mg base CX k fa fd [x] sp) (hbind:∀(s:Shared) (u:Value),BindsTo s fd ⟨[u],[]⟩ [(x,u)])
  (hsp:∀H:Hp,N0 H->bC K H a (ns.map V.int)->sp [.ref a] H (fun v _=>v= .bl true) fun _ _ _=>False)
  (hCX:∀H e s',CX [] H s₁ (fun _ _ _=>False) e s'->False):
  codeAny (model P w) callerA (.call (.ref fa) ⟨[.ref a],[]⟩) (fun r s'=>r= .ok (.ret (.bool true))/\OldK s₁.heap s'.heap/\s'.os=s₁.os/\AllBare s'.gens) s₁:=by
 have rv:=uU hi;have lenV:=hi.length;have core:∀H:Hp,N0 H->bC K H a (ns.map V.int)->jL P w H s₁.heap->(∀b,H b≠none->b=a)->(H a≠none->K.lookup a=none)->
   codeAny (model P w) callerA (.call (.ref fa) ⟨[.ref a],[]⟩) (fun r s'=>r= .ok (.ret (.bool true))/\OldK s₁.heap s'.heap/\s'.os=s₁.os/\AllBare s'.gens) s₁:=by
  intro H hO hS bH hA hK;have base_of:∀{b:Addr} {o:Obj},s₁.heap.get? b=some o->H b=none->(vQ s₁.heap H).get? b=some o:=fun e n=>JD e n
  have J1:∀{b:Addr} {o:Obj} {es:Array DictEntry} {ep:Nat},s₁.heap.get? b=some o->o.data= .dict es ep->H b=none:=fun{b o es ep} e d=>by
   cases q:H b with
   |none=>rfl
   |some u=>
    have e':b=a:=hA b (by rw[q];simp);subst e';rw[ha]at e;cases e
    have d':Data.seq vs.toArray _=Data.dict es ep:=d;cases d'
  have nsK:∀{b:Addr} {m:Str->Option Value},s₁.heap.Ns b m->(vQ s₁.heap H).Ns b m:=fun{b m} ⟨o,es,ep,e,d,r⟩=>⟨o,es,ep,base_of e (J1 e d),d,r⟩
  have hKb:K.In (vQ s₁.heap H):=fun b o e=>base_of (KX b o e) (by
   cases q:H b with
   |none=>rfl
   |some u=>
    have e':b=a:=hA b (by rw[q];simp);subst e';rw[hK (by rw[q];simp)]at e;cases e)
  have hM:Mod K mg (vQ s₁.heap H):=⟨hKb,nsK hns,⟨mb,nsK hb,hbb⟩,let⟨mc,h1,h2⟩:=hlim;⟨mc,nsK h1,h2⟩⟩;have e0:MC P w K mg (vQ s₁.heap H) callerA [] s₁ H:=⟨rfl,hM,fun b o e=>J8 e,Nat.le_of_eq (EH _ _),trivial,fun b hb=>absurd (show b∈([]:List Addr)from hb) (by simp),bH,.of_eq hg⟩;refine codeAny_mono ((F _ hKb (nsK hns)).run callerA [] s₁ H ⟨[.ref a],[]⟩ [.ref a] [.ref a] _ _ hr e0 (hbind s₁ (.ref a)) (.cons rfl .nil) (hsp H hO hS)) fun r s' h=>?_
  cases r with
  |error e=>exact(hCX H e s' h).elim
  | ok fl=>
   cases fl with
   |next=>exact False.elim h
   |brk=>exact False.elim h
   |cont=>exact False.elim h
   | ret u=>
    obtain⟨v,H',os,bare,un,hok',r',q⟩:=h;have q':v= .bl true:=q;subst q';obtain rfl:u=Value.bool true:=r';refine⟨rfl,OldK.of_keep fun b o e=>?_,os,bare⟩;cases q:H b with
    |none=>exact un.keep b o e q (by intro z;exact absurd (show b∈([]:List Addr)from z) (by simp)) (by simp)
    | some u=>
     rcases hO b with z|⟨ob,xs,z⟩
     .rw[q]at z;cases z
     .have z2:=un.nR b ob _ z;obtain⟨e1,_⟩:=bH b _ z;obtain⟨e2,_⟩:=hok' b _ z2;rw[e]at e1;cases e1
      exact e2
 cases hk:K.lookup a with
 |some o=>
  have e:=KX a o hk;rw[ha]at e;cases e;refine core (fun _=>none) (fun _=>.inl rfl) (.inr ⟨_,vs.toArray,_,hk,rfl,rfl,rfl,by rw[size_toArray,lenV];exact hl,by simpa using rv⟩) (fun b u z=>by have z':(none:Option HO)=some u:=z;cases z') (fun b z=>absurd rfl z) fun z=>absurd rfl z
 | none=>
  refine core (fun b=>if b=a then some (.C3 {cls:=.type "list",data:=.seq vs.toArray} (.lst (ns.map V.int)))else none) (fun b=>?_) (.inl (.inr ⟨{cls:=.type "list",data:=.seq vs.toArray},if_pos rfl⟩)) (fun b u z=>?_) (fun b z=>?_) fun _=>hk
  .by_cases hb:b=a
   .exact .inr ⟨_,_,if_pos hb⟩
   .exact .inl (if_neg hb)
  .by_cases hb:b=a
   .have z':=(if_pos hb).symm.trans z;cases z';subst hb;exact⟨ha,by rw[length_map];exact hl,vs,_,rv,ha⟩
   .have z':=(if_neg hb).symm.trans z;cases z'
  .by_cases hb:b=a
   .exact hb
   .exact absurd (if_neg hb) z
theorem K5 {l:PySem.W.OpenLaw} {n:Nat} {q:Program} {loose:List Str} {XP:(Str->Option Value)->Heap->Prop} {YP:World->Heap->Prop} {d:DefRec} {K:Params->Frag} {CX:World->EI} {sp:World->Sp}
  (hn:l.most=some n) (hn2:n<=sizeLine) (hdf:d.params.defaults=[]) (hr:d6 k callerA)
  (hY:∀(w:World) (h:Heap),YP w h->(K w.params).In h)
  (F:∀(w:World) (mg:Str->Option Value) (fa:Addr) (h:Heap),(K w.params).In h->h.Ns mainGlobals mg->mg d.name=some (.ref fa)->
   ∃fd:FuncData,(∀(s:Shared) (u:Value),BindsTo s fd ⟨[u],[]⟩ [(x,u)])/\
    ∀base:Heap,(K w.params).In base->base.Ns mainGlobals mg->aZ l.prog w (K w.params) mg base (CX w) k fa fd [x] (sp w))
  (hsp:∀(w:World) (H:Hp) (a:Addr) (ns:List Int),ns.length<=n->N0 H->bC (K w.params) H a (ns.map V.int)->sp w [.ref a] H (fun v _=>v= .bl true) fun _ _ _=>False)
  (hCX:∀(w:World) (H:Hp) (s:Shared) (e:Value) (s':Shared),CX w [] H s (fun _ _ _=>False) e s'->False):
  PySem.W.WalkO q loose XP YP l.row.toRowW d [] (fun f vs=>PySem.call f vs):=by
 refine UR.yW hn hdf fun w iO s₁ mg mb fa o pm cd doc a vs ns G Y ho hd hcd hmg hobj hints hlen hg=>?_
 have KX:=hY w _ Y;obtain⟨fd,hb,hF⟩:=F w mg fa _ KX G.T.g hmg;exact IG KX G.T.g G.T.b G.T.builtins G.T.nolimit hg hobj hints (le_trans hlen hn2) hr hF hb (fun H hO hS=>hsp w H a ns hlen hO hS) fun H e s'=>hCX w H s₁ e s'
abbrev dS:EI:=fun _ _ _ _ _ _=>False
abbrev E0:XK:=fun _ _ _=>False
theorem RU {X:Cx}:Passes dS X E0:=fun _ _ _ _ _ _ _ h=>h.elim
structure QD (K:Frag) (x qual:Str) (st:Stmt) (f:Addr) (fd:FuncData):Prop where
 ex:∃(oc:Value) (od:Option Addr) (kV doc pm:Value) (an:Option Addr) (cdv ct:Value) (osl:Array (Option Value)),
  fd=fnOf x qual (aM st) (aL st) (aD st) .none kV doc pm an cdv ct/\K.lookup f=some ⟨oc,od,.func fd,osl⟩/\codeIn K cdv qual=true
 kp:keepIn K (.ref f)=true
section
variable {P:Program} {w:World} {K:Frag} {mg:Str->Option Value} {base:Heap}
theorem QD.ok {N:List Str} (F:QD K x qual st f fd) (S:aX N ps (aD st)) (len:∀vs H Q E,sp vs H Q E->vs.length=ps.length)
  (hbody:∀(cdv:Value) (A:Around) (outer:List Env) (s:Shared) (H:Hp) (vs:List V) (Q:VK) (E:XK),d6 k (A.deeper (envOfC qual (aD st) s.heap.objs.size f cdv))->sp vs H Q E->
   ∃t,DZ (BJ dS P w K mg base N qual (aD st) f cdv A outer s H E).S9 (aL st) t/\t {nx:=fun _ H'=>Q .aP H',rt:=Q} (start N vs) H):aZ P w K mg base dS (k+1) f fd ps sp:=by
 obtain⟨oc,od,kV,doc,pm,an,cdv,ct,osl,rfl,lk,hcd⟩:=F.ex;refine R3 lk hcd S len fun A outer s H vs Q E hr hsp=>?_
 obtain⟨t,h,q⟩:=hbody cdv A outer s H vs Q E hr hsp;exact⟨t,h.S9,q⟩
theorem QD.binds (F:QD K x qual st f fd)
  (h:∀(kV doc pm:Value) (an:Option Addr) (cdv ct:Value) (us:List Value),us.length=ps.length->bindArgs (fnOf x qual (aM st) (aL st) (aD st) .none kV doc pm an cdv ct) ⟨us,[]⟩=pure (ps.zip us)):Binds K fd ps []:=by
 obtain⟨oc,od,kV,doc,pm,an,cdv,ct,osl,rfl,lk,hcd⟩:=F.ex;exact .all (h kV doc pm an cdv ct)
theorem bN {oc:Value} {od an:Option Addr} {osl:Array (Option Value)} {kV doc pm cdv ct:Value} (l:K.lookup f=some ⟨oc,od,.func (fnOf x qual (aM st) (aL st) (aD st) .none kV doc pm an cdv ct),osl⟩)
  (c:codeIn K cdv qual=true) (k:keepIn K (.ref f)=true):QD K x qual st f (fnOf x qual (aM st) (aL st) (aD st) .none kV doc pm an cdv ct):=⟨⟨oc,od,kV,doc,pm,an,cdv,ct,osl,rfl,l,c⟩,k⟩
end
theorem gD {A:Around} (hr:d6 k A):A.units+1<cLine:=Nat.lt_of_le_of_lt (Nat.add_le_add_left (by decide:1<=64) _) hr.units
section
variable {X:Cx}
theorem pv (i:Nat) {pos:Pos} (hN:X.N[i]? =some x:=by rfl) (hv:T7 X.env.scope x:=by first|exact Or.inl rfl|exact Or.inr (Or.inl rfl)|exact Or.inr (Or.inr rfl)) (hd:(x==("__debug__":Str))=false:=by decide)
  (hcd:(x==("__classdict__":Str))=false:=by decide):PE X (.Name x pos) (bS i):=OB hN hv hd hcd
end
theorem kL (h:B):if false=true then A else B:=by
 rw[if_neg Bool.false_ne_true];exact h
theorem o4 (h:A):if true=true then A else B:=by
 rw[if_pos rfl];exact h
theorem O9 {c:Prop} [Decidable c] (h1:c->A) (h2:¬c->B):if c then A else B:=by
 by_cases h:c
 .rw[if_pos h];exact h1 h
 .rw[if_neg h];exact h2 h
def aF (H H':Hp):Prop:=∀b o,H b=some o->H' b=some o
theorem aF.refl (H:Hp):aF H H:=fun _ _ h=>h
theorem aF.trans {H1 H2:Hp} (a:aF H H1) (b:aF H1 H2):aF H H2:=fun c o h=>b c o (a c o h)
theorem aF.seq {K:Frag} {H':Hp} {a:Addr} {xs:List V} (e:aF H H') (h:bC K H a xs):bC K H' a xs:=by
 rcases h with(h|⟨o,h⟩)|h
 .exact .inl (.inl (e _ _ h))
 .exact .inl (.inr ⟨o,e _ _ h⟩)
 .exact .inr h
end L2
set_option maxHeartbeats 4000000
namespace L2
open PySem PySem.Spec PyProof.Rows
variable {C a p:Addr} {X:Cx} {env:Env} {o:HO} {H H' H1 H2:Hp} {pins:List (Addr×Obj)} {cl:List (Str×Addr)} {fp:List Addr} {N:List Str} {xs:List V} {n:Nat} {A B c:Prop} {K:Frag} {scope:Scope} {s2:Shared} {σ:St} {z:Str} {α:Type} {w:World}
theorem mZ:∀(names:List (Str×NameKind)) (acc:List (Str×Addr)),(∀p∈names,p.2= .free->∃c,env.cells.lookup p.1=some c)->
  (∀y c,acc.lookup y=some c->env.cells.lookup y=some c)->
  ∃cl,(forIn names acc (fun(p:Str×NameKind) (cs:List (Str×Addr))=>if(p.2==NameKind.free)=true then(do let a<-cellOf env p.1;pure (ForInStep.yield ((p.1,a)::cs)))else(pure (ForInStep.yield cs):Sem _)):Sem _)=pure cl/\
   (∀y c,cl.lookup y=some c->env.cells.lookup y=some c)/\(∀y,(acc.lookup y).isSome=true->(cl.lookup y).isSome=true)/\∀y,(y,NameKind.free)∈names->(cl.lookup y).isSome=true
 |[],acc,_,h=>⟨acc,rfl,h,fun _ z=>z,fun _ z=>nomatch z⟩
 | (n,k)::r,acc,hf,h=>by
  by_cases hk:k= .free
  .subst hk;obtain⟨c,hc⟩:=hf (n,.free) mem_cons_self rfl;obtain⟨cl,e,h1,h2,h3⟩:=mZ r ((n,c)::acc) (fun p hp=>hf p (mem_cons_of_mem _ hp)) (fun y d hd=>by
    rw[lookup_cons]at hd;cases q:y==n with
    |true=>rw[q]at hd;cases hd;rw[eq_of_beq q];exact hc
    |false=>rw[q]at hd;exact h y d hd)
   refine⟨cl,?_,h1,fun y hy=>h2 y ?_,fun y hy=>?_⟩
   .rw[forIn_cons];have e0:cellOf env n=pure c:=by unfold cellOf;rw[hc]
    simp only[beq_self_eq_true,if_true,e0,pure_bind];exact e
   .rw[lookup_cons];cases q:y==n with
    |true=>rfl
    |false=>exact hy
   .rcases mem_cons.mp hy with q|q
    .cases q;refine h2 n ?_;rw[lookup_cons,beq_self_eq_true];rfl
    .exact h3 y q
  .obtain⟨cl,e,h1,h2,h3⟩:=mZ r acc (fun p hp=>hf p (mem_cons_of_mem _ hp)) h;refine⟨cl,?_,h1,h2,fun y hy=>?_⟩
   .rw[forIn_cons];have e0:(k==NameKind.free)=false:=by simpa using hk
    simp only[e0,false_eq_true,if_false,pure_bind];exact e
   .rcases mem_cons.mp hy with q|q
    .cases q;exact absurd rfl hk
    .exact h3 y q
theorem jJ {env:Env} {scope:Scope} (hf:∀p∈scope.names,p.2= .free->∃c,env.cells.lookup p.1=some c):
  ∃cl,closureFor scope env=pure cl/\(∀y c,cl.lookup y=some c->env.cells.lookup y=some c)/\∀y,(y,NameKind.free)∈scope.names->(cl.lookup y).isSome=true:=by
 obtain⟨cl,e,h1,_,h3⟩:=mZ (env:=env) scope.names [] hf (fun y c h=>by simp at h);refine⟨cl,?_,h1,h3⟩;unfold closureFor;have e':=congrArg (fun m:Sem (List (Str×Addr))=>m>>=fun cs=>pure cs) e;simp only[pure_bind]at e';rw[<-e']
structure JE where
 cl:List (Str×Addr)
 C:Addr
 s:Shared
 H:Hp
 ex:List Addr
noncomputable def aY (X:Cx) (scope:Scope) (N:List Str) (c:JE):Cx:=
 {X with N:=N,iO:=c.s,GQ:=c.H,env:=compEnvC scope c.cl c.C X.env,outer:=X.stack,stack:=X.stack,ex:=c.ex,fn:=fun _=>false,pn:=[],xe:=fun _ _=>False}
noncomputable def bR (k:Nat) (cL:List Nat) (σ:St):St:=List.replicate k none++cL.map fun i=>(σ[i]?).getD none
def MG:TT:=fun _ H Q=>Q true H
section
variable {prog:Program} {w:World} {A:Around} {R:Result->Shared->Prop} {s:Shared}
theorem tZ {elt target iter:Expr} {ifs:List Expr} {pos:Pos} {it acc:Value} (I:Nat->Shared->Prop)
  (turn:∀n s,I n s->wpAny (model prog w) A (pyNext it) (fun r s₁=>match r with
   |none=>R (.ok .next) s₁
   | some v=>wpAny (model prog w) A (letOwnedTupleGo target it v) (fun _ s₁'=>wpAny (model prog w) A (assign target env v) (fun _ s₂=>
     wpAny (model prog w) A (forIn ifs true fun c r=>if r=true then do let ok<-isTrue c env (eval c env);pure (ForInStep.yield ok)else pure (ForInStep.yield r)) (fun ok s₃=>
      if ok=true then wpAny (model prog w) A (eval elt env) (fun x s₄=>
       wpAny (model prog w) A (call (.builtin "list.append") [acc,x]) (fun _ s₅=>∃m,m<n/\I m s₅) (fun _ _=>False) s₄) (fun _ _=>False) s₃
      else∃m,m<n/\I m s₃) (fun _ _=>False) s₂) (fun _ _=>False) s₁') (fun _ _=>False) s₁) (fun _ _=>False) s)
  (n:Nat) (h:I n s):
  codeAny (model prog w) A (.compLoop (.ListComp elt [⟨target,iter,ifs,0⟩] scope pos) 0 it acc env) R s:=by
 refine codeAny_loop rfl I (fun n s hI=>?_) n h;show wpAny _ A ((compTurn (.ListComp elt [⟨target,iter,ifs,0⟩] scope pos) 0 it acc env).onRaise (fun x=>do noteFrame x env;theTreesLotGoes x)) _ _ s;refine wpAny_noted ?_;refine wpAny_mono (E:=fun _ _=>False) ?_ (fun _ _ q=>q) (fun _ _ z=>z.elim);rw[compTurn_list];refine wpAny_bind (wpAny_standAt (wpAny_bind (wpAny_mono (turn n s hI) (fun r s₁ h₁=>?_) fun _ _ h'=>h')));cases r with
 |none=>exact wpAny_pure h₁
 | some v=>
  refine wpAny_bind (wpAny_mono h₁ (fun _ s₁' h₁'=>?_) fun _ _ h'=>h');refine wpAny_bind (wpAny_mono h₁' (fun _ s₂ h₂=>wpAny_bind (wpAny_mono h₂ (fun ok s₃ h₃=>?_) fun _ _ h'=>h')) fun _ _ h'=>h');cases ok with
  |false=>exact wpAny_pure ⟨rfl,h₃⟩
  |true=>
   exact wpAny_bind (wpAny_bind (wpAny_mono h₃ (fun x s₄ h₄=>wpAny_bind (wpAny_mono h₄ (fun _ s₅ h₅=>wpAny_pure (wpAny_pure ⟨rfl,h₅⟩)) fun _ _ h'=>h')) fun _ _ h'=>h'))
end
def MR (X:Cx) (ifs:List Expr) (t:TT):Prop:=
 ∀(pins:List (Addr×Obj)) (s:Shared) (σ:St) (H:Hp) (Q:Bool->Hp->Prop),Inv X pins σ H s->t σ H Q->
  wpAny (model X.prog X.w) X.A (forIn ifs true fun c r=>if r=true then do let ok<-isTrue c X.env (eval c X.env);pure (ForInStep.yield ok)else pure (ForInStep.yield r)) (TP X pins σ Q) X.xe s
theorem dG:MR X [] MG:=fun pins s σ H Q I h=>wpAny_tests_nil ⟨H,I,h⟩
theorem qB {c:Expr} {t:TT} (h:PT X c t):MR X [c] t:=fun pins s σ H Q I hq=>wpAny_tests_one (h pins s σ H Q I hq)
theorem fO {env:Env}:∀{names:List (Str×NameKind)} {x:Str},names.lookup x=some .free->
  (names.map fun(n,k)=>if(k==NameKind.free && env.scope.kind== .function && env.kindOf n==some .cell)then(n,NameKind.cell)else(n,k)).lookup x=some .cell\/
  (names.map fun(n,k)=>if(k==NameKind.free && env.scope.kind== .function && env.kindOf n==some .cell)then(n,NameKind.cell)else(n,k)).lookup x=some .free
 |[],_,h=>by simp at h
 | (n,k)::r,x,h=>by
  have ih:= @fO env r x;show List.lookup x ((if(k==NameKind.free && env.scope.kind== .function && env.kindOf n==some .cell)=true then(n,NameKind.cell)else(n,k))::_)=_\/ List.lookup x ((if(k==NameKind.free && env.scope.kind== .function && env.kindOf n==some .cell)=true then(n,NameKind.cell)else(n,k))::_)=_;cases hx:x==n with
  |true=>
   simp only[lookup_cons,hx]at h;cases h
   by_cases hc:(NameKind.free==NameKind.free && env.scope.kind== .function && env.kindOf n==some .cell)=true
   .rw[if_pos hc];left;simp only[lookup_cons,hx]
   .rw[if_neg hc];right;simp only[lookup_cons,hx]
  |false=>
   simp only[lookup_cons,hx]at h
   by_cases hc:(k==NameKind.free && env.scope.kind== .function && env.kindOf n==some .cell)=true
   .rw[if_pos hc];simp only[lookup_cons,hx];exact ih h
   .rw[if_neg hc];simp only[lookup_cons,hx];exact ih h
theorem jA {env:Env}:∀{names:List (Str×NameKind)} {x:Str},(∀y∈names,y.2≠ .cell)->
  ((names.map fun(n,k)=>if(k==NameKind.free && env.scope.kind== .function && env.kindOf n==some .cell)then(n,NameKind.cell)else(n,k)).lookup x=some .cell\/
  (names.map fun(n,k)=>if(k==NameKind.free && env.scope.kind== .function && env.kindOf n==some .cell)then(n,NameKind.cell)else(n,k)).lookup x=some .free)->(x,NameKind.free)∈names
 |[],_,_,h=>by simp at h
 | (n,k)::r,x,hn,h=>by
  have ih:= @jA env r x (fun y hy=>hn y (mem_cons_of_mem _ hy));have h':List.lookup x ((if(k==NameKind.free && env.scope.kind== .function && env.kindOf n==some .cell)=true then(n,NameKind.cell)else(n,k))::(r.map fun(n,k)=>if(k==NameKind.free && env.scope.kind== .function && env.kindOf n==some .cell)then(n,NameKind.cell)else(n,k)))=some .cell\/ List.lookup x ((if(k==NameKind.free && env.scope.kind== .function && env.kindOf n==some .cell)=true then(n,NameKind.cell)else(n,k))::(r.map fun(n,k)=>if(k==NameKind.free && env.scope.kind== .function && env.kindOf n==some .cell)then(n,NameKind.cell)else(n,k)))=some .free:=h;cases hx:x==n with
  | true=>
   have e:=eq_of_beq hx;subst e
   by_cases hc:(k==NameKind.free && env.scope.kind== .function && env.kindOf x==some .cell)=true
   .have hk:k= .free:=by
     have:=(and_eq_true _ _|>.mp ((and_eq_true _ _|>.mp hc).1)).1;exact eq_of_beq this
    subst hk;exact mem_cons_self
   .rw[if_neg hc]at h';simp only[lookup_cons,hx]at h';have hk:=hn (x,k) mem_cons_self;rcases h' with z|z
    .exact absurd (Option.some.inj z) hk
    .rw[Option.some.inj z];exact mem_cons_self
  |false=>
   refine mem_cons_of_mem _ (ih ?_)
   by_cases hc:(k==NameKind.free && env.scope.kind== .function && env.kindOf n==some .cell)=true
   .rw[if_pos hc]at h';simp only[lookup_cons,hx]at h';exact h'
   .rw[if_neg hc]at h';simp only[lookup_cons,hx]at h';exact h'
def iN (J:It) (g:TG) (tt:TT) (te:TE) (l:Addr) (σ0:St) (H0:Hp) (Q:VK):Prop:=
 ∃W:Nat->Nat->St->Hp->Prop,(∃m,W 0 m σ0 H0)/\
   ∀i m σ' H2,W i m σ' H2->(J.stop i H2/\Q (.ref l) H2)\/ (J.go i H2/\∃N:St->Hp->Prop,(∀σ3 H3,N σ3 H3->∃m',m'<m/\W (i+1) m' σ3 H3)/\
    ∀x H3,J.AX i H2 x H3->g x σ' H3 fun σ4 H4=>tt σ4 H4 fun b H5=>if b=true then te σ4 H5 fun y H6=>∃xs,H6 l=some (.lst xs)/\xs.length<sizeLine/\N σ4 (upd H6 l (.lst (xs++[y])))else N σ4 H5)
def C1 (wi:TI) (k:Nat) (cL:List Nat) (g:TG) (tt:TT) (te:TE):TE:=fun σ H Q=>wi σ H fun J H1=>∀l,H1 l=none->iN J g tt te l (bR k cL σ) (upd H1 l (.lst [])) Q
structure gN (X:Cx) (scope:Scope) (N:List Str) (k:Nat) (cL:List Nat):Prop where
 kind:scope.kind= .function
 names:∀y∈scope.names,y.2= .local->scope.names.lookup y.1=some .local
 cell:∀y∈scope.names,y.2≠ .cell
 free:∀y∈scope.names,y.2= .free->X.env.kindOf y.1=some .cell\/ X.env.kindOf y.1=some .free
 len:N.length=k+cL.length
 cL:∀j i,cL[j]? =some i->∃y,N[k+j]? =some y/\X.N[i]? =some y/\scope.names.lookup y=some .free
theorem uE {k:Nat} {cL:List Nat} {σ:St} {j:Nat} {v:V} (h:(bR k cL σ)[j]? =some (some v)):∃q i,j=k+q/\cL[q]? =some i/\σ[i]? =some (some v):=by
 unfold bR at h
 by_cases hj:j<k
 .rw[List.getElem?_append_left (by simpa using hj),List.getElem?_replicate]at h;split at h<;>cases h
 .rw[List.getElem?_append_right (by simpa using hj),length_replicate,getElem?_map]at h;cases q:cL[j - k]? with
  |none=>rw[q]at h;cases h
  |some i=>
   rw[q]at h;have h':(σ[i]?).getD none=some v:=Option.some.inj h;refine⟨j - k,i,by omega,q,?_⟩;cases r:σ[i]? with
   |none=>rw[r]at h';cases h'
   |some o=>rw[r]at h';have:o=some v:=h';rw[this]
theorem jL.but {P:Program} {h h':Heap} (x:jL P w H h) (hC:H C=none) (k:∀b o,b≠C->h.get? b=some o->h'.get? b=some o):jL P w H h':=fun b u e=>by
 have nit:∀b u,H b=some u->b≠C:=fun b u e z=>by rw[z,hC]at e;cases e
 refine(x b u e).wU (fun c v hc q=>k c v ?_ q) (fun _ q=>q) fun _ _ q=>q
 rcases hc with z|z
 .rw[z];exact nit b u e
 .exact nit c _ z
section
variable {X:Cx} {elt tg iter:Expr} {ifs:List Expr} {scope:Scope} {pos:Pos} {wi:TI} {g:TG} {tt:TT} {te:TE} {N:List Str} {k:Nat} {cL:List Nat}
theorem rK (S:gN X scope N k cL) (I2:Inv X pins σ H2 s2)
  (hcl1:∀y c,cl.lookup y=some c->X.env.cells.lookup y=some c) (hcl2:∀y,(y,NameKind.free)∈scope.names->(cl.lookup y).isSome=true) (hC:s2.heap.objs.size<=C)
  (hf:∀b∈fp,n6 X pins H2 b) (ho:∀b∈fp,b<s2.heap.objs.size):(aY X scope N ⟨cl,C,s2,H2,fp⟩).Ok where
 mod:=I2.ok.mod
 kind:=S.kind
 glob:=I2.ok.glob
 blt:=I2.ok.blt
 above:=hC
 inj:=fun x y c h1 h2=>I2.ok.inj x y c (hcl1 x c h1) (hcl1 y c h2)
 has:=fun x h=>by
  have h':(x,NameKind.free)∈scope.names:=jA (env:=X.env) S.cell h;exact isSome_iff_exists.mp (hcl2 x h')
 QE:=fun _ _ z=>by cases z
 hd:=I2.ok.hd
 frames:=I2.ok.frames
 SH:=.inl rfl
 UH:=fun b hb=>⟨ne_of_lt (lt_of_lt_of_le (ho b hb) hC),fun x c e=>(hf b hb).2.2.2.2.1 x c (hcl1 x c e)⟩
 bs:=I2.bs
 J2:=le_trans I2.ok.J2 I2.sz
 D0:=fun b o e hb=>by
  rcases(hf b hb).2.2.2.1 with z|z
  .exact I2.ok.D0 b o e z
  .exact absurd (lt_of_lt_of_le (lt_size e) (le_trans I2.ok.J2 z)) (Nat.lt_irrefl _)
 xV:=fun b hb hb'=>by
  rcases mem_cons.mp (I2.BD b hb')with z|z
  .exact(hf b hb).2.1 z
  .exact(hf b hb).2.2.1 z
 pJ:=I2.stack
 M6:=I2.CW
theorem B4 {h1:Heap} {tk:Nat} {m0:Str->Option Value} (S:gN X scope N k cL) (I2:Inv X pins σ H2 s2)
  (hcl1:∀y c,cl.lookup y=some c->X.env.cells.lookup y=some c) (hcl2:∀y,(y,NameKind.free)∈scope.names->(cl.lookup y).isSome=true) (hC:C=s2.heap.objs.size+1)
  (hf:∀b∈fp,n6 X pins H2 b) (ho:∀b∈fp,b<s2.heap.objs.size) (hk:∀b o,s2.heap.get? b=some o->h1.get? b=some o) (hD:h1.get? s2.heap.objs.size=some {cls:=.type "list",data:=.seq #[] 0}) (hns:h1.Ns C m0):
  Inv (aY X scope N ⟨cl,C,s2,H2,fp⟩) [] (bR k cL σ) (upd H2 s2.heap.objs.size (.lst [])) {s2 with heap:=h1,toks:=tk}:=by
 have fr:H2 s2.heap.objs.size=none:=I2.bH.fresh (le_refl _);have hCf:H2 C=none:=I2.bH.fresh (hC▸le_succ _);refine⟨rK S I2 hcl1 hcl2 (hC▸le_succ _) hf ho,rfl,I2.bare,Un.laid hk (le_refl _) fr,⟨m0,hns,fun i y v e1 e2 e3=>?_⟩,fun x c e=>?_,?_,fun x c e=>?_,fun p hp=>absurd (show p∈([]:List (Addr×Obj))from hp) (by simp),I2.bH.laid hk (le_refl _) ?_,?_⟩
 .obtain⟨q,j,rfl,hj,hv⟩:=uE e2;obtain⟨z,hz1,hz2,hz3⟩:=S.cL q j hj;have e1':N[k+q]? =some y:=e1;rw[hz1]at e1';cases e1';obtain⟨m,hn,hl⟩:=I2.loc;have hfr:=S.free (y,.free) (PySem.mem_of_lookup hz3) rfl;obtain⟨u,r,l⟩:=hl j y v hz2 hv (by rcases hfr with z|z;exact .inr (.inl z);exact .inr (.inr z));refine⟨u,r,.inr ⟨fO (env:=X.env) hz3,?_⟩⟩;obtain⟨c,hc⟩:=isSome_iff_exists.mp (hcl2 y (PySem.mem_of_lookup hz3));rcases l with⟨hk',_⟩|⟨_,c',hc',hcell⟩
  .rcases hfr with z|z<;>(rw[hk']at z;cases z)
  .have e:=hcl1 y c hc;rw[hc']at e;cases e;obtain⟨o,ho',hd⟩:=hcell;exact⟨_,hc,o,hk _ _ ho',hd⟩
 .obtain⟨v,o,ho',hd⟩:=I2.cell x c (hcl1 x c e);exact⟨v,o,hk _ _ ho',hd⟩
 .show upd H2 s2.heap.objs.size (.lst []) C=none;rw[aG (ne_of_gt (hC▸lt_succ_self _))];exact hCf
 .have e':=hcl1 x c e;obtain⟨v,q⟩:=I2.cell x c e';rw[aG (ne_of_lt q.lt)];exact I2.lF x c e'
 .exact⟨zero_le _,[],0,.nil,hD⟩
 .show(bR k cL σ).length=N.length;unfold bR;rw[length_append,length_replicate,length_map,S.len]
theorem LM (hc:X.calm=true) (S:gN X scope N k cL) (hi:PI X tg iter wi) (hg:∀c,PG (aY X scope N c) tg g) (ht:∀c,MR (aY X scope N c) ifs tt) (he:∀c,PE (aY X scope N c) elt te)
  (hs:∀x,foldedSetIterable iter X.env x=pure x:=by intro _;rfl):PE X (.ListComp elt [⟨tg,iter,ifs,0⟩] scope pos) (C1 wi k cL g tt te):=by
 intro pins s σ H Q I h;rw[eval_ListComp];obtain⟨cl,hclos,hcl1,hcl2⟩:=jJ (scope:=scope) (env:=X.env) (fun p hp hf=>I.ok.has p.1 (S.free p hp hf));refine wpAny_comprehension_free (use:=none) rfl hs hclos S.kind S.names (bY (hi pins s σ H _ I h) fun v s1 h1=>bY h1 fun itv s2 h2=>?_);obtain⟨it,fp,tn,J,H2,e,I2,T,st2,f2,q2⟩:=h2;subst e;obtain⟨W,⟨m0,w0⟩,turn⟩:=q2 s2.heap.objs.size (I2.bH.fresh (le_refl _));have hob:∀b∈fp,b<s2.heap.objs.size:=fun b hb=>let⟨o,e,_⟩:=T.obj _ _ st2 b hb;lt_size e
 refine wpAny_newObj_type (wpAny_newFunctionEnv S.cell (by intro y hy;simp at hy) (fun h₁ hns₁ hsb₁=>?_) S.kind);dsimp only at hns₁ hsb₁⊢
 generalize hHH:s2.heap.push {cls:=.type "list",dict:=none,data:=.seq ([]:List Value).toArray}=HH at hns₁ hsb₁⊢
 have hCC:HH.objs.size=s2.heap.objs.size+1:=by rw[<-hHH,size_push]
 have old:∀b o,s2.heap.get? b=some o->h₁.get? b=some o:=fun b o e=>hsb₁.extBut b o (ne_of_lt (hCC▸lt_succ_of_lt (lt_size e))) (get?_push_of_some _ (hHH▸get?_push_of_some _ e))
 have hD:h₁.get? s2.heap.objs.size=some {cls:=.type "list",data:=.seq #[] 0}:=hsb₁.extBut _ _ (ne_of_lt (hCC▸lt_succ_self _)) (get?_push_of_some _ (hHH▸get?_push_size _ rfl));have I4:=fun tk=>B4 (tk:=tk) S I2 hcl1 hcl2 hCC f2 hob old hD hns₁
 have X':=aY X scope N ⟨cl,HH.objs.size,s2,H2,fp⟩;have stat:∀{H':Hp},(∀b∈fp,H' b=none)->∀b∈fp,n6 (aY X scope N ⟨cl,HH.objs.size,s2,H2,fp⟩) [] H' b:=fun hn b hb=>
  ⟨hn b hb,ne_of_lt (hCC▸lt_succ_of_lt (hob b hb)),(rK S I2 hcl1 hcl2 (hCC▸le_succ _) f2 hob).xV b hb,.inl hb,fun x c e=>(f2 b hb).2.2.2.2.1 x c (hcl1 x c e),fun p hp=>absurd (show p∈([]:List (Addr×Obj))from hp) (by simp)⟩
 have loop:∀s₃:Shared,s₃={s2 with heap:=h₁,toks:=s2.toks+([]:List (Str×Value)).length}->
   codeAny (model X.prog X.w) X.A (.compLoop (.ListComp elt [⟨tg,iter,ifs,0⟩] scope pos) 0 (.ref it) (.ref s2.heap.objs.size) (compEnvC scope cl HH.objs.size X.env))
    (compPost (model X.prog X.w) X.A X.xe none (EP X pins σ Q) (.ref s2.heap.objs.size) HH.objs.size) s₃:=by
  rintro s₃ rfl;refine tZ (fun n s'=>∃i σ' H',Inv (aY X scope N ⟨cl,HH.objs.size,s2,H2,fp⟩) [] σ' H' s'/\tn i s'.heap/\(∀b∈fp,H' b=none)/\W i n σ' H') ?_ m0
   ⟨0,bR k cL σ,_,I4 _,T.keep _ _ _ st2 fun b _ o e=>old b o e,fun b hb=>by rw[aG (ne_of_lt (hob b hb))];exact(f2 b hb).1,w0⟩
  rintro n s3 ⟨i,σ3,H3,I3,st3,fr3,w3⟩;rcases turn i n σ3 H3 w3 with⟨stop,qn⟩|⟨go,NN,hN,step⟩
  .refine bY (T.done (aY X scope N ⟨cl,HH.objs.size,s2,H2,fp⟩) rfl rfl rfl hc i [] s3 σ3 H3 _ I3 (stat fr3) st3 stop) fun r s4 ⟨hr,J4⟩=>?_
   subst hr;obtain⟨m,hn,_⟩:=J4.loc;refine⟨m,hn,fun h' hs'=>?_⟩;have keepC:∀b o,b≠HH.objs.size->s4.heap.get? b=some o->h'.get? b=some o:=fun b o hb e=>hs'.extBut b o hb e
   have jF:∀b o,s2.heap.get? b=some o->b≠HH.objs.size:=fun b o e=>ne_of_lt (hCC▸lt_succ_of_lt (lt_size e))
   have u:=J4.base;have u':Un (AQ X.stack) fp H2 H3 s2.heap h':=⟨fun b o q n hb hx=>keepC b o (jF b o q) (u.keep b o q n hb hx),fun b o q n hb hx=>by
     obtain⟨sl,e⟩:=u.slot b o q n hb hx;exact⟨sl,keepC b _ (jF b o q) e⟩,u.free,fun b o q hx=>by
     obtain⟨o',e⟩:=u.there b o q hx;exact⟨o',keepC b _ (jF b o q) e⟩,u.oI,u.nR,u.nW⟩
   refine⟨.ref s2.heap.objs.size,H3,I2.xS (ch:=fp) J4.os u' (J4.bH.but J4.free keepC) J4.bare fun b hb=>?_,rfl,qn⟩;obtain⟨_,f1,_,f3,f4,f5⟩:=f2 b hb;exact⟨f3,f1,f4,f5⟩
  .refine bY (T.item (aY X scope N ⟨cl,HH.objs.size,s2,H2,fp⟩) rfl rfl rfl hc i [] s3 σ3 H3 _ I3 (stat fr3) st3 go) fun r s4 ⟨u,hr,h4⟩=>?_
   subst hr;refine bY h4 fun _ s5 ⟨x,H5,I5,r5,y5,st5,fr5⟩=>?_
   have I5':=I5.pinned (stat fr5) (T.obj _ _ st5);have again:∀{s7:Shared} {σ7:St} {H7:Hp},Inv (aY X scope N ⟨cl,HH.objs.size,s2,H2,fp⟩) ([]++m3 fp s5.heap) σ7 H7 s7->NN σ7 H7->
     ∃m,m<n/\∃i σ' H',Inv (aY X scope N ⟨cl,HH.objs.size,s2,H2,fp⟩) [] σ' H' s7/\tn i s7.heap/\(∀b∈fp,H' b=none)/\W i m σ' H':=fun{s7 σ7 H7} I7 n7=>by
    obtain⟨m',hm,w7⟩:=hN σ7 H7 n7;refine⟨m',hm,i+1,σ7,H7,I7.jR,T.keep _ _ _ st5 fun b hb o e=>(I7.pin (b,o) (mem_append_right _ (mem_append_right _ (fD hb e)))).1,fun b hb=>?_,w7⟩;obtain⟨o,e,d⟩:=T.obj _ _ st5 b hb;exact(I7.pin (b,o) (mem_append_right _ (mem_append_right _ (fD hb e)))).2.1
   refine bY (hg _ _ s5 σ3 H5 x u _ I5' r5 (step x H5 y5)) fun _ s6 ⟨σ6,H6,I6,q6⟩=>?_
   refine bY (ht _ _ s6 σ6 H6 _ I6 q6) fun b s7 ⟨H7,I7,q7⟩=>?_
   cases b with
   |false=>exact again I7 q7
   |true=>
    refine bY (he _ _ s7 σ6 H7 _ I7 q7) fun y s8 ⟨yv,H8,I8,r8,xs,hl,hz,n8⟩=>?_
    refine bY (eQ _ s8 σ6 H8 (.ref s2.heap.objs.size) [yv] (.ref s2.heap.objs.size) [y] (fun _ H9=>NN σ6 H9) I8 rfl (.cons r8 .nil) ⟨_,xs,yv,rfl,rfl,hl,hz,n8⟩) fun _ s9 ⟨_,H9,I9,_,q9⟩=>?_
    exact again I9 q9
 exact codeAny_compStart_list (loop _ rfl) (T.self X.A 0 _ _ _ (T.keep _ _ _ st2 fun b _ o e=>old b o e) (loop _ rfl))
end
noncomputable def RK (z:Str):It:=⟨fun i _=>i<z.cps.size,fun i H x H'=>H'=H/\∃c,z.cps[i]? =some c/\x= .str ⟨#[c]⟩,fun i _=>z.cps.size<=i⟩
theorem D6 {P:Program} {tg:Expr} (z:Str) (t:Tok) (it:Addr):Turn P w K tg (RK z) [it] it (fun i h=>h.IsStrIter it "str_ascii_iterator" z t i)where
 mem:=by simp
 obj:=fun i h st b hb=>by
  have e:b=it:=by simpa using hb
  subst e;obtain⟨o,e,c,d⟩:=st;exact⟨o,e,fun v z=>by rw[d]at z;cases z⟩
 keep:=fun i h h' st k=>let⟨o,e,r⟩:=st;⟨o,k it (by simp) o e,r⟩
 item:=by
  intro X hP hw hK hc i pins s σ H E I hf st hg;subst hP hw hK;obtain⟨f0,f1,f2,f3,f4,f5⟩:=hf it (by simp);have hg':i<z.cps.size:=hg;refine wpAny_pyNext_ascii_item st (c:=z.cps[i]) (by simp[hg']) fun h' st' sb=>?_
  have I1:Inv X pins σ H {s with heap:=h',toks:=s.toks+1}:=I.turned (fun b o hb e=>(sb.2 b hb).trans e) f0 f1 f3 f4 f5;obtain⟨o,e,c,d⟩:=id st';exact⟨_,rfl,sL (s:={s with heap:=h',toks:=s.toks+1}) e c d (by decide) ⟨.str ⟨#[z.cps[i]]⟩,H,I1,⟨_,rfl⟩,⟨rfl,_,by simp[hg'],rfl⟩,st',fun b hb=>(hf b hb).1⟩⟩
 done:=by
  intro X hP hw hK hc i pins s σ H E I hf st hg;subst hP hw hK;obtain⟨f0,f1,f2,f3,f4,f5⟩:=hf it (by simp);exact wpAny_pyNext_ascii_end (I.ok.hd hc) st (getElem?_eq_none hg) fun h' eb=>⟨rfl,I.turned (t':=s.toks) (fun b o hb e=>eb b o hb e) f0 f1 f3 f4 f5⟩
 self:=fun A i s Q E st h=>by
  refine wpAny_pyIter_slot st.typeIs F.slot_str_ascii_iterator_iter (wpAny_call_entry F.slot_str_ascii_iterator_iter st.typeIs F.entry_str_ascii_iterator_iter ?_ (F.args_str_ascii_iterator_iter_1 _));show wpAny _ _ (ret (.ref it)) _ _ s;exact wpAny_pure ⟨_,rfl,"str_ascii_iterator",_,st.typeIs,F.slot_str_ascii_iterator_next.lookup,h⟩
theorem DI {P:Program} {tg:Expr} (z:Str) (t:Tok) (it:Addr):Turn P w K tg (RK z) [it] it (fun i h=>h.IsStrIter it "str_iterator" z t i)where
 mem:=by simp
 obj:=fun i h st b hb=>by
  have e:b=it:=by simpa using hb
  subst e;obtain⟨o,e,c,d⟩:=st;exact⟨o,e,fun v z=>by rw[d]at z;cases z⟩
 keep:=fun i h h' st k=>let⟨o,e,r⟩:=st;⟨o,k it (by simp) o e,r⟩
 item:=by
  intro X hP hw hK hc i pins s σ H E I hf st hg;subst hP hw hK;obtain⟨f0,f1,f2,f3,f4,f5⟩:=hf it (by simp);have hg':i<z.cps.size:=hg;refine wpAny_pyNext_wide_item st (c:=z.cps[i]) (by simp[hg']) fun h' st' sb=>?_
  have I1:Inv X pins σ H {s with heap:=h',toks:=s.toks+1}:=I.turned (fun b o hb e=>(sb.2 b hb).trans e) f0 f1 f3 f4 f5;obtain⟨o,e,c,d⟩:=id st';exact⟨_,rfl,sL (s:={s with heap:=h',toks:=s.toks+1}) e c d (by decide) ⟨.str ⟨#[z.cps[i]]⟩,H,I1,⟨_,rfl⟩,⟨rfl,_,by simp[hg'],rfl⟩,st',fun b hb=>(hf b hb).1⟩⟩
 done:=by
  intro X hP hw hK hc i pins s σ H E I hf st hg;subst hP hw hK;obtain⟨f0,f1,f2,f3,f4,f5⟩:=hf it (by simp);exact wpAny_pyNext_wide_end (I.ok.hd hc) st (getElem?_eq_none hg) fun h' eb=>⟨rfl,I.turned (t':=s.toks) (fun b o hb e=>eb b o hb e) f0 f1 f3 f4 f5⟩
 self:=fun A i s Q E st h=>by
  refine wpAny_pyIter_slot st.typeIs F.slot_str_iterator_iter (wpAny_call_entry F.slot_str_iterator_iter st.typeIs F.entry_str_iterator_iter ?_ (F.args_str_iterator_iter_1 _));show wpAny _ _ (ret (.ref it)) _ _ s;exact wpAny_pure ⟨_,rfl,"str_iterator",_,st.typeIs,F.slot_str_iterator_next.lookup,h⟩
def UE (tl:TE):TI:=fun σ H R=>tl σ H fun x H1=>∃z,x= .str z/\R (RK z) H1
section
variable {X:Cx} {tg:Expr}
theorem AS {l:Expr} {tl:TE} (hl:PE X l tl):PI X tg l (UE tl):=by
 intro pins s σ H R I h;refine bY (hl pins s σ H _ I h) fun v s1 ⟨x,H1,I1,r1,q1⟩=>?_
 obtain⟨z,e,q⟩:=q1;subst e;obtain⟨t,rfl⟩:=r1;cases ha:z.cps.all (·<128)with
 |true=>
  refine wpAny_pyIter_ascii ha ?_;refine⟨s1.heap.objs.size,[s1.heap.objs.size],_,_,H1,rfl,I1.kept (t':=s1.toks) fun b o e=>get?_push_of_some _ e,D6 z t _,⟨_,get?_push_size _ rfl,rfl,rfl⟩,fun b hb=>?_,q⟩;have e:b=s1.heap.objs.size:=by simpa using hb
  subst e;exact I1.nD (le_refl _) (I1.bH.fresh (le_refl _))
 |false=>
  refine wpAny_pyIter_wide ha ?_;refine⟨s1.heap.objs.size,[s1.heap.objs.size],_,_,H1,rfl,I1.kept (t':=s1.toks) fun b o e=>get?_push_of_some _ e,DI z t _,⟨_,get?_push_size _ rfl,rfl,rfl⟩,fun b hb=>?_,q⟩;have e:b=s1.heap.objs.size:=by simpa using hb
  subst e;exact I1.nD (le_refl _) (I1.bH.fresh (le_refl _))
end
noncomputable def mN (bs:List Bool):List V:=bs.map V.bl
theorem QM {bs:List Bool} {its:List Value} (r:Vals (mN bs) its):∀i:Nat,its[i]? =(bs[i]?).map Value.bool:=by
 induction bs generalizing its with
 |nil=>cases r;intro i;simp
 | cons b bs ih=>
  cases r with
  |cons r rr=>
   cases r;intro i;cases i with
   |zero=>rfl
   |succ i=>exact ih rr i
theorem range_all {n:Nat} {f:Nat->Bool} {l:List Bool} (hn:l.length=n) (h:∀i b,l[i]? =some b->f i=b):(List.range n).all f=l.all id:=by
 induction l generalizing n f with
 |nil=>subst hn;rfl
 |cons b l ih=>
  subst hn;rw[length_cons,range_succ_eq_map,all_cons,all_map,all_cons,h 0 b rfl,ih (n:=l.length) (f:=f∘Nat.succ) rfl fun i b e=>h (i+1) b e];rfl
section
variable {X:Cx}
theorem II (hc:X.calm=true):dW X (.builtin "all") (fun xs H Q=>∃p bs,xs=[.ref p]/\bC X.K H p (mN bs)/\Q (.bl (bs.all id)) H):=by
 intro pins s σ H xs us Q I r h;obtain⟨p,bs,rfl,hq,q⟩:=h;obtain⟨u,rfl,rx⟩:=vals1 r;cases rx;obtain⟨its,rv,pl,hz⟩:=I.list hq;have hg:=QM rv;have hlen:bs.length=its.length:=by have:=rv.length;simpa [mN]using this
 refine call_all_walk (wpAny_pyIter_list pl.isList ?_);have hlt:p<s.heap.objs.size:=let⟨o,_,e,_⟩:=pl;lt_size e
 refine⟨s.heap.objs.size,_,_,_,_,_,fun i=>(bs[i]?).getD false,rfl,Walks.list (by exact I.ok.hd hc) s.heap.objs.size p (ne_of_lt hlt) its.toArray,⟨⟨_,get?_push_size _ rfl,rfl,rfl⟩,pl.isList.at fun o e=>get?_push_of_some _ e⟩,?_,?_⟩
 .intro i v s' Q' E' hv hq';have hv':its[i]? =some v:=by simpa using hv
  rw[hg i]at hv';cases e:bs[i]? with
  |none=>rw[e]at hv';cases hv'
  |some b=>
   dsimp only at hq';rw[e]at hv' hq';cases hv';exact wpAny_truthy_bool hq'
 .intro h' tk hk;have e1:(List.range its.toArray.size).all (fun i=>(bs[i]?).getD false)=bs.all id:=range_all (by simpa using hlen) (fun i b e=>by rw[e];rfl);rw[e1];have I1:Inv X pins σ H {s with heap:=s.heap.push {cls:=.type "list_iterator",data:=.fields #[.ref p,.int 0 0]},toks:=s.toks}:=I.kept fun b o e=>get?_push_of_some _ e
  have f1:=I.nD (H':=H) (le_refl _) (I.bH.fresh (le_refl _));obtain⟨f0,f1,f2,f3,f4,f5⟩:=f1;exact⟨.bl _,H,I1.turned (it:=s.heap.objs.size) (fun b o hb e=>hk b o (by simpa using hb) e) f0 f1 f3 f4 f5,rfl,q⟩
theorem JO:dW X (.builtin "isinstance") (fun xs H Q=>∃x T t b,xs=[x,.ty T]/\mP X.K H x t/\kitOne X.K t (.type T)=some b/\Q (.bl b) H):=by
 intro pins s σ H xs us Q I r h;obtain⟨x,T,t,b,rfl,ty,e,q⟩:=h;obtain⟨u,v,rfl,rx,ry⟩:=vals2 r;cases ry;exact EN I rx ty e fun tk=>⟨.bl b,H,I.tok tk,rfl,q⟩
theorem BK:QG X (fun x lo hi H Q=>∃z,x= .str z/\z.length<=sizeLine/\Q (.str (Txt.slice z lo hi)) H):=by
 intro pins s σ H x v vl vu lo hi sl Q I rx hs pl pu h;obtain⟨z,rfl,hz,q⟩:=h;obtain⟨t,rfl⟩:=rx;refine⟨"str",_,F.slot_str_getitem.lookup,typeIs_str _ _ _,?_⟩;obtain⟨o,ho,hc,hd⟩:=hs;have fin:∀(t':Tok) (k:Nat),EP X pins σ Q (.str (Txt.slice z lo hi) t') {s with toks:=k}:=fun t' k=>⟨.str (Txt.slice z lo hi),H,I.tok k,⟨t',rfl⟩,q⟩
 have hle:=le_trans (Txt.slice_le z lo hi) hz;cases pl with
 |none=>cases pu with
  |none=>exact wpAny_getItem_str_slice (l:=none) (u:=none) (st:=none) ⟨o,ho,hc,hd⟩ rfl (post_val_or_str ⟨hle,fun t' k=>fin t' k⟩)
  |int j uj=>exact wpAny_getItem_str_slice (l:=none) (u:=some (j,uj)) (st:=none) ⟨o,ho,hc,hd⟩ rfl (post_val_or_str ⟨hle,fun t' k=>fin t' k⟩)
 |int i ui=>cases pu with
  |none=>exact wpAny_getItem_str_slice (l:=some (i,ui)) (u:=none) (st:=none) ⟨o,ho,hc,hd⟩ rfl (post_val_or_str ⟨hle,fun t' k=>fin t' k⟩)
  |int j uj=>exact wpAny_getItem_str_slice (l:=some (i,ui)) (u:=some (j,uj)) (st:=none) ⟨o,ho,hc,hd⟩ rfl (post_val_or_str ⟨hle,fun t' k=>fin t' k⟩)
theorem wO:∀{ys:List Str} {its:List Value},Vals (ys.map V.str) its->StrsAre its ys
 |[],_,r=>by cases r;exact .nil
 | y::ys,_,r=>by
  cases r with
  |cons r rr=>
   obtain⟨t,rfl⟩:=r;exact .cons y t (wO rr)
def rJoin (K:Frag):V->List V->Hp->VK->Prop:=fun x vs H Q=>∃z p ys,x= .str z/\vs=[.ref p]/\bC K H p (ys.map V.str)/\(ys.map (·.length)).sum+ys.length*z.length<=16777216/\Q (.str (Txt.join z ys)) H
theorem LX:SO X "str.join" (rJoin X.K):=by
 intro pins s σ H x vs v us Q I rx rv h;obtain⟨z,p,ys,rfl,rfl,hq,hz,q⟩:=h;obtain⟨t,rfl⟩:=rx;obtain⟨u,rfl,rp⟩:=vals1 rv;cases rp;obtain⟨its,r,pl,_⟩:=I.list hq;exact join_list pl.isList (by simpa using wO r) hz fun t' k=>⟨.str (Txt.join z ys),H,I.tok k,⟨t',rfl⟩,q⟩
theorem wK:j3 X (binaryOp .Pow) (rI (fun i j=>0<=j/\(Builtin.Int.intBits i:Int)*j<=2^27) fun i j=>.int (i^j.toNat)):=SD fun _ _ _ _ _ _ _ hc q=>pow_int hc.1 hc.2 q
end
noncomputable def nH (XN:List Str) (xs scope:Scope) (N:List Str) (k:Nat) (cL:List Nat):Bool:=
 scope.kind== .function && (scope.names.all fun y=>y.2 != .local||scope.names.lookup y.1==some .local) && (scope.names.all fun y=>y.2 != .cell) &&
 (scope.names.all fun y=>y.2 != .free||xs.names.lookup y.1==some .cell||xs.names.lookup y.1==some .free) && N.length==k+cL.length &&
 (List.range cL.length).all fun j=>match cL[j]?,N[k+j]? with
  |some i,some y=>XN[i]? ==some y && scope.names.lookup y==some .free
  |_,_=>false
theorem jX {XN:List Str} {xs:Scope} {N:List Str} {k:Nat} {cL:List Nat} (hN:X.N=XN) (hs:X.env.scope=xs) (h:nH XN xs scope N k cL=true):gN X scope N k cL:=by
 subst hN hs;unfold nH at h;simp only[and_eq_true,all_eq_true,or_eq_true,bne_iff_ne,ne_eq,beq_iff_eq]at h;obtain⟨⟨⟨⟨⟨h1,h2⟩,h3⟩,h4⟩,h5⟩,h6⟩:=h;refine⟨h1,fun y hy e=>(h2 y hy).resolve_left (fun z=>z e),h3,fun y hy e=>?_,h5,fun j i e=>?_⟩
 .rcases h4 y hy with(z|z)|z
  .exact absurd e z
  .exact .inl z
  .exact .inr z
 .have hj:j<cL.length:=(List.getElem?_eq_some_iff.mp e).1;have q:=h6 j (mem_range.mpr hj);rw[e]at q;cases r:N[k+j]? with
  |none=>rw[r]at q;cases q
  |some y=>
   rw[r]at q;simp only[and_eq_true,beq_iff_eq]at q;exact⟨y,rfl,q.1,q.2⟩
section
variable {X:Cx} {elt tg iter:Expr} {ifs:List Expr} {scope:Scope} {pos:Pos} {wi:TI} {g:TG} {tt:TT} {te:TE} {N:List Str} {k:Nat} {cL:List Nat} {XN:List Str} {xs:Scope}
theorem gK (N:List Str) (k:Nat) (cL:List Nat) (XN:List Str) (xs:Scope) (hc:X.calm=true) (hN:X.N=XN) (hx:X.env.scope=xs) (hi:PI X tg iter wi) (chk:nH XN xs scope N k cL=true)
  (hg:∀c,PG (aY X scope N c) tg g) (ht:∀c,MR (aY X scope N c) ifs tt) (he:∀c,PE (aY X scope N c) elt te)
  (hs:∀x,foldedSetIterable iter X.env x=pure x:=by intro _;rfl):PE X (.ListComp elt [⟨tg,iter,ifs,0⟩] scope pos) (C1 wi k cL g tt te):=LM hc (jX hN hx chk) hi hg ht he hs
end
section
variable {wi:TI} {k:Nat} {cL:List Nat} {g:TG} {tt:TT} {te:TE} {σ:St} {H1:Hp} {Q:VK} {l:Addr}
def bK (g:TG) (tt:TT) (te:TE) (l:Addr) (x:V) (σ:St) (H:Hp) (N:St->Hp->Prop):Prop:=
 g x σ H fun σ4 H4=>tt σ4 H4 fun b H5=>if b=true then te σ4 H5 fun y H6=>∃xs,H6 l=some (.lst xs)/\xs.length<sizeLine/\N σ4 (upd H6 l (.lst (xs++[y])))else N σ4 H5
theorem oA (J:It) (n:Nat) (Pv:Nat->St->Hp->Prop) (h0:Pv 0 (bR k cL σ) (upd H1 l (.lst [])))
  (hstop:∀σ H,Pv n σ H->J.stop n H) (hgo:∀i σ H,i<n->Pv i σ H->J.go i H)
  (hs:∀i σ H x H',i<n->Pv i σ H->J.AX i H x H'->bK g tt te l x σ H' (Pv (i+1))) (hd:∀σ H,Pv n σ H->Q (.ref l) H):
  iN J g tt te l (bR k cL σ) (upd H1 l (.lst [])) Q:=by
 refine⟨fun i m σ H=>m=n - i/\i<=n/\Pv i σ H,⟨n,by simp,zero_le _,h0⟩,?_⟩;rintro i m σ H ⟨rfl,hi,p⟩
 by_cases hlt:i<n
 .exact .inr ⟨hgo i σ H hlt p,Pv (i+1),fun σ' H' p'=>⟨n - (i+1),by omega,rfl,hlt,p'⟩,fun x H' y=>hs i σ H x H' hlt p y⟩
 .have e:i=n:=by omega
  subst e;exact .inl ⟨hstop σ H p,hd σ H p⟩
theorem AG (lo:Int) (n:Nat) (Pv:Nat->St->Hp->Prop) (h0:Pv 0 (bR k cL σ) (upd H1 l (.lst [])))
  (hs:∀i σ H,i<n->Pv i σ H->bK g tt te l (.int (lo+i)) σ H (Pv (i+1))) (hd:∀σ H,Pv n σ H->Q (.ref l) H):
  iN (E6 lo n) g tt te l (bR k cL σ) (upd H1 l (.lst [])) Q:=
 oA (E6 lo n) n Pv h0 (fun _ _ _=>le_refl n) (fun _ _ _ h _=>h) (fun i σ H x H' hi p y=>by obtain⟨e1,e2⟩:=y;subst e1 e2;exact hs i σ _ hi p) hd
end
structure Def (K:Frag) (mg:Str->Option Value) (x:Str) (st:Stmt) (ps:List Str) (f:Addr) (fd:FuncData):Prop where
 F:QD K x x st f fd
 m:mg x=some (.ref f)
 b:Binds K fd ps []
section
variable {X:Cx} {x:Str} {st:Stmt} {ps:List Str} {f:Addr} {fd:FuncData} {j k:Nat} {sp:Sp} {e:Expr} {es:List Expr} {t:TA} {p pos:Pos}
theorem aU (D:Def X.K X.mg x st ps f fd) (G:aZ X.prog X.w X.K X.mg X.base dS j f fd ps sp) (hr:d6 k X.A) (hjk:j<=k) (hg:Gl X x) (ha:PA X (e::es) t) (hdb:(x==("__debug__":Str))=false:=by decide)
  (he:starEach (e::es) X.env=(false,eval e X.env)::starEach es X.env:=by rfl) (hpl:(backTo pos (starEach es X.env)).any (·.1)=false:=by rfl):
  PE X (.Call (.Name x p) (e::es) [] pos) (pP sp [] E0 t):=L9 G (hr.mono hjk) hg D.m D.F.kp D.b .nil RU ha hdb he hpl
end
noncomputable def vT:List V->List V->Bool
 |[],[]=>true
 |x::xs,y::ys=>E5 x y && vT xs ys
 |_,_=>false
theorem sW:∀{xs ys:List V},xs.length≠ys.length->vT xs ys=false
 |[],[],h=>absurd rfl h
 |[],_::_,_=>rfl
 |_::_,[],_=>rfl
 |x::xs,y::ys,h=>by
  unfold vT;rw[sW (xs:=xs) (ys:=ys) (by simpa using h),Bool.and_false]
theorem mW:∀{xs ys:List V},xs.length=ys.length->(List.range xs.length).all (fun j=>E5 ((xs[j]?).getD .aP) ((ys[j]?).getD .aP))=vT xs ys
 |[],[],_=>rfl
 |[],_::_,h=>by cases h
 |_::_,[],h=>by cases h
 |x::xs,y::ys,h=>by
  have ih:=mW (xs:=xs) (ys:=ys) (by simpa using h);rw[length_cons,range_succ_eq_map,all_cons,all_map];unfold vT;rw[<-ih];rfl
theorem Vals.get':∀{xs:List V} {us:List Value} {i:Nat} {u:Value},Vals xs us->us[i]? =some u->∃x,xs[i]? =some x/\RelV x u
 |_,_,_,_,.nil,h=>by simp at h
 |_,_,0,_,.cons r _,h=>by simp at h;subst h;exact⟨_,rfl,r⟩
 |_,_,i+1,_,.cons _ t,h=>Vals.get' (i:=i) t (by simpa using h)
section
variable {X:Cx} {k:Nat}
theorem PR (hr:d6 k X.A):j3 X (compareOp .Eq) (fun x y H Q=>∃a b xs ys,x= .ref a/\y= .ref b/\bC X.K H a xs/\bC X.K H b ys/\(xs.length=ys.length->xs.all iT=true/\ys.all iT=true)/\Q (.bl (vT xs ys)) H):=by
 intro pins s σ H x y v u Q I rx ry h;obtain⟨a,b,xs,ys,rfl,rfl,ha,hb,hf,q⟩:=h;cases rx;cases ry;obtain⟨its,r1,p1,_⟩:=I.list ha;obtain⟨its2,r2,p2,_⟩:=I.list hb;have l1:=r1.length;have l2:=r2.length
 by_cases e:xs.length=ys.length
 .obtain⟨f1,f2⟩:=hf e;refine SeqAt.eq_listAt (e:=fun j=>E5 ((xs[j]?).getD .aP) ((ys[j]?).getD .aP)) p1.isList p2.isList (by simp;omega) hr.vP (fun j h1 h2=>?_) ?_
  .have g1:its[j]? =some (its.toArray[j]):=by simp at h1⊢
   have g2:its2[j]? =some (its2.toArray[j]):=by simp at h2⊢
   obtain⟨x,ex,rx⟩:=r1.get' g1;obtain⟨y,ey,ry⟩:=r2.get' g2;rw[ex,ey];exact AB rx ry (all_eq_true.mp f1 _ (mem_of_getElem? ex)) (all_eq_true.mp f2 _ (mem_of_getElem? ey))
  .have e1:its.toArray.size=xs.length:=by simp;omega
   rw[e1,mW e];exact⟨.bl _,H,I,rfl,q⟩
 .refine SeqAt.eq_list_lengthsAt p1.isList p2.isList (by simp;omega) hr.vP ?_;rw[sW e]at q;exact⟨.bl false,H,I,rfl,q⟩
end
theorem iR:bootBuiltins "all"=some (.builtin "all"):=by decide+kernel
theorem eS:bootBuiltins "isinstance"=some (.builtin "isinstance"):=by decide+kernel
theorem bT:bootBuiltins "len"=some (.builtin "len"):=by decide+kernel
theorem O1:bootBuiltins "max"=some (.builtin "max"):=by decide+kernel
theorem AJ:bootBuiltins "min"=some (.builtin "min"):=by decide+kernel
theorem qM:bootBuiltins "repr"=some (.builtin "repr"):=by decide+kernel
theorem oG:bootBuiltins "sorted"=some (.builtin "sorted"):=by decide+kernel
theorem JQ:bootBuiltins "int"=some (.type "int"):=by decide+kernel
theorem IJ:bootBuiltins "str"=some (.type "str"):=by decide+kernel
theorem CN:bootBuiltins "list"=some (.type "list"):=by decide+kernel
theorem fR:bootBuiltins "tuple"=some (.type "tuple"):=by decide+kernel
theorem vO:bootBuiltins "enumerate"=some (.type "enumerate"):=by decide+kernel
theorem OH:bootBuiltins "zip"=some (.type "zip"):=by decide+kernel
theorem aK {t u:TS} {D:Ends} (h:t {D with nx:=u D} σ H):p9 t u D σ H:=h
theorem vH {CX:EI} {P:Program} {mg:Str->Option Value} {base:Heap} {qual:Str} {f:Addr} {cd:Value} {A:Around} {outer:List Env} {s:Shared} {E:XK}:(BJ CX P w K mg base N qual scope f cd A outer s H E).K=K:=rfl
theorem nC {c:JE}:(aY X scope N c).K=X.K:=rfl
theorem IK {ns:List Int} {k:Int} (h0:0<=k) (h:k<(ns.length:Int)):∃c,uR (ns.map V.int) k=some (V.int c):=by
 obtain⟨j,rfl⟩:∃j:Nat,k=(j:Int):=⟨k.toNat,by omega⟩;have hj:j<ns.length:=by omega
 exact⟨ns[j],cQ (by simp[hj])⟩
section
variable {X:Cx}
theorem DF:dW X (.builtin "len") (fun xs H Q=>∃p ys,xs=[.ref p]/\bC X.K H p ys/\Q (.int ys.length) H):=by
 intro pins s σ H xs us Q I r h;obtain⟨p,ys,e,hq,q⟩:=h;exact nB pins s σ H xs us Q I r ⟨p,ys,e,.inl hq,q⟩
theorem E2:dW X (.builtin "len") (fun xs H Q=>∃p ys,xs=[.ref p]/\bU X.K H p ys/\Q (.int ys.length) H):=by
 intro pins s σ H xs us Q I r h;obtain⟨p,ys,e,hq,q⟩:=h;exact nB pins s σ H xs us Q I r ⟨p,ys,e,.inr hq,q⟩
end
def bZ (p:Addr) (H H':Hp):Prop:=∀b o,H b=some o->b≠p->H' b=some o
theorem bZ.refl:bZ p H H:=fun _ _ h _=>h
theorem bZ.trans (a:bZ p H H1) (b:bZ p H1 H2):bZ p H H2:=fun c o h n=>b c o (a c o h n) n
theorem bZ.of (a:aF H H1):bZ p H H1:=fun c o h _=>a c o h
theorem aF.upd {l:Addr} (h:H l=none):aF H (upd H l o):=fun b u e=>by rw[aG (aJ e h)];exact e
theorem bZ.upd:bZ p H (upd H p o):=fun b u e n=>by rw[aG n];exact e
theorem bC.same (h:bC K H a xs) (s:aF H H'):bC K H' a xs:=aF.seq s h
theorem bU.same (h:bU K H a xs) (s:aF H H'):bU K H' a xs:=by
 rcases h with(h|⟨o,h⟩)|h
 .exact .inl (.inl (s _ _ h))
 .exact .inl (.inr ⟨o,s _ _ h⟩)
 .exact .inr h
theorem gO (h:n<=16777216):n<=sizeLine:=by rw[PySem.sizeLine_eq];exact h
theorem iZ (h:n<16777216):n<sizeLine:=by rw[PySem.sizeLine_eq];exact h
theorem KZ (z:Str):z.cps.toList.length=z.length:=by simp[Str.length]
theorem IW {d:Int} (h0:0<=d) (h:d<(z.length:Int)):∃c,c∈z.cps.toList/\uR z.cps.toList d=some c:=by
 obtain⟨j,rfl⟩:∃j:Nat,d=(j:Int):=⟨d.toNat,by omega⟩;have hj:j<z.cps.toList.length:=by have e:=KZ z;omega
 exact⟨z.cps.toList[j],getElem_mem hj,cQ (by simp[hj])⟩
theorem dY {xs:List α} {d:Int} (h0:0<=d) (h:d<(xs.length:Int)):∃c,c∈xs/\uR xs d=some c:=by
 obtain⟨j,rfl⟩:∃j:Nat,d=(j:Int):=⟨d.toNat,by omega⟩;have hj:j<xs.length:=by omega
 exact⟨xs[j],getElem_mem hj,cQ (by simp[hj])⟩
theorem y8 {ys:List Str} (h:∀y∈ys,y.length=1):(ys.map (·.length)).sum=ys.length:=by
 induction ys with
 |nil=>rfl
 |cons y ys ih=>
  rw[map_cons,List.sum_cons,length_cons,ih fun z hz=>h z (mem_cons_of_mem _ hz),h y mem_cons_self];omega
theorem uP {lo hi:Option Int} (h:z.length<=n):(Txt.slice z lo hi).length<=n:=le_trans (Txt.slice_le z lo hi) h
section
variable {k:Nat} {cL:List Nat} {g:TG} {tt:TT} {te:TE} {σ:St} {H:Hp} {Q:VK} {l:Addr}
theorem jB {p:α->Bool} {vs:List α} {i:Nat} {x:α} (h:vs[i]? =some x):(vs.take (i+1)).filter p=(vs.take i).filter p++(if p x=true then [x]else []):=by
 rw[List.take_add_one,h,List.filter_append];congr 1
 by_cases e:p x=true
 .simp[e]
 .simp[e]
theorem oW (J:It) (vs:List V) (p:V->Bool) (f:V->V) (Good:St->Prop) (h0:Good (bR k cL σ)) (hlen:vs.length<sizeLine)
  (hstop:∀xs,J.stop vs.length (upd H l (.lst xs))) (hgo:∀i xs,i<vs.length->J.go i (upd H l (.lst xs)))
  (hyld:∀i xs x H',i<vs.length->J.AX i (upd H l (.lst xs)) x H'->H'=upd H l (.lst xs)/\vs[i]? =some x)
  (ht:∀x σ xs (N:St->Hp->Prop),x∈vs->xs.length<sizeLine->Good σ->(∀σ',Good σ'->N σ' (upd H l (.lst (if p x=true then xs++[f x]else xs))))->bK g tt te l x σ (upd H l (.lst xs)) N)
  (hd:Q (.ref l) (upd H l (.lst ((vs.filter p).map f)))):iN J g tt te l (bR k cL σ) (upd H l (.lst [])) Q:=by
 refine oA J vs.length (fun i σ' H'=>i<=vs.length/\Good σ'/\H'=upd H l (.lst (((vs.take i).filter p).map f))) ⟨zero_le _,h0,rfl⟩ (fun σ' H' ⟨_,_,e⟩=>e▸hstop _) (fun i σ' H' hi ⟨_,_,e⟩=>e▸hgo i _ hi) (fun i σ' H' x H'' hi ⟨_,gd,e⟩ y=>?_) (fun σ' H' ⟨_,_,e⟩=>?_)
 .subst e;obtain⟨e1,e2⟩:=hyld i _ x H'' hi y;subst e1;refine ht x σ' _ _ (mem_of_getElem? e2) ?_ gd fun σ2 g2=>⟨hi,g2,?_⟩
  .rw[length_map];have a1:=length_filter_le p (vs.take i);have a2:=List.length_take_le i vs;exact Nat.lt_of_le_of_lt (le_trans a1 (by rw[length_take];omega)) hlen
  .rw[jB e2,map_append]
   by_cases e:p x=true
   .rw[if_pos e,if_pos e];rfl
   .rw[if_neg e,if_neg e,map_nil,append_nil]
 .subst e;rw[take_length];exact hd
theorem o7 (z:Str) (p:V->Bool) (f:V->V) (Good:St->Prop) (h0:Good (bR k cL σ)) (hlen:z.length<sizeLine)
  (ht:∀c σ xs (N:St->Hp->Prop),c∈z.cps.toList->xs.length<sizeLine->Good σ->(∀σ',Good σ'->N σ' (upd H l (.lst (if p (.str ⟨#[c]⟩)=true then xs++[f (.str ⟨#[c]⟩)]else xs))))->bK g tt te l (.str ⟨#[c]⟩) σ (upd H l (.lst xs)) N)
  (hd:Q (.ref l) (upd H l (.lst (((z.cps.toList.map fun c=>V.str ⟨#[c]⟩).filter p).map f)))):iN (RK z) g tt te l (bR k cL σ) (upd H l (.lst [])) Q:=by
 have e:(z.cps.toList.map fun c=>V.str ⟨#[c]⟩).length=z.cps.size:=by simp
 refine oW (RK z) (z.cps.toList.map fun c=>V.str ⟨#[c]⟩) p f Good h0 (by rw[e];exact hlen) (fun xs=>?_) (fun i xs hi=>?_) (fun i xs x H' hi y=>?_) (fun x σ xs N hx hz gd hN=>?_) hd
 .rw[e];exact le_refl _
 .rw[e]at hi;exact hi
 .obtain⟨e1,c,hc,e2⟩:=y;subst e2;refine⟨e1,?_⟩;rw[getElem?_map];have:z.cps.toList[i]? =some c:=by simpa using hc
  rw[this];rfl
 .obtain⟨c,hc,rfl⟩:=mem_map.mp hx;exact ht c σ xs N hc hz gd hN
theorem bC.DW {H:Hp} {l:Addr} (h:bC K H a xs) (hl:H l=none):bC K (upd H l o) a xs:=h.same (aF.upd hl)
theorem bU.DW {H:Hp} {l:Addr} (h:bU K H a xs) (hl:H l=none):bU K (upd H l o) a xs:=h.same (aF.upd hl)
theorem rQ {vs:List V} (hl:H l=none) (hS:bC K H a vs) (p:V->Bool) (f:V->V) (Good:St->Prop) (h0:Good (bR k cL σ)) (hlen:vs.length<sizeLine)
  (ht:∀x σ xs (N:St->Hp->Prop),x∈vs->xs.length<sizeLine->Good σ->(∀σ',Good σ'->N σ' (upd H l (.lst (if p x=true then xs++[f x]else xs))))->bK g tt te l x σ (upd H l (.lst xs)) N)
  (hd:Q (.ref l) (upd H l (.lst ((vs.filter p).map f)))):iN (KD K a) g tt te l (bR k cL σ) (upd H l (.lst [])) Q:=
 oW (KD K a) vs p f Good h0 hlen (fun xs=>⟨vs,hS.DW hl,le_refl _⟩) (fun i xs hi=>⟨vs,vs[i],hS.DW hl,by simp[hi]⟩) (fun i xs x H' _ y=>⟨y.1,y.2 vs (hS.DW hl)⟩) ht hd
theorem xZ (lo:Int) (n:Nat) (p:V->Bool) (f:V->V) (Good:St->Prop) (h0:Good (bR k cL σ)) (hlen:n<sizeLine)
  (ht:∀(i:Nat) σ xs (N:St->Hp->Prop),i<n->xs.length<sizeLine->Good σ->(∀σ',Good σ'->N σ' (upd H l (.lst (if p (.int (lo+i))=true then xs++[f (.int (lo+i))]else xs))))->bK g tt te l (.int (lo+i)) σ (upd H l (.lst xs)) N)
  (hd:Q (.ref l) (upd H l (.lst ((((List.range n).map fun i:Nat=>V.int (lo+i)).filter p).map f)))):iN (E6 lo n) g tt te l (bR k cL σ) (upd H l (.lst [])) Q:=by
 have e:((List.range n).map fun i:Nat=>V.int (lo+i)).length=n:=by simp
 refine oW (E6 lo n) ((List.range n).map fun i:Nat=>V.int (lo+i)) p f Good h0 (by rw[e];exact hlen) (fun xs=>?_) (fun i xs hi=>?_) (fun i xs x H' hi y=>?_) (fun x σ xs N hx hz gd hN=>?_) hd
 .rw[e];exact le_refl _
 .rw[e]at hi;exact hi
 .obtain⟨e1,e2⟩:=y;subst e2;rw[e]at hi;exact⟨e1,by simp[hi]⟩
 .obtain⟨i,hi,rfl⟩:=mem_map.mp hx;exact ht i σ xs N (mem_range.mp hi) hz gd hN
end
theorem E9 [Decidable c] (hc:¬c) (h:B):if decide c=true then A else B:=by
 rw[decide_eq_false hc];exact kL h
theorem HU [Decidable c] (hc:c) (h:A):if decide c=true then A else B:=by
 rw[decide_eq_true hc];exact o4 h
theorem lX [Decidable c] (h1:c->A) (h2:¬c->B):if decide c=true then A else B:=by
 by_cases hc:c
 .exact HU hc (h1 hc)
 .exact E9 hc (h2 hc)
theorem turns {L c:Int} (hc:1<=c):1<=(if 1<(if L<c then L else c)then(if L<c then L else c)else 1)/\(if 1<(if L<c then L else c)then(if L<c then L else c)else 1)<=c:=by
 split<;>(try split)<;>omega
theorem GN {a:Int} {c:Bool}:DV a (if c=true then 1 else 0):=by cases c<;>exact .inr ⟨by decide,by decide⟩
theorem R6 {c:Bool}:(0:Int)<=(if c=true then 1 else 0):=by cases c<;>decide
def CY (K:Frag):Sp:=fun vs H Q _=>∃(a:Addr) (ns:List Int),vs=[.ref a]/\bC K H a (ns.map V.int)/\ns.length<=63/\∀H',Q (.bl true) H'
end L2
namespace PySem
open Sem (wp)
open AutoSeq1 (wpAny_loadPart')
variable {it l:Addr} {i:Nat} {Q:Value->Shared->Prop}
section
variable {prog:Program} {w:World} {A:Around} {E:Value->Shared->Prop} {s:Shared}
theorem cU {t:Addr} {items} {x:Value} (hit:s.heap.IsTupleIter it t i)
  (ht:s.heap.IsTuple t items) (hx:items[i]? =some x)
  (hQ:∀h',h'.IsTupleIter it t (i+1)->Heap.SameBut it s.heap h'->Q x {s with heap:=h'}):
  wpAny (model prog w) A (Builtin.SmallTypes.nextOf (.ref it)) Q E s:=by
 obtain⟨o,ho,hc,hd⟩:=id hit;obtain⟨ol,hol,_,nl,hdl⟩:=ht;unfold Builtin.SmallTypes.nextOf;refine wpAny_bind (wpAny_callSpecial?_slot (name:=Str.ofString "__next__") hit.typeIs F.slot_tuple_iterator_next
  (wpAny_call_entry F.slot_tuple_iterator_next hit.typeIs F.entry_tuple_iterator_next ?_ (F.args_tuple_iterator_next_1 _)))
 show wpAny _ _ (field (.ref it) 0>>=_) _ _ s;refine wpAny_bind (wpAny_field ho hd (x:=.ref t) rfl ?_);show wpAny _ _ (if(Value.ref t==Value.none)=true then _ else _) _ _ s;rw[if_neg (show¬((Value.ref t==Value.none)=true)from Bool.false_ne_true)];show wpAny _ _ (field (.ref it) 1>>=_) _ _ s;refine wpAny_bind (wpAny_field ho hd (x:=.int i 0) rfl ?_);show wpAny _ _ (seqItems? (.ref t)>>=_) _ _ s;refine wpAny_bind (wpAny_seqItems hol hdl ?_);simp only[toNat_natCast,hx];refine wpAny_bind (wpAny_setField ho hd (by simp) (wpAny_pure ⟨x,rfl,wpAny_pure (hQ _ ?_ (Heap.SameBut.update ..))⟩));exact⟨_,get?_update_self _ ho (Obj.isFreed_of_fields (Obj.data_mapFields hd _)),(Obj.cls_mapFields ..).trans hc,by
  rw[Obj.data_mapFields hd];simp[rawInt]⟩
theorem eU {items} (hh:A.handled=none)
  (hit:s.heap.IsTupleIter it l i) (hl:s.heap.IsTuple l items) (hx:items[i]? =none)
  (hE:∀h' e,Heap.ExtBut it s.heap h'->(∃o,h'.get? e=some o/\o.cls= .type "StopIteration")->E (.ref e) {s with heap:=h'}):
  wpAny (model prog w) A (Builtin.SmallTypes.nextOf (.ref it)) Q E s:=by
 obtain⟨o,ho,hc,hd⟩:=id hit;obtain⟨ol,hol,_,nl,hdl⟩:=hl;unfold Builtin.SmallTypes.nextOf;refine wpAny_bind (wpAny_callSpecial?_slot (name:=Str.ofString "__next__") hit.typeIs F.slot_tuple_iterator_next
  (wpAny_call_entry F.slot_tuple_iterator_next hit.typeIs F.entry_tuple_iterator_next ?_ (F.args_tuple_iterator_next_1 _)))
 show wpAny _ _ (field (.ref it) 0>>=_) _ _ s;refine wpAny_bind (wpAny_field ho hd (x:=.ref l) rfl ?_);show wpAny _ _ (if(Value.ref l==Value.none)=true then _ else _) _ _ s;rw[if_neg (show¬((Value.ref l==Value.none)=true)from Bool.false_ne_true)];show wpAny _ _ (field (.ref it) 1>>=_) _ _ s;refine wpAny_bind (wpAny_field ho hd (x:=.int i 0) rfl ?_);show wpAny _ _ (seqItems? (.ref l)>>=_) _ _ s;refine wpAny_bind (wpAny_seqItems hol hdl ?_);simp only[toNat_natCast,hx];refine wpAny_bind (wpAny_rule (wpAny_bind (wpAny_setField ho hd (by simp) ?_)));show wpAny _ _ (newExc (.type "StopIteration") []>>=_) _ _ _;refine wpAny_bind ?_;simp only[newExc,newTuple];refine wpAny_bind (wpAny_newObj_type ?_ (by size_fits));refine wpAny_bind (m:=firstArgMember _ _) (wpAny_of_eq (a:=Value.none) (by first|rfl|(simp only[firstArgMember];rfl)) ?_);refine wpAny_newObj_type ?_ (by size_fits);simp only[raiseNew];refine wpAny_bind (wpAny_handled ?_)
 first|rw[show A.in1.handled=none from hh]|rw[hh]
 refine wpAny_bind (wpAny_pure (wpAny_throw ?_));exact hE _ _ (((Heap.SameBut.update ..).extBut.push _).push _) ⟨_,get?_push_size _ rfl,rfl⟩
end
theorem jM {prog:Program} {w:World} {A:Around} (hh:A.handled=none) (it l:Addr) (hne:l≠it) (items:Array Value):
  Draws prog w A it [it,l] items.size (fun i v=>items[i]? =some v) (fun i h=>h.IsTupleIter it l i/\h.IsTuple l items)where
 live:=fun _ _ st=>let⟨o,ho,_⟩:=st.1;⟨o,ho⟩
 frame:=fun _ _ _ st hk=>⟨st.1.at fun o e=>hk it (by simp) o e,let⟨o,e,r⟩:=st.2;⟨o,hk l (by simp) o e,r⟩⟩
 item:=fun i s Q E hi st hQ=>by
  refine cU st.1 st.2 (x:=items[i]) (by simp[hi]) fun h' hit' hs'=>?_
  exact hQ _ h' s.toks (by simp[hi]) ⟨hit',st.2.extBut hs'.extBut hne⟩ hs'
 done:=fun s Q E st hE=>eU hh st.1 st.2 (by simp) hE
theorem i0 (l:Addr) (items:Array Value) (n:Nat) (tK:Option Addr) (sl:Array (Option Value)):
  Meets (Builtin.«enumerate.__new__» ⟨[.type "enumerate",.ref l],[]⟩) (fun _ R s=>s.heap.get? l=some {cls:=.type "tuple",dict:=tK,data:=.seq items n,slots:=sl}/\
   R (.ok (.ret (.ref (s.heap.push {cls:=.type "tuple_iterator",data:=.fields #[.ref l,.int 0 0]}).objs.size)))
    {s with heap:=(s.heap.push {cls:=.type "tuple_iterator",data:=.fields #[.ref l,.int 0 0]}).push {cls:=.type "enumerate",data:=.fields #[.none,.bool false,.ref s.heap.objs.size,rawInt 0,.none,.none]}}):=
 .of_wp fun prog w A R s h=>by
  obtain⟨hp,g,d,tk,os⟩:=s;obtain⟨hl,h⟩:=h
  have hsub:=sub_enumerate;have hL:Heap.IsTuple (Shared.heap ⟨hp,g,d,tk,os⟩) l items:=⟨_,hl,rfl,n,rfl⟩
  wp_walk using wpAny_loadPart' hl
  refine wpAny_stack_any fun st=>wpAny_pure ?_
  split
  .rename_i c _ _ _ _ _;cases(c==Value.type "enumerate")
   .wp_walk using wpAny_loadPart' hl,wpAny_pyIter_tuple hL
    exact⟨_,rfl,h⟩
   .wp_walk using wpAny_loadPart' hl,wpAny_pyIter_tuple hL
    exact⟨_,rfl,h⟩
  .wp_walk using wpAny_loadPart' hl,wpAny_pyIter_tuple hL
   exact⟨_,rfl,h⟩
section
variable {prog:Program} {w:World} {A:Around} {E:Value->Shared->Prop} {s:Shared}
theorem iX {items:Array Value} (hL:s.heap.IsTuple l items)
  (h:∀h',IsEnum h' (s.heap.objs.size+1) s.heap.objs.size 0 .none->h'.IsTupleIter s.heap.objs.size l 0->h'.objs.size=s.heap.objs.size+2->
   (∀b o,s.heap.get? b=some o->h'.get? b=some o)->Q (.ref (s.heap.objs.size+1)) {s with heap:=h'}):
  wpAny (model prog w) A (call (.type "enumerate") [.ref l]) Q E s:=by
 obtain⟨⟨c,tK,dt,sl⟩,hl,hc,n,hd⟩:=hL;replace hc:c= .type "tuple":=hc;replace hd:dt= .seq items n:=hd;subst hc hd;refine callType_new F.called_enumerate (by decide) (F.typeCall_enumerate_1 _) (F.newCall_enumerate_1 _) (fun obj=>F.args_object_init_2 obj _) F.entry_enumerate_new
  (i0 l items n tK sl) ⟨hl,?_⟩
 have hz:(s.heap.push {cls:=.type "tuple_iterator",data:=.fields #[.ref l,.int 0 0]}).objs.size=s.heap.objs.size+1:=size_push ..;show _/\_;rw[hz];have he:IsEnum ((s.heap.push {cls:=.type "tuple_iterator",data:=.fields #[.ref l,.int 0 0]}).push
   {cls:=.type "enumerate",data:=.fields #[.none,.bool false,.ref s.heap.objs.size,rawInt 0,.none,.none]}) (s.heap.objs.size+1) s.heap.objs.size 0 .none:=by
  have:=get?_push_size (s.heap.push {cls:=.type "tuple_iterator",data:=.fields #[.ref l,.int 0 0]})
   (o:={cls:=.type "enumerate",data:=.fields #[.none,.bool false,.ref s.heap.objs.size,rawInt 0,.none,.none]}) rfl
  rw[hz]at this;exact this
 refine⟨⟨_,he,rfl⟩,h _ he ⟨_,get?_push_of_some _ (get?_push_size _ rfl),rfl,rfl⟩ (by rw[size_push,hz]) fun b o x=>get?_push_of_some _ (get?_push_of_some _ x)⟩
end
end PySem
namespace L2
open PySem PySem.Spec PyProof.Rows
variable {X:Cx} {l:Expr} {h':Heap} {H:Hp} {pins:List (Addr×Obj)} {fp:List Addr} {es:List Expr} {xs:List V} {t':Nat} {pos:Pos} {s:Shared} {σ:St} {tl:TE}
theorem Inv.qG (I:Inv X pins σ H s) (k:∀b o,b∉fp->s.heap.get? b=some o->h'.get? b=some o) (hf:∀b∈fp,n6 X pins H b):
  Inv X pins σ H {s with heap:=h',toks:=t'}:=by
 have nit:∀b u,H b=some u->b∉fp:=fun b u e z=>by rw[(hf b z).1]at e;cases e
 refine I.step (g':=s.gens) (d':=s.drawn) (ch:=fp) (fun b hb=>?_) (fun b o _ _ hc e _=>k b o hc e) (fun b o _ _ hc e _=>⟨o.slots,k b o hc e⟩) (fun _ _ _ _ n=>n)
  (fun b o hc e=>⟨o,k b o hc e⟩) (fun _ _ e=>e) (fun _ _ _ e=>e) (fun b ps e=>⟨#[],by rw[e];simp⟩) (fun m hm=>?_) (fun b u e=>?_) I.bare
 .obtain⟨_,f1,_,f3,f4,f5⟩:=hf b hb;exact⟨f3,f1,f4,f5⟩
 .obtain⟨o,es,ep,ho,r⟩:=hm;exact⟨o,es,ep,k _ o (fun z=>(hf _ z).2.1 rfl) ho,r⟩
 .refine(I.bH b u e).wU (fun c v hc q=>k c v ?_ q) (fun _ q=>q) fun _ _ q=>q
  rcases hc with z|z
  .rw[z];exact nit b u e
  .exact nit c _ z
theorem Inv.S5 (I:Inv X pins σ H s) (k:∀b o,b∉fp->s.heap.get? b=some o->h'.get? b=some o) (hf:∀b∈fp,n6 X pins H b)
  (hfr:H s.heap.objs.size=none) (hno:s.heap.objs.size∉fp) (new:cB X.prog X.w (upd H s.heap.objs.size (.tup xs)) h' s.heap.objs.size (.tup xs)) (ht:∀b∈fp,∀o,s.heap.get? b=some o->∃o',h'.get? b=some o'):
  Inv X pins σ (upd H s.heap.objs.size (.tup xs)) {s with heap:=h',toks:=t'}:=by
 have nit:∀b u,H b=some u->b∉fp:=fun b u e z=>by rw[(hf b z).1]at e;cases e
 have nT:∀b o,s.heap.get? b=some o->b≠s.heap.objs.size:=fun b o e=>ne_of_lt (lt_size e)
 refine I.step (g':=s.gens) (d':=s.drawn) (ch:=fp) (fun b hb=>?_) (fun b o _ _ hc e _=>k b o hc e) (fun b o _ _ hc e _=>⟨o.slots,k b o hc e⟩) (fun b o _ e n=>by rw[aG (nT b o e)];exact n)
  (fun b o hc e=>⟨o,k b o hc e⟩) (fun b ys e=>by rw[aG (aJ e hfr)];exact e) (fun b o u e=>by rw[aG (aJ e hfr)];exact e) (fun b ps e=>⟨#[],by rw[aG (aJ e hfr),e];simp⟩) (fun m hm=>?_) (fun b u e=>?_) I.bare
 .obtain⟨_,f1,_,f3,f4,f5⟩:=hf b hb;exact⟨f3,f1,f4,f5⟩
 .obtain⟨o,es,ep,ho,r⟩:=hm;exact⟨o,es,ep,k _ o (fun z=>(hf _ z).2.1 rfl) ho,r⟩
 .by_cases hb:b=s.heap.objs.size
  .subst hb;rw[aB]at e;cases e;exact new
  .rw[aG hb]at e;refine(I.bH b u e).wU (fun c v hc q=>k c v ?_ q) (fun c q=>by rw[aG (aJ q hfr)];exact q) fun c ys q=>by rw[aG (aJ q hfr)];exact q
   rcases hc with z|z
   .rw[z];exact nit b u e
   .exact nit c _ z
noncomputable def UT (K:Frag) (a:Addr):It:=
 ⟨fun i H=>∃xs x,bU K H a xs/\xs[i]? =some x,fun i H v H'=>∃t,H t=none/\v= .ref t/\∀xs,bU K H a xs->∃x,xs[i]? =some x/\H'=upd H t (.tup [.int i,x]),fun i H=>∃xs,bU K H a xs/\xs.length=i⟩
theorem AN {P:Program} {w:World} {K:Frag} {elts:List Expr} {x1} (a it e:Addr) (hei:e≠it):Turn P w K (.Tuple elts x1 pos) (UT K a) [e,it] e (fun i h=>(∃old,IsEnum h e it i old)/\h.IsTupleIter it a i)where
 mem:=by simp
 obj:=fun i h st b hb=>by
  obtain⟨⟨old,he⟩,o,ho,c,d⟩:=st;rcases mem_cons.mp hb with z|z
  .subst z;exact⟨_,he,fun v z=>by cases z⟩
  .have z:b=it:=by simpa using z
   subst z;exact⟨o,ho,fun v z=>by rw[d]at z;cases z⟩
 keep:=fun i h h' st k=>⟨let⟨old,he⟩:=st.1;⟨old,k e (by simp) _ he⟩,st.2.at fun o q=>k it (by simp) o q⟩
 item:=by
  intro X hP hw hK hc i pins s σ H E I hf st hg;subst hP hw hK;obtain⟨xs,x,hq,hx⟩:=hg;obtain⟨its,rv,p,hz⟩:=I.tuple hq;obtain⟨u,hu,ru⟩:=rv.get hx;obtain⟨⟨old,he⟩,ht⟩:=st;have hne:a≠it:=fun z=>by
   obtain⟨o,ho,c,_⟩:=ht;obtain⟨o',ho',c',_⟩:=p;subst z;rw[ho]at ho';cases ho'
   rw[c]at c';exact absurd (Value.type.inj c') (by decide)
  have hae:a≠e:=fun z=>by
   obtain⟨o',ho',c',_⟩:=p;subst z;rw[he]at ho';cases ho'
   exact absurd (Value.type.inj c') (by decide)
  have hlt:i<its.toArray.size:=by have:=(List.getElem?_eq_some_iff.mp hu).1;simpa using this
  refine wpAny_pyNext_enum_itemD (jM (A:=X.A.in1) (by exact I.ok.hd hc) it a hne its.toArray) he ⟨ht,p⟩ hlt hei (by simp[hei,Ne.symm hae]) fun v h' tk hPv ho' st' htup hsz hk=>?_
  have ev:v=u:=by
   have h1:its[i]? =some v:=by simpa using hPv
   rw[hu]at h1;exact(Option.some.inj h1).symm
  subst ev;refine⟨_,rfl,wpAny_letOwnedTupleGo_enum (s:={s with heap:=h',toks:=tk+1}) ho' fun h2 he2 sb=>?_⟩;have hTe:s.heap.objs.size≠e:=fun z=>by
   have:=lt_size he;rw[<-z]at this;exact Nat.lt_irrefl _ this
  have hTi:s.heap.objs.size≠it:=fun z=>by
   obtain⟨o,ho,_⟩:=ht;have:=lt_size ho;rw[<-z]at this;exact Nat.lt_irrefl _ this
  have hk2:∀b o,b∉[e,it]->s.heap.get? b=some o->h2.get? b=some o:=fun b o hb q=>
   sb.extBut b o (fun z=>hb (by simp[z])) (hk b o (fun z=>hb (by simp[z])) (fun z=>hb (by simp[z])) q)
  have I1:Inv X pins σ H {s with heap:=h2,toks:=tk+1}:=I.qG hk2 hf;have hfr:H s.heap.objs.size=none:=I.bH.fresh (le_refl _);have htup2:h2.get? s.heap.objs.size=some {cls:=.type "tuple",data:=.seq #[.int i tk,v]}:=sb.extBut _ _ hTe htup;have I2:Inv X pins σ (upd H s.heap.objs.size (.tup [.int i,x])) {s with heap:=h2,toks:=tk+1}:=by
   refine I.S5 hk2 hf hfr (by simp[hTe,hTi]) ⟨by show 2<=sizeLine;decide,[.int i tk,v],.cons ⟨_,rfl⟩ (.cons ru .nil),o8.of htup2⟩ (fun b hb o q=>?_);rcases mem_cons.mp hb with r|r
   .subst r;exact⟨_,he2⟩
   .have r:b=it:=by simpa using r
    subst r;obtain⟨o',ho',_⟩:=st'.1.extBut sb.extBut (Ne.symm hei);exact⟨o',ho'⟩
  refine⟨.ref s.heap.objs.size,_,I2,rfl,⟨s.heap.objs.size,hfr,rfl,fun ys hy=>⟨x,by rw[I.lQ hy hq];exact hx,rfl⟩⟩,⟨⟨_,he2⟩,st'.1.extBut sb.extBut (Ne.symm hei)⟩,fun b hb=>?_⟩;have hbT:b≠s.heap.objs.size:=fun z=>by
   rcases mem_cons.mp hb with r|r
   .exact hTe (z▸r)
   .have r:b=it:=by simpa using r
    exact hTi (z▸r)
  rw[aG hbT];exact(hf b hb).1
 done:=by
  intro X hP hw hK hc i pins s σ H E I hf st hg;subst hP hw hK;obtain⟨xs,hq,hx⟩:=hg;obtain⟨its,rv,p,hz⟩:=I.tuple hq;obtain⟨⟨old,he⟩,ht⟩:=st;have hl:=rv.length;have hne:a≠it:=fun z=>by
   obtain⟨o,ho,c,_⟩:=ht;obtain⟨o',ho',c',_⟩:=p;subst z;rw[ho]at ho';cases ho'
   rw[c]at c';exact absurd (Value.type.inj c') (by decide)
  have ei:(i:Nat)=its.toArray.size:=by simp;omega
  subst ei;obtain⟨f0,f1,f2,f3,f4,f5⟩:=hf it (by simp);exact wpAny_pyNext_enum_endD (jM (A:=X.A.in1) (by exact I.ok.hd hc) it a hne its.toArray) he ⟨ht,p⟩ fun h' eb=>⟨rfl,I.turned (t':=s.toks) (fun b o hb e=>eb b o hb e) f0 f1 f3 f4 f5⟩
 self:=fun _ _ _ _ _ st h=>let⟨_,he⟩:=st.1;wpAny_pyIter_enum he h
section
variable {k:Nat} {cL:List Nat} {g:TG} {tt:TT} {te:TE} {σ:St} {H:Hp} {Q:VK} {l:Addr}
theorem o9 (J:It) (n:Nat) (p:Nat->Bool) (f:Nat->V) (Good:St->Prop) (h0:Good (bR k cL σ)) (hl:H l=none) (hlen:n<sizeLine)
  (hstop:∀H',aF H H'->J.stop n H') (hgo:∀i H',i<n->aF H H'->J.go i H')
  (ht:∀i v σ H1 H2 ys (N:St->Hp->Prop),i<n->Good σ->aF H H1->H1 l=some (.lst ys)->ys.length<sizeLine->J.AX i H1 v H2->
   (∀σ' H3,Good σ'->bZ l H1 H3->H3 l=some (.lst (if p i=true then ys++[f i]else ys))->N σ' H3)->bK g tt te l v σ H2 N)
  (hd:∀H',aF H H'->H' l=some (.lst (((List.range n).filter p).map f))->Q (.ref l) H'):iN J g tt te l (bR k cL σ) (upd H l (.lst [])) Q:=by
 refine oA J n (fun i σ' H'=>Good σ'/\aF H H'/\H' l=some (.lst ((((List.range n).take i).filter p).map f))) ⟨h0,aF.upd hl,by rw[List.take_zero];exact aB⟩ (fun σ' H' ⟨_,s,_⟩=>hstop H' s) (fun i σ' H' hi ⟨_,s,_⟩=>hgo i H' hi s) (fun i σ' H' x H'' hi ⟨gd,s,e⟩ y=>?_) (fun σ' H' ⟨_,s,e⟩=>?_)
 .have hi2:(List.range n)[i]? =some i:=by simp[hi]
  refine ht i x σ' H' H'' _ _ hi gd s e ?_ y fun σ2 H3 g2 b e3=>⟨g2,fun c o h=>b c o (s c o h) (aJ h hl),?_⟩
  .rw[length_map];have a1:=length_filter_le p ((List.range n).take i);exact Nat.lt_of_le_of_lt (le_trans a1 (by rw[length_take,length_range];omega)) hlen
  .rw[e3,jB hi2,map_append]
   by_cases c:p i=true
   .rw[if_pos c,if_pos c];rfl
   .rw[if_neg c,if_neg c,map_nil,append_nil]
 .rw[take_of_length_le (by simp)]at e;exact hd H' s e
end
theorem sQ {i:Nat}:hJ xs (some ((i:Int)+1)) none=xs.drop (i+1):=by
 unfold hJ;have e:HT.fL xs.length 0 (some ((i:Int)+1))=min (i+1) xs.length:=by
  unfold HT.fL;simp;omega
 have e2:HT.fL xs.length xs.length none=xs.length:=rfl;rw[e,e2]
 by_cases h:i+1<=xs.length
 .rw[Nat.min_eq_left h];rw[take_of_length_le (by rw[length_drop];exact le_refl _)]
 .rw[Nat.min_eq_right (by omega),drop_of_length_le (le_refl _),drop_of_length_le (by omega),List.take_nil]
theorem qI {n:Str} {row:List Str}:FG (.str n) (row.map V.str)=row.contains n:=by
 unfold FG
 induction row with
 |nil=>rfl
 |cons x r ih=>
  rw[map_cons,any_cons,ih,List.contains_cons];congr 1;show(x==n)=(n==x)
  by_cases e:x=n
  .subst e;simp
  .rw[beq_eq_false_iff_ne.mpr e,beq_eq_false_iff_ne.mpr (Ne.symm e)]
theorem iC {row:List Str}:(row.map V.str).all iT=true:=by
 induction row with
 |nil=>rfl
 |cons x r ih=>rw[map_cons,all_cons,ih];rfl
section
variable {X:Cx} {k:Nat}
theorem lM (K:Frag) (h:X.K=K:=by rfl):NS X (zO K):=h▸LZ
theorem lP (K:Frag) (h:X.K=K:=by rfl):NS X (xJ K):=h▸OP
theorem SX (K:Frag) (h:X.K=K:=by rfl):QG X (DC K):=h▸LL
theorem TR (K:Frag) (h:X.K=K:=by rfl):j3 X (compareOp .In) (MO K false):=h▸ES
theorem FV (K:Frag) (h:X.K=K:=by rfl):j3 X (compareOp .NotIn) (MO K true):=h▸wL
def IQ (K:Frag):R2:=fun x y H Q=>∃a b xs ys,x= .ref a/\y= .ref b/\bC K H a xs/\bC K H b ys/\(xs.length=ys.length->xs.all iT=true/\ys.all iT=true)/\Q (.bl (vT xs ys)) H
theorem U6 (K:Frag) (hr:d6 k X.A) (h:X.K=K:=by rfl):j3 X (compareOp .Eq) (IQ K):=h▸PR hr
def uY (K:Frag):List V->Hp->VK->Prop:=fun xs H Q=>∃p ys,xs=[.ref p]/\bC K H p ys/\Q (.int ys.length) H
def zG (K:Frag):List V->Hp->VK->Prop:=fun xs H Q=>∃p ys,xs=[.ref p]/\bU K H p ys/\Q (.int ys.length) H
theorem jU (K:Frag) (h:X.K=K:=by rfl):dW X (.builtin "len") (uY K):=h▸DF
theorem LO (K:Frag) (h:X.K=K:=by rfl):dW X (.builtin "len") (zG K):=h▸E2
def GH (K:Frag):List V->Hp->VK->Prop:=fun xs H Q=>∃p bs,xs=[.ref p]/\bC K H p (mN bs)/\Q (.bl (bs.all id)) H
theorem qZ (K:Frag) (hc:X.calm=true) (h:X.K=K:=by rfl):dW X (.builtin "all") (GH K):=h▸II hc
def FT (K:Frag):List V->Hp->VK->Prop:=fun xs H Q=>∃x T t b,xs=[x,.ty T]/\mP K H x t/\kitOne K t (.type T)=some b/\Q (.bl b) H
theorem EA (K:Frag) (h:X.K=K:=by rfl):dW X (.builtin "isinstance") (FT K):=h▸JO
def uD (K:Frag):List V->Hp->VK->Prop:=fun xs H Q=>∃p ys,xs=[.ref p]/\bC K H p ys/\∀l,H l=none->Q (.ref l) (upd H l (.tup ys))
theorem HZ (K:Frag) (h:X.K=K:=by rfl):dW X (.type "tuple") (uD K):=by
 subst h;intro pins s σ H xs us Q I r ⟨p,ys,e,hq,q⟩;exact tP pins s σ H xs us Q I r ⟨p,ys,e,.inl ⟨hq,q⟩⟩
def sA (K:Frag):List V->Hp->VK->Prop:=fun xs H Q=>∃p ys,xs=[.ref p]/\(bC K H p ys\/ bU K H p ys)/\∀l,H l=none->Q (.ref l) (upd H l (.lst ys))
theorem M4 (K:Frag) (h:X.K=K:=by rfl):dW X (.type "list") (sA K):=h▸wF
theorem SR (K:Frag) (h:X.K=K:=by rfl):SO X "str.join" (rJoin K):=h▸LX
theorem fW (K:Frag) {j:Nat} {t:NH} {n:Nat} (hc:X.calm=true) (h:Q5 X es t) (hK:X.K=K:=by rfl)
  (hn:(assignEach es X.env).length=n:=by rfl) (hst:(assignEach es X.env).findIdx? (·.1)=none:=by rfl):PG X (.Tuple es j pos) (EJ K n t):=hK▸OG hc h hn hst
theorem oH (K:Frag) {tg:Expr} (hl:PE X l tl) (h:X.K=K:=by rfl):PI X tg l (MZ K tl):=h▸K7 hl
theorem gL (K:Frag) {tg:Expr} (hl:PE X l tl) (h:X.K=K:=by rfl):PI X tg l (NU K tl):=h▸OA hl
theorem gB (K:Frag) {o e:Expr} {to:TE} {t:TA} {name:Str} {apos cpos:Pos} {T id:String} {r:V->List V->Hp->VK->Prop} (pa:PlainAttrs T) (slot:Slot T name id) (hty:typeOf (.builtin id)=pure (.type "method_descriptor")) (hm:SO X id r) (ho:PE X o to) (ha:PA X (e::es) t) (hK:X.K=K:=by rfl)
  (hbase:attributeBase o name X.env (eval o X.env)=eval o X.env:=by rfl)
  (hfew:((backTo cpos (starEach (e::es) X.env)).all (fun x=>!x.1) && (backToKw cpos (keywordEach [] X.env)).all (fun x=>x.1.isSome)
   && decide ((e::es).length+([]:List Keyword).length+(if([]:List Keyword).isEmpty then 0 else 1)<30))=true:=by rfl)
  (hline:(apos.endLine==cpos.line)=true:=by rfl) (hs:starEach (e::es) X.env=(false,eval e X.env)::starEach es X.env:=by rfl) (hplain:(backTo cpos (starEach es X.env)).any (·.1)=false:=by rfl):
  PE X (.Call (.Attribute o name apos) (e::es) [] cpos) (NG K T r to t):=hK▸QK pa slot hty hm ho ha hbase hfew hline hs hplain
end
end L2
namespace PM
open PySem PyProof.Rows
noncomputable def walk (sm:Nat->Nat):List Nat->List Nat->Bool->List Nat
 |[],f,_=>f
 |c::r,f,w=>if c=32 then walk sm r f (!f.isEmpty)else walk sm r (f++(if w=true then [32]else [])++[sm c]) false
noncomputable def step (f p:List Nat):List Nat:=if p=[]then f else f++(if(!f.isEmpty)=true then [32]else [])++p
noncomputable abbrev SP:Str:=Str.ofString " "
noncomputable def W (x:Str):Str:=⟨(walk lo1 x.cps.toList [] false).toArray⟩
end PM
namespace L2
open PySem PySem.Spec PyProof.Rows
variable {H:Hp} {K:Frag}
inductive Kd where
 |aP|bl|int|str|lst|tup|tK
 deriving DecidableEq
noncomputable def Kd.nm:Kd->String
 | .aP=>"NoneType"| .bl=>"bool"| .int=>"int"| .str=>"str"| .lst=>"list"| .tup=>"tuple"| .tK=>"dict"
def SE (H:Hp) (v:V):Kd->Prop
 | .aP=>v= .aP
 | .bl=>∃b,v= .bl b
 | .int=>∃i,v= .int i
 | .str=>∃x,v= .str x
 | .lst=>∃a xs,v= .ref a/\H a=some (.lst xs)
 | .tup=>∃a xs,v= .ref a/\H a=some (.tup xs)
 | .tK=>∃a kvs ep,v= .ref a/\H a=some (.dK kvs ep)
theorem SE.ty {v:V} {k:Kd} (h:SE H v k):mP K H v (.type k.nm):=by
 cases k with
 |aP=>cases(show v= .aP from h);exact .aP
 |bl=>obtain⟨b,rfl⟩:=h;exact .bl b
 |int=>obtain⟨b,rfl⟩:=h;exact .int b
 |str=>obtain⟨b,rfl⟩:=h;exact .str b
 |lst=>obtain⟨a,xs,rfl,e⟩:=h;exact .lst e
 |tup=>obtain⟨a,xs,rfl,e⟩:=h;exact .tup e
 |tK=>obtain⟨a,xs,ep,rfl,e⟩:=h;exact .dK e
theorem IY (k:Kd):kitOne K (.type k.nm) (.type "str")=some (decide (k= .str)):=by cases k<;>kernel_rfl
theorem vK (k:Kd):kitOne K (.type k.nm) (.type "tuple")=some (decide (k= .tup)):=by cases k<;>kernel_rfl
theorem SE.B7 {v:V} {k:Kd} (h:SE H v k) (n:k≠ .str):∀x,v≠ .str x:=by
 intro x e;subst e;cases k with
 |aP=>cases h
 |bl=>obtain⟨_,z⟩:=h;cases z
 |int=>obtain⟨_,z⟩:=h;cases z
 |str=>exact n rfl
 |lst=>obtain⟨_,_,z,_⟩:=h;cases z
 |tup=>obtain⟨_,_,z,_⟩:=h;cases z
 |tK=>obtain⟨_,_,_,z,_⟩:=h;cases z
theorem range_getD {xs:List V} {f:V->V}:((List.range xs.length).filter fun _=>true).map (fun i=>f ((xs[i]?).getD .aP))=xs.map f:=by
 rw[filter_eq_self.mpr (fun _ _=>rfl)]
 induction xs with
 |nil=>rfl
 |cons x xs ih=>
  rw[length_cons,range_succ_eq_map,map_cons,map_map,map_cons,<-ih];rfl
section
variable {k:Nat} {cL:List Nat} {g:TG} {tt:TT} {te:TE} {σ:St} {H:Hp} {Q:VK} {l:Addr}
theorem iH {a:Addr} {xs:List V} (hS:bU K H a xs) (f:V->V) (Good:St->Prop) (h0:Good (bR k cL σ)) (hl:H l=none) (hlen:xs.length<sizeLine)
  (ht:∀(i:Nat) x σ H1 ys (N:St->Hp->Prop),xs[i]? =some x->Good σ->aF H H1->H1 l=some (.lst ys)->ys.length<sizeLine->
   (∀σ' H3,Good σ'->bZ l H1 H3->H3 l=some (.lst (ys++[f x]))->N σ' H3)->bK g tt te l x σ H1 N)
  (hd:∀H',aF H H'->H' l=some (.lst (xs.map f))->Q (.ref l) H'):iN (MI K a) g tt te l (bR k cL σ) (upd H l (.lst [])) Q:=by
 refine o9 (MI K a) xs.length (fun _=>true) (fun i=>f ((xs[i]?).getD .aP)) Good h0 hl hlen (fun H' s=>⟨xs,hS.same s,le_refl _⟩) (fun i H' hi s=>⟨xs,xs[i],hS.same s,by simp[hi]⟩) (fun i v σ H1 H2 ys N hi gd s e hz y hN=>?_) (fun H' s e=>hd H' s (by rw[e,range_getD]));obtain⟨e1,hx⟩:=y;subst e1;have hx:=hx xs (hS.same s);refine ht i v σ _ ys N hx gd s e hz fun σ' H3 g3 b e3=>hN σ' H3 g3 b ?_
 rw[e3,if_pos rfl,hx];rfl
end
end L2
namespace HT
open PySem PySem.Spec PyProof.Rows
section
variable {prog:Program} {w:World} {A:Around} {E:Value->Shared->Prop} {s:Shared}
theorem nF {t sl:Addr} {items:Array Value} {vl vu:Value} {lo hi:Option Int} {Q:Value->Shared->Prop} (ht:IsTup s.heap t items) (hs:s.heap.IsSliceOf sl vl vu .none) (pl:IsPart vl lo) (pu:IsPart vu hi)
  (hw:fL items.size 0 lo=0/\fL items.size items.size hi=items.size) (h:Q (.ref t) s):wpAny (model prog w) A (getItem (.ref t) (.ref sl)) Q E s:=by
 obtain⟨os,hos,hcs,hds⟩:=id hs;have hTs:s.TypeIs (.ref sl) "slice":=⟨os,hos,hcs⟩;unfold getItem
 try with_reducible refine wpAny_holding ?_
 first|refine wpAny_bind (wpAny_pure ?_)|skip
 refine wpAny_bind (wpAny_sequenceKey ht.typeIs (by decide) ?_);refine wpAny_bind (wpAny_callSpecial?_slot (name:=Str.ofString "__getitem__") ht.typeIs PyProof.Rows.slot_tuple_getitem
  (wpAny_call_entry PyProof.Rows.slot_tuple_getitem ht.typeIs entry_tuple_getitem ?_ (args_tuple_getitem _ _)))
 show wpAny _ _ (Builtin.Tuple.tupleItemsOf (.ref t)>>=_) _ _ s;refine wpAny_bind (tupleItemsOf_ ht ?_);refine wpAny_bind (wpAny_typeOf hTs ?_);rw[if_pos (by decide)];refine wpAny_bind (jO hs pl pu ?_);have hyes:(((fL items.size 0 lo:Nat):Int)==0 && (1:Int)==1 && (fL items.size items.size hi - fL items.size 0 lo)==items.size)=true:=by
  rw[hw.1,hw.2];simp
 show wpAny _ _ (if(((fL items.size 0 lo:Nat):Int)==0 && (1:Int)==1 && (fL items.size items.size hi - fL items.size 0 lo)==items.size)=true then _ else _) _ _ s;rw[if_pos hyes];refine wpAny_bind (wpAny_bind (wpAny_typeOf ht.typeIs (wpAny_pure ?_)));rw[if_pos (by decide)];refine wpAny_bind (wpAny_rule ?_)
 first
  |exact wpAny_pure ⟨_,rfl,wpAny_pure h⟩
  |exact wpAny_bind (wpAny_pure ⟨_,rfl,wpAny_pure h⟩)
end
end HT
namespace L2
open PySem PySem.Spec PyProof.Rows
variable {a b l:Addr} {p:Array Nat} {R:Array Nat->Prop} {r r' r'':Bool} {X:Cx} {h':Heap} {H H':Hp} {A:KeyOrd} {pins:List (Addr×Obj)} {xs:List (List Key×Addr×Value)} {kvs:List (List Key×V)} {trs:List (TE×TE)} {ys:List V} {vs:List Value} {ep i j k m n x:Nat} {ans:Nat->Nat->Bool} {pos py spos:Pos} {s:Shared} {σ:St} {y:Str} {α β:Type} {v:V} {u:Value} {Q:Value->Shared->Prop} {w:World}
section
variable {X:Cx}
def IA:V->Option Int->Option Int->Hp->VK->Prop:=fun x lo hi H Q=>∃a xs,x= .ref a/\H a=some (.tup xs)/\∀p H',aF H H'->H' p=some (.tup (hJ xs lo hi))->Q (.ref p) H'
theorem vG:QG X IA:=by
 intro pins s σ H x v vl vu lo hi sl Q I rx hs pl pu h;obtain⟨a,xs,rfl,hx,q⟩:=h
 by_cases hw:HT.fL xs.length 0 lo=0/\HT.fL xs.length xs.length hi=xs.length
 .cases rx;obtain⟨its,r,ht,hz⟩:=I.tuple (bU.of (K:=X.K) hx);have hlen:its.toArray.size=xs.length:=by rw[size_toArray];exact r.length.symm
  refine⟨"tuple",_,PyProof.Rows.slot_tuple_getitem.lookup,ht.typeIs,?_⟩;refine HT.nF ht hs pl pu (by rw[hlen];exact hw) ⟨.ref a,H,I,rfl,q a H (aF.refl _) ?_⟩;have e:hJ xs lo hi=xs:=by unfold hJ;rw[hw.1,hw.2,drop_zero,sub_zero,take_length]
  rw[e];exact hx
 .exact P0 pins s σ H (.ref a) v vl vu lo hi sl Q I rx hs pl pu ⟨a,xs,rfl,bU.of hx,hw,fun p hp=>q p _ (aF.upd hp) aB⟩
def RP (i j:Int):Prop:=0<j/\j<2^200
theorem rH:j3 X (binaryOp .FloorDiv) (rI RP fun i j=>.int (i / j)):=SD fun i j _ _ _ _ _ hc q=>by
 have h1:(0:Int)<j:=hc.1;have h2:j<2^200:=hc.2;refine floordiv_int (by omega) (by rw[Int.fdiv_eq_ediv_of_nonneg i (by omega)];exact q) (.inl (PyProof.noPylong_of_log2 ?_));have h3:j.natAbs<2^200:=by omega
 have h4:j.natAbs.log2<200:=(Nat.log2_lt (by omega)).mpr h3;omega
end
section
variable {κ:Type} [DecidableEq κ]
noncomputable def dX (kvs:List (κ×V)) (k:κ):Option V:=(kvs.find? fun kv=>decide (kv.1=k)).map (·.2)
noncomputable def putK (kvs:List (κ×V)) (k:κ) (v:V):List (κ×V):=
 if(kvs.any fun kv=>decide (kv.1=k))=true then kvs.map (fun kv=>if kv.1=k then(kv.1,v)else kv)else kvs++[(k,v)]
theorem dC {p:κ×V} {r:List (κ×V)} {k:κ} (e:p.1=k):dX (p::r) k=some p.2:=by simp[dX,find?_cons,e]
theorem cN {p:κ×V} {r:List (κ×V)} {k:κ} (e:¬p.1=k):dX (p::r) k=dX r k:=by simp[dX,find?_cons,e]
theorem iW (k:κ):∀kvs:List (κ×V),(kvs.any fun kv=>decide (kv.1=k))=(dX kvs k).isSome
 |[]=>rfl
 |p::r=>by
  rw[any_cons]
  by_cases e:p.1=k
  .simp only[dC e,decide_eq_true e,Bool.true_or,Option.isSome_some]
  .rw[cN e,decide_eq_false e,Bool.false_or];exact iW k r
theorem xI (k j:κ) (y:V):∀kvs:List (κ×V),dX (kvs.map fun kv=>if kv.1=k then(kv.1,y)else kv) j=(dX kvs j).map fun x=>if j=k then y else x
 |[]=>rfl
 | p::r=>by
  have ih:=xI k j y r;rw[map_cons]
  by_cases h:p.1=k
  .rw[if_pos h]
   by_cases e:p.1=j
   .rw[dC (p:=(p.1,y)) e,dC e,map_some,if_pos (e.symm.trans h)]
   .rw[cN (p:=(p.1,y)) e,cN e,ih]
  .rw[if_neg h]
   by_cases e:p.1=j
   .rw[dC (p:=p) e,dC e,map_some,if_neg (fun z=>h (e.trans z))]
   .rw[cN (p:=p) e,cN e,ih]
theorem uB (k j:κ) (y:V):∀kvs:List (κ×V),dX kvs k=none->dX (kvs++[(k,y)]) j=if j=k then some y else dX kvs j
 |[],_=>by
  by_cases e:k=j
  .rw[if_pos e.symm];exact dC (p:=(k,y)) e
  .rw[if_neg (fun z=>e z.symm)];exact cN (p:=(k,y)) e
 |p::r,hn=>by
  rw[cons_append];have hk:¬p.1=k:=fun z=>by rw[dC z]at hn;cases hn
  rw[cN hk]at hn;have ih:=uB k j y r hn
  by_cases e:p.1=j
  .rw[dC e,dC e,if_neg (fun z=>hk (e.trans z))]
  .rw[cN e,cN e,ih]
theorem JC (kvs:List (κ×V)) (k j:κ) (y:V):dX (putK kvs k y) j=if j=k then some y else dX kvs j:=by
 unfold putK
 by_cases a:(kvs.any fun kv=>decide (kv.1=k))=true
 .rw[if_pos a,xI];rw[iW]at a
  by_cases e:j=k
  .obtain⟨x,hx⟩:=isSome_iff_exists.mp a;rw[if_pos e,e,hx,map_some,if_pos rfl]
  .rw[if_neg e];cases dX kvs j with
   |none=>rfl
   |some x=>rw[map_some,if_neg e]
 .rw[if_neg a];refine uB k j y kvs ?_;rw[iW]at a;cases q:dX kvs k with
  |none=>rfl
  |some x=>rw[q]at a;exact(a rfl).elim
theorem i9 (kvs:List (κ×V)) (k:κ) (v:V):(putK kvs k v).length<=kvs.length+1:=by
 unfold putK;split
 .rw[length_map];omega
 .rw[length_append,length_cons,length_nil];omega
theorem nU.iE {o:Option V} {u:Option Value} (r:nU o u):o.isSome=u.isSome:=by
 cases o with
 |none=>cases u with
  |none=>rfl
  |some _=>exact(show False from r).elim
 |some _=>cases u with
  |none=>exact(show False from r).elim
  |some _=>rfl
theorem nU.getD {o:Option V} {u:Option Value} {d:V} {d':Value} (r:nU o u) (rd:RelV d d'):RelV (o.getD d) (u.getD d'):=by
 cases o with
 |none=>cases u with
  |none=>exact rd
  |some _=>exact(show False from r).elim
 |some _=>cases u with
  |none=>exact(show False from r).elim
  |some _=>exact r
theorem KV.val {kvs:List (κ×V)} {vs:List (κ×Value)} (r:KV kvs vs) (k:κ):nU (dX kvs k) (valueAt vs k):=by
 unfold KV at r
 induction r with
 |nil=>exact True.intro
 | @cons p q ps qs h t ih=>
  obtain⟨h1,h2⟩:=h
  by_cases e:p.1=k
  .have e':q.1=k:=h1.symm.trans e;have b:valueAt (q::qs) k=some q.2:=by simp[valueAt,find?_cons,e']
   rw[dC e,b];exact h2
  .have e':¬q.1=k:=fun z=>e (h1.trans z)
   have b:valueAt (q::qs) k=valueAt qs k:=by simp[valueAt,find?_cons,e']
   rw[cN e,b];exact ih
theorem KV.any {kvs:List (κ×V)} {vs:List (κ×Value)} (r:KV kvs vs) (k:κ):(kvs.any fun kv=>decide (kv.1=k))=vs.any fun kv=>decide (kv.1=k):=by
 unfold KV at r
 induction r with
 |nil=>rfl
 |cons h t ih=>rw[any_cons,any_cons,ih,h.1]
theorem KV.N1 {kvs:List (κ×V)} {vs:List (κ×Value)} (r:KV kvs vs) (k:κ) {y:V} (ry:RelV y u):
  KV (kvs.map fun kv=>if kv.1=k then(kv.1,y)else kv) (vs.map fun kv=>if kv.1=k then(kv.1,u)else kv):=by
 unfold KV at r⊢
 induction r with
 |nil=>exact .nil
 | @cons p q ps qs h t ih=>
  rw[map_cons,map_cons];refine .cons ?_ ih;obtain⟨h1,h2⟩:=h
  by_cases e:p.1=k
  .rw[if_pos e,if_pos (h1.symm.trans e)];exact⟨h1,ry⟩
  .rw[if_neg e,if_neg (fun z=>e (h1.trans z))];exact⟨h1,h2⟩
theorem KV.put {kvs:List (κ×V)} {vs:List (κ×Value)} (r:KV kvs vs) (k:κ) {y:V} (ry:RelV y u):KV (putK kvs k y) (stored vs k u):=by
 unfold putK stored;rw[r.any k]
 by_cases e:(vs.any fun kv=>decide (kv.1=k))=true
 .rw[if_pos e,if_pos e];exact r.N1 k ry
 .rw[if_neg e,if_neg e];exact Paired.snoc r ⟨rfl,ry⟩
theorem KV.keys {kvs:List (κ×V)} {vs:List (κ×Value)} (r:KV kvs vs):kvs.map (·.1)=vs.map (·.1):=by
 unfold KV at r
 induction r with
 |nil=>rfl
 |cons h t ih=>rw[map_cons,map_cons,ih,h.1]
theorem KV.length {kvs:List (κ×V)} {vs:List (κ×Value)} (r:KV kvs vs):kvs.length=vs.length:=Paired.length r
end
theorem mH {P:Program} {k:Key} {u:Value} (r:RelV (kV k) u):(bA P w).is k u=true:=by
 cases k with
 |inl i=>obtain⟨t,e⟩:=(show∃t,u=Value.int i t from r);subst e;exact zS P w i t
 |inr x=>obtain⟨t,e⟩:=(show∃t,u=Value.str x t from r);subst e;exact yQ P w x t
theorem vA {P:Program}:∀{ks:List Key} {us:List Value},Vals (ks.map kV) us->ItemsAre (bA P w) ks us
 |[],_,r=>by rw[map_nil]at r;cases r;exact .nil
 |k::ks,_,r=>by
  rw[map_cons]at r;cases r with
  |cons h t=>exact .cons (mH h) (vA t)
abbrev KT (H:Hp):List (List Key×V)->List (List Key×Addr×Value)->Prop:=Paired fun p q=>p.1=q.1/\H q.2.1=some (.tup (p.1.map kV))/\RelV p.2 q.2.2
theorem KT.val (r:KT H kvs xs) (k:List Key):nU (dX kvs k) ((atKey xs k).map (·.2)):=by
 induction r with
 |nil=>exact True.intro
 | @cons p q ps qs h t ih=>
  obtain⟨h1,_,h2⟩:=h
  by_cases e:p.1=k
  .have e':q.1=k:=h1.symm.trans e;have b:atKey (q::qs) k=some q.2:=by simp[atKey,find?_cons,e']
   rw[dC e,b];exact h2
  .have e':¬q.1=k:=fun z=>e (h1.trans z)
   have b:atKey (q::qs) k=atKey qs k:=by simp[atKey,find?_cons,e']
   rw[cN e,b];exact ih
theorem KT.N1 (r:KT H kvs xs) (k:List Key) {y:V} (ry:RelV y u):
  KT H (kvs.map fun kv=>if kv.1=k then(kv.1,y)else kv) (xs.map (putAt k u)):=by
 induction r with
 |nil=>exact .nil
 | @cons p q ps qs h t ih=>
  rw[map_cons,map_cons];refine .cons ?_ ih;obtain⟨h1,h2,h3⟩:=h;unfold putAt
  by_cases e:p.1=k
  .rw[if_pos e,if_pos (h1.symm.trans e)];exact⟨h1,h2,ry⟩
  .rw[if_neg e,if_neg (fun z=>e (h1.trans z))];exact⟨h1,h2,h3⟩
theorem KT.put (r:KT H kvs xs) (k:List Key) {y:V} (hb:H b=some (.tup (k.map kV))) (ry:RelV y u):
  KT H (putK kvs k y) (storedH xs k b u):=by
 have e:(kvs.any fun kv=>decide (kv.1=k))=(atKey xs k).isSome:=by
  rw[iW,(r.val k).iE,isSome_map]
 unfold putK storedH;rw[e]
 by_cases q:(atKey xs k).isSome=true
 .rw[if_pos q,if_pos q];exact r.N1 k ry
 .rw[if_neg q,if_neg q];exact Paired.snoc r ⟨rfl,hb,ry⟩
theorem KT.keeps (r:KT H kvs xs) (ht:∀b ys,H b=some (.tup ys)->H' b=some (.tup ys)):KT H' kvs xs:=
 Paired.fN r fun _ _ z=>⟨z.1,ht _ _ z.2.1,z.2.2⟩
def EF (H:Hp) (a:Addr) (kvs:List (Key×V)):Prop:=∃ep,Rd H a (.dK kvs ep)
def dA (H:Hp) (a:Addr) (kvs:List (Key×V)):Prop:=∃ep,H a=some (.dK kvs ep)
theorem dA.rd {kvs:List (Key×V)} (h:dA H a kvs):EF H a kvs:=let⟨ep,e⟩:=h;⟨ep,.inl e⟩
theorem dA.US {kvs:List (Key×V)} (h:dA H a kvs):QF (H a):=by obtain⟨_,e⟩:=h;rw[e];exact True.intro
section
variable {P:Program} {w:World} {H:Hp} {h:Heap} {a:Addr}
theorem M0 {u:HO} (ok:jL P w H h) (e:Rd H a u):cB P w H h a u:=e.ok ok
theorem mG {kvs:List (Key×V)} (ok:jL P w H h) (e:Rd H a (.dK kvs ep)):kvs.length<=sizeLine/\(a==sysModules)=false/\∃vs,KV kvs vs/\h.DictAt (bA P w) a vs ep:=
 show cB P w H h a (.dK kvs ep)from M0 ok e
theorem i8 {kvs:List (Key×V)} (ok:jL P w H h) (e:EF H a kvs):kvs.length<=sizeLine/\(a==sysModules)=false/\∃vs,KV kvs vs/\h.DictOf (bA P w) a vs:=
 let⟨_,e⟩:=e;let⟨z,y,vs,r,d⟩:=mG ok e;⟨z,y,vs,r,d.dictOf⟩
theorem HY {kvs:List (Key×V)} (ok:jL P w H h) (e:dA H a kvs):kvs.length<=sizeLine/\(a==sysModules)=false/\∃vs,KV kvs vs/\h.DictOf (bA P w) a vs:=i8 ok e.rd
theorem mO {ks:List Key} (ok:jL P w H h) (e:H a=some (.tup (ks.map kV))):(tupleKind (bA P w)).is h ks a:=by
 obtain⟨_,its,r,⟨o,h1,h2,n,h3⟩,_⟩:=(show cB P w H h a (.tup (ks.map kV))from ok a _ e);exact⟨o,its.toArray,n,h1,h2,h3,by simpa using vA r⟩
theorem pW {kvs:List (List Key×V)} (ok:jL P w H h) (e:Rd H a (.dT kvs)):kvs.length<=sizeLine/\(a==sysModules)=false/\
  ∃xs,KT H kvs xs/\h.DictOfH (tupleKind (bA P w)) a xs:=by
 obtain⟨z,y,xs,r,o,es,ep,h1,h2,h3,h4,h5⟩:=(show cB P w H h a (.dT kvs)from M0 ok e);refine⟨z,y,xs,r,o,es,ep,h1,h2,h3,h4,fun x hx=>?_,h5⟩;have all:∀{l:List (List Key×V)} {m:List (List Key×Addr×Value)},KT H l m->∀x∈m,(tupleKind (bA P w)).is h x.1 x.2.1:=by
  intro l m q
  induction q with
  |nil=>intro x hx;exact nomatch hx
  | @cons p q ps qs hq t ih=>
   intro x hx;rcases mem_cons.mp hx with e|hx
   .subst e;exact mO ok (by rw[<-hq.1];exact hq.2.1)
   .exact ih x hx
 exact all r x hx
theorem QO (ok:jL P w H h) (e:H a=some (.dT kvs)):kvs.length<=sizeLine/\(a==sysModules)=false/\
  ∃xs,KT H kvs xs/\h.DictOfH (tupleKind (bA P w)) a xs:=pW ok (.inl e)
end
def vR (H:Hp) (a:Addr) (y:V) (r:Option V):Prop:=
 (∃kvs k,EF H a kvs/\y=kV k/\r=dX kvs k)\/ ∃kvs k b,Rd H a (.dT kvs)/\y= .ref b/\H b=some (.tup (k.map kV))/\r=dX kvs k
def KH (H:Hp) (a:Addr) (y v:V) (Q:Hp->Prop):Prop:=
 (∃kvs k,dA H a kvs/\y=kV k/\kvs.length<sizeLine/\∀ep,Q (upd H a (.dK (putK kvs k v) ep)))\/
 ∃kvs k b,H a=some (.dT kvs)/\y= .ref b/\H b=some (.tup (k.map kV))/\kvs.length<sizeLine/\Q (upd H a (.dT (putK kvs k v)))
section
variable {X:Cx} {pins:List (Addr×Obj)} {σ:St} {H:Hp} {s:Shared} {a:Addr} {y v:V} {u r:Value} {o:Option V} {A:Around} {E:Value->Shared->Prop}
theorem Inv.big (I:Inv X pins σ H s):sysModules<s.heap.objs.size:=by
 have h:mainGlobals<s.heap.objs.size:=(I.mod.glob.keeps I.bk).lt;exact lt_trans (by decide) h
theorem ER (hu:A.units+1<cLine) (I:Inv X pins σ H s) (g:vR H a y (some v)) (ry:RelV y u) (h:∀w' s',Inv X pins σ H s'->RelV v w'->Q w' s'):
  wpAny (model X.prog X.w) A (getItem (.ref a) u) Q E s:=by
 rcases g with⟨kvs,k,e,ey,l⟩|⟨kvs,k,b,e,ey,eb,l⟩
 .subst ey;obtain⟨z,hd,vs,rel,dd⟩:=i8 I.bH e;obtain⟨w',hw,tY⟩:=nU.some_of (v:=v) (o:=valueAt vs k) (by rw[l];exact rel.val k);exact wpAny_getItem_of (mH ry) dd.mapOf hw (h w' _ (I.tok _) tY)
 .subst ey;cases(show u=Value.ref b from ry);obtain⟨z,hd,xs,rel,dd⟩:=pW I.bH e;obtain⟨w',hw,tY⟩:=nU.some_of (v:=v) (o:=(atKey xs k).map (·.2)) (by rw[l];exact rel.val k);obtain⟨p,hp,hp2⟩:=Option.map_eq_some_iff.mp hw;refine wpAny_getItem_heap (tupleKind_room_in1 hu) (mO I.bH eb) dd hp ?_;rw[hp2];exact h w' _ (I.tok _) tY
theorem RC (hu:A.units+1<cLine) (I:Inv X pins σ H s) (g:vR H a y o) (ry:RelV y u) (h:∀s',Inv X pins σ H s'->Q (.bool o.isSome) s'):
  wpAny (model X.prog X.w) A (compareOp .In u (.ref a)) Q E s:=by
 rcases g with⟨kvs,k,e,ey,l⟩|⟨kvs,k,b,e,ey,eb,l⟩
 .subst ey;obtain⟨z,hd,vs,rel,dd⟩:=i8 I.bH e;refine wpAny_in_of (mH ry) hd dd.mapOf ?_;rw[<-(rel.val k).iE,<-l];exact h _ (I.tok _)
 .subst ey;cases(show u=Value.ref b from ry);obtain⟨z,hd,xs,rel,dd⟩:=pW I.bH e;refine wpAny_in_heap (tupleKind_room_in1 hu) (mO I.bH eb) hd dd ?_;have q:=(rel.val k).iE;rw[isSome_map]at q;rw[<-q,<-l];exact h _ (I.tok _)
theorem LY (hu:A.units+1<cLine) (I:Inv X pins σ H s) (g:vR H a y o) (ry:RelV y u) (h:∀s',Inv X pins σ H s'->Q (.bool (!o.isSome)) s'):
  wpAny (model X.prog X.w) A (compareOp .NotIn u (.ref a)) Q E s:=by
 rcases g with⟨kvs,k,e,ey,l⟩|⟨kvs,k,b,e,ey,eb,l⟩
 .subst ey;obtain⟨z,hd,vs,rel,dd⟩:=i8 I.bH e;refine wpAny_notIn_of (mH ry) hd dd.mapOf ?_;rw[<-(rel.val k).iE,<-l];exact h _ (I.tok _)
 .subst ey;cases(show u=Value.ref b from ry);obtain⟨z,hd,xs,rel,dd⟩:=pW I.bH e;refine wpAny_notIn_heap (tupleKind_room_in1 hu) (mO I.bH eb) hd dd ?_;have q:=(rel.val k).iE;rw[isSome_map]at q;rw[<-q,<-l];exact h _ (I.tok _)
theorem nS {t':Nat} {ob:HO} (I:Inv X pins σ H s) (mu:QF (H a)) (hs:Heap.SameBut a s.heap h') (he:∃q,h'.get? a=some q) (new:cB X.prog X.w (upd H a ob) h' a ob):
  Inv X pins σ (upd H a ob) {s with heap:=h',toks:=t'}:=
 I.write (x:=a) (e:=a) mu (.inl rfl) (fun b q hb z=>(hs.2 b hb).trans z) he new
theorem AM {P:Program} {kvs:List (Key×V)} {vs:List (Key×Value)} (z:kvs.length<=sizeLine) (hd:(a==sysModules)=false) (rel:KV kvs vs) (dd:h'.DictAt (bA P w) a vs ep):
  cB P w H' h' a (.dK kvs ep):=⟨z,hd,vs,rel,dd⟩
theorem uG {Z:Hp->Prop} {Q:Unit->Shared->Prop} (hu:A.units+1<cLine) (I:Inv X pins σ H s) (g:KH H a y v Z) (ry:RelV y u) (rv:RelV v r) (h:∀H' s',Inv X pins σ H' s'->Z H'->Q () s'):
  wpAny (model X.prog X.w) A (setItem (.ref a) u r) Q E s:=by
 rcases g with⟨kvs,k,e,ey,l,eH⟩|⟨kvs,k,b,e,ey,eb,l,eH⟩
 .subst ey;obtain⟨z,hd,vs,rel,dd⟩:=HY I.bH e;have hz:vs.length<=sizeLine:=by rw[<-rel.length];exact z
  have hl:(putK kvs k v).length<=sizeLine:=by have:=i9 kvs k v;omega
  refine wpAny_setItem_pairs (hsz:=hz) (mH ry) dd fun h' dd' hs=>?_
  obtain⟨ep,da⟩:=dd'.dictAt;refine h _ _ ?_ (eH ep);have he:∃q,h'.get? a=some q:=let⟨q,_,_,hq,_⟩:=dd';⟨q,hq⟩
  exact nS I e.US hs he (AM hl hd (rel.put k rv) da)
 .subst ey;cases(show u=Value.ref b from ry);obtain⟨z,hd,xs,rel,dd⟩:=QO I.bH e;have hz:xs.length<=sizeLine:=by rw[<-Paired.length rel];exact z
  have hl:(putK kvs k v).length<=sizeLine:=by have:=i9 kvs k v;omega
  refine wpAny_setItem_heap (hsz:=hz) (tupleKind_room_in1 hu) (mO I.bH eb) dd fun h' dd' hs=>h _ _ ?_ eH
  obtain⟨q,es,ep,hq,h2,h3,h4,_,h5⟩:=dd';refine nS I (by rw[e];exact True.intro) hs ⟨q,hq⟩ ⟨hl,hd,_,(rel.put k eb rv).keeps fun c ys ec=>?_,q,es,ep,hq,h2,h3,h4,h5⟩;rw[aG (B8 ec e (fun z=>nomatch z))];exact ec
end
theorem x9 {y:V} {o:Option V} (I:Inv X pins σ H s) (g:vR H a y o):s.TypeIs (.ref a) "dict":=by
 rcases g with⟨kvs,k,e,_,_⟩|⟨kvs,k,b,e,_,_,_⟩
 .obtain⟨_,_,vs,_,dd⟩:=i8 I.bH e;exact dd.typeIs
 .obtain⟨_,_,xs,_,dd⟩:=pW I.bH e;exact dd.typeIs
def pR (td ty tv:TE):TS:=fun D σ H=>tv σ H fun v H1=>td σ H1 fun x H2=>ty σ H2 fun y H3=>∃a,x= .ref a/\KH H3 a y v (D.nx σ)
section
variable {X:Cx} {o i e value:Expr} {pos pos' tpos:Pos} {td ty tv:TE}
theorem dE (hu:X.A.units+1<cLine) (ho:PE X o td) (hi:PE X i ty) (hv:PE X value tv) (hs:swapsWith value (some (.Subscript o i pos')) pos.line X.env=pure false):
  PS X (.Assign [.Subscript o i pos'] value pos) (pR td ty tv):=by
 intro pins s σ H D I h;refine wpAny_Assign_Subscript (bY (hv pins s σ H _ I h) fun r s1 ⟨v,H1,I1,rv,q1⟩=>bY (ho pins s1 σ H1 _ I1 q1) fun u s2 ⟨x,H2,I2,rx,q2⟩=>bY (hi pins s2 σ H2 _ I2 q2) fun iv s3 ⟨y,H3,I3,ry,a,ex,g⟩=>?_) hs;subst ex;obtain rfl:u=Value.ref a:=rx;exact uG hu I3 g ry rv fun H4 s4 I4 q3=>⟨σ,H4,I4,q3⟩
end
theorem yA {P:Program} (h:Heap) (hb:sysModules<h.objs.size):cB P w H (h.push {cls:=.type "dict",data:=.dict #[]}) h.objs.size (.dK [] 0):=
 ⟨zero_le _,beq_eq_false_iff_ne.mpr (Ne.symm (ne_of_lt hb)),[],.nil,_, #[],get?_push_size _ rfl,⟨rfl,rfl,rfl⟩,rfl,(fun _ he=>by simp at he),PySem.Pairs.nil,nodup_nil⟩
def rD:TE:=fun _ H Q=>∀p,H p=none->Q (.ref p) (upd H p (.dK [] 0))
section
variable {X:Cx} {pos:Pos}
theorem dQ:PE X (.Dict [] [] pos) rD:=fun pins s σ H Q I h=>
 wpAny_Dict_empty ⟨.ref s.heap.objs.size,_,I.laid (a:=s.heap.objs.size) (o:=.dK [] 0) (t':=s.toks) (fun _ _ q=>get?_push_of_some _ q) (le_refl _) (yA s.heap I.big),rfl,h _ (I.bH.fresh (le_refl _))⟩
end
def mU:List (TE×TE)->St->Hp->(List (V×V)->Hp->Prop)->Prop
 |[],_,H,Q=>Q [] H
 |(tk,tv)::r,σ,H,Q=>tk σ H fun x H1=>tv σ H1 fun y H2=>mU r σ H2 fun ps H3=>Q ((x,y)::ps) H3
abbrev VV:List (V×V)->List (Value×Value)->Prop:=Paired fun p q=>RelV p.1 q.1/\RelV p.2 q.2
def S7 (X:Cx) (pos:Pos) (keys:List (Option Expr)) (values:List Expr) (trs:List (TE×TE)):Prop:=
 ∀(pins:List (Addr×Obj)) (s:Shared) (σ:St) (H:Hp) (Q:List (V×V)->Hp->Prop),Inv X pins σ H s->mU trs σ H Q->
  wpAny (model X.prog X.w) X.A (evalPairs (pairTrees keys values X.env pos)) (fun vs s'=>∃ps H',Inv X pins σ H' s'/\VV ps vs/\Q ps H') X.xe s
theorem LC:S7 X pos [] [] []:=fun pins s σ H Q I h=>pairTrees_nil_walk ⟨[],H,I,.nil,h⟩
theorem E8 {k v:Expr} {ks:List (Option Expr)} {vs:List Expr} {tk tv:TE} (hk:PE X k tk) (hv:PE X v tv) (hr:S7 X pos ks vs trs):
  S7 X pos (some k::ks) (v::vs) ((tk,tv)::trs):=fun pins s σ H Q I h=>
 pairTrees_cons_walk (bY (hk pins s σ H _ I h) fun u s1 ⟨x,H1,I1,rx,q1⟩=>bY (hv pins s1 σ H1 _ I1 q1) fun w2 s2 ⟨y,H2,I2,ry,q2⟩=>
  bY (hr pins s2 σ H2 _ I2 q2) fun ws s3 ⟨ps,H3,I3,rel,q3⟩=>⟨(x,y)::ps,H3,I3,.cons ⟨rx,ry⟩ rel,q3⟩)
noncomputable def m8 (kvs more:List (Key×V)):List (Key×V):=more.foldl (fun acc kv=>putK acc kv.1 kv.2) kvs
theorem KV.merge:∀{more:List (Key×V)} {rs:List (Key×Value)} {kvs:List (Key×V)} {vs:List (Key×Value)},KV more rs->KV kvs vs->KV (m8 kvs more) (merged vs rs):=by
 intro more rs kvs vs r;unfold KV at r
 induction r generalizing kvs vs with
 |nil=>intro q;exact q
 | @cons p q ps qs h t ih=>
  intro r0;have e:KV (putK kvs p.1 p.2) (stored vs q.1 q.2):=by
   have:=r0.put p.1 h.2;rw[<-h.1];exact this
  exact ih e
theorem mI:∀(more kvs:List (Key×V)),(m8 kvs more).length<=kvs.length+more.length
 |[],kvs=>by show kvs.length<=kvs.length+0;omega
 |p::r,kvs=>by
  have h1:=mI r (putK kvs p.1 p.2);have h2:=i9 kvs p.1 p.2;show(m8 (putK kvs p.1 p.2) r).length<=_;rw[length_cons];omega
theorem rE {P:Program} {w:World}:∀{kvs:List (Key×V)} {ws:List (Value×Value)},VV (kvs.map fun kv=>(kV kv.1,kv.2)) ws->∃rs,Carries (bA P w) ws rs/\KV kvs rs
 |[],_,r=>by rw[map_nil]at r;cases r;exact⟨[],True.intro,.nil⟩
 | p::kvs,_,r=>by
  rw[map_cons]at r;cases r with
  | @cons a b as bs h t=>
   obtain⟨rs,c,q⟩:=rE (P:=P) (w:=w) t;obtain⟨b1,b2⟩:=b;exact⟨(p.1,b2)::rs,⟨mH h.1,rfl,c⟩,.cons ⟨rfl,h.2⟩ q⟩
def yF (trs:List (TE×TE)):TE:=fun σ H Q=>∀p,H p=none->mU trs σ (upd H p (.dK [] 0)) fun ps H2=>H2 p=some (.dK [] 0)/\∃kvs:List (Key×V),ps=kvs.map (fun kv=>(kV kv.1,kv.2))/\kvs.length<=15/\∀ep,Q (.ref p) (upd H2 p (.dK (m8 [] kvs) ep))
theorem LR {X:Cx} {keys:List (Option Expr)} {values:List Expr} (h:S7 X pos keys values trs) (hall:keys.all (·.isSome)=true) (hl:keys.length=values.length) (h0:keys≠[])
  (h15:keys.length<=15):PE X (.Dict keys values pos) (yF trs):=by
 intro pins s σ H Q I q;have hn:=I.bH.fresh (le_refl s.heap.objs.size);have I1:=I.laid (a:=s.heap.objs.size) (o:=.dK [] 0) (h':=s.heap.push {cls:=.type "dict",data:=.dict #[]}) (t':=s.toks) (fun _ _ q=>get?_push_of_some _ q) (le_refl _) (yA s.heap I.big);refine wpAny_Dict_walk (knd:=bA X.prog X.w) hall hl h0 h15 (bY (h pins _ σ _ _ I1 (q _ hn)) fun ws s2 ⟨ps,H2,I2,rel,e,kvs,ep,lk,q2⟩=>?_);subst ep;obtain⟨rs,c,rk⟩:=rE (P:=X.prog) (w:=X.w) rel;obtain⟨z,hd,vs0,r0,dd⟩:=HY I2.bH ⟨_,e⟩;cases r0;refine⟨rs,c,dd,fun h' dd' hs=>let⟨ep,da⟩:=dd'.dictAt;⟨.ref s.heap.objs.size,_,?_,rfl,q2 ep⟩⟩;have hz:(m8 [] kvs).length<=sizeLine:=by
  have h1:=mI kvs [];rw[length_nil]at h1;rw[sizeLine_eq];omega
 have he:∃q,h'.get? s.heap.objs.size=some q:=let⟨q,_,_,hq,_⟩:=dd';⟨q,hq⟩
 exact nS I2 (by rw[e];exact True.intro) hs he (AM hz hd (rk.merge .nil) da)
structure M1 (X:Cx) (o:Expr) (m:Str) (apos:Pos) (e:Expr) (cpos:Pos):Prop where
 base:attributeBase o m X.env (eval o X.env)=eval o X.env
 OW:((backTo cpos (starEach [e] X.env)).all (fun x=>!x.1) && (backToKw cpos (keywordEach [] X.env)).all (fun x=>x.1.isSome)
  && decide (([e]:List Expr).length+([]:List Keyword).length+(if([]:List Keyword).isEmpty then 0 else 1)<30))=true
 line:(apos.endLine==cpos.line)=true
 trees:backTo cpos (starEach [e] X.env)=[(false,eval e X.env)]
structure M2 (X:Cx) (o:Expr) (m:Str) (apos:Pos) (e f:Expr) (cpos:Pos):Prop where
 base:attributeBase o m X.env (eval o X.env)=eval o X.env
 OW:((backTo cpos (starEach [e,f] X.env)).all (fun x=>!x.1) && (backToKw cpos (keywordEach [] X.env)).all (fun x=>x.1.isSome)
  && decide (([e,f]:List Expr).length+([]:List Keyword).length+(if([]:List Keyword).isEmpty then 0 else 1)<30))=true
 line:(apos.endLine==cpos.line)=true
 trees:backTo cpos (starEach [e,f] X.env)=[(false,eval e X.env),(false,eval f X.env)]
def UC (H:Hp) (a:Addr):Prop:=(∃kvs,EF H a kvs)\/ ∃kvs,Rd H a (.dT kvs)
theorem HJ (I:Inv X pins σ H s) (d:UC H a):
  s.TypeIs (.ref a) "dict"/\(∀b,Value.ref a= .ref b->∃ob,s.heap.get? b=some ob/\ob.dict=none)/\(a==sysModules)=false:=by
 rcases d with⟨kvs,e⟩|⟨kvs,e⟩
 .obtain⟨_,hd,vs,_,dd⟩:=i8 I.bH e;refine⟨dd.typeIs,fun b q=>?_,hd⟩;cases q;obtain⟨ob,_,_,h1,h2,_⟩:=dd;exact⟨ob,h1,h2.2.1⟩
 .obtain⟨_,hd,xs,_,dd⟩:=pW I.bH e;refine⟨dd.typeIs,fun b q=>?_,hd⟩;cases q;obtain⟨ob,_,_,h1,h2,_⟩:=dd;exact⟨ob,h1,h2.2.1⟩
section
variable {X:Cx} {pins:List (Addr×Obj)} {σ:St} {H:Hp} {s:Shared} {a:Addr} {y d:V} {u r:Value} {o:Option V} {A:Around} {E:Value->Shared->Prop}
theorem PD (hu:A.units+1<cLine) (I:Inv X pins σ H s) (g:vR H a y o) (ry:RelV y u) (h:∀w' s',Inv X pins σ H s'->RelV (o.getD .aP) w'->Q w' s'):
  wpAny (model X.prog X.w) A (call (.builtin "dict.get") [.ref a,u]) Q E s:=by
 rcases g with⟨kvs,k,e,ey,l⟩|⟨kvs,k,b,e,ey,eb,l⟩
 .subst ey;obtain⟨z,hd,vs,rel,dd⟩:=i8 I.bH e;refine call_meetsIn slot_dict_get dd.typeIs entry_dict_get (PySem.F.args_dict_get_2 _ _) (meets_dict_get (bA X.prog X.w) a (mH ry) hd) ⟨_,dd.mapOf,h _ _ (I.tok _) ?_⟩;rw[l];exact(rel.val k).getD rfl
 .subst ey;cases(show u=Value.ref b from ry);obtain⟨z,hd,xs,rel,dd⟩:=pW I.bH e;refine call_meetsIn slot_dict_get dd.typeIs entry_dict_get (PySem.F.args_dict_get_2 _ _) (meetsH_dict_get (tupleKind (bA X.prog X.w)) a b hd) ⟨tupleKind_room_in1 hu,k,xs,mO I.bH eb,dd,h _ _ (I.tok _) ?_⟩;rw[l];exact(rel.val k).getD rfl
theorem N2 (hu:A.units+1<cLine) (I:Inv X pins σ H s) (g:vR H a y o) (ry:RelV y u) (rd:RelV d r) (h:∀w' s',Inv X pins σ H s'->RelV (o.getD d) w'->Q w' s'):
  wpAny (model X.prog X.w) A (call (.builtin "dict.get") [.ref a,u,r]) Q E s:=by
 rcases g with⟨kvs,k,e,ey,l⟩|⟨kvs,k,b,e,ey,eb,l⟩
 .subst ey;obtain⟨z,hd,vs,rel,dd⟩:=i8 I.bH e;refine call_meetsIn slot_dict_get dd.typeIs entry_dict_get (PySem.F.args_dict_get_3 _ _ _) (meets_dict_get_default (bA X.prog X.w) a (mH ry) hd r) ⟨_,dd.mapOf,h _ _ (I.tok _) ?_⟩;rw[l];exact(rel.val k).getD rd
 .subst ey;cases(show u=Value.ref b from ry);obtain⟨z,hd,xs,rel,dd⟩:=pW I.bH e;refine call_meetsIn slot_dict_get dd.typeIs entry_dict_get (PySem.F.args_dict_get_3 _ _ _) (meetsH_dict_get_default (tupleKind (bA X.prog X.w)) a b hd r) ⟨tupleKind_room_in1 hu,k,xs,mO I.bH eb,dd,h _ _ (I.tok _) ?_⟩;rw[l];exact(rel.val k).getD rd
end
def pF (td ty:TE):TE:=fun σ H Q=>td σ H fun x H1=>∃a,x= .ref a/\UC H1 a/\ty σ H1 fun y H2=>∃o,vR H2 a y o/\Q (o.getD .aP) H2
def sU (td ty tx:TE):TE:=fun σ H Q=>td σ H fun x H1=>∃a,x= .ref a/\UC H1 a/\ty σ H1 fun y H2=>tx σ H2 fun z H3=>∃o,vR H3 a y o/\Q (o.getD z) H3
section
variable {X:Cx} {o e f:Expr} {apos cpos:Pos} {td ty tx:TE}
theorem HI (hu:X.A.units+1<cLine) (ho:PE X o td) (he:PE X e ty) (m:M1 X o "get" apos e cpos):PE X (.Call (.Attribute o "get" apos) [e] [] cpos) (pF td ty):=by
 intro pins s σ H Q I h;refine wpAny_Call_method m.base m.OW m.line plainAttrs_dict slot_dict_get type_dict_get (bY (ho pins s σ H _ I h) fun u s1 ⟨x,H1,I1,rx,a,ex,d,q1⟩=>?_);subst ex;obtain rfl:u=Value.ref a:=rx;obtain⟨t1,t2,_⟩:=HJ I1 d;refine⟨t1,t2,?_⟩;rw[m.trees];refine Calls.callWith_builtin rfl (Calls.evalArgs_plain (Calls.spliced_cons (bY (he pins s1 σ H1 _ I1 q1) fun iv s2 ⟨y,H2,I2,ry,ov,g,q2⟩=>Calls.spliced_nil ?_)));exact PD hu I2 g ry fun w' s3 I3 tY=>⟨_,H2,I3,tY,q2⟩
theorem JJ (hu:X.A.units+1<cLine) (ho:PE X o td) (he:PE X e ty) (hf:PE X f tx) (m:M2 X o "get" apos e f cpos):PE X (.Call (.Attribute o "get" apos) [e,f] [] cpos) (sU td ty tx):=by
 intro pins s σ H Q I h;refine wpAny_Call_method m.base m.OW m.line plainAttrs_dict slot_dict_get type_dict_get (bY (ho pins s σ H _ I h) fun u s1 ⟨x,H1,I1,rx,a,ex,d,q1⟩=>?_);subst ex;obtain rfl:u=Value.ref a:=rx;obtain⟨t1,t2,_⟩:=HJ I1 d;refine⟨t1,t2,?_⟩;rw[m.trees];refine Calls.callWith_builtin rfl (Calls.evalArgs_plain (Calls.spliced_cons (bY (he pins s1 σ H1 _ I1 q1) fun iv s2 ⟨y,H2,I2,ry,q2⟩=>
  Calls.spliced_cons (bY (hf pins s2 σ H2 _ I2 q2) fun fv s3 ⟨z,H3,I3,rz,ov,g,q3⟩=>Calls.spliced_nil ?_))))
 exact N2 hu I3 g ry rz fun w' s4 I4 tY=>⟨_,H3,I4,tY,q3⟩
end
def Kp (H H':Hp):Prop:=∀a o,H a=some o->H' a=some o\/ ∃xs ys,o= .lst xs/\H' a=some (.lst ys)
theorem Kp.of (s:aF H H'):Kp H H':=fun a o h=>.inl (s a o h)
theorem Kp.trans {H1 H2:Hp} (a:Kp H H1) (b:Kp H1 H2):Kp H H2:=fun c o h=>by
 rcases a c o h with r|⟨xs,ys,rfl,r⟩
 .exact b c o r
 .rcases b c _ r with q|⟨us,ws,e,q⟩
  .exact .inr ⟨xs,ys,rfl,q⟩
  .exact .inr ⟨xs,ws,rfl,q⟩
theorem Kp.lst {xs:List V} (e:H l=some (.lst xs)):Kp H (upd H l (.lst ys)):=fun a o h=>by
 by_cases z:a=l
 .subst z;rw[e]at h;cases h;exact .inr ⟨_,_,rfl,aB⟩
 .exact .inl (by rw[aG z];exact h)
theorem Kp.tup (k:Kp H H') {a:Addr} {xs:List V} (h:H a=some (.tup xs)):H' a=some (.tup xs):=by
 rcases k a _ h with r|⟨_,_,e,_⟩
 .exact r
 .cases e
structure Tg (H:Hp) (v:V) (k:Kd):Prop where
 is:SE H v k
 OW:∀x,v= .str x->x.length<=1000000
theorem Tg.kp {k:Kd} (t:Tg H v k) (s:Kp H H'):Tg H' v k:=by
 refine⟨?_,t.OW⟩;have h:=t.is;cases k with
 |aP=>exact h
 |bl=>exact h
 |int=>exact h
 |str=>exact h
 |lst=>
  obtain⟨a,xs,rfl,e⟩:=h;rcases s _ _ e with r|⟨_,ys,_,r⟩
  .exact⟨a,xs,rfl,r⟩
  .exact⟨a,ys,rfl,r⟩
 |tup=>obtain⟨a,xs,rfl,e⟩:=h;exact⟨a,xs,rfl,s.tup e⟩
 |tK=>
  obtain⟨a,xs,ep,rfl,e⟩:=h;rcases s _ _ e with r|⟨_,_,z,_⟩
  .exact⟨a,xs,ep,rfl,r⟩
  .cases z
theorem Tg.same {k:Kd} (t:Tg H v k) (s:aF H H'):Tg H' v k:=t.kp (.of s)
noncomputable def i6 (H:Hp):V->Option (List V)
 | .ref a=>match H a with|some (.tup xs)=>some xs|_=>none
 |_=>none
theorem dN {xs:List V} (h:H a=some (.tup xs)):i6 H (.ref a)=some xs:=by unfold i6;simp only[h]
theorem Tg.tup {v:V} {k:Kd} (t:Tg H v k):(k= .tup/\∃a xs,v= .ref a/\H a=some (.tup xs)/\i6 H v=some xs)\/ (k≠ .tup/\i6 H v=none):=by
 have h:=t.is;cases k with
 |aP=>cases(show v= .aP from h);exact .inr ⟨(fun z=>nomatch z),rfl⟩
 |bl=>obtain⟨_,rfl⟩:=h;exact .inr ⟨(fun z=>nomatch z),rfl⟩
 |int=>obtain⟨_,rfl⟩:=h;exact .inr ⟨(fun z=>nomatch z),rfl⟩
 |str=>obtain⟨_,rfl⟩:=h;exact .inr ⟨(fun z=>nomatch z),rfl⟩
 |lst=>obtain⟨a,xs,rfl,e⟩:=h;exact .inr ⟨(fun z=>nomatch z),by unfold i6;simp only[e]⟩
 |tup=>obtain⟨a,xs,rfl,e⟩:=h;exact .inl ⟨rfl,a,xs,rfl,e,dN e⟩
 |tK=>obtain⟨a,xs,ep,rfl,e⟩:=h;exact .inr ⟨(fun z=>nomatch z),by unfold i6;simp only[e]⟩
theorem Tg.qV {k:Kd} (t:Tg H v k) (s:Kp H H'):i6 H' v=i6 H v:=by
 rcases t.tup with⟨rfl,a,xs,rfl,e,e2⟩|⟨n,e⟩
 .rw[e2];exact dN (s.tup e)
 .rw[e];rcases(t.kp s).tup with⟨z,_⟩|⟨_,e'⟩
  .exact absurd z n
  .exact e'
def jG:Nat->Hp->V->Prop
 |0,H,v=>∃k,Tg H v k
 |n+1,H,v=>(∃k,Tg H v k)/\∀xs,i6 H v=some xs->xs.length<=30000/\∀x∈xs,jG n H x
theorem jG.tg:∀{n:Nat} {H:Hp} {v:V},jG n H v->∃k,Tg H v k
 |0,_,_,h=>h
 |_+1,_,_,h=>h.1
theorem jG.kp:∀{n:Nat} {H H':Hp} {v:V},jG n H v->Kp H H'->jG n H' v
 |0,_,_,_,⟨k,t⟩,s=>⟨k,t.kp s⟩
 | n+1,_,_,_,⟨⟨k,t⟩,h⟩,s=>⟨⟨k,t.kp s⟩,fun xs e=>by
   rw[t.qV s]at e;exact⟨(h xs e).1,fun x hx=>jG.kp ((h xs e).2 x hx) s⟩⟩
def Any (H:Hp) (v:V):Prop:=∀n,jG n H v
theorem Any.kp (h:Any H v) (s:Kp H H'):Any H' v:=fun n=>(h n).kp s
theorem kO {k:Kd} (t:Tg H v k) (n:k≠ .tup):Any H v
 |0=>⟨k,t⟩
 | _+1=>⟨⟨k,t⟩,fun xs e=>by
   rcases t.tup with⟨z,_⟩|⟨_,e'⟩
   .exact absurd z n
   .rw[e]at e';cases e'⟩
theorem MF:Any H .aP:=kO (k:=.aP) ⟨rfl,fun _ e=>nomatch e⟩ (fun z=>nomatch z)
theorem P7 {b:Bool}:Any H (.bl b):=kO (k:=.bl) ⟨⟨b,rfl⟩,fun _ e=>nomatch e⟩ (fun z=>nomatch z)
theorem J9 {i:Int}:Any H (.int i):=kO (k:=.int) ⟨⟨i,rfl⟩,fun _ e=>nomatch e⟩ (fun z=>nomatch z)
theorem wQ {x:Str} (h:x.length<=1000000):Any H (.str x):=kO (k:=.str) ⟨⟨x,rfl⟩,fun _ e=>by cases e;exact h⟩ (fun z=>nomatch z)
theorem ME {xs:List V} (h:H a=some (.lst xs)):Any H (.ref a):=kO (k:=.lst) ⟨⟨a,xs,rfl,h⟩,fun _ e=>nomatch e⟩ (fun z=>nomatch z)
theorem lW {xs:List V} (h:H a=some (.tup xs)) (hl:xs.length<=30000) (hx:∀x∈xs,Any H x):Any H (.ref a)
 |0=>⟨.tup,⟨a,xs,rfl,h⟩,fun _ e=>nomatch e⟩
 | n+1=>⟨⟨.tup,⟨a,xs,rfl,h⟩,fun _ e=>nomatch e⟩,fun ys e=>by
   rw[dN h]at e;cases e;exact⟨hl,fun x hm=>hx x hm n⟩⟩
section
variable {X:Cx} {es:List Expr} {te:TE} {t:TA}
theorem TU {a b c} (ha:PE X (.Constant a b c) te) (hr:PA X es t):PA X (.Constant a b c::es) (eV te t):=aA ha hr rfl
end
section
variable {X:Cx} {elt tg iter:Expr} {ifs:List Expr} {scope:Scope} {pos:Pos} {wi:TI} {g:TG} {tt:TT} {te:TE} {N:List Str} {k:Nat} {cL:List Nat}
theorem LH {iy:Nat} (hc:X.calm=true) (hNd:X.N.Nodup) (hiy:X.N[iy]? =some y) (hy:X.env.scope.names.lookup y=some .local)
  (S:gN X scope N k cL) (hi:PI X tg iter wi) (hg:∀c,PG (aY X scope N c) tg g) (ht:∀c,MR (aY X scope N c) ifs tt) (he:∀c,PE (aY X scope N c) elt te)
  (hsw:swapsWith (.ListComp elt [⟨tg,iter,ifs,0⟩] scope pos) (some (.Name y py)) spos.line X.env=pure true)
  (hs:∀x,foldedSetIterable iter X.env x=pure x:=by intro _;rfl):PS X (.Assign [.Name y py] (.ListComp elt [⟨tg,iter,ifs,0⟩] scope pos) spos) (o5 (C1 wi k cL g tt te) (iP iy)):=by
 intro pins s σ H D I h;rw[exec_Assign_Name_used _ _ _ _ hsw];refine wpAny_bind (wpAny_standAt (wpAny_bind ?_));obtain⟨cl,hclos,hcl1,hcl2⟩:=jJ (scope:=scope) (env:=X.env) (fun p hp hf=>I.ok.has p.1 (S.free p hp hf));show wpAny _ X.A (do let _<-comprehension (.ListComp elt [⟨tg,iter,ifs,0⟩] scope pos) scope X.env _ (newList []) false (eval iter X.env) (some (assign (.Name y py) X.env))) _ _ s;refine wpAny_bind (wpAny_mono (wpAny_comprehension_free (use:=some (assign (.Name y py) X.env)) (Q:=fun _ s'=>SP X pins D .next s') rfl hs hclos S.kind S.names (bY (hi pins s σ H _ I h) fun v s1 h1=>bY h1 fun itv s2 h2=>?_)) (fun _ s' hq=>wpAny_pure (wpAny_pure hq)) fun _ _ e=>e);obtain⟨it,fp,tn,J,H2,e,I2,T,st2,f2,q2⟩:=h2;subst e;obtain⟨W,⟨m0,w0⟩,turn⟩:=q2 s2.heap.objs.size (I2.bH.fresh (le_refl _));have hob:∀b∈fp,b<s2.heap.objs.size:=fun b hb=>let⟨o,e,_⟩:=T.obj _ _ st2 b hb;lt_size e
 refine wpAny_newObj_type (wpAny_newFunctionEnv S.cell (by intro y hy;simp at hy) (fun h₁ hns₁ hsb₁=>?_) S.kind);dsimp only at hns₁ hsb₁⊢
 generalize hHH:s2.heap.push {cls:=.type "list",dict:=none,data:=.seq ([]:List Value).toArray}=HH at hns₁ hsb₁⊢
 have hCC:HH.objs.size=s2.heap.objs.size+1:=by rw[<-hHH,size_push]
 have old:∀b o,s2.heap.get? b=some o->h₁.get? b=some o:=fun b o e=>hsb₁.extBut b o (ne_of_lt (hCC▸lt_succ_of_lt (lt_size e))) (get?_push_of_some _ (hHH▸get?_push_of_some _ e))
 have hD:h₁.get? s2.heap.objs.size=some {cls:=.type "list",data:=.seq #[] 0}:=hsb₁.extBut _ _ (ne_of_lt (hCC▸lt_succ_self _)) (get?_push_of_some _ (hHH▸get?_push_size _ rfl));have I4:=fun tk=>B4 (tk:=tk) S I2 hcl1 hcl2 hCC f2 hob old hD hns₁
 have X':=aY X scope N ⟨cl,HH.objs.size,s2,H2,fp⟩;have stat:∀{H':Hp},(∀b∈fp,H' b=none)->∀b∈fp,n6 (aY X scope N ⟨cl,HH.objs.size,s2,H2,fp⟩) [] H' b:=fun hn b hb=>
  ⟨hn b hb,ne_of_lt (hCC▸lt_succ_of_lt (hob b hb)),(rK S I2 hcl1 hcl2 (hCC▸le_succ _) f2 hob).xV b hb,.inl hb,fun x c e=>(f2 b hb).2.2.2.2.1 x c (hcl1 x c e),fun p hp=>absurd (show p∈([]:List (Addr×Obj))from hp) (by simp)⟩
 have loop:∀s₃:Shared,s₃={s2 with heap:=h₁,toks:=s2.toks+([]:List (Str×Value)).length}->
   codeAny (model X.prog X.w) X.A (.compLoop (.ListComp elt [⟨tg,iter,ifs,0⟩] scope pos) 0 (.ref it) (.ref s2.heap.objs.size) (compEnvC scope cl HH.objs.size X.env))
    (compPost (model X.prog X.w) X.A X.xe (some (assign (.Name y py) X.env)) (fun _ s'=>SP X pins D .next s') (.ref s2.heap.objs.size) HH.objs.size) s₃:=by
  rintro s₃ rfl;refine tZ (fun n s'=>∃i σ' H',Inv (aY X scope N ⟨cl,HH.objs.size,s2,H2,fp⟩) [] σ' H' s'/\tn i s'.heap/\(∀b∈fp,H' b=none)/\W i n σ' H') ?_ m0
   ⟨0,bR k cL σ,_,I4 _,T.keep _ _ _ st2 fun b _ o e=>old b o e,fun b hb=>by rw[aG (ne_of_lt (hob b hb))];exact(f2 b hb).1,w0⟩
  rintro n s3 ⟨i,σ3,H3,I3,st3,fr3,w3⟩;rcases turn i n σ3 H3 w3 with⟨stop,qn⟩|⟨go,NN,hN,step⟩
  .refine bY (T.done (aY X scope N ⟨cl,HH.objs.size,s2,H2,fp⟩) rfl rfl rfl hc i [] s3 σ3 H3 _ I3 (stat fr3) st3 stop) fun r s4 ⟨hr,J4⟩=>?_
   subst hr;obtain⟨m,hn,_⟩:=J4.loc;obtain⟨oC,es,ep,hoC,hdC,rC⟩:=hn;have jF:∀b o,s2.heap.get? b=some o->b≠HH.objs.size:=fun b o e=>ne_of_lt (hCC▸lt_succ_of_lt (lt_size e))
   have szC:s2.heap.objs.size<=HH.objs.size:=hCC▸le_succ _;have u:=J4.base;have I4x:Inv X pins σ H3 s4:=I2.xS (ch:=fp) J4.os u J4.bH J4.bare fun b hb=>by
    obtain⟨_,f1,_,f3,f4,f5⟩:=f2 b hb;exact⟨f3,f1,f4,f5⟩
   have lC:HH.objs.size≠X.env.locals:=ne_of_gt (lt_of_lt_of_le I2.lt szC);have I4p:Inv X ((HH.objs.size,oC)::pins) σ H3 s4:=I4x.qP fun p hp=>by
    rcases mem_cons.mp hp with r|r
    .rw[r];exact⟨hoC,J4.free,lC,I2.QZ szC,fun v z=>by rw[hdC]at z;cases z⟩
    .exact I4x.pin p (mem_append_right _ r)
   show wpAny _ X.A (assign (.Name y py) X.env (.ref s2.heap.objs.size)) _ _ _;refine wpAny_assign_Name (gT I4p hNd hiy (.inl hy) (v:=.ref s2.heap.objs.size) rfl (fun s5 I5=>?_) (.inr hy));have hC5:=I5.pin (HH.objs.size,oC) (mem_append_right _ mem_cons_self);refine⟨m,⟨oC,es,ep,hC5.1,hdC,rC⟩,fun h' hs'=>⟨_,H3,?_,qn⟩⟩;have I6:Inv X pins (σ.set iy (some (.ref s2.heap.objs.size))) H3 s5:=I5.qP fun p hp=>I5.pin p (mem_append_right _ (mem_cons_of_mem _ hp))
   refine I6.turned (it:=HH.objs.size) (t':=s5.toks) (fun b o hb e=>hs'.extBut b o hb e) J4.free lC (.inr (le_trans I2.sz szC)) (fun x c e=>?_) (fun p hp=>?_)
   .obtain⟨v,q⟩:=I2.cell x c e;exact ne_of_lt (lt_of_lt_of_le q.lt szC)
   .exact jF p.1 p.2 (I2.pin p hp).1
  .refine bY (T.item (aY X scope N ⟨cl,HH.objs.size,s2,H2,fp⟩) rfl rfl rfl hc i [] s3 σ3 H3 _ I3 (stat fr3) st3 go) fun r s4 ⟨u,hr,h4⟩=>?_
   subst hr;refine bY h4 fun _ s5 ⟨x,H5,I5,r5,y5,st5,fr5⟩=>?_
   have I5':=I5.pinned (stat fr5) (T.obj _ _ st5);have again:∀{s7:Shared} {σ7:St} {H7:Hp},Inv (aY X scope N ⟨cl,HH.objs.size,s2,H2,fp⟩) ([]++m3 fp s5.heap) σ7 H7 s7->NN σ7 H7->
     ∃m,m<n/\∃i σ' H',Inv (aY X scope N ⟨cl,HH.objs.size,s2,H2,fp⟩) [] σ' H' s7/\tn i s7.heap/\(∀b∈fp,H' b=none)/\W i m σ' H':=fun{s7 σ7 H7} I7 n7=>by
    obtain⟨m',hm,w7⟩:=hN σ7 H7 n7;refine⟨m',hm,i+1,σ7,H7,I7.jR,T.keep _ _ _ st5 fun b hb o e=>(I7.pin (b,o) (mem_append_right _ (mem_append_right _ (fD hb e)))).1,fun b hb=>?_,w7⟩;obtain⟨o,e,d⟩:=T.obj _ _ st5 b hb;exact(I7.pin (b,o) (mem_append_right _ (mem_append_right _ (fD hb e)))).2.1
   refine bY (hg _ _ s5 σ3 H5 x u _ I5' r5 (step x H5 y5)) fun _ s6 ⟨σ6,H6,I6,q6⟩=>?_
   refine bY (ht _ _ s6 σ6 H6 _ I6 q6) fun b s7 ⟨H7,I7,q7⟩=>?_
   cases b with
   |false=>exact again I7 q7
   |true=>
    refine bY (he _ _ s7 σ6 H7 _ I7 q7) fun y s8 ⟨yv,H8,I8,r8,xs,hl,hz,n8⟩=>?_
    refine bY (eQ _ s8 σ6 H8 (.ref s2.heap.objs.size) [yv] (.ref s2.heap.objs.size) [y] (fun _ H9=>NN σ6 H9) I8 rfl (.cons r8 .nil) ⟨_,xs,yv,rfl,rfl,hl,hz,n8⟩) fun _ s9 ⟨_,H9,I9,_,q9⟩=>?_
    exact again I9 q9
 exact codeAny_compStart_list (loop _ rfl) (T.self X.A 0 _ _ _ (T.keep _ _ _ st2 fun b _ o e=>old b o e) (loop _ rfl))
theorem zR (N:List Str) (k:Nat) (cL:List Nat) (XN:List Str) (xs:Scope) (hc:X.calm=true) (hN:X.N=XN) (hx:X.env.scope=xs) (hNd:X.N.Nodup) (hiy:X.N[i]? =some y) (hy:X.env.scope.names.lookup y=some .local)
  (hi:PI X tg iter wi) (chk:nH XN xs scope N k cL=true) (hg:∀c,PG (aY X scope N c) tg g) (ht:∀c,MR (aY X scope N c) ifs tt) (he:∀c,PE (aY X scope N c) elt te)
  (hsw:swapsWith (.ListComp elt [⟨tg,iter,ifs,0⟩] scope pos) (some (.Name y py)) spos.line X.env=pure true:=by rfl)
  (hs:∀x,foldedSetIterable iter X.env x=pure x:=by intro _;rfl):PS X (.Assign [.Name y py] (.ListComp elt [⟨tg,iter,ifs,0⟩] scope pos) spos) (o5 (C1 wi k cL g tt te) (iP i)):=
 LH hc hNd hiy hy (jX hN hx chk) hi hg ht he hsw hs
end
section
variable {X:Cx} {es:List Expr} {e:Expr} {te tk tv:TE} {t:TA}
structure UB (X:Cx) (e:Expr) (t:TE):Prop where
 h:PE X e t
structure S6 (X:Cx) (es:List Expr) (t:TA):Prop where
 h:PA X es t
theorem ew (h:PE X e te):UB X e te:=⟨h⟩
theorem BI:S6 X [] jZ:=⟨aC⟩
theorem PN {a b c} (ha:UB X (.Constant a b c) te) (hr:S6 X es t):S6 X (.Constant a b c::es) (eV te t):=⟨TU ha.h hr.h⟩
theorem OJ (h:S6 X es t):UB X (.List es pos) (AH t):=⟨eG h.h⟩
end
section
variable {X:Cx} {pos:Pos} {k:Nat} {a b e:Expr} {es rest:List Expr} {te ta tb:TE} {t:Str->TE}
theorem KI:j3 X (binaryOp .Mult) (rI IntMulOk fun i j=>.int (i*j)):=SD fun _ _ _ _ _ _ _ hc q=>mul_int q hc
def FC (K:Frag):R2:=fun x y H Q=>∃a b xs ys,x= .ref a/\y= .ref b/\bC K H a xs/\bC K H b ys/\(xs.length=ys.length->xs.all iT=true/\ys.all iT=true)/\Q (.bl (!vT xs ys)) H
theorem R4 (K:Frag) (hr:d6 k X.A) (hK:X.K=K:=by rfl):j3 X (compareOp .NotEq) (FC K):=by
 subst hK;intro pins s σ H x y v u Q I rx ry h;obtain⟨a,b,xs,ys,rfl,rfl,ha,hb,hf,q⟩:=h;cases rx;cases ry;obtain⟨its,r1,p1,_⟩:=I.list ha;obtain⟨its2,r2,p2,_⟩:=I.list hb;have l1:=r1.length;have l2:=r2.length
 by_cases e:xs.length=ys.length
 .obtain⟨f1,f2⟩:=hf e;refine SeqAt.RcNeAt.lists (e:=fun j=>E5 ((xs[j]?).getD .aP) ((ys[j]?).getD .aP)) p1.isList p2.isList (by simp;omega) hr.vP (fun j h1 h2=>?_) _ _ _ _ ?_
  .have g1:its[j]? =some (its.toArray[j]):=by simp at h1⊢
   have g2:its2[j]? =some (its2.toArray[j]):=by simp at h2⊢
   obtain⟨x,ex,rx⟩:=r1.get' g1;obtain⟨y,ey,ry⟩:=r2.get' g2;rw[ex,ey];exact AB rx ry (all_eq_true.mp f1 _ (mem_of_getElem? ex)) (all_eq_true.mp f2 _ (mem_of_getElem? ey))
  .have e1:its.toArray.size=xs.length:=by simp;omega
   rw[e1,mW e];exact⟨.bl _,H,I,rfl,q⟩
 .refine SeqAt.RcNeAt.lists_lengths p1.isList p2.isList (by simp;omega) hr.vP _ _ _ _ ?_;rw[sW e]at q;exact⟨.bl true,H,I,rfl,q⟩
end
def EB (A:Around) (s:Shared) (x y:Value) (c:Bool):Prop:=
 ∀(prog:Program) (w:World) (E:Value->Shared->Prop) (Q:Value->Shared->Prop),Q (.bool c) s->wpAny (model prog w) A (richCompare .Lt x y) Q E s
inductive xE (A:Around) (s:Shared) (fin:Bool):List (Value×Value)->Bool->Prop
 |done:xE A s fin [] fin
 |same {p q:Value} {r:List (Value×Value)} {c:Bool}:SeqAt.EqAt A s p q true->xE A s fin r c->xE A s fin ((p,q)::r) c
 |less {p q:Value} {r:List (Value×Value)} {c:Bool}:SeqAt.EqAt A s p q false->EB A s p q c->xE A s fin ((p,q)::r) c
section
open PySem.SeqAt
open PySem.AutoSeq1 (wpAny_loadPart')
open PySem.MeetsSeq PySem.MeetsSeq2 PySem.MeetsSeq3
theorem O5 (l b:Addr) (us vs:Array Value) (n m:Nat) (d1 d2:Option Addr) (k1 k2:Array (Option Value)) (c:Bool):
  Meets (Builtin.«tuple.__lt__» ⟨[.ref l,.ref b],[]⟩) (fun A R s=>s.heap.get? l=some ⟨.type "tuple",d1,.seq us n,k1⟩/\s.heap.get? b=some ⟨.type "tuple",d2,.seq vs m,k2⟩/\
   xE A.in1 s (decide (us.size<vs.size)) (us.toList.zip vs.toList) c/\R (.ok (.ret (.bool c))) s):=
 .of_wp fun prog w A R s h=>by
  obtain⟨hp,gg,dd,tk,os⟩:=s;obtain⟨hl,hb,hx,hr⟩:=h;have f2:=AutoSeq1.sub_tuple_tuple
  wp_walk using wpAny_loadPart' hl,wpAny_loadPart' hb,wpAny_forIn_list _ (fun rest acc s'=>acc.1=none/\s'=⟨hp,gg,dd,tk,os⟩/\xE A.in1 ⟨hp,gg,dd,tk,os⟩ (decide (us.size<vs.size)) rest c) _
  case turn=>
   rintro⟨y,x⟩ rest acc s' ⟨ha,rfl,hx'⟩;cases hx' with
   |same he hrest=>
    refine wpAny_bind (he prog w _ _ ?_)
    wp_walk
    exact⟨rfl,rfl,hrest⟩
   |less he hlt=>
    refine wpAny_bind (he prog w _ _ ?_);have hq:=hlt prog w
    wp_walk using hq
    exact⟨_,rfl,by simpa using hr⟩
  case fin=>
   rintro⟨b1,b2⟩ s' ⟨ha,rfl,hx'⟩;simp only at ha;subst ha;cases hx'
   wp_walk
   exact⟨_,rfl,by simpa [Builtin.Tuple.tupleCompareSizes]using hr⟩
  case h=>exact⟨rfl,rfl,hx⟩
end
theorem NY {A:Around} {us vs:Array Value} {c:Bool} (hl:IsTup s.heap l us) (hb:IsTup s.heap b vs) (hu:A.units<cLine) (hx:xE A.in1 s (decide (us.size<vs.size)) (us.toList.zip vs.toList) c):
  EB A s (.ref l) (.ref b) c:=by
 intro prog w E Q q;obtain⟨⟨c1,d1,t1,k1⟩,g1,e1,n,r1⟩:=id hl;obtain⟨⟨c2,d2,t2,k2⟩,g2,e2,m,r2⟩:=id hb;simp only at e1 r1 e2 r2;subst e1 r1 e2 r2;exact richCompare_meets_room (op:=.Lt) ⟨_,g1,rfl⟩ ⟨_,g2,rfl⟩ PySem.F.slot_tuple_lt PySem.F.entry_tuple_lt (PySem.F.args_tuple_lt_2 _ _) (O5 l b us vs n m d1 d2 k1 k2 c) ⟨g1,g2,hx,(fun x=>nomatch x),q⟩ hu
section
open PySem.W
def Al (n:Nat) (P:α->Prop):KasT α->Prop
 | .ret a=>P a
 | .ask i j k=>i<n/\j<n/\∀b,Al n P (k b)
theorem Al.bind {P:α->Prop} {R:β->Prop} {f:α->KasT β}:∀{t:KasT α},Al n P t->(∀a,P a->Al n R (f a))->Al n R (t.bind f)
 | .ret a,h,hf=>hf a h
 | .ask _ _ _,h,hf=>⟨h.1,h.2.1,fun b=>Al.bind (h.2.2 b) hf⟩
def mQ (n:Nat) (p:Array Nat):Prop:=p.Perm (List.toArray (List.range n))
theorem mQ.lt (h0:0<n) (h:mQ n p) (i:Nat):p.getD i 0<n:=by
 by_cases hi:i<p.size
 .have e:p.getD i 0=p[i]:=by simp[Array.getD,hi]
  rw[e];have hm:p[i]∈p:=Array.getElem_mem hi;have:=(h.mem_iff).mp hm;simpa using this
 .have e:p.getD i 0=0:=by simp[Array.getD,hi]
  omega
theorem mQ.rev (h:mQ n p) (i j:Nat):mQ n (kas_rev p i j):=(mirror_perm p i j ((j - i) / 2)).trans h
theorem mQ.UX (h:mQ n p) (i j:Nat):mQ n (bubble p i j):=(bubble_perm p i j).trans h
theorem BR (h0:0<n) (h:mQ n p):∀f m,Al n (fun _=>True) (kas_asc p f m)
 |0,m=>trivial
 |f+1,m=>⟨h.lt h0 _,h.lt h0 _,fun b=>by
  cases b with
  |true=>exact trivial
  |false=>exact BR h0 h f (m+1)⟩
theorem qF (h0:0<n):∀f (p:Array Nat) m q,mQ n p->Al n (fun r:Array Nat×Nat×Nat=>mQ n r.1) (kas_desc f p m q)
 |0,p,m,q,h=>h
 | f+1,p,m,q,h=>⟨h.lt h0 _,h.lt h0 _,fun b=>by
  cases b with
  |true=>
   show Al n _ (if q>0 then _ else _);split
   .exact qF h0 f _ _ _ (h.rev _ _)
   .exact qF h0 f _ _ _ h
  |false=>
   refine⟨h.lt h0 _,h.lt h0 _,fun d=>?_⟩;cases d with
   |true=>exact h
   |false=>exact qF h0 f _ _ _ h⟩
theorem yS (h0:0<n) (h:mQ n p) (m k:Nat):Al n (fun r:Nat×Array Nat=>mQ n r.2) (kas_tail3 m k p):=
 (BR h0 (h.rev 0 m) _ _).bind fun _ _=>h.rev 0 m
theorem pX (h0:0<n) (h:mQ n p) (m k:Nat):Al n (fun r:Nat×Array Nat=>mQ n r.2) (kas_descPart m k p):=by
 refine(qF h0 _ _ _ _ h).bind fun r hr=>?_
 split
 .exact yS h0 (hr.rev _ _) _ _
 .exact yS h0 hr _ _
theorem FQ (h0:0<n) (h:mQ n p) (k:Nat):Al n (fun r:Nat×Array Nat=>mQ n r.2) (kas_count k p):=by
 refine(BR h0 h _ _).bind fun m _=>?_
 split
 .exact h
 .split
  .refine⟨h.lt h0 _,h.lt h0 _,fun b=>?_⟩;cases b with
   |true=>exact h
   |false=>exact pX h0 (h.rev _ _) _ _
  .exact pX h0 h _ _
theorem r6 (h0:0<n) (h:mQ n p) (k:Nat):∀f l r,Al n (fun _=>True) (kas_place p k f l r)
 |0,_,_=>trivial
 | f+1,l,r=>by
  unfold kas_place;split
  .exact trivial
  .refine⟨h.lt h0 _,h.lt h0 _,fun b=>?_⟩;cases b with
   |true=>exact r6 h0 h k f _ _
   |false=>exact r6 h0 h k f _ _
theorem FK (h0:0<n):∀f (p:Array Nat) k,mQ n p->Al n (mQ n) (kas_bin f p k)
 |0,_,_,h=>h
 |f+1,p,k,h=>(r6 h0 h k _ _ _).bind fun l _=>FK h0 f _ _ (h.UX _ _)
theorem LQ (h0:0<n):Al n (mQ n) (kas_sort n):=by
 refine(FQ h0 (show mQ n _ from Array.Perm.refl _) n).bind fun r hr=>?_
 split
 .exact FK h0 _ _ _ hr
 .exact hr
theorem mQ.perm (h:mQ vs.length p):(p.toList.map fun i=>vs.getD i Value.none).Perm vs:=by
 have h1:p.toList.Perm (List.range vs.length):=by simpa using perm_iff_toList_perm.mp h
 have h2:=h1.map fun i=>vs.getD i Value.none
 have e:(List.range vs.length).map (fun i=>vs.getD i Value.none)=vs:=by
  apply ext_getElem
  .simp
  .intro i a1 a2;simp[getElem?_eq_getElem a2]
 rw[e]at h2;exact h2
end
section
variable {X:Cx}
theorem n5:∀{us:List Value} {ss:List Str},StrsAre us ss->Vals (ss.map V.str) us
 |[],_,.nil=>.nil
 |_::_,_,.cons x t r=>.cons ⟨t,rfl⟩ (n5 r)
end
section
open PySem.W
def oO (ans:Nat->Nat->Bool) (P:α->Prop):KasT α->Prop
 | .ret a=>P a
 | .ask i j k=>oO ans P (k (ans i j))
theorem oO.bind {P:α->Prop} {R:β->Prop} {f:α->KasT β}:∀{t:KasT α},oO ans P t->(∀a,P a->oO ans R (f a))->oO ans R (t.bind f)
 | .ret a,h,hf=>hf a h
 | .ask i j k,h,hf=>oO.bind (t:=k (ans i j)) h hf
theorem oO.mono {P R:α->Prop} (hf:∀a,P a->R a):∀{t:KasT α},oO ans P t->oO ans R t
 | .ret a,h=>hf a h
 | .ask i j k,h=>oO.mono hf (t:=k (ans i j)) h
theorem oO.run {P R:α->Prop} {cmp:Nat->Nat->(Bool->Shared->Prop)->Shared->Prop} {G:α->Shared->Prop}
  (hc:∀i j (C:Bool->Shared->Prop),i<n->j<n->C (ans i j) s->cmp i j C s) (hg:∀a,P a->R a->G a s):∀{t:KasT α},Al n P t->oO ans R t->t.kasWp cmp G s
 | .ret a,h,h'=>hg a h h'
 | .ask i j _,h,h'=>hc i j _ h.1 h.2.1 (oO.run hc hg (h.2.2 _) h')
variable (O:KeyOrd) (key:Nat->O.α)
noncomputable def Ky (p:Array Nat) (i:Nat):O.α:=key (p.getD i 0)
def kI (p:Array Nat) (k:Nat):Prop:=∀i j,i<=j->j<k->O.kle (Ky O key p i) (Ky O key p j)
def jH (p:Array Nat) (k:Nat):Prop:=∀i j,i<=j->j<k->O.kle (Ky O key p j) (Ky O key p i)
noncomputable abbrev B9 (i j:Nat):Bool:=O.blt (key i) (key j)
variable {O} {key}
theorem zE {q:Array Nat} (h:p[i]? =q[j]?):Ky O key p i=Ky O key q j:=by
 unfold Ky;rw[Array.getD_eq_getD_getElem?,Array.getD_eq_getD_getElem?,h]
theorem BU (hj:j<=p.size) (k:Nat):Ky O key (kas_rev p i j) k=if i<=k/\k<j then Ky O key p (i+j - 1 - k)else Ky O key p k:=by
 have e:=getElem?_mirror_all (xs:=p) (i:=i) hj k;split
 .rename_i h;rw[if_pos h]at e;exact zE e
 .rename_i h;rw[if_neg h]at e;exact zE e
theorem iQ (p:Array Nat) (i j:Nat):(kas_rev p i j).size=p.size:=mirror_size ..
theorem wM (hj:j<=p.size) (he:∀k,i<=k->k<j->Ky O key p k=Ky O key p (j - 1)) (k:Nat):Ky O key (kas_rev p i j) k=Ky O key p k:=by
 rw[BU hj];split
 .rename_i h;rw[he _ (by omega) (by omega),he k h.1 h.2]
 .rfl
theorem kI.more (h:kI O key p x) (hx:1<=x) (hl:O.kle (Ky O key p (x - 1)) (Ky O key p x)):kI O key p (x+1):=by
 intro i j hij hj
 by_cases h1:j<x
 .exact h i j hij h1
 .have e:j=x:=by omega
  subst e
  by_cases h2:i=j
  .subst h2;exact KeyOrd.kle_refl _
  .exact KeyOrd.kle_trans (h i (j - 1) (by omega) (by omega)) hl
theorem jH.more (h:jH O key p x) (hx:1<=x) (hl:O.kle (Ky O key p x) (Ky O key p (x - 1))):jH O key p (x+1):=by
 intro i j hij hj
 by_cases h1:j<x
 .exact h i j hij h1
 .have e:j=x:=by omega
  subst e
  by_cases h2:i=j
  .subst h2;exact KeyOrd.kle_refl _
  .exact KeyOrd.kle_trans hl (h i (j - 1) (by omega) (by omega))
theorem GD {p:Array Nat}:∀(f m:Nat),1<=m->kI O key p m->oO (B9 O key) (fun r=>m<=r/\r<=m+f/\kI O key p r/\(r=m+f\/ O.klt (Ky O key p r) (Ky O key p (r - 1)))) (kas_asc p f m)
 |0,m,_,h=>⟨le_refl _,le_refl _,h,.inl rfl⟩
 | f+1,m,h1,h=>by
  show oO (B9 O key) _ (if O.blt (Ky O key p m) (Ky O key p (m - 1))=true then _ else _);cases e:O.blt (Ky O key p m) (Ky O key p (m - 1))with
  |true=>
   rw[if_pos rfl];exact⟨le_refl _,by omega,h,.inr e⟩
  |false=>
   rw[if_neg Bool.false_ne_true];refine(GD f (m+1) (by omega) (h.more h1 e)).mono fun r ⟨a,b,c,d⟩=>⟨by omega,by omega,c,?_⟩
   rcases d with d|d
   .exact .inl (by omega)
   .exact .inr d
def OX (O:KeyOrd) (key:Nat->O.α) (p:Array Nat) (m q:Nat):Prop:=q+1<=m/\∀i,m - (q+1)<=i->i<m->Ky O key p i=Ky O key p (m - 1)
theorem OX.none (h:1<=m):OX O key p m 0:=⟨by omega,fun i h1 h2=>by rw[show i=m - 1 by omega]⟩
theorem vS:∀(f:Nat) (p:Array Nat) (m q:Nat),1<=m->m+f<=p.size->jH O key p m->OX O key p m q->oO (B9 O key) (fun r:Array Nat×Nat×Nat=>r.1.size=p.size/\m<=r.2.1/\r.2.1<=m+f/\jH O key r.1 r.2.1/\OX O key r.1 r.2.1 r.2.2) (kas_desc f p m q)
 |0,p,m,q,_,_,h,he=>⟨rfl,le_refl _,le_refl _,h,he⟩
 | f+1,p,m,q,h1,hz,h,he=>by
  show oO (B9 O key) _ (if O.blt (Ky O key p m) (Ky O key p (m - 1))=true then(if q>0 then kas_desc f (kas_rev p (m - (q+1)) m) (m+1) 0 else kas_desc f p (m+1) 0)else _);cases e:O.blt (Ky O key p m) (Ky O key p (m - 1))with
  | true=>
   rw[if_pos rfl];have hd:=h.more h1 (KeyOrd.kle_of_klt e);split
   .have ev:∀k,Ky O key (kas_rev p (m - (q+1)) m) k=Ky O key p k:=wM (by omega) he.2;have hd':jH O key (kas_rev p (m - (q+1)) m) (m+1):=fun i j a b=>by rw[ev,ev];exact hd i j a b
    refine(vS f _ (m+1) 0 (by omega) (by rw[iQ];omega) hd' (OX.none (by omega))).mono fun r ⟨a,b,c,d,z⟩=>⟨by rw[a,iQ],by omega,by omega,d,z⟩
   .exact(vS f p (m+1) 0 (by omega) (by omega) hd (OX.none (by omega))).mono fun r ⟨a,b,c,d,z⟩=>⟨a,by omega,by omega,d,z⟩
  | false=>
   rw[if_neg Bool.false_ne_true];show oO (B9 O key) _ (if O.blt (Ky O key p (m - 1)) (Ky O key p m)=true then _ else _);cases e2:O.blt (Ky O key p (m - 1)) (Ky O key p m)with
   |true=>
    rw[if_pos rfl];exact⟨rfl,le_refl _,le_add_right m (f+1),h,he⟩
   |false=>
    rw[if_neg Bool.false_ne_true];have eq:Ky O key p m=Ky O key p (m - 1):=KeyOrd.kle_antisymm e2 e;refine(vS f p (m+1) (q+1) (by omega) (by omega) (h.more h1 (by rw[eq];exact KeyOrd.kle_refl _)) ⟨by have:=he.1;omega,fun i a b=>?_⟩).mono fun r ⟨a,b,c,d,z⟩=>⟨a,by omega,by omega,d,z⟩
    rw[show m+1 - 1=m by omega]
    by_cases hi:i=m
    .rw[hi]
    .rw[eq];exact he.2 i (by omega) (by omega)
theorem BX (h1:1<=m) (hk:m<=k) (hz:k<=p.size) (h:jH O key p m):oO (B9 O key) (fun r:Nat×Array Nat=>1<=r.1/\r.1<=k/\r.2.size=p.size/\kI O key r.2 r.1) (kas_tail3 m k p):=by
 have hu:kI O key (kas_rev p 0 m) m:=fun i j a b=>by
  rw[BU (by omega),BU (by omega),if_pos (by omega),if_pos (by omega)];exact h _ _ (by omega) (by omega)
 exact(GD (k - m) m h1 hu).bind fun r ⟨a,b,c,_⟩=>⟨by omega,by omega,iQ ..,c⟩
theorem rF (hk:m+1<=k) (hz:k<=p.size) (h:jH O key p (m+1)):oO (B9 O key) (fun r:Nat×Array Nat=>1<=r.1/\r.1<=k/\r.2.size=p.size/\kI O key r.2 r.1) (kas_descPart m k p):=by
 refine(vS (k - (m+1)) p (m+1) 0 (by omega) (by omega) h (OX.none (by omega))).bind fun r ⟨a,b,c,d,z⟩=>?_
 split
 .have ev:∀i,Ky O key (kas_rev r.1 (r.2.1 - (r.2.2+1)) r.2.1) i=Ky O key r.1 i:=wM (by omega) z.2;refine(BX (p:=kas_rev r.1 (r.2.1 - (r.2.2+1)) r.2.1) (by omega) (by omega) (by rw[iQ];omega) fun i j x y=>?_).mono fun r' ⟨x,y,w,v⟩=>⟨x,y,by rw[w,iQ,a],v⟩
  rw[ev,ev];exact d i j x y
 .exact(BX (by omega) (by omega) (by omega) d).mono fun r' ⟨x,y,w,v⟩=>⟨x,y,by rw[w,a],v⟩
theorem KA {p:Array Nat} (h1:1<=k) (hz:k<=p.size):oO (B9 O key) (fun r:Nat×Array Nat=>1<=r.1/\r.1<=k/\r.2.size=p.size/\kI O key r.2 r.1) (kas_count k p):=by
 have u1:kI O key p 1:=fun i j a b=>by rw[show i=j by omega];exact KeyOrd.kle_refl _
 refine(GD (k - 1) 1 (le_refl _) u1).bind fun m ⟨a,b,c,d⟩=>?_
 by_cases hm:m=k
 .rw[if_pos (by simpa using hm)];exact⟨a,by omega,rfl,c⟩
 .rw[if_neg (by simpa using hm)];have lt:O.klt (Ky O key p m) (Ky O key p (m - 1)):=d.resolve_left (by omega)
  by_cases h2:m>1
  .rw[if_pos h2];show oO (B9 O key) _ (if O.blt (Ky O key p 0) (Ky O key p (m - 1))=true then _ else _);cases e:O.blt (Ky O key p 0) (Ky O key p (m - 1))with
   |true=>
    rw[if_pos rfl];exact⟨a,by omega,rfl,c⟩
   | false=>
    rw[if_neg Bool.false_ne_true];have al:∀i,0<=i->i<m->Ky O key p i=Ky O key p (m - 1):=fun i _ hi=>
     KeyOrd.kle_antisymm (c i (m - 1) (by omega) (by omega)) (KeyOrd.kle_trans e (c 0 i (by omega) hi))
    have ev:∀i,Ky O key (kas_rev p 0 m) i=Ky O key p i:=wM (by omega) al;have dm:jH O key p m:=fun i j x y=>by rw[al i (by omega) (by omega),al j (by omega) y];exact KeyOrd.kle_refl _
    have dn:=dm.more a (KeyOrd.kle_of_klt lt);refine(rF (p:=kas_rev p 0 m) (by omega) (by rw[iQ];omega) fun i j x y=>?_).mono fun r' ⟨x,y,w,v⟩=>⟨x,y,by rw[w,iQ],v⟩
    rw[ev,ev];exact dn i j x y
  .rw[if_neg h2];have e1:m=1:=by omega
   subst e1;have d1:jH O key p 1:=fun i j x y=>by rw[show i=j by omega];exact KeyOrd.kle_refl _
   exact rF (by omega) hz (d1.more (le_refl _) (KeyOrd.kle_of_klt lt))
theorem wV {p:Array Nat} {k:Nat} (h:kI O key p k):∀(f l r:Nat),l<=r->r<=k->r - l<=f->(∀i,i<l->O.kle (Ky O key p i) (Ky O key p k))->(∀i,r<=i->i<k->O.klt (Ky O key p k) (Ky O key p i))->
  oO (B9 O key) (fun l=>l<=k/\(∀i,i<l->O.kle (Ky O key p i) (Ky O key p k))/\∀i,l<=i->i<k->O.klt (Ky O key p k) (Ky O key p i)) (kas_place p k f l r)
 |0,l,r,h1,h2,h3,ha,hb=>by
  have e:l=r:=by omega
  subst e;exact⟨h2,ha,hb⟩
 | f+1,l,r,h1,h2,h3,ha,hb=>by
  unfold kas_place;split
  .have e:l=r:=by omega
   subst e;exact⟨h2,ha,hb⟩
  .show oO (B9 O key) _ (if O.blt (Ky O key p k) (Ky O key p ((l+r) / 2))=true then _ else _);cases e:O.blt (Ky O key p k) (Ky O key p ((l+r) / 2))with
   |true=>
    rw[if_pos rfl];exact wV h f l ((l+r) / 2) (by omega) (by omega) (by omega) ha fun i a b=>KeyOrd.klt_of_klt_of_kle e (h _ _ a b)
   |false=>
    rw[if_neg Bool.false_ne_true];exact wV h f ((l+r) / 2+1) r (by omega) h2 (by omega) (fun i a=>KeyOrd.kle_trans (h i ((l+r) / 2) (by omega) (by omega)) e) hb
theorem JS {d:Nat} (hk:k<p.size) (hd:d<=k) (i:Nat):Ky O key (bubble p k d) i=if i=k - d then Ky O key p k else if k - d<i/\i<=k then Ky O key p (i - 1)else Ky O key p i:=by
 have e:=getElem?_bubble hk d hd i
 by_cases h1:i=k - d
 .rw[if_pos h1]at e⊢;exact zE e
 .rw[if_neg h1]at e⊢
  by_cases h2:k - d<i/\i<=k
  .rw[if_pos h2]at e⊢;exact zE e
  .rw[if_neg h2]at e⊢;exact zE e
theorem MN:∀(f:Nat) (p:Array Nat) (k:Nat),k+f<=p.size->kI O key p k->oO (B9 O key) (fun q=>kI O key q (k+f)) (kas_bin f p k)
 |0,p,k,_,h=>h
 | f+1,p,k,hz,h=>by
  refine(wV h k 0 k (by omega) (le_refl _) (by omega) (fun i hi=>by omega) (fun i a b=>by omega)).bind fun l ⟨hl,ha,hb⟩=>?_
  have hu:kI O key (bubble p k (k - l)) (k+1):=fun i j x y=>by
   rw[JS (by omega) (by omega),JS (by omega) (by omega),show k - (k - l)=l by omega]
   by_cases j1:j=l
   .rw[if_pos j1]
    by_cases i1:i=l
    .rw[if_pos i1];exact KeyOrd.kle_refl _
    .rw[if_neg i1,if_neg (show¬(l<i/\i<=k) by omega)];exact ha i (by omega)
   .rw[if_neg j1]
    by_cases j2:l<j
    .rw[if_pos (show l<j/\j<=k from⟨j2,by omega⟩)]
     by_cases i1:i=l
     .rw[if_pos i1];exact KeyOrd.kle_of_klt (hb (j - 1) (by omega) (by omega))
     .rw[if_neg i1]
      by_cases i2:l<i
      .rw[if_pos (show l<i/\i<=k from⟨i2,by omega⟩)];exact h _ _ (by omega) (by omega)
      .rw[if_neg (show¬(l<i/\i<=k) by omega)];exact h _ _ (by omega) (by omega)
    .rw[if_neg (show¬(l<j/\j<=k) by omega),if_neg (show¬i=l by omega),if_neg (show¬(l<i/\i<=k) by omega)];exact h _ _ x (by omega)
  have:=MN f (bubble p k (k - l)) (k+1) (by rw[bubble_size];omega) hu;rw[show k+1+f=k+(f+1) by omega]at this;exact this
theorem OT (h1:1<=n):oO (B9 O key) (fun q=>kI O key q n) (kas_sort n):=by
 have hs:(List.toArray (List.range n)).size=n:=by simp
 refine(KA h1 (p:=List.toArray (List.range n)) (by rw[hs];exact le_refl _)).bind fun r ⟨a,b,c,d⟩=>?_
 rw[hs]at c;split
 .have:=MN (n - max r.1 1) r.2 (max r.1 1) (by omega) (by rw[show max r.1 1=r.1 by omega];exact d);rw[show max r.1 1+(n - max r.1 1)=n by omega]at this;exact this
 .have e:r.1=n:=by omega
  rw[e]at d;exact d
end
section
open PySem.W
variable {prog:Program} {w:World} {A:Around} {E:Value->Shared->Prop} {s:Shared}
theorem D8 (vs:List Value):(List.range vs.length).map (fun i=>vs.getD i Value.none)=vs:=by
 apply ext_getElem
 .simp
 .intro i a1 a2;simp[getElem?_eq_getElem a2]
def vI (prog:Program) (w:World) (A:Around) (vs:List Value) (R:Array Nat->Prop) (s:Shared):Prop:=
 ∃κ:SortKind,(∀(Q:SortKind->Shared->Prop) (E:Value->Shared->Prop),Q κ s->wpAny (model prog w) A (keyKind' vs.toArray) Q E s)/\
  ∀G:Array Nat->Shared->Prop,(∀p,mQ vs.length p->R p->G p s)->(kas_sort vs.length).kasWp (kas_ask prog w A κ vs) G s
theorem u9 {a:Addr} {P:PySem.Fin->Shared->Prop} (ho:s.heap.get? a=some (seqObj "list" vs.toArray n)) (h64:vs.length<64)
  (hk:2<=vs.length->∀h':Heap,(∀b o,b≠a->s.heap.get? b=some o->h'.get? b=some o)->vI prog w A vs R {s with heap:=h'}) (hR:vs.length<2->R (List.range vs.length).toArray)
  (h:∀(out:Array Value) (p:Array Nat),mQ vs.length p->R p->out.toList=p.toList.map (fun i=>vs.getD i Value.none)->P (.done (.ret .none)) {s with heap:=sortedHeap s.heap a vs out}):wpAny (model prog w) A (Builtin.«list.sort» ⟨[.ref a],[]⟩) P E s:=by
 have la:a<s.heap.objs.size:=lt_size ho;have small:vs.length<=sizeLine:=by rw[sizeLine_eq];omega
 obtain⟨e1,k1⟩:∃e1,(s.heap.update a (Obj.mapSeq fun _=>(#[]:Array Value))).get? a=some (seqObj "list" #[] e1):=⟨_,get?_update_seq ho fun _=> #[]⟩;generalize hU:s.heap.update a (Obj.mapSeq fun _=>(#[]:Array Value))=U at k1;have zU:U.objs.size=s.heap.objs.size:=by rw[<-hU];exact size_update ..
 have kp:∀b o,b≠a->s.heap.get? b=some o->((U.push (seqObj "tuple" vs.toArray 0)).push (seqObj "list" #[] 0)).get? b=some o:=fun b o nb gb=>by
  refine get?_push_of_some _ (get?_push_of_some _ ?_);rw[<-hU,Heap.get?_update_ne _ _ _ _ nb];exact gb
 have k2:((U.push (seqObj "tuple" vs.toArray 0)).push (seqObj "list" #[] 0)).get? a=some (seqObj "list" #[] e1):=get?_push_of_some _ (get?_push_of_some _ k1);rw[list_sort_plain];refine wpAny_bind (listItems_at ho rfl (wpAny_bind (listUpdate_at ho rfl ?_ (by simpa using small) (zero_le _))));have k1':=k1;rw[<-hU]at k1';refine wpAny_bind (seqEpoch_at k1' rfl (wpAny_bind (wpAny_newTuple (wpAny_bind (wpAny_newList (wpAny_holding ?_) (zero_le _))) (by simpa using small))));rw[hU];show wpAny (model prog w) A _ P E {s with heap:=(U.push (seqObj "tuple" vs.toArray 0)).push (seqObj "list" #[] 0)};have fin:∀(out:Array Value) (p:Array Nat),mQ vs.length p->R p->out.toList=p.toList.map (fun i=>vs.getD i Value.none)->P (.done (.ret .none)) {s with heap:=((U.push (seqObj "tuple" vs.toArray 0)).push (seqObj "list" #[] 0)).update a (Obj.mapSeq fun _=>out)}:=fun out p h1 h2 h3=>by
  have:=h out p h1 h2 h3;unfold sortedHeap at this;rw[hU]at this;exact this
 dsimp only
 by_cases h2:vs.toArray.size<2
 .rw[if_pos h2,if_pos h2];refine wpAny_bind (wpAny_pure ?_);rw[StateT.run_pure];refine wpAny_bind (wpAny_pure ?_);dsimp only;have ev:((vs.toArray.zip vs.toArray).map fun x=>x.2).toList=vs:=by simp[List.map_snd_zip]
  refine wpAny_bind (seqEpoch_at k2 rfl (wpAny_bind (listUpdate_at k2 rfl ?_ (zero_le _) ?_)))
  .simp only[bne_self_eq_false,false_eq_true,if_false];exact wpAny_pure (fin _ (List.range vs.length).toArray (Array.Perm.refl _) (hR (by rw[size_toArray]at h2;exact h2)) (by rw[show(arrOf (SortSt.mk' general' (vs.toArray.zip vs.toArray) #[] 7 none))=vs.toArray.zip vs.toArray from rfl,ev,List.toList_toArray,D8]))
  .rw[<-length_toList,show(arrOf (SortSt.mk' general' (vs.toArray.zip vs.toArray) #[] 7 none))=vs.toArray.zip vs.toArray from rfl,ev];exact Nat.le_succ_of_le small
 .rw[if_neg h2,if_neg h2];have l2:2<=vs.length:=by rw[size_toArray]at h2;omega
  obtain⟨κ,kd,ak⟩:=hk l2 _ kp;refine wpAny_bind (kd _ _ ?_);refine wpAny_bind (wpAny_mono (kat_run (ks:=vs) (vs:=vs) (Q:=fun st' s'=>s'={s with heap:=(U.push (seqObj "tuple" vs.toArray 0)).push (seqObj "list" #[] 0)}/\∃p:Array Nat,(mQ vs.length p/\R p)/\arrOf st'=p.map (kas_item (vs.toArray.zip vs.toArray))/\failedOf st'=none)
   (G:=fun p s'=>s'={s with heap:=(U.push (seqObj "tuple" vs.toArray 0)).push (seqObj "list" #[] 0)}/\mQ vs.length p/\R p) rfl l2 h64 (fun p st' s' _ ar fl g=>⟨g.1,p,g.2,ar,fl⟩) (ak _ fun p h1 h2=>⟨rfl,h1,h2⟩)) ?_ fun _ _ e=>e)
  rintro⟨⟨⟩,st'⟩ s' ⟨rfl,p,⟨hp,hr⟩,ar,fl⟩;dsimp only;have out:=kat_snds rfl ar;have pm:=hp.perm;rw[out];refine wpAny_bind (seqEpoch_at k2 rfl (wpAny_bind (listUpdate_at k2 rfl ?_ (zero_le _) ?_)))
  .rw[fl];simp only[bne_self_eq_false,false_eq_true,if_false];exact wpAny_pure (fin _ p hp hr (by simp))
  .rw[size_toArray,pm.length_eq];exact Nat.le_succ_of_le small
theorem yO (hl:s.heap.IsList l vs.toArray) (h64:vs.length<64)
  (hk:2<=vs.length->∀h':Heap,(∀b o,s.heap.get? b=some o->h'.get? b=some o)->vI prog w A.in1.in1 vs R {s with heap:=h'}) (hR:vs.length<2->R (List.range vs.length).toArray)
  (h:∀(out:Array Value) (p:Array Nat),mQ vs.length p->R p->out.toList=p.toList.map (fun i=>vs.getD i Value.none)->Q (.ref (s.heap.objs.size+1)) {s with heap:=sortedAll s.heap vs out}):wpAny (model prog w) A (call (.builtin "sorted") [.ref l]) Q E s:=by
 have small:vs.length<=sizeLine:=by rw[sizeLine_eq];omega
 refine Calls.call_function_entry kind_sorted plain_sorted entry_sorted (args_sorted1 _) ?_;unfold Builtin.«sorted»;refine wpAny_bind (m:=checkCount "sorted" 1 1 _) (wpAny_pure (wpAny_bind (collect_list hl (wpAny_bind (wpAny_newList ?_ (by simpa using small))) (by simpa using small))));generalize hU:(s.heap.push (seqObj "list" #[] 0)).update s.heap.objs.size (Obj.mapSeq (·++vs.toArray))=U;have zU:U.objs.size=s.heap.objs.size+1:=by rw[<-hU,size_update];exact size_push' ..
 have kU:∀b o,s.heap.get? b=some o->U.get? b=some o:=fun b o gb=>by
  rw[<-hU,Heap.get?_update_ne _ _ _ _ (ne_of_lt (lt_size gb))];exact get?_push_of_some _ gb
 have at':(U.push (seqObj "list" vs.toArray 0)).get? (s.heap.objs.size+1)=some (seqObj "list" vs.toArray 0):=by rw[<-zU];exact get?_push_size _ rfl
 show wpAny _ _ _ _ _ {s with heap:=U.push (seqObj "list" vs.toArray 0)};rw[zU];refine wpAny_bind (wpAny_holding (wpAny_call_entry slot_list_sort ⟨_,at',rfl⟩ entry_list_sort ?bd (args_list_sort _)))
 case bd=>
  refine u9 at' h64 (fun l2 h' kp=>hk l2 h' fun b o gb=>kp b o (ne_of_lt (lt_succ_of_lt (lt_size gb))) (get?_push_of_some _ (kU b o gb))) hR fun out p p1 p2 p3=>⟨_,rfl,wpAny_pure ⟨_,rfl,?_⟩⟩
  have:=h out p p1 p2 p3;unfold sortedAll at this;rw[hU]at this;exact this
end
section
open PySem.W
variable {X:Cx} {pins:List (Addr×Obj)} {σ:St} {H:Hp} {s:Shared} {k:Nat}
theorem mM {vs:List Value} (r:Vals ys vs):∀ps:List Nat,(∀i∈ps,i<vs.length)->Vals (ps.map fun i=>ys.getD i .aP) (ps.map fun i=>vs.getD i Value.none)
 |[],_=>.nil
 |i::ps,h=>by
  have hlen:=r.length;have hi:=h i mem_cons_self;obtain⟨x,hx,rx⟩:=r.get' (show vs[i]? =some vs[i] by simp);refine .cons ?_ (mM r ps fun j hj=>h j (mem_cons_of_mem _ hj));dsimp only;rw[getD_eq_getElem?_getD,hx,getD_eq_getElem?_getD,getElem?_eq_getElem hi];exact rx
end
noncomputable def AE:KeyOrd where
 α:=Int
 blt a b:=decide (a<b)
 irrefl a:=decide_eq_false (by omega)
 trans a b c h1 h2:=decide_eq_true (by have:=of_decide_eq_true h1;have:=of_decide_eq_true h2;omega)
 negTrans a b c h:=by
  have h:=of_decide_eq_true h
  by_cases g:a<b
  .exact .inl (decide_eq_true g)
  .exact .inr (decide_eq_true (by omega))
 total a b h1 h2:=by have:=of_decide_eq_false h1;have:=of_decide_eq_false h2;omega
theorem BZ {a b:A.α} (h:A.blt a b=true):A.blt b a=false:=KeyOrd.klt_asymm (O:=A) h
theorem gF {A:KeyOrd} (a b:A.α):(A.blt a b=true/\A.blt b a=false)\/ (A.blt b a=true/\A.blt a b=false)\/ (a=b):=by
 cases h1:A.blt a b with
 |true=>exact .inl ⟨rfl,BZ h1⟩
 |false=>
  cases h2:A.blt b a with
  |true=>exact .inr (.inl ⟨rfl,rfl⟩)
  |false=>exact .inr (.inr (A.total a b h1 h2))
noncomputable def gW (A:KeyOrd) (a b:A.α) (r:Bool):Bool:=A.blt a b||(!A.blt b a && r)
theorem fP {a b:A.α} (h:A.blt a b=true):gW A a b r=true:=by unfold gW;rw[h];rfl
theorem jQ {a b:A.α} (h:A.blt b a=true):gW A a b r=false:=by unfold gW;rw[h,BZ h];rfl
theorem g7 {a:A.α}:gW A a a r=r:=by unfold gW;rw[A.irrefl];rfl
theorem x5 {A:KeyOrd} {a b c:A.α} (hr:r=true->r'=true->r''=true) (h1:gW A a b r=true) (h2:gW A b c r'=true):gW A a c r''=true:=by
 rcases gF (A:=A) a b with⟨x,_⟩|⟨x,_⟩|x
 .rcases gF (A:=A) b c with⟨y,_⟩|⟨y,_⟩|y
  .exact fP (A.trans _ _ _ x y)
  .rw[jQ y]at h2;cases h2
  .rw[<-y];exact fP x
 .rw[jQ x]at h1;cases h1
 .subst x;rw[g7]at h1;rcases gF (A:=A) a c with⟨y,_⟩|⟨y,_⟩|y
  .exact fP y
  .rw[jQ y]at h2;cases h2
  .subst y;rw[g7]at h2⊢
   exact hr h1 h2
theorem EZ {A:KeyOrd} {a b c:A.α} (hr:r''=true->r=true\/ r'=true) (h:gW A a c r''=true):gW A a b r=true\/ gW A b c r'=true:=by
 rcases gF (A:=A) a b with⟨x,_⟩|⟨x,_⟩|x
 .exact .inl (fP x)
 .right;rcases gF (A:=A) a c with⟨y,_⟩|⟨y,_⟩|y
  .exact fP (A.trans _ _ _ x y)
  .rw[jQ y]at h;cases h
  .rw[<-y];exact fP x
 .subst x;rcases gF (A:=A) a c with⟨y,_⟩|⟨y,_⟩|y
  .exact .inr (fP y)
  .rw[jQ y]at h;cases h
  .subst y;rw[g7]at h⊢
   rw[g7];exact hr h
theorem yN {A:KeyOrd} {a b:A.α} (h1:gW A a b r=false) (h2:gW A b a r'=false):a=b/\r=false/\r'=false:=by
 rcases gF (A:=A) a b with⟨x,_⟩|⟨x,_⟩|x
 .rw[fP x]at h1;cases h1
 .rw[fP x]at h2;cases h2
 .subst x;rw[g7]at h1 h2;exact⟨rfl,h1,h2⟩
noncomputable def jN (A:KeyOrd):List A.α->List A.α->Bool
 |[],[]=>false
 |[],_::_=>true
 |_::_,[]=>false
 |x::xs,y::ys=>gW A x y (jN A xs ys)
theorem uK:∀xs:List A.α,jN A xs xs=false
 |[]=>rfl
 |x::xs=>by unfold jN;rw[g7];exact uK xs
theorem pT:∀xs ys zs:List A.α,jN A xs ys=true->jN A ys zs=true->jN A xs zs=true
 |[],[],_,h,_=>by cases h
 |[],_::_,[],_,h=>by cases h
 |[],_::_,_::_,_,_=>rfl
 |_::_,[],_,h,_=>by cases h
 |_::_,_::_,[],_,h=>by cases h
 |x::xs,y::ys,z::zs,h1,h2=>x5 (pT xs ys zs) h1 h2
theorem uS:∀xs ys zs:List A.α,jN A xs zs=true->jN A xs ys=true\/ jN A ys zs=true
 |[],[],zs,h=>.inr h
 |[],_::_,_,_=>.inl rfl
 |_::_,_,[],h=>by cases h
 |_::_,[],_::_,_=>.inr rfl
 |x::xs,y::ys,z::zs,h=>EZ (uS xs ys zs) h
theorem pZ:∀xs ys:List A.α,jN A xs ys=false->jN A ys xs=false->xs=ys
 |[],[],_,_=>rfl
 |[],_::_,h,_=>by cases h
 |_::_,[],_,h=>by cases h
 |x::xs,y::ys,h1,h2=>by
  obtain⟨a,b,c⟩:=yN h1 h2;rw[a,pZ xs ys b c]
noncomputable def RS (A:KeyOrd):KeyOrd:=⟨List A.α,jN A,uK,pT,uS,pZ⟩
theorem CC {a b:Str} (h:a.cps.toList=b.cps.toList):a=b:=by
 cases a with
 |mk x=>
  cases b with
  |mk y=>congr 1;exact Array.toList_inj.mp h
end L2
namespace Mr
open PySem L2
variable {H:Hp} {K:Frag} {α β:Type}
inductive PV where
 |aP|bl (b:Bool)|int (i:Int)|str (x:Str)|ty (n:String)
 |tup (xs:List PV)|lst (xs:List PV)|tK (kvs:List (Key×PV))
abbrev mV:=Addr->Prop
def one (l:Addr):mV:=fun a=>a=l
def J1:mV:=fun _=>False
structure WS where
 w:Nat->mV
 old:mV
instance:CoeFun WS (fun _=>Nat->mV):=⟨WS.w⟩
def TupAt (K:Frag) (H:Hp) (a:Addr) (xs:List V):Prop:=H a=some (.tup xs)\/
  ∃(o:Obj) (its:Array Value) (n:Nat),K.lookup a=some o/\o.cls= .type "tuple"/\o.dict=none/\o.data= .seq its n/\its.size<=sizeLine/\Vals xs its.toList
theorem TupAt.sq {a:Addr} {xs:List V} (h:TupAt K H a xs):bU K H a xs:=h.elim bU.of fun⟨o,its,n,a,b,_,c⟩=>.inr ⟨o,its,n,a,b,c⟩
mutual
inductive Rep (K:Frag) (Z:mV) (H:Hp):PV->V->Prop
 |aP:Rep K Z H .aP .aP
 |bl (b:Bool):Rep K Z H (.bl b) (.bl b)
 |int (i:Int):Rep K Z H (.int i) (.int i)
 |str (x:Str):Rep K Z H (.str x) (.str x)
 |ty (n:String):Rep K Z H (.ty n) (.ty n)
 |tup {a:Addr} {xs:List V} {ps:List PV}:TupAt K H a xs->i3 K Z H ps xs->Rep K Z H (.tup ps) (.ref a)
 |lst {a:Addr} {xs:List V} {ps:List PV}:Rd H a (.lst xs)->¬Z a->i3 K Z H ps xs->Rep K Z H (.lst ps) (.ref a)
 |tK {a:Addr} {ep:Nat} {ys:List (Key×V)} {kvs:List (Key×PV)}:Rd H a (.dK ys ep)->¬Z a->ys.map (·.1)=kvs.map (·.1)->i3 K Z H (kvs.map (·.2)) (ys.map (·.2))->Rep K Z H (.tK kvs) (.ref a)
inductive i3 (K:Frag) (Z:mV) (H:Hp):List PV->List V->Prop
 |nil:i3 K Z H [] []
 |cons {p:PV} {v:V} {ps:List PV} {vs:List V}:Rep K Z H p v->i3 K Z H ps vs->i3 K Z H (p::ps) (v::vs)
end
theorem i3.length {Z:mV}:∀{ps:List PV} {vs:List V},i3 K Z H ps vs->ps.length=vs.length
 |_,_,.nil=>rfl
 |_,_,.cons _ r=>by rw[length_cons,length_cons,i3.length r]
inductive Sl where
 |val (p:PV)|own (p:PV)|loc (p:PV)|bor (p:PV)
noncomputable def Sl.pv:Sl->PV
 | .val p=>p| .own p=>p| .loc p=>p| .bor p=>p
abbrev En:=List (Option Sl)
inductive Bv where
 |val (p:PV)|slot (i:Nat)|new (p:PV)
noncomputable def rd (e:En) (i:Nat):Option PV:=match e[i]? with
 |some (some s)=>some s.pv
 |_=>none
noncomputable def Bv.get (e:En):Bv->Option PV
 | .val p=>some p
 | .new p=>some p
 | .slot i=>rd e i
noncomputable def Bv.weak:Bv->Bv
 | .new p=>.val p
 |b=>b
noncomputable def Bv.put:Bv->Option PV
 | .val p=>some p
 | .new p=>some p
 | .slot _=>none
abbrev FE:=En->Option (Bv×En)
noncomputable def bE (r:Option (α×En)) (k:α->En->Option β):Option β:=match r with
 |some (a,e)=>k a e
 |none=>none
noncomputable def bO (r:Option α) (k:α->Option β):Option β:=match r with
 |some a=>k a
 |none=>none
noncomputable def PL (c:Bool) (k:Option β):Option β:=match c with|true=>k|false=>none
inductive Out where
 |nx (e:En)|rt (b:Bv) (e:En)|bk (e:En)|ct (e:En)
abbrev FS:=En->Option Out
section
variable {K:Frag}
noncomputable def rel (i:Nat) (e:En):Option En:=match e[i]? with
 |some (some (.loc p))=>some (e.set i (some (.val p)))
 |some (some (.val p))=>some e
 |_=>none
noncomputable def PZ (e:En) (i:Nat) (p:PV):En:=match e[i]? with
 |some (some (.own _))=>e.set i (some (.own p))
 |_=>e.set i (some (.loc p))
noncomputable def ownAt (e:En) (i:Nat):Option PV:=match e[i]? with
 |some (some (.own p))=>some p
 |some (some (.loc p))=>some p
 |_=>none
end
noncomputable def T1 (kvs:List (Key×PV)) (k:Key) (v:PV):List (Key×PV):=
 if(kvs.any fun kv=>decide (kv.1=k))=true then kvs.map (fun kv=>if kv.1=k then(kv.1,v)else kv)else kvs++[(k,v)]
noncomputable def keyOf:PV->Option Key
 | .int i=>some (.inl i)
 | .str x=>some (.inr x)
 |_=>none
section
variable {K:Frag}
noncomputable def pR (i:Nat) (fk fv:FE):FS:=fun e=>bE (fv e) fun b e1=>bO b.put fun p=>bO (ownAt e1 i) fun _=>bE (fk e1) fun k e2=>bO (k.weak.get e2) fun kp=>bO (keyOf kp) fun key=>match ownAt e2 i with
  |some (.tK kvs)=>PL (decide (kvs.length<1000000)) (some (.nx (PZ e2 i (.tK (T1 kvs key p)))))
  |_=>none
end
inductive Kd where
 |v|b|m
 deriving DecidableEq
noncomputable def T8:Kd->PV->Sl
 | .v,p=>.val p
 | .m,p=>.own p
 | .b,.lst ps=>.bor (.lst ps)
 | .b,.tK ps=>.bor (.tK ps)
 | .b,p=>.val p
noncomputable def KO:List Kd->List PV->En
 |k::ks,p::ps=>some (T8 k p)::KO ks ps
 |_,_=>[]
abbrev FN:=List PV->Option (PV×List PV)
end Mr
namespace Mr
open PySem PySem.Spec L2 PyProof.Rows
variable {a:Addr} {xs ys:Array Value} {X:Cx} {h:Heap} {k:Nat} {Z:mV}
mutual
inductive Lies (h:Heap):PV->Value->Prop
 |aP:Lies h .aP .none
 |bl (b:Bool):Lies h (.bl b) (.bool b)
 |int (i:Int) (t:Tok):Lies h (.int i) (.int i t)
 |str (x:Str) (t:Tok):Lies h (.str x) (.str x t)
 |tup {a:Addr} {its:List Value} {ps:List PV}:IsTup h a its.toArray->cM h ps its->Lies h (.tup ps) (.ref a)
 |lst {a:Addr} {its:List Value} {ps:List PV}:h.IsList a its.toArray->cM h ps its->Lies h (.lst ps) (.ref a)
inductive cM (h:Heap):List PV->List Value->Prop
 |nil:cM h [] []
 |cons {p:PV} {v:Value} {ps:List PV} {vs:List Value}:Lies h p v->cM h ps vs->cM h (p::ps) (v::vs)
end
noncomputable def qO:Nat->PV->Bool
 |_,.aP=>true
 |_,.bl _=>true
 |_,.int _=>true
 |_,.str _=>true
 |n+1,.tup ps=>ps.all (qO n)
 |n+1,.lst ps=>ps.all (qO n)
 |_,_=>false
section
variable {X:Cx} {pins:List (Addr×Obj)} {σ:L2.St} {H:Hp} {s:Shared}
theorem Rep.lies (I:Inv X pins σ H s):∀{n:Nat} {p:PV} {x:V} {v:Value},qO n p=true->Rep X.K Z H p x->RelV x v->Lies s.heap p v
 |n,.aP,x,v,ok,h,r=>by cases h;cases r;exact .aP
 |n,.bl b,x,v,ok,h,r=>by cases h;cases r;exact .bl b
 |n,.int b,x,v,ok,h,r=>by cases h;obtain⟨t,rfl⟩:=r;exact .int b t
 |n,.str b,x,v,ok,h,r=>by cases h;obtain⟨t,rfl⟩:=r;exact .str b t
 |n,.ty b,x,v,ok,h,r=>by cases n<;>cases ok
 |n,.tK b,x,v,ok,h,r=>by cases n<;>cases ok
 |0,.tup ps,x,v,ok,h,r=>by cases ok
 |0,.lst ps,x,v,ok,h,r=>by cases ok
 | n+1,.tup ps,x,v,ok,h,r=>by
  cases h with
  | tup h rl=>
   cases r;obtain⟨its,rv,pl,_⟩:=I.tuple h.sq;have key:∀(ps:List PV) (xs:List V) (its:List Value),ps.all (qO n)=true->i3 X.K Z H ps xs->Vals xs its->cM s.heap ps its:=fun ps=>by
    induction ps with
    |nil=>intro xs its _ h1 h2;cases h1;cases h2;exact .nil
    | cons p ps ih=>
     intro xs its ha h1 h2;rw[all_cons,and_eq_true]at ha;cases h1 with
     |cons h1 r1=>
      cases h2 with
      |cons h2 r2=>exact .cons (Rep.lies I (n:=n) ha.1 h1 h2) (ih _ _ ha.2 r1 r2)
   exact .tup pl (key ps _ its ok rl rv)
 | n+1,.lst ps,x,v,ok,h,r=>by
  cases h with
  | lst h nz rl=>
   cases r;obtain⟨its,rv,pl,_⟩:=I.list (show bC X.K H _ _ from .inl h);have key:∀(ps:List PV) (xs:List V) (its:List Value),ps.all (qO n)=true->i3 X.K Z H ps xs->Vals xs its->cM s.heap ps its:=fun ps=>by
    induction ps with
    |nil=>intro xs its _ h1 h2;cases h1;cases h2;exact .nil
    | cons p ps ih=>
     intro xs its ha h1 h2;rw[all_cons,and_eq_true]at ha;cases h1 with
     |cons h1 r1=>
      cases h2 with
      |cons h2 r2=>exact .cons (Rep.lies I (n:=n) ha.1 h1 h2) (ih _ _ ha.2 r1 r2)
   exact .lst pl.isList (key ps _ its ok rl rv)
theorem i3.lies (I:Inv X pins σ H s) {n:Nat}:∀{ps:List PV} {xs:List V} {its:List Value},ps.all (qO n)=true->i3 X.K Z H ps xs->Vals xs its->cM s.heap ps its
 |[],_,_,_,h1,h2=>by cases h1;cases h2;exact .nil
 | p::ps,_,_,ha,h1,h2=>by
  rw[all_cons,and_eq_true]at ha;cases h1 with
  |cons h1 r1=>
   cases h2 with
   |cons h2 r2=>exact .cons (Rep.lies I (n:=n) ha.1 h1 h2) (i3.lies I ha.2 r1 r2)
end
mutual
noncomputable def eB:PV->PV->Bool
 | .aP,.aP=>true
 | .bl a,.bl b=>a==b
 | .bl a,.int b=>(if a then 1 else 0)==b
 | .int a,.bl b=>a==(if b then 1 else 0)
 | .int a,.int b=>a==b
 | .str a,.str b=>a==b
 | .tup xs,.tup ys=>fT xs ys
 | .lst xs,.lst ys=>fT xs ys
 |_,_=>false
noncomputable def fT:List PV->List PV->Bool
 |[],[]=>true
 |x::xs,y::ys=>eB x y && fT xs ys
 |_,_=>false
end
theorem nO {xs ys:List PV}:eB (.tup xs) (.tup ys)=fT xs ys:=by rw[eB]
theorem CO {xs ys:List PV}:eB (.lst xs) (.lst ys)=fT xs ys:=by rw[eB]
theorem cM.length:∀{ps:List PV} {vs:List Value},cM h ps vs->ps.length=vs.length
 |_,_,.nil=>rfl
 |_,_,.cons _ r=>by rw[length_cons,length_cons,cM.length r]
theorem cM.get:∀{ps:List PV} {vs:List Value} {i:Nat} {v:Value},cM h ps vs->vs[i]? =some v->∃p,ps[i]? =some p/\Lies h p v
 |_,_,_,_,.nil,e=>by simp at e
 |_,_,0,_,.cons q _,e=>by simp at e;subst e;exact⟨_,rfl,q⟩
 |_,_,i+1,_,.cons _ r,e=>by
  obtain⟨v,h1,h2⟩:=cM.get (i:=i) r (by simpa using e);exact⟨v,by simpa using h1,h2⟩
theorem L0 (h1:IsTup h a xs) (h2:IsTup h a ys):xs=ys:=by
 obtain⟨o,g,_,n,d⟩:=h1;obtain⟨o',g',_,n',d'⟩:=h2;rw[g]at g';cases g';rw[d]at d';injection d'
theorem K3 (h1:h.IsList a xs) (h2:h.IsList a ys):xs=ys:=by
 obtain⟨o,g,_,n,d⟩:=h1;obtain⟨o',g',_,n',d'⟩:=h2;rw[g]at g';cases g';rw[d]at d';injection d'
theorem CD (h1:IsTup h a xs) (h2:h.IsList a ys):False:=by
 obtain⟨o,g,c,n,d⟩:=h1;obtain⟨o',g',c',n',d'⟩:=h2;rw[g]at g';cases g';rw[c]at c';exact absurd c' (by decide)
mutual
theorem Lies.same {h:Heap}:∀{p:PV} {v:Value},Lies h p v->∀{q:PV},Lies h q v->eB p q=true
 |_,_,.aP,q,k=>by cases k;rfl
 |_,_,.bl b,q,k=>by cases k;exact beq_self_eq_true b
 |_,_,.int i t,q,k=>by cases k;exact beq_self_eq_true i
 |_,_,.str i t,q,k=>by cases k;exact beq_self_eq_true i
 | _,_,.tup ht r,q,k=>by
  cases k with
  |tup ht' r'=>
   have e:_=_:=L0 ht ht';have e:=congrArg Array.toList e;simp only[List.toList_toArray]at e;subst e;unfold eB;exact cM.same r r'
  |lst hl r'=>exact(CD ht hl).elim
 | _,_,.lst ht r,q,k=>by
  cases k with
  |tup ht' r'=>exact(CD ht' ht).elim
  |lst hl r'=>
   have e:=congrArg Array.toList (K3 ht hl);simp only[List.toList_toArray]at e;subst e;unfold eB;exact cM.same r r'
theorem cM.same {h:Heap}:∀{p:List PV} {v:List Value},cM h p v->∀{q:List PV},cM h q v->fT p q=true
 |_,_,.nil,q,k=>by cases k;rfl
 |_,_,.cons h1 r1,q,k=>by
  cases k with
  |cons h2 r2=>unfold fT;rw[Lies.same h1 h2,cM.same r1 r2];rfl
end
theorem j9:∀{ps qs:List PV},((List.range (min ps.length qs.length)).all (fun j=>eB (ps.getD j .aP) (qs.getD j .aP)) && ps.length==qs.length)=fT ps qs
 |[],[]=>rfl
 |[],_::_=>by unfold fT;simp
 |_::_,[]=>by unfold fT;simp
 | p::ps,q::qs=>by
  have ih:=j9 (ps:=ps) (qs:=qs);unfold fT;rw[<-ih];have e:min (p::ps).length (q::qs).length=min ps.length qs.length+1:=by simp only[length_cons];omega
  rw[e,range_succ_eq_map,all_cons,all_map];have e2:((p::ps).length==(q::qs).length)=(ps.length==qs.length):=by
   rw[Bool.eq_iff_iff];simp
  rw[e2,Bool.and_assoc];rfl
section
variable {A:Around} {s:Shared}
theorem toArr {vs:List Value} {j:Nat} (h:j<vs.toArray.size):vs[j]? =some (vs.toArray[j]):=by simp at h⊢
theorem FY:∀(n:Nat) (A:Around) {p q:PV} {v u:Value},A.units+n<cLine->qO n p=true->qO n q=true->Lies s.heap p v->Lies s.heap q u->SeqAt.EqAt A s v u (eB p q):=by
 intro n
 induction n with
 | zero=>
  intro A p q v u hu o1 o2 h1 h2;cases h1 with
  |tup _ _=>cases o1
  |lst _ _=>cases o1
  |aP=>
   cases h2 with
   |tup _ _=>cases o2
   |lst _ _=>cases o2
   |aP=>exact .same _
   |bl b=>exact .none_bool b
   |int b t=>exact .none_int b t
   |str b t=>exact .none_str b t
  |bl a=>
   cases h2 with
   |tup _ _=>cases o2
   |lst _ _=>cases o2
   |aP=>exact .bool_none a
   |bl b=>exact .bool_bool a b
   |int b t=>exact .bool_int a b t
   |str b t=>exact .bool_str a b t
  |int a t'=>
   cases h2 with
   |tup _ _=>cases o2
   |lst _ _=>cases o2
   |aP=>exact .int_none a t'
   |bl b=>exact .int_bool a t' b
   |int b t=>exact .int_int a t' b t
   |str b t=>exact .int_str a t' b t
  |str a t'=>
   cases h2 with
   |tup _ _=>cases o2
   |lst _ _=>cases o2
   |aP=>exact .str_none a t'
   |bl b=>exact .str_bool a t' b
   |int b t=>exact .str_int a t' b t
   |str b t=>exact .str_str a t' b t
 | succ n ih=>
  intro A p q v u hu o1 o2 h1 h2;have hu0:A.units<cLine:=by omega
  have hin:A.in1.units=A.units+1:=rfl;have els:∀{ps qs:List PV} {vs us:List Value},ps.all (qO n)=true->qs.all (qO n)=true->cM s.heap ps vs->cM s.heap qs us->∀(j:Nat) (g1:j<vs.toArray.size) (g2:j<us.toArray.size),SeqAt.EqAt A.in1 s vs.toArray[j] us.toArray[j] (eB (ps.getD j .aP) (qs.getD j .aP)):=fun{ps qs vs us} a1 a2 l1 l2 j g1 g2=>by
   obtain⟨x,ex,rx⟩:=l1.get (toArr g1);obtain⟨y,ey,ry⟩:=l2.get (toArr g2);rw[getD_eq_getElem?_getD,getD_eq_getElem?_getD,ex,ey];exact ih A.in1 (by omega) (all_eq_true.mp a1 _ (mem_of_getElem? ex)) (all_eq_true.mp a2 _ (mem_of_getElem? ey)) rx ry
  cases h1 with
  | tup ht r=>
   cases h2 with
   | tup ht' r'=>
    rename_i a its ps a' its' ps'
    by_cases hab:a=a'
    .subst hab;rw[Lies.same (.tup ht r) (.tup ht' r')];exact .same _
    .refine .of_refs hab ?_;have e:eB (.tup ps) (.tup ps')=((List.range (min its.toArray.size its'.toArray.size)).all (fun j=>eB (ps.getD j .aP) (ps'.getD j .aP)) && its.toArray.size==its'.toArray.size):=by
      rw[nO,<-j9,r.length,r'.length,size_toArray,size_toArray]
     rw[e];exact SeqAt.RcAt.tuples (e:=fun j=>eB (ps.getD j .aP) (ps'.getD j .aP)) ht ht' hu0 (els o1 o2 r r')
   |lst hl r'=>exact .tuple_list ht hl hu0
   |aP=>exact .tuple_none ht hu0
   |bl b=>exact .tuple_bool b ht hu0
   |int b t=>exact .tuple_int b t ht hu0
   |str b t=>exact .tuple_str b t ht hu0
  | lst ht r=>
   cases h2 with
   |tup ht' r'=>exact .list_tuple ht ht' hu0
   | lst ht' r'=>
    rename_i a its ps a' its' ps'
    by_cases hab:a=a'
    .subst hab;rw[Lies.same (.lst ht r) (.lst ht' r')];exact .same _
    .refine .of_refs hab ?_
     by_cases hsz:its.length=its'.length
     .have e:eB (.lst ps) (.lst ps')=(List.range its.toArray.size).all (fun j=>eB (ps.getD j .aP) (ps'.getD j .aP)):=by
       rw[CO,<-j9,r.length,r'.length,size_toArray,<-hsz,Nat.min_self,beq_self_eq_true,Bool.and_true]
      rw[e];exact SeqAt.RcAt.lists (e:=fun j=>eB (ps.getD j .aP) (ps'.getD j .aP)) ht ht' (by simp[hsz]) hu0 (els o1 o2 r r')
     .have e:eB (.lst ps) (.lst ps')=false:=by
       rw[CO,<-j9,r.length,r'.length,show(its.length==its'.length)=false by simp[hsz],Bool.and_false]
      rw[e];exact SeqAt.RcAt.lists_lengths ht ht' (by simp[hsz]) hu0
   |aP=>exact .list_none ht hu0
   |bl b=>exact .list_bool b ht hu0
   |int b t=>exact .list_int b t ht hu0
   |str b t=>exact .list_str b t ht hu0
  |aP=>
   cases h2 with
   |tup ht' r'=>exact .none_tuple ht' hu0
   |lst hl r'=>exact .none_list hl hu0
   |aP=>exact .same _
   |bl b=>exact .none_bool b
   |int b t=>exact .none_int b t
   |str b t=>exact .none_str b t
  |bl a=>
   cases h2 with
   |tup ht' r'=>exact .bool_tuple a ht' hu0
   |lst hl r'=>exact .bool_list a hl hu0
   |aP=>exact .bool_none a
   |bl b=>exact .bool_bool a b
   |int b t=>exact .bool_int a b t
   |str b t=>exact .bool_str a b t
  |int a t'=>
   cases h2 with
   |tup ht' r'=>exact .int_tuple a t' ht' hu0
   |lst hl r'=>exact .int_list a t' hl hu0
   |aP=>exact .int_none a t'
   |bl b=>exact .int_bool a t' b
   |int b t=>exact .int_int a t' b t
   |str b t=>exact .int_str a t' b t
  |str a t'=>
   cases h2 with
   |tup ht' r'=>exact .str_tuple a t' ht' hu0
   |lst hl r'=>exact .str_list a t' hl hu0
   |aP=>exact .str_none a t'
   |bl b=>exact .str_bool a t' b
   |int b t=>exact .str_int a t' b t
   |str b t=>exact .str_str a t' b t
end
section
variable {K:Frag}
noncomputable def U5 (g:Int->Int->PV):PV->PV->Option Bv
 | .int i,.int j=>some (.val (g i j))
 |_,_=>none
noncomputable def DY:PV->PV->Option Bv:=U5 fun i j=>.int (i - j)
def BF (neg:Bool):R2:=fun x y H Q=>∃a kvs k,y= .ref a/\EF H a kvs/\x=kV k/\Q (.bl (if neg then !(dX kvs k).isSome else(dX kvs k).isSome)) H
theorem inD (hr:d6 k X.A):j3 X (compareOp .In) (BF false):=by
 intro pins s σ H x y v u Q I rx ry h;obtain⟨a,kvs,key,rfl,ha,rfl,q⟩:=h;cases ry;exact RC (by have:=hr.un;omega) I (.inl ⟨kvs,key,ha,rfl,rfl⟩) rx fun s' I'=>⟨.bl _,H,I',rfl,q⟩
theorem kE (hr:d6 k X.A):j3 X (compareOp .NotIn) (BF true):=by
 intro pins s σ H x y v u Q I rx ry h;obtain⟨a,kvs,key,rfl,ha,rfl,q⟩:=h;cases ry;exact LY (by have:=hr.un;omega) I (.inl ⟨kvs,key,ha,rfl,rfl⟩) rx fun s' I'=>⟨.bl _,H,I',rfl,q⟩
def D1:R2:=fun x y H Q=>∃a kvs k v,x= .ref a/\EF H a kvs/\y=kV k/\dX kvs k=some v/\Q v H
theorem NJ (hr:d6 k X.A):NS X D1:=by
 intro value slice pins s σ H x y v u Q I rx ry h hs;obtain⟨a,kvs,key,w,rfl,ha,rfl,hv,q⟩:=h;cases rx;have g:vR H a (kV key) (some w):=.inl ⟨kvs,key,ha,rfl,hv.symm⟩;have hT:=x9 I g;unfold subscriptTail;refine wpAny_bind ?_;rw[getitemInPython_of_ne hT.not_modules];refine wpAny_bind (wpAny_specialOf hT PySem.F.slot_dict_getitem.lookup ?_);have fin:wpAny (model X.prog X.w) X.A (subscripted slice false (.ref a) u) (fun r s₃=>wpAny (model X.prog X.w) X.A (letTemporaryGo value (.ref a) r>>=fun _=>pure r) (EP X pins σ Q) X.xe s₃) X.xe s:=by
  rw[hs];exact wpAny_operating (wpAny_mono (ER (by have:=hr.un;omega) I g ry fun w' s3 I3 tY=>(⟨w,H,I3,tY,q⟩:EP X pins σ Q w' s3)) (fun r s₃ h₃=>wpAny_bind (wpAny_letTemporaryGo (wpAny_pure h₃))) fun _ _ x=>x)
 first
  |exact wpAny_pure (wpAny_bind fin)
  |exact wpAny_bind (wpAny_pure (wpAny_bind fin))
  |exact wpAny_bind fin
end
end Mr
namespace L2
open PySem PySem.Spec PyProof.Rows
variable {a:Expr} {p pos:Pos} {ta:TA}
noncomputable def IX (K:Frag) (a:Addr):It:=
 ⟨fun i H=>∃xs x,bC K H a xs/\xs[i]? =some x,fun i H v H'=>∃t,H t=none/\v= .ref t/\∀xs,bC K H a xs->∃x,xs[i]? =some x/\H'=upd H t (.tup [.int i,x]),fun i H=>∃xs,bC K H a xs/\xs.length=i⟩
theorem BL {P:Program} {w:World} {K:Frag} {elts:List Expr} {x1} (a it e:Addr) (hei:e≠it):Turn P w K (.Tuple elts x1 pos) (IX K a) [e,it] e (fun i h=>(∃old,IsEnum h e it i old)/\h.IsListIter it a i)where
 mem:=by simp
 obj:=fun i h st b hb=>by
  obtain⟨⟨old,he⟩,o,ho,c,d⟩:=st;rcases mem_cons.mp hb with z|z
  .subst z;exact⟨_,he,fun v z=>by cases z⟩
  .have z:b=it:=by simpa using z
   subst z;exact⟨o,ho,fun v z=>by rw[d]at z;cases z⟩
 keep:=fun i h h' st k=>⟨let⟨old,he⟩:=st.1;⟨old,k e (by simp) _ he⟩,st.2.at fun o q=>k it (by simp) o q⟩
 item:=by
  intro X hP hw hK hc i pins s σ H E I hf st hg;subst hP hw hK;obtain⟨xs,x,hq,hx⟩:=hg;obtain⟨its,rv,p,hz⟩:=I.list hq;obtain⟨u,hu,ru⟩:=rv.get hx;obtain⟨⟨old,he⟩,ht⟩:=st;have hne:a≠it:=fun z=>by
   obtain⟨o,ho,c,_⟩:=ht;obtain⟨o',_,ho',c',_,_⟩:=p;subst z;rw[ho]at ho';cases ho'
   rw[c]at c';exact absurd (Value.type.inj c') (by decide)
  have hae:a≠e:=fun z=>by
   obtain⟨o',_,ho',c',_,_⟩:=p;subst z;rw[he]at ho';cases ho'
   exact absurd (Value.type.inj c') (by decide)
  have hlt:i<its.toArray.size:=by have:=(List.getElem?_eq_some_iff.mp hu).1;simpa using this
  refine wpAny_pyNext_enum_itemD (Draws.list (A:=X.A.in1) (by exact I.ok.hd hc) it a hne its.toArray) he ⟨ht,p.isList⟩ hlt hei (by simp[hei,Ne.symm hae]) fun v h' tk hPv ho' st' htup hsz hk=>?_
  have ev:v=u:=by
   have h1:its[i]? =some v:=by simpa using hPv
   rw[hu]at h1;exact(Option.some.inj h1).symm
  subst ev;refine⟨_,rfl,wpAny_letOwnedTupleGo_enum (s:={s with heap:=h',toks:=tk+1}) ho' fun h2 he2 sb=>?_⟩;have hTe:s.heap.objs.size≠e:=fun z=>by
   have:=lt_size he;rw[<-z]at this;exact Nat.lt_irrefl _ this
  have hTi:s.heap.objs.size≠it:=fun z=>by
   obtain⟨o,ho,_⟩:=ht;have:=lt_size ho;rw[<-z]at this;exact Nat.lt_irrefl _ this
  have hk2:∀b o,b∉[e,it]->s.heap.get? b=some o->h2.get? b=some o:=fun b o hb q=>
   sb.extBut b o (fun z=>hb (by simp[z])) (hk b o (fun z=>hb (by simp[z])) (fun z=>hb (by simp[z])) q)
  have I1:Inv X pins σ H {s with heap:=h2,toks:=tk+1}:=I.qG hk2 hf;have hfr:H s.heap.objs.size=none:=I.bH.fresh (le_refl _);have htup2:h2.get? s.heap.objs.size=some {cls:=.type "tuple",data:=.seq #[.int i tk,v]}:=sb.extBut _ _ hTe htup;have I2:Inv X pins σ (upd H s.heap.objs.size (.tup [.int i,x])) {s with heap:=h2,toks:=tk+1}:=by
   refine I.S5 hk2 hf hfr (by simp[hTe,hTi]) ⟨by show 2<=sizeLine;decide,[.int i tk,v],.cons ⟨_,rfl⟩ (.cons ru .nil),o8.of htup2⟩ (fun b hb o q=>?_);rcases mem_cons.mp hb with r|r
   .subst r;exact⟨_,he2⟩
   .have r:b=it:=by simpa using r
    subst r;obtain⟨o',ho',_⟩:=st'.1.extBut sb.extBut (Ne.symm hei);exact⟨o',ho'⟩
  refine⟨.ref s.heap.objs.size,_,I2,rfl,⟨s.heap.objs.size,hfr,rfl,fun ys hy=>⟨x,by rw[I.yV hy hq];exact hx,rfl⟩⟩,⟨⟨_,he2⟩,st'.1.extBut sb.extBut (Ne.symm hei)⟩,fun b hb=>?_⟩;have hbT:b≠s.heap.objs.size:=fun z=>by
   rcases mem_cons.mp hb with r|r
   .exact hTe (z▸r)
   .have r:b=it:=by simpa using r
    exact hTi (z▸r)
  rw[aG hbT];exact(hf b hb).1
 done:=by
  intro X hP hw hK hc i pins s σ H E I hf st hg;subst hP hw hK;obtain⟨xs,hq,hx⟩:=hg;obtain⟨its,rv,p,hz⟩:=I.list hq;obtain⟨⟨old,he⟩,ht⟩:=st;have hl:=rv.length;have hne:a≠it:=fun z=>by
   obtain⟨o,ho,c,_⟩:=ht;obtain⟨o',_,ho',c',_,_⟩:=p;subst z;rw[ho]at ho';cases ho'
   rw[c]at c';exact absurd (Value.type.inj c') (by decide)
  have ei:(i:Nat)=its.toArray.size:=by simp;omega
  subst ei;obtain⟨f0,f1,f2,f3,f4,f5⟩:=hf it (by simp);exact wpAny_pyNext_enum_endD (Draws.list (A:=X.A.in1) (by exact I.ok.hd hc) it a hne its.toArray) he ⟨ht,p.isList⟩ fun h' eb=>⟨rfl,I.turned (t':=s.toks) (fun b o hb e=>eb b o hb e) f0 f1 f3 f4 f5⟩
 self:=fun _ _ _ _ _ st h=>let⟨_,he⟩:=st.1;wpAny_pyIter_enum he h
section
variable {X:Cx} {elts:List Expr} {x1:Nat} {tpos:Pos}
def oS (K:Frag) (ta:TA):TI:=fun σ H R=>ta σ H fun vs H1=>(∃a xs,vs=[.ref a]/\bU K H1 a xs/\R (UT K a) H1)\/ ∃a xs,vs=[.ref a]/\bC K H1 a xs/\R (IX K a) H1
theorem GA (hg:Gl X "enumerate") (hm:X.mg "enumerate"=none) (ha:PA X [a] ta) (hs:starEach [a] X.env=[(false,eval a X.env)]:=by rfl):PI X (.Tuple elts x1 tpos) (.Call (.Name "enumerate" p) [a] [] pos) (oS X.K ta):=by
 intro pins s σ H R I h;refine Call_ (m6 I hg hm vO (PyProof.Rows.callWith_type1 (bY (ha pos pins s σ H _ I h) fun us s1 ⟨vs,H1,I1,r1,q1⟩=>?_) hs rfl));rcases q1 with⟨t,xs,e,hq,q⟩|⟨t,xs,e,hq,q⟩
 .subst e;obtain⟨u,rfl,rx⟩:=vals1 r1;cases rx;obtain⟨its,rv,pt,hz⟩:=I1.tuple hq;refine iX (show s1.heap.IsTuple t its.toArray from pt) fun h' he ht hsz hk=>?_
  have I2:Inv X pins σ H1 {s1 with heap:=h'}:=I1.kept (t':=s1.toks) hk;refine wpAny_pyIter_enum (s:={s1 with heap:=h'}) he ?_;refine⟨s1.heap.objs.size+1,[s1.heap.objs.size+1,s1.heap.objs.size],_,_,H1,rfl,I2,AN t s1.heap.objs.size (s1.heap.objs.size+1) (Nat.succ_ne_self _),⟨⟨_,he⟩,ht⟩,fun b hb=>?_,q⟩;rcases mem_cons.mp hb with r|r
  .subst r;exact I1.nD (le_succ _) (I1.bH.fresh (le_succ _))
  .have r:b=s1.heap.objs.size:=by simpa using r
   subst r;exact I1.nD (le_refl _) (I1.bH.fresh (le_refl _))
 .subst e;obtain⟨u,rfl,rx⟩:=vals1 r1;cases rx;obtain⟨its,rv,pt,hz⟩:=I1.list hq;refine call_enumerate_list pt.isList fun h' he ht hsz hk=>?_
  have I2:Inv X pins σ H1 {s1 with heap:=h'}:=I1.kept (t':=s1.toks) hk;refine wpAny_pyIter_enum (s:={s1 with heap:=h'}) he ?_;refine⟨s1.heap.objs.size+1,[s1.heap.objs.size+1,s1.heap.objs.size],_,_,H1,rfl,I2,BL t s1.heap.objs.size (s1.heap.objs.size+1) (Nat.succ_ne_self _),⟨⟨_,he⟩,ht⟩,fun b hb=>?_,q⟩;rcases mem_cons.mp hb with r|r
  .subst r;exact I1.nD (le_succ _) (I1.bH.fresh (le_succ _))
  .have r:b=s1.heap.objs.size:=by simpa using r
   subst r;exact I1.nD (le_refl _) (I1.bH.fresh (le_refl _))
theorem KQ (K:Frag) (hg:Gl X "enumerate") (hm:X.mg "enumerate"=none) (ha:PA X [a] ta) (h:X.K=K:=by rfl) (hs:starEach [a] X.env=[(false,eval a X.env)]:=by rfl):
  PI X (.Tuple elts x1 tpos) (.Call (.Name "enumerate" p) [a] [] pos) (oS K ta):=h▸GA hg hm ha hs
end
end L2
namespace L2
open PySem PySem.Spec PyProof.Rows PySem.W
variable {kvs:List (Key×V)} {vs:List (Key×Value)} {s':Shared} {Q:Value->Shared->Prop}
section
variable {prog:Program} {w:World} {A:Around} {E:Value->Shared->Prop} {s:Shared} {T:String} {r d:Addr} {n:Nat} {Pz:Nat->Value->Prop} {OKh:Heap->Prop}
def lZ (s s':Shared):Prop:=∃h' tk dr,s'={s with heap:=h',toks:=tk,drawn:=dr}/\s.heap.objs.size<=h'.objs.size/\∀b o,s.heap.get? b=some o->h'.get? b=some o
theorem lZ.size {s:Shared} (g:lZ s s'):s.heap.objs.size<=s'.heap.objs.size:=by
 obtain⟨h',tk,dr,rfl,k,_⟩:=g;exact k
theorem kN {Q:List Value->Shared->Prop} (K:KdlSrc prog w T r d n Pz OKh) (hh:A.handled=none) (bH:OKh s.heap) (hn:n<=sizeLine)
  (hq:∀vs s',lZ s s'->vs.length=n->(∀j v,vs[j]? =some v->Pz j v)->Q vs s'):wpAny (model prog w) A (collect (.ref r)) Q E s:=by
 have ha:=K.there _ bH;have fin:∀(h':Heap) (tk:Nat) (acc:Array Value) (c:Nat),(∀b o,s.heap.get? b=some o->h'.get? b=some o)->
   h'.get? s.heap.objs.size=some {cls:=.type "list",dict:=none,data:=.seq acc c,slots:= #[]}->ItemsOf Pz acc n->
   wpAny (model prog w) A (match Value.ref s.heap.objs.size with
    | Value.ref a=>do
     match(<-load a).data with
      |Data.seq xs _=>pure xs.toList
      |_=>unsupported "internal:collect"
    |_=>unsupported "internal:collect") Q E {s with heap:=h',toks:=tk}:=fun h' tk acc c kp hS hacc=>by
  show wpAny _ A (load s.heap.objs.size>>=_) _ _ _;exact wpAny_bind (wpAny_load hS (wpAny_pure (hq _ _ ⟨h',tk,s.drawn,rfl,le_of_lt (lt_size hS),kp⟩ (by rw[length_toList];exact hacc.1) fun j v e=>hacc.2 j v (by rw[<-getElem?_toList];exact e))))
 unfold collect;refine wpAny_bind (wpAny_runValue (codeAny_builtin F.entry_proto_collect ?_));rw[Around.under_plainId F.plain_proto_collect _];refine wpAny_bind (m:=newList []) (wpAny_newObj_type ?_);refine wpAny_pure ⟨plainId_quiet F.plain_list_iadd _,codeAny_builtin F.entry_list_iadd ?_⟩;rw[Around.under_plainId F.plain_list_iadd _];have e0:(s.heap.push {cls:=.type "list",data:=.seq ([]:List Value).toArray}).get? s.heap.objs.size=some {cls:=.type "list",data:=.seq #[] 0}:=get?_push_size _ rfl;have key:=kdl_extend (A:=A) (s:={s with heap:=s.heap.push {cls:=.type "list",data:=.seq ([]:List Value).toArray}}) (R:=fun rs s'=>∃h' tk acc c,rs= .ok (.ret (.ref s.heap.objs.size))/\s'={s with heap:=h',toks:=tk}/\(∀b o,s.heap.get? b=some o->h'.get? b=some o)/\h'.get? s.heap.objs.size=some {cls:=.type "list",dict:=none,data:=.seq acc c,slots:= #[]}/\ItemsOf Pz acc n) K hh (K.keep _ _ bH fun b _ o e=>get?_push_of_some _ e) s.heap.objs.size (ne_of_gt ha.1) (ne_of_gt ha.2) (.ref s.heap.objs.size) 0 e0
  (fun h' tk acc c kp hS hacc=>⟨h',tk,acc,c,rfl,rfl,fun b o e=>kp b o (ne_of_lt (lt_size e)) (get?_push_of_some _ e),hS,hacc⟩) hn
 refine wpAny_mono key (fun f s' h=>?_) fun e s' h=>?_
 .cases f with
  |done f=>
   obtain⟨h',tk,acc,c,e1,rfl,kp,hS,hacc⟩:=h;cases e1;exact fin h' tk acc c kp hS hacc
  |again c'=>
   refine⟨h.1,codeAny_mono h.2 fun rs s2 hr=>?_⟩;obtain⟨h',tk,acc,c,rfl,rfl,kp,hS,hacc⟩:=hr;exact fin h' tk acc c kp hS hacc
 .obtain⟨h',tk,acc,c,e1,_⟩:=h;cases e1
theorem DP (K:KdlSrc prog w T r d n Pz OKh) (hnt:T≠"tuple") (hh:A.handled=none) (bH:OKh s.heap) (hn:n<=sizeLine)
  (hq:∀(vs:List Value) s1,lZ s s1->vs.length=n->(∀j v,vs[j]? =some v->Pz j v)->Q (.ref s1.heap.objs.size) {s1 with heap:=s1.heap.push {cls:=.type "tuple",data:=.seq vs.toArray}}):
  wpAny (model prog w) A (call (.type "tuple") [.ref r]) Q E s:=by
 have hT:=K.type s bH;refine callType_codes (Q₁:=fun obj s₁=>s₁.TypeIs obj "tuple"/\Q obj s₁) F.called_tuple (F.typeCall_tuple_1 _) F.entry_object_init ?_ fun obj s₁ h₁=>
  ⟨h₁.1,F.args_object_init_2 obj _,object_init_meets F.called_tuple.init.lookup F.called_tuple.made (by decide) prog w A.in1 _ s₁ ⟨h₁.1,rfl,h₁.2⟩⟩
 refine codeAny_of_tree ?_;refine wpAny_bind (m:=checkBuiltinCall "tuple.__new__" ⟨[.type "tuple",.ref r],[]⟩) (wpAny_of_eq (F.newCall_tuple_1 _) (wpAny_pure ⟨plainId_quiet F.plain_tuple_new _,codeAny_builtin F.entry_tuple_new ?_⟩));rw[Around.under_plainId F.plain_tuple_new _];have a1:=sub_tuple_self;have a2:=init_tuple_lookup;have a3:=madeHere_tuple;have a4:(Value.type T==Value.type "tuple")=false:=K.notTuple;unfold Builtin.«tuple.__new__»;generalize hC:collect=C
 wp_walk using wpAny_typeOf hT
 subst hC;refine kN K hh bH hn fun vs s1 g hl hv=>?_
 refine wpAny_bind (wpAny_pure ?_);unfold Builtin.Tuple.tupleExact;refine wpAny_bind (m:=newObj (.type "tuple") (.seq vs.toArray)) (wpAny_newObj_type ?_ (by show vs.toArray.size<=sizeLine;rw[size_toArray,hl];exact hn));exact wpAny_pure ⟨⟨_,get?_push_size _ rfl,rfl⟩,hq vs s1 g hl hv⟩
theorem oJ {v:Value} {R:List Str->Prop}
  (hcol:∀(E':Value->Shared->Prop) (Q':List Value->Shared->Prop),(∀vs s1 ss,lZ s s1->StrsAre vs ss->R ss->Q' vs s1)->wpAny (model prog w) A.in1 (collect v) Q' E' s) (h64:∀ss,R ss->ss.length<64)
  (hq:∀(a:Addr) s2 (out:List Value) c ss ss',lZ s s2->s.heap.objs.size<=a->s2.heap.get? a=some (seqObj "list" out.toArray c)->StrsAre out ss'->R ss->ss'.Perm ss->sortedS ss'=true->Q (.ref a) s2):
  wpAny (model prog w) A (call (.builtin "sorted") [v]) Q E s:=by
 refine Calls.call_function_entry kind_sorted plain_sorted entry_sorted (args_sorted1 _) ?_;unfold Builtin.«sorted»;refine wpAny_bind (m:=checkCount "sorted" 1 1 _) (wpAny_pure (wpAny_bind (hcol _ _ fun vs s1 ss g hS hR=>?_)));have hl:vs.length<64:=by rw[hS.length];exact h64 ss hR
 refine wpAny_bind (wpAny_newList ?_ (by simp only[sizeLine_eq];omega));have e1:(s1.heap.push (seqObj "list" vs.toArray 0)).get? s1.heap.objs.size=some (seqObj "list" vs.toArray 0):=get?_push_size _ rfl;refine wpAny_bind (wpAny_holding (wpAny_call_entry slot_list_sort ⟨_,e1,rfl⟩ entry_list_sort (list_sort_treeK strKind_oneLt e1 hS.keysOf (fun v₁ v₂ rest e=>keyKind_strs (by rw[<-e];exact hS)) hl fun st' a1 a2=>⟨_,rfl,?_⟩) (args_list_sort _)));obtain⟨ss',b1,b2,b3⟩:=sorted_out_str hS a1 a2;refine wpAny_pure ⟨_,rfl,?_⟩;obtain⟨c,hc⟩:=sortedHeap_at (out:=(arrOf st').map (·.2)) e1;refine hq s1.heap.objs.size _ ((arrOf st').map (·.2)).toList c ss ss' ?_ g.size (by rw[toArray_toList];exact hc) b1 hR b2 b3;obtain⟨h',tk,dr,rfl,gz,k⟩:=g;refine⟨_,tk,dr,rfl,le_trans gz (le_of_lt (lt_size hc)),fun b o e=>?_⟩;have hb:=lt_size (k b o e);rw[sortedHeap_old (ne_of_lt hb) (by rw[size_push'];exact lt_succ_of_lt hb)];exact get?_push_of_some _ (k b o e)
end
section
variable {X:Cx} {pins:List (Addr×Obj)} {σ:St} {H:Hp} {s s':Shared}
theorem Inv.Q6 (I:Inv X pins σ H s) (g:lZ s s'):Inv X pins σ H s':=by
 obtain⟨h',tk,dr,rfl,_,k⟩:=g;exact I.call (g':=s.gens) (d':=dr) (t':=tk) (ch:=[]) (Un.kept k) (I.bH.kept k) I.bare fun _ z=>nomatch z
end
noncomputable def AO (v d:Addr):HO:=.ext fun h=>h.IsValuesView v d
theorem KV.vals (r:KV kvs vs):Vals (kvs.map (·.2)) (vs.map (·.2)):=by
 unfold KV at r
 induction r with
 |nil=>exact .nil
 |cons h t ih=>exact .cons h.2 ih
theorem KV.len (r:KV kvs vs):kvs.length=vs.length:=by
 have:=congrArg List.length r.keys;simpa using this
theorem Inv.MQ {X:Cx} {pins:List (Addr×Obj)} {σ:St} {H:Hp} {s:Shared} {a:Addr} {o:HO} (I:Inv X pins σ H s) (g:lZ s s') (hp:s.heap.objs.size<=a) (new:cB X.prog X.w (L2.upd H a o) s'.heap a o):Inv X pins σ (L2.upd H a o) s':=by
 obtain⟨h',tk,dr,rfl,_,k⟩:=g;exact I.call (g':=s.gens) (d':=dr) (t':=tk) (ch:=[]) (Un.laid k hp (I.bH.fresh hp)) (I.bH.laid k hp new) I.bare fun _ z=>nomatch z
section
variable {X:Cx}
def y7 (to:TE):TE:=fun σ H Q=>to σ H fun x H1=>∃a kvs,x= .ref a/\EF H1 a kvs/\∀v,H1 v=none->Q (.ref v) (upd H1 v (AO v a))
theorem oB {o:Expr} {to:TE} {apos cpos:Pos} (ho:PE X o to) (hbase:attributeBase o "values" X.env (eval o X.env)=eval o X.env:=by rfl) (hline:(apos.endLine==cpos.line)=true:=by rfl):
  PE X (.Call (.Attribute o "values" apos) [] [] cpos) (y7 to):=by
 intro pins s σ H Q I h;refine wpAny_Call_method0_late hbase hline (bY (ho pins s σ H _ I h) fun v s1 ⟨x,H1,I1,r1,a,kvs,ex,ha,q1⟩=>?_);subst ex;obtain rfl:v=Value.ref a:=r1;obtain⟨hz,hd,vs,rel,dd⟩:=i8 I1.bH ha;refine⟨"dict","dict.values",plainAttrs_dict,PySem.F.slot_dict_values,PySem.F.type_dict_values,dd.typeIs,dd.mapOf.noDict,Calls.callWith_builtin rfl (PySem.evalArgs_none ?_)⟩;refine call_meetsIn PySem.F.slot_dict_values dd.typeIs PySem.F.entry_dict_values (PySem.F.args_dict_values_1 _) (meets_dict_values (bA X.prog X.w) a hd) ⟨⟨vs,dd⟩,?_⟩;have e0:(s1.heap.push {cls:=.type "dict_values",data:=.fields #[.ref a]}).get? s1.heap.objs.size=some {cls:=.type "dict_values",data:=.fields #[.ref a]}:=get?_push_size _ rfl;refine⟨.ref s1.heap.objs.size,_,I1.laid (t':=s1.toks) (o:=AO s1.heap.objs.size a) (fun b u e=>get?_push_of_some _ e) (le_refl _) ⟨⟨_,e0,rfl,rfl⟩,⟨_,e0⟩,fun h1 h2 ⟨u,e,c⟩ k=>⟨u,k u e,c⟩⟩,rfl,q1 _ (I1.bH.fresh (le_refl _))⟩
def SK:List V->Hp->VK->Prop:=fun xs H Q=>∃v a kvs,xs=[.ref v]/\H v=some (AO v a)/\EF H a kvs/\∀l,H l=none->Q (.ref l) (upd H l (.tup (kvs.map (·.2))))
theorem T2 (hc:X.calm=true:=by rfl):dW X (.type "tuple") SK:=by
 intro pins s σ H xs us Q I r ⟨v,a,kvs,e,hv,ha,q⟩;subst e;obtain⟨u,rfl,rx⟩:=vals1 r;cases rx;obtain⟨hz,hd,vs,rel,dd⟩:=i8 I.bH ha;obtain⟨ep,dd⟩:=dd.dictAt;refine DP (kdl_values (knd:=bA X.prog X.w) (r:=v) (d:=a) (kvs:=vs) (ep:=ep)) (by decide) (by exact I.ok.hd hc) ⟨(I.bH v _ hv).1,dd⟩ (by rw[<-rel.len];exact hz) fun ws s1 g hl hw=>?_
 have ew:=kdl_vals_eq ws hl hw;subst ew;have I1:=I.Q6 g;exact⟨.ref s1.heap.objs.size,_,I1.laid (t':=s1.toks) (o:=.tup (kvs.map (·.2))) (fun b o e=>get?_push_of_some _ e) (le_refl _) ⟨by rw[length_map];exact hz,_,rel.vals,o8.new _ _⟩,rfl,q _ (I1.bH.fresh (le_refl _))⟩
def sC:List V->Hp->VK->Prop:=fun xs H Q=>∃a kvs ss,xs=[.ref a]/\EF H a kvs/\kvs.map (·.1)=ss.map Sum.inr/\ss.length<64/\∀l out,out.Perm ss->sortedS out=true->H l=none->Q (.ref l) (upd H l (.lst (out.map V.str)))
theorem tX {prog:Program} {w:World}:∀{ss:List Str} {vs:List (Key×Value)} {us:List Value},vs.map (·.1)=ss.map Sum.inr->us.length=vs.length->(∀(j:Nat) v,us[j]? =some v->∃k x,vs[j]? =some (k,x)/\(bA prog w).is k v=true)->StrsAre us ss
 |[],[],[],_,_,_=>.nil
 |[],[],_::_,_,h,_=>by cases h
 |[],_::_,_,h,_,_=>by cases h
 |_::_,[],_,h,_,_=>by cases h
 |_::_,_::_,[],_,h,_=>by cases h
 | t::ss,(k,x)::vs,u::us,h,hl,hu=>by
  rw[map_cons,map_cons]at h;have h:=List.cons.inj h;have e:k=Sum.inr t:=h.1;subst e;obtain⟨k',x',e',hk⟩:=hu 0 u rfl;cases e';rcases bB (show gC (Sum.inr t) u=true from hk)with⟨i,tk,z,_⟩|⟨y,tk,z,rfl⟩
  .cases z
  .cases z;exact .cons _ tk (tX h.2 (by simpa using hl) fun j v e=>hu (j+1) v (by simpa using e))
theorem QQ (hc:X.calm=true:=by rfl):dW X (.builtin "sorted") sC:=by
 intro pins s σ H xs us Q I r ⟨a,kvs,ss,e,ha,hk,h64,q⟩;subst e;obtain⟨u,rfl,rx⟩:=vals1 r;cases rx;obtain⟨hz,hd,vs,rel,dd⟩:=i8 I.bH ha;obtain⟨ep,dd⟩:=dd.dictAt;rw[rel.keys]at hk;refine oJ (R:=fun tt=>tt=ss) (fun E' Q' k=>?_) (fun tt e=>by rw[e];exact h64) fun l s2 out c tt tt' g hl hat h1 h2 h3 h4=>?_
 .exact kN (kdl_dict (knd:=bA X.prog X.w) (d:=a) (kvs:=vs) (ep:=ep) hd) (by exact I.ok.hd hc) dd (by rw[<-rel.len];exact hz) fun ws s1 g hl hw=>k ws s1 ss g (tX hk hl hw) rfl
 .subst h2;exact⟨.ref l,_,I.MQ (o:=.lst (tt'.map V.str)) g hl ⟨by rw[length_map,h3.length_eq];rw[sizeLine_eq];omega,out,c,n5 h1,hat⟩,rfl,q _ tt' h3 h4 (I.bH.fresh hl)⟩
end
end L2
namespace Mr
open PySem PySem.Spec L2 PyProof.Rows PySem.W
variable {A:Around} {C:Bool->Shared->Prop} {ps:List PV} {n:Nat} {prog:Program} {s:Shared} {w:World}
noncomputable def fI (lt:PV->PV->Option Bool):List PV->List PV->Option Bool
 |[],[]=>some false
 |[],_::_=>some true
 |_::_,[]=>some false
 |x::xs,y::ys=>if eB x y=true then fI lt xs ys else lt x y
noncomputable def jD:Nat->PV->PV->Option Bool
 |_,.str a,.str b=>some (decide (a.cps.toList<b.cps.toList))
 |_,.int a,.int b=>some (decide (a<b))
 |n+1,.tup xs,.tup ys=>fI (jD n) xs ys
 |_,_,_=>none
section
variable {s:Shared}
theorem OQ {lt:PV->PV->Option Bool}:∀{xs ys:List PV} {us vs:List Value} {c:Bool} {fin:Bool},cM s.heap xs us->cM s.heap ys vs->(∀x∈xs,∀y∈ys,∀u v,Lies s.heap x u->Lies s.heap y v->SeqAt.EqAt A s u v (eB x y)/\∀b,lt x y=some b->EB A s u v b)->
  fin=decide (us.length<vs.length)->fI lt xs ys=some c->xE A s fin (us.zip vs) c:=by
 intro xs
 induction xs with
 |nil=>
  intro ys us vs c fin h1 h2 hk hf h;cases h1;cases h2<;>(cases h;rw[hf];exact .done)
 | cons x xs ih=>
  intro ys us vs c fin h1 h2 hk hf h;cases h1 with
  | cons r1 rr1=>
   cases h2 with
   |nil=>cases h;rw[hf];exact .done
   | @cons y _ ys _ r2 rr2=>
    obtain⟨he,hl⟩:=hk x mem_cons_self y mem_cons_self _ _ r1 r2;unfold fI at h;cases e:eB x y with
    |true=>
     rw[e]at he;rw[if_pos e]at h;exact .same he (ih rr1 rr2 (fun a ha b hb=>hk a (mem_cons_of_mem _ ha) b (mem_cons_of_mem _ hb)) (by rw[hf];simp) h)
    |false=>
     rw[e]at he;rw[if_neg (by rw[e];exact Bool.false_ne_true)]at h;exact .less he (hl c h)
theorem BB:∀(n:Nat) (A:Around) {p q:PV} {v u:Value} {b:Bool},A.units+n<cLine->qO n p=true->qO n q=true->Lies s.heap p v->Lies s.heap q u->jD n p q=some b->EB A s v u b:=by
 intro n
 induction n with
 | zero=>
  intro A p q v u b hu o1 o2 h1 h2 h;cases p with
  |str x=>
   cases q with
   |str y=>cases h;cases h1;cases h2;exact fun prog w E Q q=>PySem.P.lt_str q
   |_=>cases h
  |int x=>
   cases q with
   |int y=>cases h;cases h1;cases h2;exact fun prog w E Q q=>PyProof.Rows.lt_int q
   |_=>cases h
  |_=>cases q<;>cases h
 | succ n ih=>
  intro A p q v u b hu o1 o2 h1 h2 h;cases p with
  |str x=>
   cases q with
   |str y=>cases h;cases h1;cases h2;exact fun prog w E Q q=>PySem.P.lt_str q
   |_=>cases h
  |int x=>
   cases q with
   |int y=>cases h;cases h1;cases h2;exact fun prog w E Q q=>PyProof.Rows.lt_int q
   |_=>cases h
  | tup xs=>
   cases q with
   | tup ys=>
    cases h1 with
    | tup t1 l1=>
     cases h2 with
     |tup t2 l2=>
      have hin:A.in1.units=A.units+1:=rfl;have o1:xs.all (qO n)=true:=o1;have o2:ys.all (qO n)=true:=o2;refine NY t1 t2 (by omega) ?_;simpa using OQ (A:=A.in1) (s:=s) l1 l2 (fun x hx y hy u v a b=>⟨FY n A.in1 (by omega) (all_eq_true.mp o1 x hx) (all_eq_true.mp o2 y hy) a b,fun c hc=>ih A.in1 (by omega) (all_eq_true.mp o1 x hx) (all_eq_true.mp o2 y hy) a b hc⟩) rfl h
   |_=>cases h
  |_=>cases q<;>cases h
theorem FO {fin:Bool} {lt:PV->PV->Option Bool}:∀{xs ys:List PV} {us vs:List Value} {c:Bool} (i:Nat),1<=i->cM s.heap xs us->cM s.heap ys vs->
  (∀x∈xs,∀y∈ys,∀u v,Lies s.heap x u->Lies s.heap y v->SeqAt.EqAt A s u v (eB x y)/\∀b,lt x y=some b->EB A s u v b)->fin=decide (us.length<vs.length)->fI lt xs ys=some c->C c s->KatLex prog w A true fin C (us.zip vs) i s:=by
 intro xs
 induction xs with
 |nil=>
  intro ys us vs c i hi h1 h2 hk hf h hC;cases h1;cases h2<;>(cases h;exact kat_nil (by rw[hf];exact hC))
 | cons x xs ih=>
  intro ys us vs c i hi h1 h2 hk hf h hC;cases h1 with
  | cons r1 rr1=>
   cases h2 with
   |nil=>cases h;exact kat_nil (by rw[hf];exact hC)
   | @cons y _ ys _ r2 rr2=>
    obtain⟨he,hl⟩:=hk x mem_cons_self y mem_cons_self _ _ r1 r2;refine kat_cons (he prog w _ _ ?_);unfold fI at h;cases e:eB x y with
    |true=>
     rw[if_pos e]at h;exact kat_yes (ih (i+1) (by omega) rr1 rr2 (fun a ha b hb=>hk a (mem_cons_of_mem _ ha) b (mem_cons_of_mem _ hb)) (by rw[hf];simp) h hC)
    |false=>
     rw[if_neg (by rw[e];exact Bool.false_ne_true)]at h;refine kat_no ?_;have e0:(true && i==0)=false:=by simp;omega
     rw[e0];exact kat_one _ _ (hl c h prog w _ _ hC)
noncomputable def xO (b:Bool):PV->Bool
 | .tup (.str _::_)=>b
 | .tup (.int _::_)=>!b
 |_=>false
noncomputable def NM (b:Bool):String:=if b then "str"else "int"
theorem TK {b:Bool} {n:Nat} {vs:List Value} (hl:cM s.heap ps vs) (hu:A.units+n<cLine) (led:∀p∈ps,xO b p=true) (ok:∀p∈ps,qO (n+1) p=true)
  {i j:Nat} {c:Bool} {p q:PV} (hp:ps[i]? =some p) (hq:ps[j]? =some q) (hc:jD (n+1) p q=some c) (hC:C c s):kas_ask prog w A (tuples' (Value.type (NM b) !=Value.type "tuple")) vs i j C s:=by
 have kt:(Value.type (NM b) !=Value.type "tuple")=true:=by cases b<;>decide
 obtain⟨u,hu1,lu⟩:∃u,vs[i]? =some u/\Lies s.heap p u:=by
  have hlt:i<vs.length:=by rw[<-hl.length];exact(List.getElem?_eq_some_iff.mp hp).1
  obtain⟨p',e,l⟩:=hl.get (getElem?_eq_getElem hlt);rw[hp]at e;cases e
  exact⟨_,getElem?_eq_getElem hlt,l⟩
 obtain⟨v,hv1,lv⟩:∃v,vs[j]? =some v/\Lies s.heap q v:=by
  have hlt:j<vs.length:=by rw[<-hl.length];exact(List.getElem?_eq_some_iff.mp hq).1
  obtain⟨p',e,l⟩:=hl.get (getElem?_eq_getElem hlt);rw[hq]at e;cases e
  exact⟨_,getElem?_eq_getElem hlt,l⟩
 have l1:=led p (mem_of_getElem? hp);have l2:=led q (mem_of_getElem? hq);have o1:=ok p (mem_of_getElem? hp);have o2:=ok q (mem_of_getElem? hq);show wpAny _ _ (keyLt' _ (vs.getD i Value.none) (vs.getD j Value.none)) C _ s;rw[getD_eq_getElem?_getD,hu1,getD_eq_getElem?_getD,hv1,kt];cases lu with
 | @tup _ us xs t1 r1=>
  cases lv with
  | @tup _ vs' ys t2 r2=>
   obtain⟨oa,ga,_,na,da⟩:=t1;obtain⟨ob,gb,_,nb,db⟩:=t2;refine kat_lt ga da gb db ?_;have o1:xs.all (qO n)=true:=o1;have o2:ys.all (qO n)=true:=o2;have key:∀x∈xs,∀y∈ys,∀u v,Lies s.heap x u->Lies s.heap y v->SeqAt.EqAt A s u v (eB x y)/\∀b,jD n x y=some b->EB A s u v b:=fun x hx y hy u v a b=>
    ⟨FY n A hu (all_eq_true.mp o1 x hx) (all_eq_true.mp o2 y hy) a b,fun c hc=>BB n A hu (all_eq_true.mp o1 x hx) (all_eq_true.mp o2 y hy) a b hc⟩
   have hc:fI (jD n) xs ys=some c:=hc;cases r1 with
   |nil=>cases l1
   | @cons x u0 xs us a1 a2=>
    cases r2 with
    |nil=>cases l2
    | @cons y v0 ys vs' b1 b2=>
     obtain⟨he,_⟩:=key x mem_cons_self y mem_cons_self _ _ a1 b1;refine kat_cons (he prog w _ _ ?_);unfold fI at hc;cases e:eB x y with
     |true=>
      rw[if_pos e]at hc;exact kat_yes (FO 1 (le_refl _) a2 b2 (fun a ha b hb=>key a (mem_cons_of_mem _ ha) b (mem_cons_of_mem _ hb)) (by simp) hc hC)
     | false=>
      rw[if_neg (by rw[e];exact Bool.false_ne_true)]at hc;refine kat_no ?_;cases x with
      | str x=>
       cases y with
       |str y=>
        have hc:some (decide (x.cps.toList<y.cps.toList))=some c:=by cases n<;>exact hc
        cases hc;cases a1;cases b1;exact oneLt_str hC
       |int y=>cases b<;>cases l1<;>cases l2
       |_=>cases l2
      | int x=>
       cases y with
       |int y=>
        have hc:some (decide (x<y))=some c:=by cases n<;>exact hc
        cases hc;cases a1;cases b1;exact oneLt_int hC
       |str y=>cases b<;>cases l1<;>cases l2
       |_=>cases l2
      |_=>cases l1
  |_=>cases l2
 |_=>cases l1
end
noncomputable def p5:Nat->PV->Bool
 |_,.aP=>true
 |_,.int _=>true
 |_,.str _=>true
 |n+1,.tup ps=>ps.all (p5 n)
 |_,_=>false
theorem sY:∀{n:Nat} {p:PV},p5 n p=true->qO n p=true:=by
 intro n
 induction n with
 |zero=>intro p h;cases p<;>first|rfl|cases h
 |succ n ih=>
  intro p h;cases p with
  |tup ps=>exact all_eq_true.mpr fun x hx=>ih (all_eq_true.mp h x hx)
  |lst ps=>cases h
  |tK ps=>cases h
  |ty x=>cases h
  |bl x=>cases h
  |_=>rfl
theorem C5 (ih:∀{p q:PV},p5 n p=true->p5 n q=true->eB p q=true->p=q):∀{xs ys:List PV},xs.all (p5 n)=true->ys.all (p5 n)=true->fT xs ys=true->xs=ys
 |[],[],_,_,_=>rfl
 |[],_::_,_,_,h=>by simp[fT]at h
 |_::_,[],_,_,h=>by simp[fT]at h
 |x::xs,y::ys,h1,h2,h=>by
  simp only[fT,and_eq_true]at h;rw[all_cons,and_eq_true]at h1 h2;rw[ih h1.1 h2.1 h.1,C5 ih h1.2 h2.2 h.2]
theorem AD:∀{n:Nat} {p q:PV},p5 n p=true->p5 n q=true->eB p q=true->p=q:=by
 intro n
 induction n with
 |zero=>
  intro p q h1 h2 h;cases p<;>cases q<;>first|rfl|(cases h1;done)|(cases h2;done)|(simp[eB]at h;try subst h;try rfl)
 | succ n ih=>
  intro p q h1 h2 h;cases p with
  |tup xs=>
   cases q with
   |tup ys=>rw[nO]at h;rw[C5 ih h1 h2 h]
   |_=>simp[eB]at h
  |lst xs=>cases h1
  |tK xs=>cases h1
  |ty xs=>cases h1
  |bl xs=>cases h1
  |aP=>cases q<;>first|rfl|(simp[eB]at h)
  |int i=>cases q<;>first|(cases h2;done)|(simp[eB]at h;try subst h;try rfl)
  |str i=>cases q<;>first|(cases h2;done)|(simp[eB]at h;try subst h;try rfl)
theorem uX (ih:∀{p:PV},p5 n p=true->eB p p=true):∀{xs:List PV},xs.all (p5 n)=true->fT xs xs=true
 |[],_=>by simp[fT]
 |x::xs,h=>by
  rw[all_cons,and_eq_true]at h;simp only[fT,and_eq_true];exact⟨ih h.1,uX ih h.2⟩
theorem FD:∀{n:Nat} {p:PV},p5 n p=true->eB p p=true:=by
 intro n
 induction n with
 |zero=>intro p h;cases p<;>first|(simp[eB];done)|cases h
 |succ n ih=>
  intro p h;cases p with
  |tup xs=>rw[nO];exact uX ih h
  |lst xs=>cases h
  |tK xs=>cases h
  |ty xs=>cases h
  |bl xs=>cases h
  |_=>simp[eB]
noncomputable def code:Nat->PV->List Int
 |_,.str x=>x.cps.toList.map (fun c:Nat=>(c:Int)+1)++[0]
 |_,.int i=>[i]
 |n+1,.tup xs=>xs.flatMap (fun x=>1::code n x)++[0]
 |_,_=>[0]
noncomputable abbrev jF:List Int->List Int->Bool:=jN AE
theorem vN (a r r':List Int):jF (a++r) (a++r')=jF r r':=by
 induction a with
 |nil=>rfl
 |cons x a ih=>
  show gW AE x x (jF (a++r) (a++r'))=_;exact(g7 (A:=AE) (a:=x)).trans ih
theorem iK {x y:Int} {r r':List Int}:jF (x::r) (y::r')=if x=y then jF r r' else decide (x<y):=by
 show gW AE x y (jF r r')=_;rcases gF (A:=AE) x y with⟨a,b⟩|⟨a,b⟩|a
 .rw[fP a];have a:=of_decide_eq_true a;rw[if_neg (by omega),decide_eq_true a]
 .rw[jQ a];have a:=of_decide_eq_true a;rw[if_neg (by omega),decide_eq_false (by omega)]
 .subst a;rw[if_pos rfl];exact g7 (A:=AE) (a:=x)
theorem B6:∀(a b:List Nat) (r r':List Int),jF ((a.map fun c:Nat=>(c:Int)+1)++[0]++r) ((b.map fun c:Nat=>(c:Int)+1)++[0]++r')=if a=b then jF r r' else decide (a<b)
 |[],[],r,r'=>by
  rw[if_pos rfl];exact vN [0] r r'
 |[],y::b,r,r'=>by
  rw[if_neg (by simp)];show jF (0::r) (((y:Int)+1)::_)=_;rw[iK,if_neg (by omega),decide_eq_true (by omega)];exact(decide_eq_true (by simp)).symm
 |x::a,[],r,r'=>by
  rw[if_neg (by simp)];show jF (((x:Int)+1)::_) (0::r')=_;rw[iK,if_neg (by omega),decide_eq_false (by omega)];exact(decide_eq_false (by simp)).symm
 | x::a,y::b,r,r'=>by
  show jF (((x:Int)+1)::((a.map fun c:Nat=>(c:Int)+1)++[0]++r)) (((y:Int)+1)::((b.map fun c:Nat=>(c:Int)+1)++[0]++r'))=_;rw[iK,B6 a b r r']
  by_cases e:x=y
  .subst e;rw[if_pos rfl]
   by_cases e2:a=b
   .subst e2;rw[if_pos rfl,if_pos rfl]
   .rw[if_neg e2,if_neg (by simpa using e2)];congr 1;simp[List.cons_lt_cons_iff]
  .rw[if_neg (by omega),if_neg (by intro z;exact e (List.cons.inj z).1)]
   by_cases h:x<y
   .rw[decide_eq_true (show(x:Int)+1<y+1 by omega)];exact(decide_eq_true (List.cons_lt_cons_iff.mpr (.inl h))).symm
   .rw[decide_eq_false (show¬(x:Int)+1<y+1 by omega)];refine(decide_eq_false fun z=>?_).symm;rcases List.cons_lt_cons_iff.mp z with z|z
    .exact h z
    .exact e z.1
theorem yK (ih:∀{p q:PV} {b:Bool} (r r':List Int),p5 n p=true->p5 n q=true->jD n p q=some b->jF (code n p++r) (code n q++r')=if eB p q=true then jF r r' else b):
  ∀{xs ys:List PV} {b:Bool} (r r':List Int),xs.all (p5 n)=true->ys.all (p5 n)=true->fI (jD n) xs ys=some b->
   jF (xs.flatMap (fun x=>1::code n x)++[0]++r) (ys.flatMap (fun x=>1::code n x)++[0]++r')=if fT xs ys=true then jF r r' else b
 |[],[],b,r,r',_,_,h=>by
  rw[if_pos (by simp[fT])];exact vN [0] r r'
 |[],y::ys,b,r,r',_,_,h=>by
  cases h;rw[if_neg (by simp[fT])];show jF (0::r) (1::_)=_;rw[iK];rfl
 |x::xs,[],b,r,r',_,_,h=>by
  cases h;rw[if_neg (by simp[fT])];show jF (1::_) (0::r')=_;rw[iK];rfl
 | x::xs,y::ys,b,r,r',h1,h2,h=>by
  rw[all_cons,and_eq_true]at h1 h2;have e1:∀(z:PV) (zs:List PV) (w:List Int),(z::zs).flatMap (fun x=>1::code n x)++[0]++w=1::(code n z++(zs.flatMap (fun x=>1::code n x)++[0]++w)):=fun z zs w=>by simp
  rw[e1,e1,iK,if_pos rfl];unfold fI at h;cases e:eB x y with
  |true=>
   rw[if_pos e]at h;have exy:=AD h1.1 h2.1 e;subst exy;rw[vN,yK ih r r' h1.2 h2.2 h];simp only[fT,e,Bool.true_and]
  |false=>
   rw[if_neg (by rw[e];exact Bool.false_ne_true)]at h;rw[ih _ _ h1.1 h2.1 h,if_neg (by rw[e];exact Bool.false_ne_true),if_neg (by simp[fT,e])]
theorem LN:∀{n:Nat} {p q:PV} {b:Bool} (r r':List Int),p5 n p=true->p5 n q=true->jD n p q=some b->jF (code n p++r) (code n q++r')=if eB p q=true then jF r r' else b:=by
 have str:∀{n:Nat} {x y:Str} {b:Bool} (r r':List Int),jD n (.str x) (.str y)=some b->jF (code n (.str x)++r) (code n (.str y)++r')=if eB (.str x) (.str y)=true then jF r r' else b:=fun{n x y b} r r' h=>by
  have h:some (decide (x.cps.toList<y.cps.toList))=some b:=by cases n<;>exact h
  cases h;have e1:∀z:Str,code n (.str z)=z.cps.toList.map (fun c:Nat=>(c:Int)+1)++[0]:=fun z=>by cases n<;>rfl
  rw[e1,e1,B6]
  by_cases e:x=y
  .subst e;rw[if_pos rfl,if_pos (by simp[eB])]
  .rw[if_neg (fun z=>e (CC z)),if_neg (by simpa [eB]using e)]
 have int:∀{n:Nat} {x y:Int} {b:Bool} (r r':List Int),jD n (.int x) (.int y)=some b->jF (code n (.int x)++r) (code n (.int y)++r')=if eB (.int x) (.int y)=true then jF r r' else b:=fun{n x y b} r r' h=>by
  have h:some (decide (x<y))=some b:=by cases n<;>exact h
  cases h;have e1:∀z:Int,code n (.int z)=[z]:=fun z=>by cases n<;>rfl
  rw[e1,e1];show jF (x::r) (y::r')=_;rw[iK]
  by_cases e:x=y
  .subst e;rw[if_pos rfl,if_pos (by simp[eB])]
  .rw[if_neg e,if_neg (by simpa [eB]using e)]
 intro n
 induction n with
 | zero=>
  intro p q b r r' h1 h2 h;cases p with
  |str x=>cases q with
   |str y=>exact str r r' h
   |_=>cases h
  |int x=>cases q with
   |int y=>exact int r r' h
   |_=>cases h
  |_=>cases q<;>cases h
 | succ n ih=>
  intro p q b r r' h1 h2 h;cases p with
  |str x=>cases q with
   |str y=>exact str r r' h
   |_=>cases h
  |int x=>cases q with
   |int y=>exact int r r' h
   |_=>cases h
  | tup xs=>cases q with
   |tup ys=>
    rw[nO];exact yK ih r r' h1 h2 h
   |_=>cases h
  |_=>cases q<;>cases h
theorem BW (ih:∀{p q:PV},jD n p q=some false->jD n q p=some false->eB p q=true) (sym:∀p q:PV,eB p q=eB q p):∀{xs ys:List PV},fI (jD n) xs ys=some false->fI (jD n) ys xs=some false->fT xs ys=true
 |[],[],_,_=>by simp[fT]
 |[],_::_,h,_=>by cases h
 |_::_,[],_,h=>by cases h
 | x::xs,y::ys,h,h'=>by
  unfold fI at h h';rw[sym y x]at h';cases e:eB x y with
  |true=>
   rw[if_pos e]at h h';simp only[fT,e,Bool.true_and];exact BW ih sym h h'
  |false=>
   rw[if_neg (by rw[e];exact Bool.false_ne_true)]at h h';rw[ih h h']at e;cases e
mutual
theorem C2:∀p q:PV,eB p q=eB q p
 | .aP,q=>by cases q<;>simp[eB]
 | .bl a,q=>by cases q<;>simp only[eB]<;>(rw[Bool.eq_iff_iff,beq_iff_eq,beq_iff_eq];exact eq_comm)
 | .int a,q=>by cases q<;>simp only[eB]<;>(rw[Bool.eq_iff_iff,beq_iff_eq,beq_iff_eq];exact eq_comm)
 | .str a,q=>by cases q<;>simp only[eB]<;>(rw[Bool.eq_iff_iff,beq_iff_eq,beq_iff_eq];exact eq_comm)
 | .ty a,q=>by cases q<;>simp[eB]
 | .tK a,q=>by cases q<;>simp[eB]
 | .tup xs,q=>by
  cases q with
  |tup ys=>simp only[eB];exact qU xs ys
  |_=>simp[eB]
 | .lst xs,q=>by
  cases q with
  |lst ys=>simp only[eB];exact qU xs ys
  |_=>simp[eB]
theorem qU:∀xs ys:List PV,fT xs ys=fT ys xs
 |[],ys=>by cases ys<;>simp[fT]
 |x::xs,[]=>by simp[fT]
 |x::xs,y::ys=>by simp only[fT];rw[C2 x y,qU xs ys]
end
theorem VA:∀{n:Nat} {p q:PV},jD n p q=some false->jD n q p=some false->eB p q=true:=by
 have str:∀{x y:Str},¬x.cps.toList<y.cps.toList->¬y.cps.toList<x.cps.toList->eB (.str x) (.str y)=true:=fun h h'=>by
  have e:=List.le_antisymm (not_lt.mp h') (not_lt.mp h);rw[CC e];simp[eB]
 have int:∀{x y:Int},¬x<y->¬y<x->eB (.int x) (.int y)=true:=fun h h'=>by
  have e:_=_:=Int.le_antisymm (Int.not_lt.mp h') (Int.not_lt.mp h);rw[e];simp[eB]
 intro n
 induction n with
 | zero=>
  intro p q h h';cases p with
  |str x=>cases q with
   |str y=>exact str (of_decide_eq_false (Option.some.inj h)) (of_decide_eq_false (Option.some.inj h'))
   |_=>cases h
  |int x=>cases q with
   |int y=>exact int (of_decide_eq_false (Option.some.inj h)) (of_decide_eq_false (Option.some.inj h'))
   |_=>cases h
  |_=>cases q<;>cases h
 | succ n ih=>
  intro p q h h';cases p with
  |str x=>cases q with
   |str y=>exact str (of_decide_eq_false (Option.some.inj h)) (of_decide_eq_false (Option.some.inj h'))
   |_=>cases h
  |int x=>cases q with
   |int y=>exact int (of_decide_eq_false (Option.some.inj h)) (of_decide_eq_false (Option.some.inj h'))
   |_=>cases h
  |tup xs=>cases q with
   |tup ys=>rw[nO];exact BW ih C2 h h'
   |_=>cases h
  |_=>cases q<;>cases h
noncomputable def fZ (n:Nat) (ps:List PV):Bool:=ps.all fun p=>p5 n p && ps.all fun q=>(jD n p q).isSome
noncomputable abbrev tS:KeyOrd:=RS AE
noncomputable def vM (n:Nat) (a b:PV):Bool:=!jF (code n b) (code n a)
noncomputable def tU (n:Nat) (ps:List PV):List PV:=ps.mergeSort (vM n)
theorem EO (a b c:PV) (h1:vM n a b=true) (h2:vM n b c=true):vM n a c=true:=by
 unfold vM at*;rw[not_eq_true']at*;exact KeyOrd.kle_trans (O:=tS) h1 h2
theorem DB {n:Nat} (a b:PV):(vM n a b||vM n b a)=true:=by
 unfold vM;rcases gF (A:=tS) (code n a) (code n b)with⟨x,y⟩|⟨x,y⟩|x
 .rw[show jF (code n b) (code n a)=false from y];rfl
 .rw[show jF (code n a) (code n b)=false from y];simp
 .rw[x,show jF (code n b) (code n b)=false from tS.irrefl _];rfl
theorem fF (n:Nat) (ps:List PV):(tU n ps).Perm ps:=List.mergeSort_perm ps (vM n)
theorem nZ (n:Nat) (ps:List PV):(tU n ps).Pairwise fun a b=>vM n a b=true:=List.pairwise_mergeSort EO DB ps
theorem kK:∀{a b:List PV},a.Pairwise (fun x y=>vM n x y=true)->b.Pairwise (fun x y=>vM n x y=true)->a.Perm b->(∀x∈a,∀y∈a,vM n x y=true->vM n y x=true->x=y)->a=b
 |[],b,_,_,p,_=>List.Perm.nil_eq p
 |x::a,[],_,_,p,_=>absurd p.symm.nil_eq (by simp)
 | x::a,y::b,ha,hb,p,an=>by
  have hx:=(pairwise_cons.mp ha).1;have hy:=(pairwise_cons.mp hb).1;have e:x=y:=by
   rcases mem_cons.mp (p.mem_iff.mp mem_cons_self)with z|z
   .exact z
   .rcases mem_cons.mp (p.mem_iff.mpr mem_cons_self)with w|w
    .exact w.symm
    .exact an x mem_cons_self y (mem_cons_of_mem _ w) (hx y w) (hy x z)
  subst e;rw[kK (pairwise_cons.mp ha).2 (pairwise_cons.mp hb).2 p.cons_inv fun u hu v hv=>an u (mem_cons_of_mem _ hu) v (mem_cons_of_mem _ hv)]
theorem nJ (h:fZ n ps=true) {p q:PV} (hp:p∈ps) (hq:q∈ps):jD n p q=some (jF (code n p) (code n q)):=by
 have a:=all_eq_true.mp h p hp;have b:=all_eq_true.mp h q hq;rw[and_eq_true]at a b;have c:=all_eq_true.mp a.2 q hq;obtain⟨v,e⟩:=isSome_iff_exists.mp c;have c':=all_eq_true.mp b.2 p hp;obtain⟨v',e'⟩:=isSome_iff_exists.mp c';have k:=LN [] [] a.1 b.1 e;rw[append_nil,append_nil]at k;rw[e,k];cases z:eB p q with
 |false=>rw[if_neg Bool.false_ne_true]
 | true=>
  rw[if_pos rfl];have epq:=AD a.1 b.1 z;subst epq;rw[e]at e';cases e';show some v=some false;have irr:∀{m:Nat} {p:PV} {v:Bool},p5 m p=true->jD m p p=some v->v=false:=by
   intro m p v hp h;cases v with
   |false=>rfl
   | true=>
    exfalso;cases m with
    |zero=>
     cases p with
     |str x=>exact absurd (of_decide_eq_true (Option.some.inj h)) (lt_irrefl _)
     |int x=>exact absurd (of_decide_eq_true (Option.some.inj h)) (by omega)
     |_=>cases h
    | succ m=>
     cases p with
     |str x=>exact absurd (of_decide_eq_true (Option.some.inj h)) (lt_irrefl _)
     |int x=>exact absurd (of_decide_eq_true (Option.some.inj h)) (by omega)
     | tup xs=>
      have key:∀{l:List PV},l.all (p5 m)=true->fI (jD m) l l=some false:=by
       intro l
       induction l with
       |nil=>intro _;rfl
       |cons x l ih=>
        intro hl;rw[all_cons,and_eq_true]at hl;unfold fI;rw[if_pos (FD hl.1)];exact ih hl.2
      have:=key (show xs.all (p5 m)=true from hp);rw[show fI (jD m) xs xs=some true from h]at this;cases this
     |_=>cases h
  rw[irr a.1 e]
theorem zX (h:fZ n ps=true) {p q:PV} (hp:p∈ps) (hq:q∈ps) (h1:vM n p q=true) (h2:vM n q p=true):p=q:=by
 have a:=all_eq_true.mp h p hp;have b:=all_eq_true.mp h q hq;rw[and_eq_true]at a b;unfold vM at h1 h2;rw[not_eq_true']at h1 h2;refine AD a.1 b.1 (VA (n:=n) ?_ ?_)
 .rw[nJ h hp hq,h2]
 .rw[nJ h hq hp,h1]
section
variable {X:Cx} {k:Nat}
def NZ (K:Frag):List V->Hp->VK->Prop:=fun xs H Q=>∃p ys ps b,xs=[.ref p]/\bC K H p ys/\i3 K J1 H ps ys/\ys.length<64/\(∀x∈ps,xO b x=true)/\fZ 3 ps=true/\
 ∀l (ix:List Nat),ix.Perm (List.range ps.length)->(ix.map fun i=>ps.getD i .aP).Pairwise (fun a b=>vM 3 a b=true)->H l=none->Q (.ref l) (upd H l (.lst (ix.map fun i=>ys.getD i .aP)))
theorem u7 {b:Bool}:∀{ps:List PV} {vs:List Value},cM s.heap ps vs->(∀x∈ps,xO b x=true)->∃fs,KatTups s.heap vs fs/\fs.length=vs.length/\∀v∈fs,(∃x t,b=true/\v= .str x t)\/ ∃x t,b=false/\v= .int x t
 |[],_,.nil,_=>⟨[],.nil,rfl,fun _ h=>nomatch h⟩
 | p::ps,_,.cons l r,h=>by
  obtain⟨fs,h1,h2,h3⟩:=u7 r fun z hz=>h z (mem_cons_of_mem _ hz)
  have hp:=h p mem_cons_self;cases l with
  | tup t1 r1=>
   obtain⟨o,g1,g2,m,g3⟩:=t1;cases r1 with
   |nil=>cases hp
   | cons a1 a2=>
    cases a1 with
    |str x t=>
     refine⟨.str x t::fs,.cons g1 g2 g3 (by simp) h1,by rw[length_cons,length_cons,h2],fun v hv=>?_⟩;rcases mem_cons.mp hv with e|e
     .exact .inl ⟨x,t,hp,e⟩
     .exact h3 v e
    |int x t=>
     refine⟨.int x t::fs,.cons g1 g2 g3 (by simp) h1,by rw[length_cons,length_cons,h2],fun v hv=>?_⟩;rcases mem_cons.mp hv with e|e
     .exact .inr ⟨x,t,by simpa [xO]using hp,e⟩
     .exact h3 v e
    |_=>cases hp
  |_=>cases hp
theorem HG {P:Program} {b:Bool} {vs:List Value} (hL:cM s.heap ps vs) (hu:A.units+2<cLine) (led:∀x∈ps,xO b x=true) (ok:∀x∈ps,qO 3 x=true) (cmp:fZ 3 ps=true) (h2:2<=vs.length):
  vI P w A vs (fun p=>kI tS (fun i=>code 3 (ps.getD i .aP)) p vs.length) s:=by
 have hl:=hL.length;obtain⟨fs,k1,k2,k3⟩:=u7 hL led;refine⟨tuples' (Value.type (NM b) !=Value.type "tuple"),fun Q E q=>kat_kind k1 (by omega) (fun v hv=>?_) (by cases b<;>decide) q,fun G hG=>oO.run (n:=vs.length) (ans:=B9 tS (fun i=>code 3 (ps.getD i .aP))) (fun i j C hi hj hC=>?_) (fun p h1 h2=>hG p h1 h2) (LQ (by omega)) (OT (by omega))⟩
 .rcases k3 v hv with⟨x,t,rfl,rfl⟩|⟨x,t,rfl,rfl⟩
  .exact Looks.of_pure rfl
  .exact Looks.of_pure rfl
 .have e1:ps[i]? =some ps[i]:=getElem?_eq_getElem (by omega);have e2:ps[j]? =some ps[j]:=getElem?_eq_getElem (by omega);refine TK (n:=2) hL hu led ok e1 e2 (nJ cmp (getElem_mem _) (getElem_mem _)) ?_;have hC:C (tS.blt (code 3 (ps.getD i .aP)) (code 3 (ps.getD j .aP))) _:=hC;rw[getD_eq_getElem?_getD,e1,getD_eq_getElem?_getD,e2]at hC;exact hC
theorem ND {p:Array Nat} {m:Nat} (h:kI tS (fun i=>code 3 (ps.getD i .aP)) p m) (hm:p.toList.length=m):(p.toList.map fun i=>ps.getD i .aP).Pairwise (fun a b=>vM 3 a b=true):=by
 rw[List.pairwise_iff_getElem];intro i j hi hj hij;rw[length_map]at hi hj;have h:=h i j (by omega) (by omega);rw[List.getElem_map,List.getElem_map];have ky:∀(i:Nat) (hi:i<p.toList.length),Ky tS (fun i=>code 3 (ps.getD i .aP)) p i=code 3 (ps.getD p.toList[i] .aP):=fun i hi=>by
  unfold Ky;rw[Array.getD_eq_getD_getElem?,<-getElem?_toList,getElem?_eq_getElem hi];rfl
 rw[ky i hi,ky j hj]at h;show(!jF _ _)=true;rw[not_eq_true'];exact h
theorem OV (K:Frag) (hr:d6 k X.A) (hK:X.K=K:=by rfl):dW X (.builtin "sorted") (NZ K):=by
 subst hK;intro pins s σ H xs us Q I r ⟨p,ys,ps,b,e,hq,rp,h64,led,cmp,q⟩;subst e;obtain⟨u,rfl,rx⟩:=vals1 r;cases rx;obtain⟨vs,rv,pl,hz⟩:=I.list hq;have hlen:=rv.length;have hpl:=rp.length;have ok:∀x∈ps,qO 3 x=true:=fun x hx=>by
  have:=all_eq_true.mp cmp x hx;rw[and_eq_true]at this;exact sY this.1
 refine yO (R:=fun p=>kI tS (fun i=>code 3 (ps.getD i .aP)) p vs.length) pl.isList (by omega) (fun l2 h' kp=>?_) (fun h2 i j a b=>?_) fun out p h1 h2 h3=>?_
 .have I':=I.kept (t':=s.toks) kp;have hL:cM h' ps vs:=i3.lies I' (n:=3) (all_eq_true.mpr ok) rp rv;exact HG (s:={s with heap:=h'}) hL (by have:=hr.un;show X.A.units+1+1+2<_;omega) led ok cmp l2
 .rw[show i=j by omega];exact KeyOrd.kle_refl _
 .have hp:p.toList.Perm (List.range vs.length):=by simpa using perm_iff_toList_perm.mp h1
  have hlt:∀i∈p.toList,i<vs.length:=fun i hi=>mem_range.mp (hp.mem_iff.mp hi)
  have z2:=mM rv p.toList hlt;rw[<-h3]at z2;have hpz:p.toList.length=vs.length:=by rw[hp.length_eq,length_range]
  obtain⟨c,hat⟩:=sortedAll_at s.heap vs out;refine⟨.ref (s.heap.objs.size+1),_,I.laid (t':=s.toks) (o:=.lst (p.toList.map fun i=>ys.getD i .aP)) (fun b o e=>sortedAll_old e) (le_succ _) ⟨by rw[length_map,hpz,<-hlen];exact hz,out.toList,c,z2,hat⟩,rfl,q _ _ (by rw[hpl,hlen];exact hp) (ND h2 hpz) (I.bH.fresh (le_succ _))⟩
end
end Mr
namespace L2
open PySem PySem.Spec PyProof.Rows
variable {a d l:Addr} {es:Array DictEntry} {h:Heap} {H:Hp} {xs:List (List NK×Addr×Value)} {kvs:List NE} {ep:Nat} {od:Obj}
inductive NK where
 |k (x:Key)
 |t (xs:List NK)
noncomputable instance:DecidableEq NK:=fun a b=>Classical.propDecidable _
mutual
inductive w9 (h:Heap):NK->Value->Prop
 |k {x:Key} {v:Value}:gC x v=true->w9 h (.k x) v
 |t {xs:List NK} {a:Addr} {us:List Value}:IsTup h a us.toArray->IsL h xs us->w9 h (.t xs) (.ref a)
inductive IsL (h:Heap):List NK->List Value->Prop
 |nil:IsL h [] []
 |cons {x:NK} {v:Value} {xs:List NK} {vs:List Value}:w9 h x v->IsL h xs vs->IsL h (x::xs) (v::vs)
end
mutual
noncomputable def uI:NK->Nat
 | .k _=>0
 | .t xs=>p8 xs+1
noncomputable def p8:List NK->Nat
 |[]=>0
 |x::xs=>max (uI x) (p8 xs)
end
mutual
noncomputable def oD (w:World):NK->Int
 | .k x=>PY w x
 | .t xs=>reduceHash (Builtin.Tuple.tupleHashOf (mC w xs))
noncomputable def mC (w:World):List NK->List Int
 |[]=>[]
 |x::xs=>oD w x::mC w xs
end
mutual
noncomputable def J0:NK->Nat
 | .k _=>1
 | .t xs=>HK xs+1
noncomputable def HK:List NK->Nat
 |[]=>0
 |x::xs=>J0 x+HK xs
end
theorem L5 (w:World) (x:NK) (xs:List NK):mC w (x::xs)=oD w x::mC w xs:=by rw[mC]
theorem L8 (w:World):mC w []=[]:=by rw[mC]
theorem Q7 (x:NK) (xs:List NK):HK (x::xs)=J0 x+HK xs:=by rw[HK]
theorem R9:HK []=0:=by rw[HK]
theorem M8 (x:NK) (xs:List NK):p8 (x::xs)=max (uI x) (p8 xs):=by rw[p8]
theorem t9 (xs:List NK):uI (.t xs)=p8 xs+1:=by rw[uI]
theorem J6 (w:World) (xs:List NK):oD w (.t xs)=reduceHash (Builtin.Tuple.tupleHashOf (mC w xs)):=by rw[oD]
theorem QX (xs:List NK):J0 (.t xs)=HK xs+1:=by rw[J0]
theorem IsL.length:∀{xs:List NK} {vs:List Value},IsL h xs vs->xs.length=vs.length
 |_,_,.nil=>rfl
 |_,_,.cons _ r=>by rw[length_cons,length_cons,r.length]
theorem IsL.get:∀{xs:List NK} {vs:List Value} {j:Nat} {v:Value},IsL h xs vs->vs[j]? =some v->∃x,xs[j]? =some x/\w9 h x v
 |_,_,_,_,.nil,e=>by simp at e
 |_,_,0,_,.cons i _,e=>by simp at e;subst e;exact⟨_,rfl,i⟩
 |_,_,j+1,_,.cons _ r,e=>by simpa using r.get (j:=j) (by simpa using e)
theorem AZ {x:NK}:∀{xs:List NK},x∈xs->uI x<=p8 xs
 |y::xs,h=>by
  unfold p8;rcases mem_cons.mp h with rfl|h
  .exact Nat.le_max_left _ _
  .exact le_trans (AZ h) (Nat.le_max_right _ _)
theorem HA {us vs:List Value} (x:IsTup h a us.toArray) (y:IsTup h a vs.toArray):us=vs:=by
 obtain⟨o,e,c,n,d⟩:=x;obtain⟨o',e',c',n',d'⟩:=y;rw[e]at e';cases e'
 rw[d]at d';cases d';rfl
theorem CB {a b:Key} {v:Value} (ha:gC a v=true) (hb:gC b v=true):a=b:=by
 rcases bB ha with⟨i,t,rfl,rfl⟩|⟨x,t,rfl,rfl⟩<;>rcases bB hb with⟨j,u,rfl,e⟩|⟨y,u,rfl,e⟩<;>cases e<;>rfl
theorem oT {a:Key} (h:gC a (.ref l)=true):False:=by rcases bB h with⟨_,_,_,e⟩|⟨_,_,_,e⟩<;>cases e
theorem w9.inj:∀{n:Nat} {x y:NK} {v:Value},uI x<=n->w9 h x v->w9 h y v->x=y:=by
 intro n
 induction n with
 | zero=>
  intro x y v hd hx hy;cases hx with
  |k hk=>
   cases hy with
   |k hk'=>rw[CB hk hk']
   |t _ _=>exact(oT hk).elim
  |t p l=>unfold uI at hd;omega
 | succ n ih=>
  intro x y v hd hx hy;cases hx with
  |k hk=>
   cases hy with
   |k hk'=>rw[CB hk hk']
   |t _ _=>exact(oT hk).elim
  | @t xs a us p l=>
   cases hy with
   |k hk=>exact(oT hk).elim
   | @t ys _ vs p' l'=>
    obtain rfl:=HA p p';have hd':p8 xs<=n:=by unfold uI at hd;omega
    have key:∀{xs ys:List NK} {us:List Value},p8 xs<=n->IsL h xs us->IsL h ys us->xs=ys:=by
     intro xs
     induction xs with
     |nil=>intro ys us _ l1 l2;cases l1;cases l2;rfl
     | cons x xs ihx=>
      intro ys us hd l1 l2;cases l1 with
      | cons i1 r1=>
       cases l2 with
       |cons i2 r2=>
        unfold p8 at hd;rw[ih (by omega) i1 i2,ihx (by omega) r1 r2]
    rw[key hd' l l']
section
variable {prog:Program} {w:World}
theorem L3:∀(n:Nat) {A:Around} {E:Value->Shared->Prop} {s:Shared} {x:NK} {v:Value} {Q:Int->Shared->Prop},uI x<=n->A.units+n<cLine->w9 s.heap x v->Q (oD w x) {s with toks:=s.toks+J0 x}->wpAny (model prog w) A (pyHash v) Q E s:=by
 intro n
 induction n with
 |zero=>
  intro A E s x v Q hd hu hx h;cases hx with
  |k hk=>exact(bA prog w).pyHash hk (by unfold oD J0 at h;exact h)
  |t p l=>unfold uI at hd;omega
 | succ n ih=>
  intro A E s x v Q hd hu hx h;cases hx with
  |k hk=>exact(bA prog w).pyHash hk (by unfold oD J0 at h;exact h)
  | @t xs a us p l=>
   have hT:s.TypeIs (.ref a) "tuple":=let⟨o,e,c,_⟩:=p;⟨o,e,c⟩
   have hd':p8 xs<=n:=by unfold uI at hd;omega
   obtain⟨o,ho,_,m,hdt⟩:=p;unfold pyHash
   first|unfold pyHashByItsType|skip
   first|refine wpAny_bind (wpAny_cRoomFor_or (.inr (by omega)) ?_)|skip
   refine wpAny_bind (wpAny_specialOf hT F.slot_tuple_hash.lookup ?_);show wpAny _ _ (if(some (Value.builtin "tuple.__hash__")==some Value.none)=true then _ else _) Q E s;rw[if_neg (show¬((some (Value.builtin "tuple.__hash__")==some Value.none)=true) by rw[beq_builtin_none];exact Bool.false_ne_true)];refine wpAny_bind (wpAny_specialOf hT F.slot_tuple_hash.lookup ?_);show wpAny _ _ (callSpecialIfBoundUnlessNone? (.ref a) "__hash__" _>>=_) Q E s;refine wpAny_bind (wpAny_callSpecialIfBoundUnlessNone?_slot hT F.slot_tuple_hash (wpAny_call_entry F.slot_tuple_hash hT F.entry_tuple_hash ?_ (F.args_tuple_hash_1 _)));show wpAny _ _ (Builtin.Tuple.tupleItemsOf (.ref a)>>=_) _ _ s;refine wpAny_bind (wpAny_tupleItemsOf ho hdt (wpAny_bind ?_));rw[<-Array.forIn_toList];have hin:A.in1.units=A.units+1:=rfl;refine wpAny_forIn_list _ (fun rest (b:Array Int) s'=>∃left,p8 left<=n/\IsL s.heap left rest/\mC w xs=b.toList++mC w left/\∃tk,s'={s with toks:=tk}/\tk+HK left=s.toks+HK xs) _ ?_ ?_ _ _ ⟨xs,hd',l,rfl,s.toks,rfl,rfl⟩
   .rintro y rest b s' ⟨left,hdl,hl,hb,tk,rfl,ht⟩;cases hl with
    | @cons z _ zs _ i r=>
     rw[M8]at hdl;refine wpAny_bind (ih (s:={s with toks:=tk}) (x:=z) (by omega) (by omega) i ?_);rw[L5]at hb;rw[Q7]at ht
     first
      |exact wpAny_pure ⟨zs,by omega,r,by rw[hb,toList_push];simp,tk+J0 z,rfl,by omega⟩
      |exact wpAny_bind (wpAny_pure (wpAny_pure ⟨zs,by omega,r,by rw[hb,toList_push];simp,tk+J0 z,rfl,by omega⟩))
   .rintro b s' ⟨left,hdl,hl,hb,tk,rfl,ht⟩;cases hl;rw[L8,append_nil]at hb;rw[R9]at ht;show wpAny _ _ (retInt (Builtin.Tuple.tupleHashOf b.toList)) _ _ _;rw[J6,QX,hb]at h;unfold reduceHash at h;refine wpAny_ret_mkInt ?_;show wpAny _ _ (if(decide (-(2:Int)^63<=Builtin.Tuple.tupleHashOf b.toList) && decide (Builtin.Tuple.tupleHashOf b.toList<2^63))=true then _ else _) Q E _;have e1:tk+1=s.toks+(HK xs+1):=by omega
    by_cases hr:(decide (-(2:Int)^63<=Builtin.Tuple.tupleHashOf b.toList) && decide (Builtin.Tuple.tupleHashOf b.toList<2^63))=true
    .rw[if_pos hr]at h⊢
     exact wpAny_pure (by rw[<-e1]at h;exact h)
    .rw[if_neg hr]at h⊢
     exact wpAny_bind (wpAny_rule (wpAny_pure (by rw[<-e1]at h;exact h)))
theorem Q4:∀(n:Nat) {A:Around} {s:Shared} {x y:NK} {u v:Value},uI x<=n->uI y<=n->A.units+n<cLine->w9 s.heap x u->w9 s.heap y v->SeqAt.EqAt A s u v (decide (x=y)):=by
 intro n;have flat:∀{A:Around} {s:Shared} {a b:Key} {u v:Value},gC a u=true->gC b v=true->SeqAt.EqAt A s u v (decide (NK.k a=NK.k b)):=by
  intro A s a b u v ha hb prog w E Q q;have e:decide (NK.k a=NK.k b)=decide (a=b):=by
   by_cases h:a=b
   .rw[h];simp
   .rw[decide_eq_false h,decide_eq_false fun z=>h (NK.k.inj z)]
  rw[e]at q;exact(bA prog w).eqBool ha hb q
 have mixL:∀{A:Around} {s:Shared} {a:Key} {xs:List NK} {u:Value} {l:Addr} {us:List Value},A.units<cLine->gC a u=true->IsTup s.heap l us.toArray->SeqAt.EqAt A s u (.ref l) (decide (NK.k a=NK.t xs))/\SeqAt.EqAt A s (.ref l) u (decide (NK.t xs=NK.k a)):=by
  intro A s a xs u l us hu ha p;rw[decide_eq_false (fun z=>nomatch z),decide_eq_false (fun z=>nomatch z)];rcases bB ha with⟨i,t,rfl,rfl⟩|⟨z,t,rfl,rfl⟩
  .exact⟨SeqAt.EqAt.int_tuple i t p hu,SeqAt.EqAt.tuple_int i t p hu⟩
  .exact⟨SeqAt.EqAt.str_tuple z t p hu,SeqAt.EqAt.tuple_str z t p hu⟩
 induction n with
 | zero=>
  intro A s x y u v hx hy hu ix iy;cases ix with
  |k ha=>cases iy with
   |k hb=>exact flat ha hb
   |t p l=>unfold uI at hy;omega
  |t p l=>unfold uI at hx;omega
 | succ n ih=>
  intro A s x y u v hx hy hu ix iy;cases ix with
  |k ha=>cases iy with
   |k hb=>exact flat ha hb
   |t p l=>exact(mixL (by omega) ha p).1
  | @t xs a us p l=>cases iy with
   |k hb=>exact(mixL (by omega) hb p).2
   | @t ys b vs p' l'=>
    have hdx:p8 xs<=n:=by unfold uI at hx;omega
    have hdy:p8 ys<=n:=by unfold uI at hy;omega
    have hin:A.in1.units=A.units+1:=rfl
    by_cases hab:a=b
    .subst hab;have e:NK.t xs=NK.t ys:=w9.inj (n:=n+1) hx (.t p l) (.t p' l');rw[decide_eq_true e];exact SeqAt.EqAt.same _
    .have l1:=l.length;have l2:=l'.length;have e:decide (NK.t xs=NK.t ys)=((List.range (min us.toArray.size vs.toArray.size)).all (fun j=>decide (xs[j]? =ys[j]?)) && us.toArray.size==vs.toArray.size):=by
      rw[size_toArray,size_toArray,<-l1,<-l2]
      by_cases hxy:xs=ys
      .subst hxy;simp
      .rw[decide_eq_false fun z=>hxy (NK.t.inj z)];symm;rw[Bool.and_eq_false_iff]
       by_cases hl:xs.length=ys.length
       .left;rw[List.all_eq_false];apply Classical.byContradiction;intro hno;apply hxy;apply List.ext_getElem?;intro j
        by_cases hj:j<xs.length
        .apply Classical.byContradiction;intro hne;exact hno ⟨j,mem_range.mpr (by omega),by simpa using hne⟩
        .rw[List.getElem?_eq_none (by omega),List.getElem?_eq_none (by omega)]
       .right;simpa using hl
     rw[e];refine SeqAt.EqAt.of_refs hab (SeqAt.RcAt.tuples (e:=fun j=>decide (xs[j]? =ys[j]?)) p p' (by omega) fun j h1 h2=>?_);obtain⟨x',ex,jx⟩:=l.get (j:=j) (v:=us.toArray[j]) (by simp at h1⊢);obtain⟨y',ey,jy⟩:=l'.get (j:=j) (v:=vs.toArray[j]) (by simp at h2⊢);have hh:=ih (A:=A.in1) (s:=s) (le_trans (AZ (mem_of_getElem? ex)) hdx) (le_trans (AZ (mem_of_getElem? ey)) hdy) (by omega) jx jy;have e2:decide (xs[j]? =ys[j]?)=decide (x'=y'):=by rw[ex,ey];simp
     show SeqAt.EqAt A.in1 s _ _ (decide (xs[j]? =ys[j]?));rw[e2];exact hh
end
section
variable {prog:Program} {w:World}
mutual
theorem w9.keeps {h h':Heap} (k:∀a us,IsTup h a us->IsTup h' a us):∀{x:NK} {v:Value},w9 h x v->w9 h' x v
 |_,_,.k e=>.k e
 |_,_,.t p l=>.t (k _ _ p) (l.keeps k)
theorem IsL.keeps {h h':Heap} (k:∀a us,IsTup h a us->IsTup h' a us):∀{xs:List NK} {vs:List Value},IsL h xs vs->IsL h' xs vs
 |_,_,.nil=>.nil
 |_,_,.cons i r=>.cons (i.keeps k) (r.keeps k)
end
theorem EX {h':Heap} {o:Obj} {es ep} (ho:h.get? d=some o) (hd:o.data= .dict es ep) (hs:Heap.SameBut d h h') (a:Addr) (us:Array Value) (x:IsTup h a us):IsTup h' a us:=by
 obtain⟨o',ho',hc,n,hd'⟩:=x;have hne:a≠d:=by
  rintro rfl;obtain rfl:o'=o:=Option.some.inj (ho'.symm.trans ho);rw[hd]at hd';exact nomatch hd'
 exact⟨o',(hs.2 a hne).trans ho',hc,n,hd'⟩
theorem IZ:∀(m:Nat) {A:Around} {E:Value->Shared->Prop} {s:Shared} {x:NK} {v:Value} {Q:Bool->Shared->Prop},uI x<=m->w9 s.heap x v->Q true s->wpAny (model prog w) A (eqIsQuiet m v) Q E s:=by
 have flat:∀{m:Nat} {A:Around} {E:Value->Shared->Prop} {s:Shared} {x:Key} {v:Value} {Q:Bool->Shared->Prop},gC x v=true->Q true s->wpAny (model prog w) A (eqIsQuiet m v) Q E s:=by
  intro m A E s x v Q hk h;rw[eqIsQuiet_byValue m ((bA prog w).byValue x v hk)];exact wpAny_pure h
 intro m
 induction m with
 |zero=>
  intro A E s x v Q hd hx h;cases hx with
  |k hk=>exact flat hk h
  |t p l=>rw[t9]at hd;omega
 | succ m ih=>
  intro A E s x v Q hd hx h;cases hx with
  |k hk=>exact flat hk h
  | @t xs a us p l=>
   have hT:s.TypeIs (.ref a) "tuple":=let⟨o,e,c,_⟩:=p;⟨o,e,c⟩
   have hd':p8 xs<=m:=by rw[t9]at hd;omega
   obtain⟨o,ho,_,n,hdt⟩:=p;unfold eqIsQuiet;refine wpAny_bind (wpAny_specialOf hT F.slot_tuple_eq.lookup ?_);show wpAny _ _ (isInstance (.ref a) (.type "tuple")>>=_) _ _ s;refine wpAny_bind (wpAny_isInstance hT isSubtype_tuple_tuple ?_);simp only[Bool.not_true,false_eq_true,if_false];refine wpAny_bind (wpAny_seqItems ho hdt ?_);refine wpAny_bind ?_;show wpAny _ _ (forIn us.toArray _ _) _ _ s;rw[<-Array.forIn_toList];refine wpAny_forIn_list _ (fun rest r s'=>r.1=none/\s'=s/\∃left,p8 left<=m/\IsL s.heap left rest) _ ?_ ?_ _ _ ⟨rfl,rfl,xs,hd',l⟩
   .rintro v rest r s' ⟨hr,rfl,left,hdl,hl⟩;cases hl with
    | @cons z _ zs _ i t=>
     rw[M8]at hdl;refine wpAny_bind (ih (x:=z) (by omega) i ?_);simp only[Bool.not_true,false_eq_true,if_false];exact wpAny_pure ⟨rfl,rfl,zs,by omega,t⟩
   .rintro⟨r1,r2⟩ s' ⟨hr,rfl,_⟩;simp only at hr;subst hr;exact wpAny_pure h
noncomputable def vD (prog:Program) (w:World):HeapKind prog w (List NK)where
 is:=fun h ks a=>w9 h (.t ks) (.ref a)/\p8 ks<=4
 hash:=fun ks=>oD w (.t ks)
 draws:=fun ks=>J0 (.t ks)
 room:=fun A=>A.units+6<cLine
 inj:=fun hx hy=>NK.t.inj (w9.inj (le_refl _) hx.1 hy.1)
 keeps:=fun x ho hd hs=>⟨x.1.keeps (EX ho hd hs),x.2⟩
 pyHash:=fun{A} _ _ _ _ _ hu hk h=>L3 5 (by rw[t9];have:=hk.2;omega) (by have:A.units+6<cLine:=hu;omega) hk.1 h
 eqBool:=fun{A E s x y a b Q} hu hx hy h=>by
  have hu:A.units+6<cLine:=hu;refine Q4 5 (by rw[t9];have:=hx.2;omega) (by rw[t9];have:=hy.2;omega) (by omega) hx.1 hy.1 prog w E Q ?_;have e:decide (NK.t x=NK.t y)=decide (x=y):=by
   by_cases z:x=y
   .rw[decide_eq_true z,decide_eq_true (congrArg NK.t z)]
   .rw[decide_eq_false z,decide_eq_false fun q=>z (NK.t.inj q)]
  rw[e];exact h
 quiet:=fun hk h=>IZ 8 (by rw[t9];have:=hk.2;omega) hk.1 h
end
mutual
inductive NB (H:Hp):NK->V->Prop
 |k {x:Key}:NB H (.k x) (kV x)
 |t {xs:List NK} {a:Addr} {us:List V}:H a=some (.tup us)->OE H xs us->NB H (.t xs) (.ref a)
inductive OE (H:Hp):List NK->List V->Prop
 |nil:OE H [] []
 |cons {x:NK} {v:V} {xs:List NK} {vs:List V}:NB H x v->OE H xs vs->OE H (x::xs) (v::vs)
end
section
variable {P:Program} {w:World} {H:Hp} {h:Heap}
mutual
theorem NB.is (ok:jL P w H h):∀{x:NK} {v:V} {u:Value},NB H x v->RelV v u->w9 h x u
 |_,_,_,.k,r=>.k (mH (P:=P) (w:=w) r)
 |_,_,_,.t p l,r=>by
  obtain⟨_,its,rs,q,_⟩:=(show cB P w H h _ (.tup _)from ok _ _ p);cases(show _=Value.ref _ from r);exact .t q (l.is ok rs)
theorem OE.is (ok:jL P w H h):∀{xs:List NK} {vs:List V} {us:List Value},OE H xs vs->Vals vs us->IsL h xs us
 |_,_,_,.nil,.nil=>.nil
 |_,_,_,.cons i r,.cons a b=>.cons (i.is ok a) (r.is ok b)
end
end
abbrev NE:=List NK×Addr×V
abbrev KN:List NE->List (List NK×Addr×Value)->Prop:=Paired fun p q=>p.1=q.1/\p.2.1=q.2.1/\RelV p.2.2 q.2.2
noncomputable def DN (w:World) (a:Addr) (kvs:List NE) (ep:Nat):HO:=.ext fun h=>(a==sysModules)=false/\kvs.length<=sizeLine/\∃xs,KN kvs xs/\∃o es,h.get? a=some o/\o.ExactDict/\o.data= .dict es ep/\es.toList=xs.map (fun x=>(⟨oD w (.t x.1),.ref x.2.1,x.2.2⟩:DictEntry))/\(xs.map (·.1)).Nodup
def KL (H:Hp) (kvs:List NE):Prop:=∀kv∈kvs,NB H (.t kv.1) (.ref kv.2.1)/\p8 kv.1<=4
noncomputable def MX (kvs:List NE) (k:List NK):Option V:=(kvs.find? fun x=>decide (x.1=k)).map (·.2.2)
noncomputable def putN (kvs:List NE) (k:List NK) (b:Addr) (v:V):List NE:=if(MX kvs k).isSome then kvs.map (fun x=>if x.1=k then(x.1,x.2.1,v)else x)else kvs++[(k,b,v)]
theorem KN.val (r:KN kvs xs) (k:List NK):nU (MX kvs k) ((atKey xs k).map (·.2)):=by
 induction r with
 |nil=>exact True.intro
 | @cons p q ps qs h t ih=>
  obtain⟨h1,_,h2⟩:=h
  by_cases e:p.1=k
  .have e':q.1=k:=h1.symm.trans e;have b:atKey (q::qs) k=some q.2:=by simp[atKey,find?_cons,e']
   have b2:MX (p::ps) k=some p.2.2:=by simp[MX,find?_cons,e]
   rw[b2,b];exact h2
  .have e':¬q.1=k:=fun z=>e (h1.trans z)
   have b:atKey (q::qs) k=atKey qs k:=by simp[atKey,find?_cons,e']
   have b2:MX (p::ps) k=MX ps k:=by simp[MX,find?_cons,e]
   rw[b2,b];exact ih
theorem KN.put (r:KN kvs xs) (k:List NK) (b:Addr) {y:V} {u:Value} (ry:RelV y u):KN (putN kvs k b y) (storedH xs k b u):=by
 have e:(MX kvs k).isSome=(atKey xs k).isSome:=by rw[(r.val k).iE,isSome_map]
 unfold putN storedH;rw[e]
 by_cases q:(atKey xs k).isSome=true
 .rw[if_pos q,if_pos q];clear e q
  induction r with
  |nil=>exact .nil
  | @cons p q ps qs h t ih=>
   rw[map_cons,map_cons];refine .cons ?_ ih;obtain⟨h1,h2,h3⟩:=h;unfold putAt
   by_cases e:p.1=k
   .rw[if_pos e,if_pos (h1.symm.trans e)];exact⟨h1,h2,ry⟩
   .rw[if_neg e,if_neg (fun z=>e (h1.trans z))];exact⟨h1,h2,h3⟩
 .rw[if_neg q,if_neg q];exact Paired.snoc r ⟨rfl,rfl,ry⟩
theorem xY (kvs:List NE) (k:List NK) (b:Addr) (v:V):(putN kvs k b v).length<=kvs.length+1:=by
 unfold putN;split
 .rw[length_map];omega
 .rw[length_append];exact le_refl _
section
variable {P:Program} {w:World} {H:Hp} {h:Heap} {a:Addr} {kvs:List NE} {ep:Nat}
theorem QU (ok:jL P w H h) (e:H a=some (DN w a kvs ep)) (hk:KL H kvs):(a==sysModules)=false/\kvs.length<=sizeLine/\∃xs,KN kvs xs/\h.DictOfH (vD P w) a xs:=by
 obtain⟨z,y,xs,r,o,es,h1,h2,h3,h4,h5⟩:=(show cB P w H h a (DN w a kvs ep)from ok a _ e).1;refine⟨z,y,xs,r,o,es,ep,h1,h2,h3,h4,fun x hx=>?_,h5⟩;have all:∀{l:List NE} {m:List (List NK×Addr×Value)},KN l m->KL H l->∀x∈m,(vD P w).is h x.1 x.2.1:=by
  intro l m q
  induction q with
  |nil=>intro _ x hx;exact nomatch hx
  | @cons p q ps qs hq t ih=>
   intro hk x hx;rcases mem_cons.mp hx with e|hx
   .subst e;obtain⟨g1,g2⟩:=hk p mem_cons_self;rw[<-hq.1,<-hq.2.1];exact⟨g1.is ok rfl,g2⟩
   .exact ih (fun kv h=>hk kv (mem_cons_of_mem _ h)) x hx
 exact all r hk x hx
theorem R8 {H:Hp} (z:(a==sysModules)=false) (y:kvs.length<=sizeLine) (r:KN kvs xs) (dd:h.DictOfH (vD P w) a xs):∃ep,cB P w H h a (DN w a kvs ep):=by
 obtain⟨o,es,ep,h1,h2,h3,h4,_,h5⟩:=dd;exact⟨ep,⟨z,y,xs,r,o,es,h1,h2,h3,h4,h5⟩,⟨o,h1⟩,fun g1 g2 ⟨z,y,xs,r,o,es,h1,h⟩ k=>⟨z,y,xs,r,o,es,k _ h1,h⟩⟩
end
def RB (w:World) (H:Hp) (a:Addr) (y v:V) (Q:Hp->Prop):Prop:=KH H a y v Q\/ ∃kvs ep b ks,H a=some (DN w a kvs ep)/\KL H kvs/\y= .ref b/\NB H (.t ks) (.ref b)/\p8 ks<=4/\kvs.length<sizeLine/\∀ep,Q (upd H a (DN w a (putN kvs ks b v) ep))
section
variable {X:Cx} {pins:List (Addr×Obj)} {σ:St} {H:Hp} {s:Shared} {a:Addr} {y v:V} {u r:Value} {A:Around} {E:Value->Shared->Prop}
theorem EL {Z:Hp->Prop} {Q:Unit->Shared->Prop} (hu:A.units+8<cLine) (I:Inv X pins σ H s) (g:RB X.w H a y v Z) (ry:RelV y u) (rv:RelV v r) (h:∀H' s',Inv X pins σ H' s'->Z H'->Q () s'):
  wpAny (model X.prog X.w) A (setItem (.ref a) u r) Q E s:=by
 rcases g with g|⟨kvs,ep,b,ks,e,hk,ey,hb,hd,hl,q⟩
 .exact uG (by omega) I g ry rv h
 .subst ey;cases(show u=Value.ref b from ry);obtain⟨z,y,xs,rel,dd⟩:=QU I.bH e hk;refine wpAny_setItem_heap (knd:=vD X.prog X.w) (hsz:=by rw[<-Paired.length rel];exact y) (show A.in1.units+6<cLine by show A.units+1+6<_;omega) ⟨hb.is I.bH rfl,hd⟩ dd fun h' dd' hs=>?_
  have he:∃q,h'.get? a=some q:=let⟨q,_,_,hq,_⟩:=dd';⟨q,hq⟩
  obtain⟨ep',ok⟩:=R8 (H:=upd H a (DN X.w a (putN kvs ks b v) 0)) z (show(putN kvs ks b v).length<=sizeLine by have:=xY kvs ks b v;omega) (rel.put ks b rv) dd';exact h _ _ (nS I (by rw[e];exact True.intro) hs he (ob:=DN X.w a (putN kvs ks b v) ep') ⟨ok.1,ok.2.1,ok.2.2⟩) (q ep')
end
def yT (w:World) (td ty tv:TE):TS:=fun D σ H=>tv σ H fun v H1=>td σ H1 fun x H2=>ty σ H2 fun y H3=>∃a,x= .ref a/\RB w H3 a y v (D.nx σ)
def yZ (w:World):TE:=fun _ H Q=>(∀p,H p=none->Q (.ref p) (upd H p (.dK [] 0)))\/ ∀p,H p=none->Q (.ref p) (upd H p (DN w p [] 0))
section
variable {X:Cx} {o i value:Expr} {pos pos':Pos} {td ty tv:TE} {k:Nat}
theorem LI (w:World) (hr:d6 k X.A) (ho:PE X o td) (hi:PE X i ty) (hv:PE X value tv) (hs:swapsWith value (some (.Subscript o i pos')) pos.line X.env=pure false) (hw:X.w=w:=by rfl):
  PS X (.Assign [.Subscript o i pos'] value pos) (yT w td ty tv):=by
 subst hw;intro pins s σ H D I h;refine wpAny_Assign_Subscript (bY (hv pins s σ H _ I h) fun r s1 ⟨v,H1,I1,rv,q1⟩=>bY (ho pins s1 σ H1 _ I1 q1) fun u s2 ⟨x,H2,I2,rx,q2⟩=>bY (hi pins s2 σ H2 _ I2 q2) fun iv s3 ⟨y,H3,I3,ry,a,ex,g⟩=>?_) hs;subst ex;obtain rfl:u=Value.ref a:=rx;exact EL (by have:=hr.un;omega) I3 g ry rv fun H4 s4 I4 q3=>⟨σ,H4,I4,q3⟩
theorem LF (w:World) (hw:X.w=w:=by rfl):PE X (.Dict [] [] pos) (yZ w):=by
 subst hw;intro pins s σ H Q I h;rcases h with h|h
 .exact dQ pins s σ H Q I h
 .refine wpAny_Dict_empty ⟨.ref s.heap.objs.size,_,I.laid (a:=s.heap.objs.size) (o:=DN X.w s.heap.objs.size [] 0) (t':=s.toks) (fun _ _ q=>get?_push_of_some _ q) (le_refl _) ?_,rfl,h _ (I.bH.fresh (le_refl _))⟩;have he:(s.heap.push {cls:=.type "dict",data:=.dict #[]}).get? s.heap.objs.size=some {cls:=.type "dict",data:=.dict #[]}:=get?_push_size _ rfl;refine⟨⟨beq_eq_false_iff_ne.mpr (Ne.symm (ne_of_lt I.big)),zero_le _,[],.nil,_, #[],he,⟨rfl,rfl,rfl⟩,rfl,rfl,nodup_nil⟩,⟨_,he⟩,fun g1 g2 ⟨z,y,xs,r,o,es,h1,h⟩ k=>⟨z,y,xs,r,o,es,k _ h1,h⟩⟩
end
section
variable {prog:Program} {w:World} {A:Around} {E:Value->Shared->Prop} {s:Shared}
theorem Q2 {Q:Value->Shared->Prop} (hd:(d==sysModules)=false) (ho:s.heap.get? d=some od) (hx:od.ExactDict) (hdat:od.data= .dict es ep)
  (hQ:Q (.ref s.heap.objs.size) {s with heap:=s.heap.push {cls:=.type "dict_keyiterator",data:=.fields #[.ref d,.int 0 0,.int es.size 0,.int ep 0]}}):
  wpAny (model prog w) A (pyIter (.ref d)) Q E s:=by
 have hT:s.TypeIs (.ref d) "dict":=⟨od,ho,hx.1⟩;refine wpAny_pyIter_slot hT F.slot_dict_iter (wpAny_call_entry F.slot_dict_iter hT F.entry_dict_iter ?_ (F.args_dict_iter_1 _));unfold Builtin.«dict.__iter__»;refine wpAny_bind ?_;unfold Builtin.Dict.dictSlotNone;refine wpAny_bind (wpAny_notOrdered_dict hT (wpAny_pure ?_));show wpAny _ _ (Builtin.Dict.showsAll d>>=_) _ _ s;unfold Builtin.Dict.showsAll;rw[if_neg (by rw[hd];exact Bool.false_ne_true)];refine wpAny_bind (wpAny_pure (wpAny_bind (wpAny_dictEntries ho hdat (wpAny_bind (wpAny_dictEpoch ho hdat (wpAny_bind (wpAny_newObj_type (wpAny_pure ⟨_,rfl,"dict_keyiterator",_,⟨_,get?_push_size _ rfl,rfl⟩,F.slot_dict_keyiterator_next.lookup,?_⟩))))))));simpa [rawInt]using hQ
theorem nextK {it:Addr} {i n:Nat} {Q:Option Value->Shared->Prop} (hh:A.handled=none) (hn:n=es.size) (hit:s.heap.IsKeyIter it d i n ep) (hod:s.heap.get? d=some od) (hdd:od.data= .dict es ep)
  (hQ:∀e h',es[i]? =some e->h'.IsKeyIter it d (i+1) n ep->Heap.SameBut it s.heap h'->Q (some e.key) {s with heap:=h'})
  (hN:es[i]? =none->∀h',Heap.ExtBut it s.heap h'->Q none {s with heap:=h'}):
  wpAny (model prog w) A (pyNext (.ref it)) Q E s:=by
 subst hn;obtain⟨o,ho,hc,hd⟩:=id hit;unfold pyNext;refine wpAny_bind (wpAny_attempt (wpAny_callSpecial?_slot (name:=Str.ofString "__next__") hit.typeIs F.slot_dict_keyiterator_next
  (wpAny_call_entry F.slot_dict_keyiterator_next hit.typeIs F.entry_dict_keyiterator_next ?_ (F.args_dict_keyiterator_next_1 _))))
 refine wpAny_bind (wpAny_pure ?_);refine wpAny_bind ?_;refine wpAny_bind ?_
 first|refine wpAny_bind (wpAny_typeNameOfWhole_keyiter hit.typeIs (wpAny_pure ?_))|refine wpAny_bind (wpAny_typeNameOf_keyiter hit.typeIs (wpAny_pure ?_))
 refine wpAny_bind (wpAny_fieldsOf ho hd ?_);have hown:Builtin.Dict_items.ownsTuple "dict_keyiterator"=false:=by decide
 simp only[hown,false_eq_true,if_false];show wpAny _ _ (if(Value.ref d==Value.none)=true then _ else _) _ _ s;rw[if_neg (show¬((Value.ref d==Value.none)=true)from Bool.false_ne_true)];refine wpAny_bind (wpAny_pure ?_);refine wpAny_bind (wpAny_dictEntries hod hdd ?_);rw[if_neg (by simp)];refine wpAny_bind (wpAny_pure ?_);refine wpAny_bind (wpAny_dictEpoch hod hdd ?_);rw[if_neg (by simp)];refine wpAny_pure ?_
 by_cases hlt:i<es.size
 .simp only[show¬((i:Int)<0)from by omega,if_false,toNat_natCast,Array.getElem?_eq_getElem hlt];refine wpAny_bind ?_
  first|refine wpAny_bind (wpAny_typeNameOfWhole_keyiter hit.typeIs (wpAny_pure ?_))|refine wpAny_bind (wpAny_typeNameOf_keyiter hit.typeIs (wpAny_pure ?_))
  refine wpAny_bind (wpAny_isOneOf_keyiter hit.typeIs ?_);show wpAny _ _ (setField (.ref it) 1 (rawInt ((i:Int)+1))>>=_) _ _ s;refine wpAny_bind (wpAny_setField ho hd (by simp) ?_);have hit':(s.heap.update it (Obj.mapFields (·.setIfInBounds 1 (rawInt ((i:Int)+1))))).IsKeyIter it d (i+1) es.size ep:=
   ⟨_,get?_update_self _ ho (Obj.isFreed_of_fields (Obj.data_mapFields hd _)),(Obj.cls_mapFields ..).trans hc,by rw[Obj.data_mapFields hd];simp[rawInt]⟩
  refine wpAny_bind (wpAny_holding ?_);refine wpAny_bind (wpAny_isOneOf_keyiter (s:={s with heap:=s.heap.update it (Obj.mapFields (·.setIfInBounds 1 (rawInt ((i:Int)+1))))}) hit'.typeIs ?_);show wpAny _ _ (pure es[i].key) _ _ _;exact wpAny_pure (wpAny_pure ⟨_,rfl,wpAny_pure (hQ _ _ (Array.getElem?_eq_getElem hlt) hit' (Heap.SameBut.update ..))⟩)
 .have hge:es.size<=i:=by omega
  simp only[show¬((i:Int)<0)from by omega,if_false,toNat_natCast,getElem?_eq_none hge];refine wpAny_bind ?_
  first|refine wpAny_bind (wpAny_typeNameOfWhole_keyiter hit.typeIs (wpAny_pure ?_))|refine wpAny_bind (wpAny_typeNameOf_keyiter hit.typeIs (wpAny_pure ?_))
  show wpAny _ _ (setField (.ref it) 0 .none>>=_) _ _ s;refine wpAny_bind (wpAny_setField ho hd (by simp) ?_);show wpAny _ _ (newExc (.type "StopIteration") []>>=_) _ _ _;refine wpAny_bind ?_;simp only[newExc,newTuple];refine wpAny_bind (wpAny_newObj_type ?_ (by size_fits));refine wpAny_bind (m:=firstArgMember _ _) (wpAny_of_eq (a:=Value.none) (by first|rfl|(simp only[firstArgMember];rfl)) ?_);refine wpAny_newObj_type ?_ (by size_fits);simp only[raiseNew];refine wpAny_bind (wpAny_handled ?_);rw[show A.in1.handled=none from hh];refine wpAny_bind (wpAny_pure (wpAny_throw ?_));refine wpAny_bind (wpAny_isInstance (T:="StopIteration") (b:=true) ⟨_,get?_push_size _ rfl,rfl⟩ isSubtype_stop ?_);exact wpAny_pure (hN (getElem?_eq_none hge) _ (((Heap.SameBut.update ..).extBut.push _).push _))
end
mutual
inductive QP (H:Hp):PyData->V->Prop
 |aP:QP H .none .aP
 |int (i:Int):QP H (.int i) (.int i)
 |str (x:Str):QP H (.str x) (.str x)
 |tup {a:Addr} {us:List V} {ds:List PyData}:H a=some (.tup us)->SW H ds us->QP H (.tuple ds) (.ref a)
inductive SW (H:Hp):List PyData->List V->Prop
 |nil:SW H [] []
 |cons {d:PyData} {v:V} {ds:List PyData} {vs:List V}:QP H d v->SW H ds vs->SW H (d::ds) (v::vs)
end
structure Sm (n k:Nat) (d:PyData):Prop where
 len:d.shown.length<=n
 sh:d.showable=true
 nd:d.hasDict=false
 dp:d.depth<=k
def iI (H H':Hp):Prop:=∀a us,H a=some (.tup us)->H' a=some (.tup us)
theorem aF.kt {H':Hp} (s:aF H H'):iI H H':=fun a us e=>s a _ e
theorem iI.trans {H1 H2:Hp} (a:iI H H1) (b:iI H1 H2):iI H H2:=fun c us e=>b c us (a c us e)
theorem iI.upd {xs ys:List V} (e:H l=some (.lst xs)):iI H (upd H l (.lst ys)):=fun a us h=>by rw[aG (B8 h e (fun z=>nomatch z))];exact h
section
variable {k:Nat} {cL:List Nat} {g:TG} {tt:TT} {te:TE} {σ:St} {H:Hp} {Q:VK} {l:Addr}
theorem oU {α:Type} (J:It) (es:List α) (x:α->V) (p:α->Bool) (R:Hp->α->V->Prop) (Good:St->Prop) (h0:Good (bR k cL σ)) (hl:H l=none) (hlen:es.length<sizeLine)
  (hstop:∀H',aF H H'->J.stop es.length H') (hgo:∀i H',i<es.length->aF H H'->J.go i H')
  (hyld:∀i H1 v H2,i<es.length->aF H H1->J.AX i H1 v H2->H2=H1/\∃e,es[i]? =some e/\v=x e)
  (m:∀H1 H2 e v,iI H1 H2->R H1 e v->R H2 e v)
  (ht:∀e σ H1 ys (N:St->Hp->Prop),e∈es->Good σ->aF H H1->H1 l=some (.lst ys)->ys.length<sizeLine->(p e=false->∀σ',Good σ'->N σ' H1)->
   (p e=true->∀σ' v H2,Good σ'->aF H1 H2->R H2 e v->N σ' (upd H2 l (.lst (ys++[v]))))->bK g tt te l (x e) σ H1 N)
  (hd:∀H' ys,aF H H'->Paired (R H') (es.filter p) ys->H' l=some (.lst ys)->Q (.ref l) H'):iN J g tt te l (bR k cL σ) (upd H l (.lst [])) Q:=by
 refine oA J es.length (fun i σ' H'=>i<=es.length/\Good σ'/\aF H H'/\∃ys,Paired (R H') ((es.take i).filter p) ys/\H' l=some (.lst ys)) ⟨zero_le _,h0,aF.upd hl,[],.nil,aB⟩
  (fun σ' H' ⟨_,_,s,_⟩=>hstop H' s) (fun i σ' H' hi ⟨_,_,s,_⟩=>hgo i H' hi s) (fun i σ' H' v H'' hi ⟨_,gd,s,ys,py,e⟩ y=>?_) (fun σ' H' ⟨_,_,s,ys,py,e⟩=>?_)
 .obtain⟨e1,en,he,ev⟩:=hyld i H' v H'' hi s y;subst e1 ev;have hz:ys.length<sizeLine:=by
   rw[<-Paired.length py];have a1:=length_filter_le p (es.take i);rw[length_take]at a1;omega
  refine ht en σ' _ ys _ (mem_of_getElem? he) gd s e hz (fun hp σ2 g2=>⟨hi,g2,s,ys,?_,e⟩) (fun hp σ2 v H2 g2 s2 r=>⟨hi,g2,fun b o hb=>?_,ys++[v],?_,aB⟩)
  .rw[jB he,if_neg (by rw[hp];exact Bool.false_ne_true),append_nil];exact py
  .rw[aG (aJ hb hl)];exact s2 _ _ (s _ _ hb)
  .rw[jB he,if_pos hp];have k2:=iI.upd (ys:=ys++[v]) (s2 _ _ e);exact Paired.snoc (Paired.fN py fun a b r=>m _ _ a b (s2.kt.trans k2) r) (m _ _ _ _ k2 r)
 .rw[take_length]at py;exact hd H' ys s py e
end
theorem C9 {K:Frag} {xs:List V} {g:TG} {tb:TS} {D:Ends} {σ:St} {H:Hp} (Pv:Nat->St->Hp->Prop) (h0:Pv 0 σ H) (hl:∀i σ H,i<=xs.length->Pv i σ H->bC K H a xs)
  (hs:∀i x t σ H,xs[i]? =some x->H t=none->Pv i σ H->g (.ref t) σ (upd H t (.tup [.int i,x])) fun σ2 H2=>tb {D with nx:=Pv (i+1),ct:=Pv (i+1),bk:=D.nx} σ2 H2) (hd:∀σ H,Pv xs.length σ H->D.nx σ H):
  ∃W:Nat->Nat->St->Hp->Prop,(∃m,W 0 m σ H)/\∀i m σ H,W i m σ H->
   ((IX K a).stop i H/\D.nx σ H)\/ ((IX K a).go i H/\∃N:St->Hp->Prop,(∀σ' H',N σ' H'->∃m',m'<m/\W (i+1) m' σ' H')/\∀x H',(IX K a).AX i H x H'->g x σ H' fun σ2 H2=>tb {D with nx:=N,ct:=N,bk:=D.nx} σ2 H2):=by
 refine⟨fun i m σ H=>m=xs.length - i/\i<=xs.length/\Pv i σ H,⟨xs.length,by simp,zero_le _,h0⟩,?_⟩;rintro i m σ H ⟨rfl,hi,p⟩;have q:=hl i σ H hi p
 by_cases hlt:i<xs.length
 .refine .inr ⟨⟨xs,xs[i],q,by simp[hlt]⟩,Pv (i+1),fun σ' H' p'=>⟨xs.length - (i+1),by omega,rfl,hlt,p'⟩,fun x H' y=>?_⟩;obtain⟨t,ht,rfl,y⟩:=y;obtain⟨x,hx,rfl⟩:=y xs q;exact hs i x t σ H hx ht p
 .have e:i=xs.length:=by omega
  subst e;exact .inl ⟨⟨xs,q,rfl⟩,hd σ H p⟩
end L2
namespace L2
open PySem PySem.Spec PyProof.Rows Mr
variable {H:Hp} {ps:List PV}
mutual
inductive Tr (H:Hp):PV->V->Prop
 |aP:Tr H .aP .aP
 |bl (b:Bool):Tr H (.bl b) (.bl b)
 |int (i:Int):Tr H (.int i) (.int i)
 |str (x:Str):Tr H (.str x) (.str x)
 |tup {a:Addr} {us:List V} {ps:List PV}:H a=some (.tup us)->lT H ps us->Tr H (.tup ps) (.ref a)
inductive lT (H:Hp):List PV->List V->Prop
 |nil:lT H [] []
 |cons {p:PV} {v:V} {ps:List PV} {vs:List V}:Tr H p v->lT H ps vs->lT H (p::ps) (v::vs)
end
mutual
theorem Tr.kp {H H':Hp} (k:iI H H'):∀{p:PV} {v:V},Tr H p v->Tr H' p v
 |_,_,.aP=>.aP
 |_,_,.bl b=>.bl b
 |_,_,.int b=>.int b
 |_,_,.str b=>.str b
 |_,_,.tup h r=>.tup (k _ _ h) (r.kp k)
theorem lT.kp {H H':Hp} (k:iI H H'):∀{p:List PV} {v:List V},lT H p v->lT H' p v
 |_,_,.nil=>.nil
 |_,_,.cons h r=>.cons (h.kp k) (r.kp k)
end
mutual
theorem Tr.rep {K:Frag} {Z:mV} {H:Hp}:∀{p:PV} {v:V},Tr H p v->Rep K Z H p v
 |_,_,.aP=>.aP
 |_,_,.bl b=>.bl b
 |_,_,.int b=>.int b
 |_,_,.str b=>.str b
 |_,_,.tup h r=>.tup (.inl h) r.rep
theorem lT.rep {K:Frag} {Z:mV} {H:Hp}:∀{p:List PV} {v:List V},lT H p v->i3 K Z H p v
 |_,_,.nil=>.nil
 |_,_,.cons h r=>.cons h.rep r.rep
end
theorem Tr.JI {v:V} (h:Tr H (.tup ps) v):∃a us,v= .ref a/\H a=some (.tup us)/\lT H ps us:=by
 cases h with|tup h r=>exact⟨_,_,rfl,h,r⟩
theorem lT.length:∀{ps:List PV} {vs:List V},lT H ps vs->ps.length=vs.length
 |_,_,.nil=>rfl
 |_,_,.cons _ r=>by rw[length_cons,length_cons,r.length]
theorem lT.get':∀{ps:List PV} {vs:List V} {i:Nat} {p:PV},lT H ps vs->ps[i]? =some p->∃v,vs[i]? =some v/\Tr H p v
 |_,_,_,_,.nil,e=>by simp at e
 |_,_,0,_,.cons h _,e=>by simp at e;subst e;exact⟨_,rfl,h⟩
 |_,_,i+1,p,.cons _ r,e=>by
  obtain⟨v,h1,h2⟩:=r.get' (i:=i) (p:=p) (by simpa using e);exact⟨v,by simpa using h1,h2⟩
theorem lT.strs:∀{xs:List Str},lT H (xs.map PV.str) (xs.map V.str)
 |[]=>.nil
 |x::xs=>.cons (.str x) lT.strs
mutual
noncomputable def rO:PV->NK
 | .str x=>.k (.inr x)
 | .int i=>.k (.inl i)
 | .tup ps=>.t (nK ps)
 |_=>.k (.inl 0)
noncomputable def nK:List PV->List NK
 |[]=>[]
 |p::ps=>rO p::nK ps
end
mutual
noncomputable def keyed:PV->Bool
 | .str _=>true
 | .int _=>true
 | .tup ps=>lG ps
 |_=>false
noncomputable def lG:List PV->Bool
 |[]=>true
 |p::ps=>keyed p && lG ps
end
mutual
theorem Tr.nk {H:Hp}:∀{p:PV} {v:V},Tr H p v->keyed p=true->NB H (rO p) v
 |_,_,.aP,h=>by simp[keyed]at h
 |_,_,.bl b,h=>by simp[keyed]at h
 |_,_,.int i,_=>by simp only[rO];exact .k (x:=.inl i)
 |_,_,.str x,_=>by simp only[rO];exact .k (x:=.inr x)
 |_,_,.tup h r,q=>by simp only[rO];exact .t h (r.nk (by simpa [keyed]using q))
theorem lT.nk {H:Hp}:∀{p:List PV} {v:List V},lT H p v->lG p=true->OE H (nK p) v
 |_,_,.nil,_=>by simp only[nK];exact .nil
 |_,_,.cons h r,q=>by
  simp only[lG,and_eq_true]at q;simp only[nK];exact .cons (h.nk q.1) (r.nk q.2)
end
mutual
noncomputable def RX:PV->PyData
 | .str x=>.str x
 | .int i=>.int i
 | .tup ps=>.tuple (NF ps)
 |_=>.none
noncomputable def NF:List PV->List PyData
 |[]=>[]
 |p::ps=>RX p::NF ps
end
mutual
noncomputable def MU:PV->Bool
 | .str _=>true
 | .int _=>true
 | .aP=>true
 | .tup ps=>IM ps
 |_=>false
noncomputable def IM:List PV->Bool
 |[]=>true
 |p::ps=>MU p && IM ps
end
def Sh (n k:Nat) (p:PV):Prop:=MU p=true/\Sm n k (RX p)
def qT (K:Frag):List V->Hp->VK->Prop:=fun xs H Q=>∃p ys ps,xs=[.ref p]/\bC K H p ys/\lT H ps ys/\ys.length<64/\(∀x∈ps,xO true x=true)/\fZ 3 ps=true/\
 ∀l zs,lT H (tU 3 ps) zs->H l=none->Q (.ref l) (upd H l (.lst zs))
theorem lT.pick {ys:List V} (r:lT H ps ys):∀{ix:List Nat},(∀i∈ix,i<ps.length)->lT H (ix.map fun i=>ps.getD i .aP) (ix.map fun i=>ys.getD i .aP)
 |[],_=>.nil
 |i::ix,h=>by
  have hi:=h i mem_cons_self;have e:=getElem?_eq_getElem hi;obtain⟨v,ev,rv⟩:=r.get' e;refine .cons ?_ (lT.pick r fun j hj=>h j (mem_cons_of_mem _ hj));dsimp only;rw[getD_eq_getElem?_getD,getD_eq_getElem?_getD,e,ev];exact rv
theorem RI {X:Cx} {k:Nat} (K:Frag) (hr:d6 k X.A) (hK:X.K=K:=by rfl):dW X (.builtin "sorted") (qT K):=by
 intro pins s σ H xs us Q I r ⟨p,ys,ps,e,hq,rp,h64,led,cmp,q⟩;refine OV K hr hK pins s σ H xs us Q I r ⟨p,ys,ps,true,e,hq,rp.rep,h64,led,cmp,fun l ix h1 h2 hl=>q l _ ?_ hl⟩;have hix:∀i∈ix,i<ps.length:=fun i hi=>mem_range.mp (h1.mem_iff.mp hi)
 have pm:(ix.map fun i=>ps.getD i .aP).Perm ps:=by
  have:=h1.map fun i=>ps.getD i PV.aP
  have e:(List.range ps.length).map (fun i=>ps.getD i PV.aP)=ps:=by
   apply ext_getElem
   .simp
   .intro i a1 a2;simp[getElem?_eq_getElem a2]
  rw[e]at this;exact this
 have es:tU 3 ps=ix.map fun i=>ps.getD i .aP:=
  kK (nZ 3 ps) h2 ((fF 3 ps).trans pm.symm) fun x hx y hy=>zX cmp ((fF 3 ps).mem_iff.mp hx) ((fF 3 ps).mem_iff.mp hy)
 rw[es];exact rp.pick hix
noncomputable instance UP:DecidableEq PV:=fun a b=>Classical.propDecidable _
structure En where
 w:Str
 t:PV
 r:List PV
 b:Bool
noncomputable def dP (e:En):PV:=.tup (.str e.w::e.t::e.r)
noncomputable def eP (e:En):PV:=.tup [dP e,.bl e.b]
noncomputable abbrev R5:Str:=Str.ofString "come"
noncomputable abbrev U2:Str:=Str.ofString "go"
noncomputable abbrev M3:Str:=Str.ofString "join"
noncomputable abbrev PB:Str:=Str.ofString "split"
noncomputable abbrev R0:Str:=Str.ofString "free"
noncomputable abbrev RL:Str:=Str.ofString "read"
noncomputable abbrev LP:Str:=Str.ofString "unread"
def Nm (x:Str):Prop:=x.length<=14/\∀c∈x.cps.toList,c<16^8
def RY (p:PV):Prop:=∃(n:Str) (d:Int) (h:Str) (rs:List Str),p= .tup [.str n,.int d,.str h,.tup (rs.map PV.str)]/\Nm n/\Sh 20 0 (.int d)/\Nm h/\rs.length<=3/\∀r∈rs,Nm r
structure TQ (e:En):Prop where
 ok:((e.w=R5\/ e.w=U2)/\e.r=[]/\RY e.t)\/ (((e.w=M3/\∃o,e.r=[.str o]/\Nm o)\/ ((e.w=PB\/ e.w=R0\/ e.w=RL\/ e.w=LP)/\e.r=[]))/\∃x,e.t= .str x/\Nm x)
noncomputable def U4 (w:Str) (e:En):Bool:=e.w==w
noncomputable def UD:PV->Str
 | .str x=>x
 |_=>Str.ofString ""
noncomputable def names (L:List (PV×En)):List Str:=L.map fun x=>UD x.1
structure xB (L:List (PV×En)):Prop where
 str:∀x∈L,∃n,x.1= .str n/\Nm n
 nd:(L.map (·.1)).Nodup
noncomputable def r0 (e:En):PV:=if U4 M3 e=true then e.r.headD .aP else .aP
end L2
namespace L2
open PySem PySem.Spec PyProof.Rows
variable {a p:Addr} {ob:HO} {H H':Hp} {c d:Nat} {α β:Type}
noncomputable abbrev qA:Str:=Str.ofString "abcdefghijklmnopqrstuvwxyz0123456789"
def zH (c:Nat) (o:Option HO):Prop:=∃a b i:Int,o=some (.lst [.int a,.int b,.int i])/\0<=a/\0<=b/\b<2305843009213693951/\0<=i/\i<=c
abbrev Box (c:Nat) (H:Hp) (p:Addr):Prop:=zH c (H p)
theorem Box.same (h:Box c H p) (s:aF H H'):Box c H' p:=let⟨a,b,i,e,r⟩:=h;⟨a,b,i,s _ _ e,r⟩
theorem Box.up (h:Box c H p) (hl:c<=d):Box d H p:=let⟨a,b,i,e,h1,h2,h3,h4,h5⟩:=h;⟨a,b,i,e,h1,h2,h3,h4,by omega⟩
theorem Box.ne (h:Box c H p) {l:Addr} (n:H l=none):p≠l:=let⟨_,_,_,e,_⟩:=h;aJ e n
theorem oE (h:Box c H p) (h':Box d H' p) (b:bZ p H H'):Kp H H':=fun a o e=>by
 by_cases z:a=p
 .subst z;obtain⟨i,j,k,e1,_⟩:=h;obtain⟨i',j',k',e2,_⟩:=h';rw[e1]at e;cases e;exact .inr ⟨_,_,rfl,e2⟩
 .exact .inl (b a o e z)
def sN:Sp:=fun vs H Q _=>∃(p:Addr) (n:Int) (c:Nat),vs=[.ref p,.int n]/\Box c H p/\c<1000000/\0<n/\n<1073741824/\∀d H',0<=d->d<n->Box (c+1) H' p->bZ p H H'->Q (.int d) H'
section
variable {k:Nat} {cL:List Nat} {gg:TG} {tt:TT} {te:TE} {σ:St} {H:Hp} {Q:VK} {l:Addr}
theorem rM (lo:Int) (n:Nat) (p:Addr) (c wt:Nat) (R:Hp->V->Prop) (Good:St->Prop) (h0:Good (bR k cL σ)) (hp:Box c H p) (hl:H l=none) (hlen:n<=1000000)
  (m:∀H1 H2 y,Kp H1 H2->R H1 y->R H2 y)
  (ht:∀i σ H1 xs (N:St->Hp->Prop),i<n->Good σ->Box (c+wt*i) H1 p->H1 l=some (.lst xs)->xs.length=i->bZ p H H1->
   (∀σ' y H2,Good σ'->R H2 y->Box (c+wt*i+wt) H2 p->bZ p H1 H2->∃xs,H2 l=some (.lst xs)/\xs.length<sizeLine/\N σ' (upd H2 l (.lst (xs++[y]))))->bK gg tt te l (.int (lo+i)) σ H1 N)
  (hd:∀ys H1,ys.length=n->(∀y∈ys,R H1 y)->H1 l=some (.lst ys)->Box (c+wt*n) H1 p->bZ p H H1->Q (.ref l) H1):iN (E6 lo n) gg tt te l (bR k cL σ) (upd H l (.lst [])) Q:=by
 have pl:p≠l:=Box.ne hp hl;refine AG lo n (fun i σ' H'=>Good σ'/\∃ys:List V,H' l=some (.lst ys)/\ys.length=i/\(∀y∈ys,R H' y)/\Box (c+wt*i) H' p/\bZ p H H') ⟨h0,[],aB,rfl,(fun _ h=>nomatch h),Box.same (p:=p) hp (aF.upd hl),bZ.of (aF.upd hl)⟩
  (fun i σ' H' hi ⟨gd,ys,e,hy,hR,hp',b⟩=>?_) (fun σ' H' ⟨_,ys,e,hy,hR,hp',b⟩=>hd ys H' hy hR e hp' b)
 refine ht i σ' H' ys _ hi gd hp' e hy b fun σ2 y H2 g2 ry p2 b2=>?_
 have e2:H2 l=some (.lst ys):=b2 l _ e pl.symm;refine⟨ys,e2,iZ (by omega),g2,ys++[y],aB,by simp[hy],fun z hz=>?_,?_,fun d o h n1=>?_⟩
 .rcases mem_append.mp hz with r|r
  .exact m _ _ _ (Kp.lst e2) (m _ _ _ (oE hp' p2 b2) (hR z r))
  .rw[mem_singleton.mp r];exact m _ _ _ (Kp.lst e2) ry
 .show zH _ (upd H2 l _ p);rw[aG pl,Nat.mul_succ,<-Nat.add_assoc];exact p2
 .rw[aG (aJ h hl)];exact b2 d o (b d o h n1) n1
end
theorem Box.kt {c d:Nat} {H H':Hp} {p:Addr} (h:Box c H p) (b:bZ p H H'):iI H H':=fun a us e=>b a _ e fun z=>by subst z;obtain⟨i,j,k,e1,_⟩:=h;rw[e1]at e;cases e
def PQ:Sp:=fun vs H Q _=>∃(p:Addr) (c:Nat),vs=[.ref p]/\Box c H p/\c<100000/\∀(x:Str) H',Nm x->Box (c+20) H' p->bZ p H H'->Q (.str x) H'
def tJ (H:Hp) (v:V):Prop:=∃x,RY x/\Tr H x v
def UY (H:Hp) (v:V) (es:List En):Prop:=Tr H (.tup (es.map eP)) v/\es.length<=41/\∀e∈es,TQ e
def vL:Sp:=fun vs H Q _=>∃(a:Addr) (es:List En),vs=[.ref a]/\UY H (.ref a) es/\∀H',aF H H'->Q (.bl true) H'
theorem iI.dn {w:World} {kvs:List NE} {ep:Nat} (e:H a=some (DN w a kvs ep)):iI H (L2.upd H a ob):=fun c us h=>by rw[aG (B8 h e (fun z=>by unfold DN at z;cases z))];exact h
theorem iI.dk {kvs:List (Key×V)} (e:dA H a kvs):iI H (L2.upd H a ob):=fun c us h=>by obtain⟨ep,e⟩:=e;rw[aG (B8 h e (fun z=>nomatch z))];exact h
theorem Paired.GU {f:α->β}:∀{zs:List α} {ys:List β},Paired (fun z y=>y=f z) zs ys->ys=zs.map f
 |_,_,.nil=>rfl
 |_,_,.cons h t=>by rw[map_cons,h,Paired.GU t]
section
variable {k:Nat} {cL:List Nat} {g:TG} {tt:TT} {te:TE} {σ:St} {H:Hp} {Q:VK} {l:Addr}
theorem EG {K:Frag} {ss:List Str} (hS:bC K H a (ss.map V.str)) (p:Str->Bool) (R:Hp->Str->V->Prop) (Good:St->Prop) (h0:Good (bR k cL σ)) (hl:H l=none) (hlen:ss.length<sizeLine)
  (m:∀H1 H2 e v,iI H1 H2->R H1 e v->R H2 e v)
  (ht:∀n σ H1 ys (N:St->Hp->Prop),n∈ss->Good σ->aF H H1->H1 l=some (.lst ys)->ys.length<sizeLine->(p n=false->∀σ',Good σ'->N σ' H1)->
   (p n=true->∀σ' v H2,Good σ'->aF H1 H2->R H2 n v->N σ' (upd H2 l (.lst (ys++[v]))))->bK g tt te l (.str n) σ H1 N)
  (hd:∀H' ys,aF H H'->Paired (R H') (ss.filter p) ys->H' l=some (.lst ys)->Q (.ref l) H'):iN (KD K a) g tt te l (bR k cL σ) (upd H l (.lst [])) Q:=
 oU (KD K a) ss V.str p R Good h0 hl hlen (fun H' s=>⟨_,hS.same s,by rw[length_map];exact le_refl _⟩) (fun i H' hi s=>⟨_,V.str ss[i],hS.same s,by rw[getElem?_map,getElem?_eq_getElem hi];rfl⟩)
  (fun i H1 v H2 hi s y=>⟨y.1,ss[i],getElem?_eq_getElem hi,by
   have:=y.2 _ (hS.same s);rw[getElem?_map,getElem?_eq_getElem hi]at this;exact(Option.some.inj this).symm⟩) m ht hd
end
theorem Paired.lY {R:α->β->Prop}:∀{xs:List α} {ys:List β} {i:Nat} {y:β},Paired R xs ys->ys[i]? =some y->∃x,xs[i]? =some x/\R x y
 |_,_,_,_,.nil,e=>by simp at e
 |_,_,0,_,.cons h _,e=>by simp at e;subst e;exact⟨_,rfl,h⟩
 |_,_,i+1,y,.cons _ r,e=>by
  obtain⟨x,h1,h2⟩:=Paired.lY (i:=i) (y:=y) r (by simpa using e);exact⟨x,by simpa using h1,h2⟩
end L2
namespace My
open PySem L2 Mr PyProof.Rows PySem.Builtin.Str
noncomputable abbrev S (l:List Nat):Str:=⟨l.toArray⟩
theorem CS (l:List Nat):(S l).cps.toList=l:=rfl
theorem PH (x:Str):S x.cps.toList=x:=by cases x;simp[S]
theorem GZ (l:List Nat):(S l).length=l.length:=by show l.toArray.size=_;simp
theorem SM {a b:List Nat}:S a=S b↔a=b:=⟨fun h=>congrArg (fun s:Str=>s.cps.toList) h,fun h=>by rw[h]⟩
theorem L7 (i j n:Nat):strSliceIndices (some (i:Int)) (some (j:Int)) 1 n=strSliceIndices (some ((min i n:Nat):Int)) (some ((max (min i n) (min j n):Nat):Int)) 1 n:=by
 unfold strSliceIndices sliceRange;simp only[show(1:Int)>0 by decide,if_true,show¬((i:Int)<0) by omega,show¬((j:Int)<0) by omega,show¬(((min i n:Nat):Int)<0) by omega,show¬(((max (min i n) (min j n):Nat):Int)<0) by omega,if_false];have e1:max (0:Int) (min (i:Int) n)=((min i n:Nat):Int):=by omega
 have e2:max (0:Int) (min (j:Int) n)=((min j n:Nat):Int):=by omega
 have e3:max (0:Int) (min ((min i n:Nat):Int) n)=((min i n:Nat):Int):=by omega
 have e4:max (0:Int) (min ((max (min i n) (min j n):Nat):Int) n)=((max (min i n) (min j n):Nat):Int):=by omega
 rw[e1,e2,e3,e4];congr 2;split<;>split<;>simp only[Int.ediv_one]<;>omega
theorem RN (l:List Nat) (i j:Nat):Txt.slice (S l) (some (i:Int)) (some (j:Int))=S ((l.drop i).take (j - i)):=by
 have e:Txt.slice (S l) (some (i:Int)) (some (j:Int))=Txt.slice (S l) (some ((min i l.length:Nat):Int)) (some ((max (min i l.length) (min j l.length):Nat):Int)):=by
  unfold Txt.slice;rw[GZ,L7]
 rw[e,beq_iff_eq.mp (slice_closes (x:=S l) ⟨by omega,by omega,by rw[CS];omega⟩),CS];refine SM.mpr ?_
 by_cases h:i<=l.length
 .rw[show((min i l.length:Nat):Int).toNat=i by omega]
  by_cases h2:j<=l.length
  .congr 1;omega
  .rw[take_of_length_le (by rw[length_drop];omega),take_of_length_le (by rw[length_drop];omega)]
 .rw[drop_of_length_le (by omega),drop_of_length_le (by omega)];simp
theorem R1 (l:List Nat) (j:Nat):Txt.slice (S l) none (some (j:Int))=S (l.take j):=by
 have e:Txt.slice (S l) none (some (j:Int))=Txt.slice (S l) (some ((0:Nat):Int)) (some (j:Int)):=by
  unfold Txt.slice;have:strSliceIndices none (some (j:Int)) 1 (S l).length=strSliceIndices (some ((0:Nat):Int)) (some (j:Int)) 1 (S l).length:=by
   unfold strSliceIndices;simp only[show(1:Int)>0 by decide,if_true,show¬(((0:Nat):Int)<0) by omega,if_false];congr 1
  rw[this]
 rw[e,RN,drop_zero,sub_zero]
end My
namespace L2
open PySem PySem.Spec PyProof.Rows PySem.W
section
variable {prog:Program} {w:World} {A:Around} {E:Value->Shared->Prop} {s:Shared}
theorem lZ.trans {s s1 s2:Shared} (a:lZ s s1) (b:lZ s1 s2):lZ s s2:=by
 obtain⟨h1,t1,d1,rfl,z1,k1⟩:=a;obtain⟨h2,t2,d2,rfl,z2,k2⟩:=b;exact⟨h2,t2,d2,rfl,le_trans z1 z2,fun x o e=>k2 x o (k1 x o e)⟩
theorem p0 {v:Value} {Ok:List Value->Shared->Prop} {R:List Value->Array Nat->Prop} {Q:Value->Shared->Prop}
  (hcol:∀(E':Value->Shared->Prop) (Q':List Value->Shared->Prop),(∀vs s1,lZ s s1->Ok vs s1->Q' vs s1)->wpAny (model prog w) A.in1 (collect v) Q' E' s) (h64:∀vs s1,Ok vs s1->vs.length<64)
  (hk:∀vs s1,lZ s s1->Ok vs s1->2<=vs.length->∀h':Heap,(∀b o,s1.heap.get? b=some o->h'.get? b=some o)->vI prog w A.in1.in1 vs (R vs) {s1 with heap:=h'}) (hR:∀vs s1,Ok vs s1->vs.length<2->R vs (List.range vs.length).toArray)
  (hq:∀(a:Addr) s1 s2 (out:Array Value) c vs (p:Array Nat),lZ s s1->Ok vs s1->lZ s1 s2->s1.heap.objs.size<=a->s2.heap.get? a=some (seqObj "list" out c)->mQ vs.length p->R vs p->out.toList=p.toList.map (fun i=>vs.getD i Value.none)->Q (.ref a) s2):
  wpAny (model prog w) A (call (.builtin "sorted") [v]) Q E s:=by
 refine Calls.call_function_entry kind_sorted plain_sorted entry_sorted (args_sorted1 _) ?_;unfold Builtin.«sorted»;refine wpAny_bind (m:=checkCount "sorted" 1 1 _) (wpAny_pure (wpAny_bind (hcol _ _ fun vs s1 g ok=>?_)));have hl:=h64 vs s1 ok;refine wpAny_bind (wpAny_newList ?_ (by simp only[sizeLine_eq];omega));have e1:(s1.heap.push (seqObj "list" vs.toArray 0)).get? s1.heap.objs.size=some (seqObj "list" vs.toArray 0):=get?_push_size _ rfl;refine wpAny_bind (wpAny_holding (wpAny_call_entry slot_list_sort ⟨_,e1,rfl⟩ entry_list_sort ?bd (args_list_sort _)))
 case bd=>
  refine u9 e1 hl (fun l2 h' kp=>hk vs s1 g ok l2 h' fun b o gb=>kp b o (ne_of_lt (lt_size gb)) (get?_push_of_some _ gb)) (hR vs s1 ok) fun out p p1 p2 p3=>⟨_,rfl,wpAny_pure ⟨_,rfl,?_⟩⟩
  obtain⟨c,hc⟩:=sortedHeap_at (out:=out) e1;refine hq s1.heap.objs.size s1 _ out c vs p g ok ?_ (le_refl _) hc p1 p2 p3;refine⟨_,s1.toks,s1.drawn,rfl,le_of_lt (lt_size hc),fun b o e=>?_⟩;have hb:=lt_size e;rw[sortedHeap_old (ne_of_lt hb) (by rw[size_push'];exact lt_succ_of_lt hb)];exact get?_push_of_some _ e
end
section
variable {X:Cx}
noncomputable def SY (v d:Addr):HO:=.ext fun h=>h.IsItemsView v d
def rG (to:TE):TE:=fun σ H Q=>to σ H fun x H1=>∃a kvs,x= .ref a/\EF H1 a kvs/\∀v,H1 v=none->Q (.ref v) (upd H1 v (SY v a))
theorem tG {o:Expr} {to:TE} {apos cpos:Pos} (ho:PE X o to) (hbase:attributeBase o "items" X.env (eval o X.env)=eval o X.env:=by rfl) (hline:(apos.endLine==cpos.line)=true:=by rfl):
  PE X (.Call (.Attribute o "items" apos) [] [] cpos) (rG to):=by
 intro pins s σ H Q I h;refine wpAny_Call_method0_late hbase hline (bY (ho pins s σ H _ I h) fun v s1 ⟨x,H1,I1,r1,a,kvs,ex,ha,q1⟩=>?_);subst ex;obtain rfl:v=Value.ref a:=r1;obtain⟨hz,hd,vs,rel,dd⟩:=i8 I1.bH ha;refine⟨"dict","dict.items",plainAttrs_dict,PySem.F.slot_dict_items,PySem.F.type_dict_items,dd.typeIs,dd.mapOf.noDict,Calls.callWith_builtin rfl (PySem.evalArgs_none ?_)⟩;refine call_meetsIn PySem.F.slot_dict_items dd.typeIs PySem.F.entry_dict_items (PySem.F.args_dict_items_1 _) (meets_dict_items (bA X.prog X.w) a hd) ⟨⟨vs,dd⟩,?_⟩;have e0:(s1.heap.push {cls:=.type "dict_items",data:=.fields #[.ref a]}).get? s1.heap.objs.size=some {cls:=.type "dict_items",data:=.fields #[.ref a]}:=get?_push_size _ rfl;exact⟨.ref s1.heap.objs.size,_,I1.laid (t':=s1.toks) (o:=SY s1.heap.objs.size a) (fun b u e=>get?_push_of_some _ e) (le_refl _) ⟨⟨_,e0,rfl,rfl⟩,⟨_,e0⟩,fun h1 h2 ⟨u,e,c⟩ k=>⟨u,k u e,c⟩⟩,rfl,q1 _ (I1.bH.fresh (le_refl _))⟩
end
end L2
namespace Mr
open PySem PySem.Spec L2 PyProof.Rows PySem.W
noncomputable def rO:Key->PV
 | .inl i=>.int i
 | .inr x=>.str x
end Mr
namespace L2
open PySem PySem.Spec PyProof.Rows PySem.W
section
variable {X:Cx}
def MK:List V->Hp->VK->Prop:=fun xs H Q=>∃a kvs,xs=[.ref a]/\EF H a kvs/\Q (.int kvs.length) H
theorem DA:dW X (.builtin "len") MK:=by
 intro pins s σ H xs us Q I r ⟨a,kvs,e,ha,q⟩;subst e;obtain⟨u,rfl,rx⟩:=vals1 r;cases rx;obtain⟨hz,hd,vs,rel,dd⟩:=i8 I.bH ha;refine call_len_dict hd dd (by have:=rel.len;rw[sizeLine_eq]at hz;omega) ?_;exact⟨.int kvs.length,H,I.tok _,⟨s.toks+1,by rw[rel.len]⟩,q⟩
end
section
variable {prog:Program} {w:World} {A:Around} {R:Result->Shared->Prop} {I:Addr} {fp wr:List Addr} {n:Nat} {Pz:Nat->Value->Prop} {Sz:Nat->Heap->Prop}
def HP (prog:Program) (w:World) (A:Around) (ok:Heap->Prop) (Pz:Nat->Value->Prop) (bt:Nat->Nat->Bool):Prop:=
 ∀i j vi vj (s:Shared) (Q:Value->Shared->Prop) (E:Value->Shared->Prop),ok s.heap->Pz i vi->Pz j vj->Q (.bool (bt i j)) s->wpAny (model prog w) A (richCompare .Lt vi vj) Q E s
theorem pD:(toString "min"++toString ".loop":String)="min.loop":=by decide
theorem y1 {ok:Heap->Prop} (W:Walks prog w A.in1 I fp wr n Pz Sz) (bt:Nat->Nat->Bool) (hcmp:HP prog w A.in1 ok Pz bt) (S:Addr) (nf:S∉fp) (okk:∀h h',ok h->(∀b o,b∉wr->b≠S->h.get? b=some o->h'.get? b=some o)->ok h'):
  ∀(k j:Nat) (s:Shared) (vb:Value) (c:Nat),n - (j+1)=k->j+1<=n->ok s.heap->Sz (j+1) s.heap->Pz (argBest bt j) vb->s.heap.get? S=some {cls:=.type "list",dict:=none,data:=.seq #[vb,vb] c,slots:= #[]}->
  (∀v h' tk,Pz (argBest bt (n - 1)) v->(∀b o,b∉wr->b≠S->s.heap.get? b=some o->h'.get? b=some o)->R (.ok (.ret v)) {s with heap:=h',toks:=tk})->codeAny (model prog w) A (.builtin "min.loop" ⟨[.ref I,.none,.ref S],[]⟩) R s:=by
 have nw:S∉wr:=fun h=>nf (W.sub _ h)
 intro k
 induction k with
 |zero=>
  intro j s vb c hk hj bH st hb gS hR;have e:j+1=n:=by omega
  refine codeAny_builtin F.entry_min_loop ?_;rw[Around.under_plainId F.plain_min_loop _];refine wpAny_bind (m:=seqItems? (.ref S)) (wpAny_seqItems gS rfl ?_);refine wpAny_bind (m:=tryCatch (pyNext (.ref I)) _) (wpAny_tryCatch (W.done s _ _ (e▸st) fun h' tk kp=>?_));have gS':=kp S _ nw gS;refine wpAny_bind (m:=updateSeq S (fun _=> #[])) (wpAny_updateSeq gS' rfl (wpAny_bind (wpAny_letGo (wpAny_pure ?_))));exact hR vb _ tk (by rw[<-e];exact hb) fun b o h1 h2 q=>(get?_update_other _ _ (Ne.symm h2)).trans (kp b o h1 q)
 | succ k ih=>
  intro j s vb c hk hj bH st hb gS hR;have hlt:j+1<n:=by omega
  refine codeAny_builtin F.entry_min_loop ?_;rw[Around.under_plainId F.plain_min_loop _];refine wpAny_bind (m:=seqItems? (.ref S)) (wpAny_seqItems gS rfl ?_);refine wpAny_bind (m:=tryCatch (pyNext (.ref I)) _) (wpAny_tryCatch (W.item (j+1) s _ _ hlt st fun v h' tk hP st' kp=>?_));have gS':=kp S _ nw gS;have ok':ok h':=okk _ _ bH fun b o h1 _ q=>kp b o h1 q
  refine wpAny_bind (m:=tryCatch (holding [v,v] (richCompare .Lt v vb>>=_)) _) (wpAny_tryCatch (wpAny_holding (wpAny_bind (hcmp (j+1) (argBest bt j) v vb {s with heap:=h',toks:=tk} _ _ ok' hP hb ?_))));refine wpAny_bind (wpAny_holding (wpAny_truthy_bool (wpAny_bind (wpAny_letGo (wpAny_pure ?_)))));cases hbt:bt (j+1) (argBest bt j)with
  |true=>
   simp only[if_true];refine wpAny_bind (wpAny_updateSeq gS' rfl (wpAny_bind (wpAny_letGo ?_)));rw[pD];have ne:∀{b:Addr} {o:Obj},b≠S->h'.get? b=some o->(h'.update S (Obj.mapSeq fun _=> #[v,v])).get? b=some o:=fun h q=>(get?_update_other _ _ (Ne.symm h)).trans q
   refine wpAny_pure ⟨plainId_quiet F.plain_min_loop _,ih (j+1) _ v _ (by omega) hlt (okk _ _ ok' fun b o _ h2 q=>ne h2 q) (W.frame _ _ _ st' fun b hbf o q=>ne (fun z=>nf (by rw[<-z];exact hbf)) q) (by simp only[argBest,hbt,if_true];exact hP) (get?_update_self _ gS' rfl) fun v' h2 tk2 hP' kp2=>?_⟩;exact hR v' h2 tk2 hP' fun b o h1 h3 q=>kp2 b o h1 h3 (ne h3 (kp b o h1 q))
  |false=>
   simp only[false_eq_true,if_false];refine wpAny_bind (wpAny_letGo ?_);rw[pD];refine wpAny_pure ⟨plainId_quiet F.plain_min_loop _,ih (j+1) _ vb c (by omega) hlt ok' st' (by simp only[argBest,hbt,false_eq_true,if_false];exact hb) gS' fun v' h2 tk2 hP' kp2=>?_⟩;exact hR v' h2 tk2 hP' fun b o h1 h3 q=>kp2 b o h1 h3 (kp b o h1 q)
theorem min_list {E:Value->Shared->Prop} {s:Shared} {l:Addr} {vs:List Value} {Q:Value->Shared->Prop} {ok:Heap->Prop} (bt:Nat->Nat->Bool) (hh:A.handled=none) (hl:s.heap.IsList l vs.toArray) (hn:0<vs.length)
  (bH:∀h',(∀b o,s.heap.get? b=some o->h'.get? b=some o)->ok h') (okk:∀h h':Heap,ok h->(∀b o,b<s.heap.objs.size->h.get? b=some o->h'.get? b=some o)->ok h') (hcmp:HP prog w A.in1 ok (fun i v=>vs[i]? =some v) bt)
  (hq:∀v h' tk,vs[argBest bt (vs.length - 1)]? =some v->(∀b o,s.heap.get? b=some o->h'.get? b=some o)->Q v {s with heap:=h',toks:=tk}):wpAny (model prog w) A (call (.builtin "min") [.ref l]) Q E s:=by
 have lS:l<s.heap.objs.size:=let⟨_,e,_⟩:=hl;lt_size e
 refine call_function_tree F.kind_min F.plain_min F.entry_min (F.args_min1 _) ?_;refine wpAny_bind (m:=Builtin.Builtins.bindParams "min" ["key","default"] 0 ⟨[],[]⟩) (wpAny_of_eq (show Builtin.Builtins.bindParams "min" ["key","default"] 0 ⟨[],[]⟩=pure [none,none]from rfl) (wpAny_bind (wpAny_pure ?_)));refine wpAny_bind (wpAny_pyIter_list hl ?_);refine wpAny_bind (wpAny_newObj_type ?_);rw[pD];generalize hX:(s.heap.push {cls:=.type "list_iterator",data:=.fields #[.ref l,.int 0 0]})=h1;have z1:h1.objs.size=s.heap.objs.size+1:=by rw[<-hX];exact size_push ..
 have k1:∀b o,s.heap.get? b=some o->h1.get? b=some o:=fun b o e=>by rw[<-hX];exact get?_push_of_some _ e
 have e1:h1.get? s.heap.objs.size=some {cls:=.type "list_iterator",data:=.fields #[.ref l,.int 0 0]}:=by rw[<-hX];exact get?_push_size _ rfl
 have nI:l≠s.heap.objs.size:=ne_of_lt lS;have W:=Walks.list (prog:=prog) (w:=w) (A:=A.in1) (by exact hh) s.heap.objs.size l nI vs.toArray;have gS:(h1.push {cls:=.type "list",data:=.seq ([]:List Value).toArray}).get? h1.objs.size=some {cls:=.type "list",dict:=none,data:=.seq #[] 0,slots:= #[]}:=get?_push_size _ rfl;have nf:h1.objs.size∉[s.heap.objs.size,l]:=by
  rw[z1];simp only[mem_cons,not_mem_nil,or_false,not_or];exact⟨ne_of_gt (lt_succ_self _),ne_of_gt (lt_succ_of_lt lS)⟩
 have nw:h1.objs.size∉[s.heap.objs.size]:=fun z=>nf (by simp at z⊢;exact .inl z)
 have st0:(h1.push {cls:=.type "list",data:=.seq ([]:List Value).toArray}).IsListIter s.heap.objs.size l 0/\(h1.push {cls:=.type "list",data:=.seq ([]:List Value).toArray}).IsList l vs.toArray:=by
  refine⟨⟨_,get?_push_of_some _ e1,rfl,rfl⟩,?_⟩;obtain⟨o,e,r⟩:=hl;exact⟨o,get?_push_of_some _ (k1 _ _ e),r⟩
 refine wpAny_pure ⟨plainId_quiet F.plain_min_loop _,?_⟩;refine codeAny_builtin F.entry_min_loop ?_;rw[Around.under_plainId F.plain_min_loop _];refine wpAny_bind (m:=seqItems? (.ref h1.objs.size)) (wpAny_seqItems gS rfl ?_);refine wpAny_bind (m:=tryCatch (pyNext (.ref s.heap.objs.size)) _) (wpAny_tryCatch (W.item 0 {s with heap:=h1.push {cls:=.type "list",data:=.seq ([]:List Value).toArray}} _ _ (by simpa using hn) st0 fun v h' tk hP st' kp=>?_));have gS':=kp h1.objs.size _ nw gS;refine wpAny_bind (m:=updateSeq h1.objs.size (fun _=> #[v,v])) (wpAny_updateSeq gS' rfl ?_);rw[pD];have ne:∀{b:Addr} {o:Obj},b≠h1.objs.size->h'.get? b=some o->(h'.update h1.objs.size (Obj.mapSeq fun _=> #[v,v])).get? b=some o:=fun h q=>(get?_update_other _ _ (Ne.symm h)).trans q
 have ltS:∀{b:Addr} {o:Obj},s.heap.get? b=some o->b∉[s.heap.objs.size]/\b≠h1.objs.size:=fun e=>by
  have:=lt_size e;rw[z1];exact⟨by simp;exact ne_of_lt this,ne_of_lt (lt_succ_of_lt this)⟩
 have kq:∀b o,s.heap.get? b=some o->(h'.update h1.objs.size (Obj.mapSeq fun _=> #[v,v])).get? b=some o:=fun b o e=>ne (ltS e).2 (kp b o (ltS e).1 (get?_push_of_some _ (k1 b o e)))
 refine wpAny_pure ⟨plainId_quiet F.plain_min_loop _,y1 (ok:=ok) W bt (fun i j vi vj s Q E h1 h2 h3 h4=>hcmp i j vi vj s Q E h1 (by simpa using h2) (by simpa using h3) h4) h1.objs.size nf (fun h h2 o k=>okk h h2 o fun b u hb q=>k b u (by simp;exact ne_of_lt hb) (by rw[z1];exact ne_of_lt (lt_succ_of_lt hb)) q) _ 0 _ v _ rfl (by simp;omega) (bH _ kq) (W.frame _ _ _ st' fun b hbf o q=>ne (fun z=>nf (by rw[<-z];exact hbf)) q) (by simpa [argBest]using hP) (get?_update_self _ gS' rfl) fun v' h2 tk2 hP' kp2=>?_⟩;exact hq v' h2 tk2 (by simpa using hP') fun b o e=>kp2 b o (ltS e).1 (ltS e).2 (kq b o e)
end
end L2
namespace Mr
open PySem PySem.Spec L2 PyProof.Rows PySem.W
noncomputable def JY (ps:List PV) (i j:Nat):Bool:=jF (code 3 (ps.getD i .aP)) (code 3 (ps.getD j .aP))
theorem rA (bt:Nat->Nat->Bool):∀k,argBest bt k<=k
 |0=>le_refl _
 |k+1=>by
  have:=rA bt k;unfold argBest;split<;>omega
section
variable {X:Cx} {k:Nat}
def RD (K:Frag):List V->Hp->VK->Prop:=fun xs H Q=>∃p ys ps,xs=[.ref p]/\bC K H p ys/\i3 K J1 H ps ys/\0<ps.length/\fZ 3 ps=true/\Q (ys.getD (argBest (JY ps) (ps.length - 1)) .aP) H
theorem T9 (K:Frag) (hr:d6 k X.A) (hK:X.K=K:=by rfl) (hc:X.calm=true:=by rfl):dW X (.builtin "min") (RD K):=by
 subst hK;intro pins s σ H xs us Q I r ⟨p,ys,ps,e,hq,rp,h0,cmp,q⟩;subst e;obtain⟨u,rfl,rx⟩:=vals1 r;cases rx;obtain⟨vs,rv,pl,hz⟩:=I.list hq;have hlen:=rv.length;have hpl:=rp.length;have ok:∀x∈ps,qO 3 x=true:=fun x hx=>by
  have:=all_eq_true.mp cmp x hx;rw[and_eq_true]at this;exact sY this.1
 refine min_list (ok:=fun h=>∀b o,s.heap.get? b=some o->h.get? b=some o) (JY ps) (by exact I.ok.hd hc) pl.isList (by omega) (fun h' kp=>kp) (fun h h' o kk b u e=>kk b u (lt_size e) (o b u e)) (fun i j vi vj s' Q E bH h1 h2 hQ=>?_) fun v h' tk hv kp=>?_
 .have hL:cM s'.heap ps vs:=i3.lies (I.kept (t':=s.toks) bH) (n:=3) (all_eq_true.mpr ok) rp rv;obtain⟨p1,e1,l1⟩:=hL.get h1;obtain⟨p2,e2,l2⟩:=hL.get h2;have m1:=mem_of_getElem? e1;have m2:=mem_of_getElem? e2;refine BB (s:=s') 3 X.A.in1 (by have:=hr.un;show X.A.units+1+3<_;omega) (ok p1 m1) (ok p2 m2) l1 l2 (nJ cmp m1 m2) _ _ _ _ ?_;have hQ:Q (.bool (jF (code 3 (ps.getD i .aP)) (code 3 (ps.getD j .aP)))) s':=hQ;rw[getD_eq_getElem?_getD,e1,getD_eq_getElem?_getD,e2]at hQ;exact hQ
 .obtain⟨y,hy,ry⟩:=rv.get' hv;refine⟨y,H,I.kept (t':=tk) kp,ry,?_⟩;rw[getD_eq_getElem?_getD,show ps.length=vs.length by omega,hy]at q;exact q
end
end Mr
namespace Mr
open PySem L2
abbrev Tr:=List (Key×Addr×List PV)
end Mr
namespace L2
open PySem
section
variable {prog:Program} {w:World} {A:Around} {R:Result->Shared->Prop} {s:Shared}
theorem DD {kx vx target iter:Expr} {ifs:List Expr} {scope:Scope} {pos:Pos} {it:Value} {D:Addr} {env:Env} (I:Nat->Shared->Prop)
  (turn:∀n s,I n s->wpAny (model prog w) A (pyNext it) (fun r s₁=>match r with
   |none=>R (.ok .next) s₁
   | some v=>wpAny (model prog w) A (letOwnedTupleGo target it v) (fun _ s₁'=>wpAny (model prog w) A (assign target env v) (fun _ s₂=>
     wpAny (model prog w) A (forIn ifs true fun c r=>if r=true then do let ok<-isTrue c env (eval c env);pure (ForInStep.yield ok)else pure (ForInStep.yield r)) (fun ok s₃=>
      if ok=true then wpAny (model prog w) A (eval kx env) (fun kv s₄=>wpAny (model prog w) A (eval vx env) (fun vv s₅=>
       wpAny (model prog w) A (dictSet D kv vv) (fun _ s₆=>∃m,m<n/\I m s₆) (fun _ _=>False) s₅) (fun _ _=>False) s₄) (fun _ _=>False) s₃
      else∃m,m<n/\I m s₃) (fun _ _=>False) s₂) (fun _ _=>False) s₁') (fun _ _=>False) s₁) (fun _ _=>False) s)
  (n:Nat) (h:I n s):
  codeAny (model prog w) A (.compLoop (.DictComp kx vx [⟨target,iter,ifs,0⟩] scope pos) 0 it (.ref D) env) R s:=by
 refine codeAny_loop rfl I (fun n s hI=>?_) n h;show wpAny _ A ((compTurn (.DictComp kx vx [⟨target,iter,ifs,0⟩] scope pos) 0 it (.ref D) env).onRaise (fun x=>do noteFrame x env;theTreesLotGoes x)) _ _ s;refine wpAny_noted ?_;refine wpAny_mono (E:=fun _ _=>False) ?_ (fun _ _ q=>q) (fun _ _ z=>z.elim);rw[compTurn_dict];refine wpAny_bind (wpAny_standAt (wpAny_bind (wpAny_mono (turn n s hI) (fun r s₁ h₁=>?_) fun _ _ h'=>h')));cases r with
 |none=>exact wpAny_pure h₁
 | some v=>
  refine wpAny_bind (wpAny_mono h₁ (fun _ s₁' h₁'=>?_) fun _ _ h'=>h');refine wpAny_bind (wpAny_mono h₁' (fun _ s₂ h₂=>wpAny_bind (wpAny_mono h₂ (fun ok s₃ h₃=>?_) fun _ _ h'=>h')) fun _ _ h'=>h');cases ok with
  |false=>exact wpAny_pure ⟨rfl,h₃⟩
  |true=>
   exact wpAny_bind (wpAny_bind (wpAny_mono h₃ (fun kv s₄ h₄=>wpAny_bind (wpAny_holding (wpAny_mono h₄ (fun vv s₅ h₅=>wpAny_bind (wpAny_standAt (wpAny_holding (wpAny_mono h₅ (fun _ s₆ h₆=>wpAny_pure ⟨rfl,h₆⟩) fun _ _ h'=>h')))) fun _ _ h'=>h'))) fun _ _ h'=>h'))
end
def MS (J:It) (g:TG) (tt:TT) (tk te:TE) (l:Addr) (σ0:St) (H0:Hp) (Q:VK):Prop:=
 ∃W:Nat->Nat->St->Hp->Prop,(∃m,W 0 m σ0 H0)/\
   ∀i m σ' H2,W i m σ' H2->(J.stop i H2/\Q (.ref l) H2)\/ (J.go i H2/\∃N:St->Hp->Prop,(∀σ3 H3,N σ3 H3->∃m',m'<m/\W (i+1) m' σ3 H3)/\
    ∀x H3,J.AX i H2 x H3->g x σ' H3 fun σ4 H4=>tt σ4 H4 fun b H5=>if b=true then tk σ4 H5 fun kv H6=>te σ4 H6 fun y H7=>∃kvs key,dA H7 l kvs/\kv=kV key/\kvs.length<sizeLine/\∀ep,N σ4 (upd H7 l (.dK (putK kvs key y) ep))else N σ4 H5)
def JG (wi:TI) (k:Nat) (cL:List Nat) (g:TG) (tt:TT) (tk te:TE):TE:=fun σ H Q=>wi σ H fun J H1=>∀l,H1 l=none->MS J g tt tk te l (bR k cL σ) (upd H1 l (.dK [] 0)) Q
section
variable {X:Cx} {kx vx tg iter:Expr} {ifs:List Expr} {scope:Scope} {pos:Pos} {wi:TI} {g:TG} {tt:TT} {tk te:TE} {N:List Str} {k:Nat} {cL:List Nat}
theorem GW {pins:List (Addr×Obj)} {σ:St} {H2:Hp} {s2:Shared} {cl:List (Str×Addr)} {C:Addr} {fp:List Addr} {h1:Heap} {tk:Nat} {m0:Str->Option Value} (S:gN X scope N k cL) (I2:Inv X pins σ H2 s2)
  (hcl1:∀y c,cl.lookup y=some c->X.env.cells.lookup y=some c) (hcl2:∀y,(y,NameKind.free)∈scope.names->(cl.lookup y).isSome=true) (hC:C=s2.heap.objs.size+1)
  (hf:∀b∈fp,n6 X pins H2 b) (ho:∀b∈fp,b<s2.heap.objs.size) (hk:∀b o,s2.heap.get? b=some o->h1.get? b=some o) (hD:h1.get? s2.heap.objs.size=some {cls:=.type "dict",data:=.dict #[]}) (hns:h1.Ns C m0):
  Inv (aY X scope N ⟨cl,C,s2,H2,fp⟩) [] (bR k cL σ) (upd H2 s2.heap.objs.size (.dK [] 0)) {s2 with heap:=h1,toks:=tk}:=by
 have fr:H2 s2.heap.objs.size=none:=I2.bH.fresh (le_refl _);have hCf:H2 C=none:=I2.bH.fresh (hC▸le_succ _);refine⟨rK S I2 hcl1 hcl2 (hC▸le_succ _) hf ho,rfl,I2.bare,Un.laid hk (le_refl _) fr,⟨m0,hns,fun i y v e1 e2 e3=>?_⟩,fun x c e=>?_,?_,fun x c e=>?_,fun p hp=>absurd (show p∈([]:List (Addr×Obj))from hp) (by simp),I2.bH.laid hk (le_refl _) ?_,?_⟩
 .obtain⟨q,j,rfl,hj,hv⟩:=uE e2;obtain⟨z,hz1,hz2,hz3⟩:=S.cL q j hj;have e1':N[k+q]? =some y:=e1;rw[hz1]at e1';cases e1';obtain⟨m,hn,hl⟩:=I2.loc;have hfr:=S.free (y,.free) (PySem.mem_of_lookup hz3) rfl;obtain⟨u,r,l⟩:=hl j y v hz2 hv (by rcases hfr with z|z;exact .inr (.inl z);exact .inr (.inr z));refine⟨u,r,.inr ⟨fO (env:=X.env) hz3,?_⟩⟩;obtain⟨c,hc⟩:=isSome_iff_exists.mp (hcl2 y (PySem.mem_of_lookup hz3));rcases l with⟨hk',_⟩|⟨_,c',hc',hcell⟩
  .rcases hfr with z|z<;>(rw[hk']at z;cases z)
  .have e:=hcl1 y c hc;rw[hc']at e;cases e;obtain⟨o,ho',hd⟩:=hcell;exact⟨_,hc,o,hk _ _ ho',hd⟩
 .obtain⟨v,o,ho',hd⟩:=I2.cell x c (hcl1 x c e);exact⟨v,o,hk _ _ ho',hd⟩
 .show upd H2 s2.heap.objs.size (.dK [] 0) C=none;rw[aG (ne_of_gt (hC▸lt_succ_self _))];exact hCf
 .have e':=hcl1 x c e;obtain⟨v,q⟩:=I2.cell x c e';rw[aG (ne_of_lt q.lt)];exact I2.lF x c e'
 .exact⟨zero_le _,beq_eq_false_iff_ne.mpr (Ne.symm (ne_of_lt I2.big)),[],.nil,⟨_, #[],hD,⟨rfl,rfl,rfl⟩,rfl,(fun _ h=>absurd h (by simp)),.nil,nodup_nil⟩⟩
 .show(bR k cL σ).length=N.length;unfold bR;rw[length_append,length_replicate,length_map,S.len]
theorem JA (hc:X.calm=true) (S:gN X scope N k cL) (hi:PI X tg iter wi) (hg:∀c,PG (aY X scope N c) tg g) (ht:∀c,MR (aY X scope N c) ifs tt) (hk:∀c,PE (aY X scope N c) kx tk) (he:∀c,PE (aY X scope N c) vx te)
  (hs:∀x,foldedSetIterable iter X.env x=pure x:=by intro _;rfl):PE X (.DictComp kx vx [⟨tg,iter,ifs,0⟩] scope pos) (JG wi k cL g tt tk te):=by
 intro pins s σ H Q I h;rw[arm_eval_DictComp];obtain⟨cl,hclos,hcl1,hcl2⟩:=jJ (scope:=scope) (env:=X.env) (fun p hp hf=>I.ok.has p.1 (S.free p hp hf));refine wpAny_comprehension_free (use:=none) rfl hs hclos S.kind S.names (bY (hi pins s σ H _ I h) fun v s1 h1=>bY h1 fun itv s2 h2=>?_);obtain⟨it,fp,tn,J,H2,e,I2,T,st2,f2,q2⟩:=h2;subst e;obtain⟨W,⟨m0,w0⟩,turn⟩:=q2 s2.heap.objs.size (I2.bH.fresh (le_refl _));have hob:∀b∈fp,b<s2.heap.objs.size:=fun b hb=>let⟨o,e,_⟩:=T.obj _ _ st2 b hb;lt_size e
 refine wpAny_newObj_type (wpAny_newFunctionEnv S.cell (by intro y hy;simp at hy) (fun h₁ hns₁ hsb₁=>?_) S.kind);dsimp only at hns₁ hsb₁⊢
 generalize hHH:s2.heap.push {cls:=.type "dict",dict:=none,data:=.dict #[]}=HH at hns₁ hsb₁⊢
 have hCC:HH.objs.size=s2.heap.objs.size+1:=by rw[<-hHH,size_push]
 have old:∀b o,s2.heap.get? b=some o->h₁.get? b=some o:=fun b o e=>hsb₁.extBut b o (ne_of_lt (hCC▸lt_succ_of_lt (lt_size e))) (get?_push_of_some _ (hHH▸get?_push_of_some _ e))
 have hD:h₁.get? s2.heap.objs.size=some {cls:=.type "dict",data:=.dict #[]}:=hsb₁.extBut _ _ (ne_of_lt (hCC▸lt_succ_self _)) (get?_push_of_some _ (hHH▸get?_push_size _ rfl));have I4:=fun tk=>GW (tk:=tk) S I2 hcl1 hcl2 hCC f2 hob old hD hns₁
 have X':=aY X scope N ⟨cl,HH.objs.size,s2,H2,fp⟩;have stat:∀{H':Hp},(∀b∈fp,H' b=none)->∀b∈fp,n6 (aY X scope N ⟨cl,HH.objs.size,s2,H2,fp⟩) [] H' b:=fun hn b hb=>
  ⟨hn b hb,ne_of_lt (hCC▸lt_succ_of_lt (hob b hb)),(rK S I2 hcl1 hcl2 (hCC▸le_succ _) f2 hob).xV b hb,.inl hb,fun x c e=>(f2 b hb).2.2.2.2.1 x c (hcl1 x c e),fun p hp=>absurd (show p∈([]:List (Addr×Obj))from hp) (by simp)⟩
 have loop:∀s₃:Shared,s₃={s2 with heap:=h₁,toks:=s2.toks+([]:List (Str×Value)).length}->
   codeAny (model X.prog X.w) X.A (.compLoop (.DictComp kx vx [⟨tg,iter,ifs,0⟩] scope pos) 0 (.ref it) (.ref s2.heap.objs.size) (compEnvC scope cl HH.objs.size X.env))
    (compPost (model X.prog X.w) X.A X.xe none (EP X pins σ Q) (.ref s2.heap.objs.size) HH.objs.size) s₃:=by
  rintro s₃ rfl;refine DD (fun n s'=>∃i σ' H',Inv (aY X scope N ⟨cl,HH.objs.size,s2,H2,fp⟩) [] σ' H' s'/\tn i s'.heap/\(∀b∈fp,H' b=none)/\W i n σ' H') ?_ m0
   ⟨0,bR k cL σ,_,I4 _,T.keep _ _ _ st2 fun b _ o e=>old b o e,fun b hb=>by rw[aG (ne_of_lt (hob b hb))];exact(f2 b hb).1,w0⟩
  rintro n s3 ⟨i,σ3,H3,I3,st3,fr3,w3⟩;rcases turn i n σ3 H3 w3 with⟨stop,qn⟩|⟨go,NN,hN,step⟩
  .refine bY (T.done (aY X scope N ⟨cl,HH.objs.size,s2,H2,fp⟩) rfl rfl rfl hc i [] s3 σ3 H3 _ I3 (stat fr3) st3 stop) fun r s4 ⟨hr,J4⟩=>?_
   subst hr;obtain⟨m,hn,_⟩:=J4.loc;refine⟨m,hn,fun h' hs'=>?_⟩;have keepC:∀b o,b≠HH.objs.size->s4.heap.get? b=some o->h'.get? b=some o:=fun b o hb e=>hs'.extBut b o hb e
   have jF:∀b o,s2.heap.get? b=some o->b≠HH.objs.size:=fun b o e=>ne_of_lt (hCC▸lt_succ_of_lt (lt_size e))
   have u:=J4.base;have u':Un (AQ X.stack) fp H2 H3 s2.heap h':=⟨fun b o q n hb hx=>keepC b o (jF b o q) (u.keep b o q n hb hx),fun b o q n hb hx=>by
     obtain⟨sl,e⟩:=u.slot b o q n hb hx;exact⟨sl,keepC b _ (jF b o q) e⟩,u.free,fun b o q hx=>by
     obtain⟨o',e⟩:=u.there b o q hx;exact⟨o',keepC b _ (jF b o q) e⟩,u.oI,u.nR,u.nW⟩
   refine⟨.ref s2.heap.objs.size,H3,I2.xS (ch:=fp) J4.os u' (J4.bH.but J4.free keepC) J4.bare fun b hb=>?_,rfl,qn⟩;obtain⟨_,f1,_,f3,f4,f5⟩:=f2 b hb;exact⟨f3,f1,f4,f5⟩
  .refine bY (T.item (aY X scope N ⟨cl,HH.objs.size,s2,H2,fp⟩) rfl rfl rfl hc i [] s3 σ3 H3 _ I3 (stat fr3) st3 go) fun r s4 ⟨u,hr,h4⟩=>?_
   subst hr;refine bY h4 fun _ s5 ⟨x,H5,I5,r5,y5,st5,fr5⟩=>?_
   have I5':=I5.pinned (stat fr5) (T.obj _ _ st5);have again:∀{s7:Shared} {σ7:St} {H7:Hp},Inv (aY X scope N ⟨cl,HH.objs.size,s2,H2,fp⟩) ([]++m3 fp s5.heap) σ7 H7 s7->NN σ7 H7->
     ∃m,m<n/\∃i σ' H',Inv (aY X scope N ⟨cl,HH.objs.size,s2,H2,fp⟩) [] σ' H' s7/\tn i s7.heap/\(∀b∈fp,H' b=none)/\W i m σ' H':=fun{s7 σ7 H7} I7 n7=>by
    obtain⟨m',hm,w7⟩:=hN σ7 H7 n7;refine⟨m',hm,i+1,σ7,H7,I7.jR,T.keep _ _ _ st5 fun b hb o e=>(I7.pin (b,o) (mem_append_right _ (mem_append_right _ (fD hb e)))).1,fun b hb=>?_,w7⟩;obtain⟨o,e,d⟩:=T.obj _ _ st5 b hb;exact(I7.pin (b,o) (mem_append_right _ (mem_append_right _ (fD hb e)))).2.1
   refine bY (hg _ _ s5 σ3 H5 x u _ I5' r5 (step x H5 y5)) fun _ s6 ⟨σ6,H6,I6,q6⟩=>?_
   refine bY (ht _ _ s6 σ6 H6 _ I6 q6) fun b s7 ⟨H7,I7,q7⟩=>?_
   cases b with
   |false=>exact again I7 q7
   |true=>
    refine bY (hk _ _ s7 σ6 H7 _ I7 q7) fun kv s8 ⟨kx',H8,I8,r8,q8⟩=>?_
    refine bY (he _ _ s8 σ6 H8 _ I8 q8) fun y s9 ⟨yv,H9,I9,r9,kvs,key,hl,ek,hz,n9⟩=>?_
    subst ek;obtain⟨z,hd,vs,rel,dd⟩:=HY I9.bH hl;have hz':vs.length<=sizeLine:=by rw[<-rel.length];exact z
    have hl':(putK kvs key yv).length<=sizeLine:=by have:=i9 kvs key yv;omega
    refine wpAny_dictSet_pairs (hsz:=hz') (mH r8) dd fun h' dd' hs'=>?_
    have hx':∃q,h'.get? s2.heap.objs.size=some q:=let⟨q,_,_,hq,_⟩:=dd';⟨q,hq⟩
    obtain⟨ep,da⟩:=dd'.dictAt;exact again (nS I9 hl.US hs' hx' (AM hl' hd (rel.put key r9) da)) (n9 ep)
 exact codeAny_compStart_dict (loop _ rfl) (T.self X.A 0 _ _ _ (T.keep _ _ _ st2 fun b _ o e=>old b o e) (loop _ rfl))
theorem MM (N:List Str) (k:Nat) (cL:List Nat) (XN:List Str) (xs:Scope) (hc:X.calm=true) (hN:X.N=XN) (hx:X.env.scope=xs) (hi:PI X tg iter wi) (chk:nH XN xs scope N k cL=true)
  (hg:∀c,PG (aY X scope N c) tg g) (ht:∀c,MR (aY X scope N c) ifs tt) (hk:∀c,PE (aY X scope N c) kx tk) (he:∀c,PE (aY X scope N c) vx te)
  (hs:∀x,foldedSetIterable iter X.env x=pure x:=by intro _;rfl):PE X (.DictComp kx vx [⟨tg,iter,ifs,0⟩] scope pos) (JG wi k cL g tt tk te):=JA hc (jX hN hx chk) hi hg ht hk he hs
end
end L2
namespace L2
open PySem PyProof.Rows
section
variable {X:Cx}
def K6 (K:Frag):V->List V->Hp->VK->Prop:=fun x vs H Q=>∃(l:Addr) (zs:List Str) (y:Str),x= .ref l/\vs=[.str y]/\bC K H l (zs.map V.str)/\y∈zs/\zs.length<1000000/\Q (.int (zs.idxOf y:Nat)) H
theorem m5 (k:Str):∀{vs:List Value} {ys:List Str},StrsAre vs ys->∀(j:Nat) (h1:j<vs.length) (h2:j<ys.length),isStrOf k vs[j]=(ys[j]==k)
 |_,_,.cons n t h,0,_,_=>rfl
 |_,_,.cons n t h,j+1,h1,h2=>m5 k h j (by simpa using h1) (by simpa using h2)
theorem xK:∀{vs:List Value} {ys:List Str},StrsAre vs ys->vs.length=ys.length
 |_,_,.nil=>rfl
 |_,_,.cons n t h=>by rw[length_cons,length_cons,xK h]
theorem vB (K:Frag) (hK:X.K=K:=by rfl):SO X "list.index" (K6 K):=by
 subst hK;intro pins s σ H x vs v us Q I rx rv h;obtain⟨l,zs,y,rfl,rfl,hq,hy,hz,q⟩:=h;cases rx;obtain⟨u,rfl,t,rfl⟩:=vals1 rv;obtain⟨its,r,pl,_⟩:=I.list hq;have hi:StrsAre its zs:=wO r;have hl:=pl.isList;obtain⟨⟨cls,dd,data,sl⟩,ho,hc,n,hd⟩:=id hl;simp only at hc hd;subst hc hd;have hlen:=xK hi;have hj:zs.idxOf y<zs.length:=List.idxOf_lt_length_iff.mpr hy;refine call_meets slot_list_index ⟨_,ho,rfl⟩ PySem.F.entry_list_index (PySem.F.args_list_index_2 _ _)
  (SeqAt.list_indexAt l its.toArray n dd sl (.str y t) (isStrOf y) (zs.idxOf y) (by simpa [hlen]using hj) (by omega) ?_ ?_) ⟨ho,fun w hw=>(eq_isStrOf y t hi w (by simpa using hw)).at _ _,⟨.int (zs.idxOf y:Nat),H,I.tok _,⟨_,rfl⟩,q⟩⟩
 .show isStrOf y its[zs.idxOf y]=true;rw[m5 y hi _ (by omega) hj];simpa using List.getElem_idxOf hj
 .intro j hjs hlt;show isStrOf y its[j]=false;rw[m5 y hi j (by simpa using hjs) (by omega)];have:=List.not_of_lt_findIdx (p:=(·==y)) (xs:=zs) (i:=j) hlt;simpa using this
end
end L2
namespace L2
open PySem PySem.Spec PyProof.Rows
variable {l:Expr} {elts:List Expr} {K:Frag} {tl:TE} {w:World}
theorem Paired.KS {α β:Type} {F:α->β->Prop}:∀{l:List α} {m:List β} {i:Nat} {x:α},Paired F l m->l[i]? =some x->∃y,m[i]? =some y/\F x y
 |_,_,_,_,.nil,h=>by simp at h
 |_,_,0,_,.cons h _,e=>by simp at e;subst e;exact⟨_,rfl,h⟩
 |_,_,i+1,_,.cons _ r,e=>by
  obtain⟨y,h1,h2⟩:=Paired.KS (i:=i) r (by simpa using e);exact⟨y,by simpa using h1,h2⟩
theorem FF {k:Key} {v:Value} (e:gC k v=true):RelV (kV k) v:=by
 rcases bB e with⟨i,t,rfl,rfl⟩|⟨x,t,rfl,rfl⟩
 .exact⟨t,rfl⟩
 .exact⟨t,rfl⟩
noncomputable def RV (a:Addr) (kvs:List (Key×V)) (ep:Nat):It:=
 ⟨fun i H=>Rd H a (.dK kvs ep)/\i<kvs.length,fun i H x H'=>H'=H/\∀kv,kvs[i]? =some kv->x=kV kv.1,fun i H=>Rd H a (.dK kvs ep)/\i=kvs.length⟩
theorem DG {P:Program} {tg:Expr} (a it:Addr) (kvs:List (Key×V)) (ep:Nat):Turn P w K tg (RV a kvs ep) [it] it (fun i h=>h.IsKeyIter it a i kvs.length ep)where
 mem:=by simp
 obj:=fun i h st b hb=>by
  have e:b=it:=by simpa using hb
  subst e;obtain⟨o,e,c,d⟩:=st;exact⟨o,e,fun v z=>by rw[d]at z;cases z⟩
 keep:=fun i h h' st k=>st.at fun o e=>k it (by simp) o e
 item:=by
  intro X hP hw hK hc i pins s σ H E I hf st hg;subst hP hw hK;obtain⟨hr,hi⟩:=hg;obtain⟨_,_,vs,rel,dd⟩:=mG I.bH hr;have hl:kvs.length=vs.length:=Paired.length rel;obtain⟨q,hq,rq⟩:=Paired.KS rel (getElem?_eq_getElem hi);rw[hl]at st;obtain⟨f0,f1,f2,f3,f4,f5⟩:=hf it (by simp);refine wpAny_pyNext_dict_item st dd (k:=q.1) (v:=q.2) hq fun key h' hk st' sb=>?_
  have I1:Inv X pins σ H {s with heap:=h'}:=I.turned (t':=s.toks) (fun b o hb e=>(sb.2 b hb).trans e) f0 f1 f3 f4 f5;obtain⟨o,e,c,d⟩:=id st';rw[<-hl]at st';refine⟨key,rfl,sL (s:={s with heap:=h'}) e c d (by decide) ⟨kV q.1,H,I1,FF hk,⟨rfl,fun kv hkv=>?_⟩,st',fun b hb=>(hf b hb).1⟩⟩;rw[getElem?_eq_getElem hi]at hkv;cases hkv;rw[rq.1]
 done:=by
  intro X hP hw hK hc i pins s σ H E I hf st hg;subst hP hw hK;obtain⟨hr,hi⟩:=hg;obtain⟨_,_,vs,rel,dd⟩:=mG I.bH hr;have hl:kvs.length=vs.length:=Paired.length rel;rw[hl]at st;obtain⟨f0,f1,f2,f3,f4,f5⟩:=hf it (by simp);exact wpAny_pyNext_dict_end (I.ok.hd hc) st dd (List.getElem?_eq_none_iff.mpr (by omega)) fun h' eb=>⟨rfl,I.turned (t':=s.toks) (fun b o hb e=>eb b o hb e) f0 f1 f3 f4 f5⟩
 self:=fun _ _ _ _ _ st h=>wpAny_pyIter_keyiter st h
noncomputable def TC (a:Addr) (kvs:List (Key×V)) (ep:Nat):It:=
 ⟨fun i H=>Rd H a (.dK kvs ep)/\i<kvs.length,fun i H v H'=>∃t,H t=none/\v= .ref t/\∀kv,kvs[i]? =some kv->H'=upd H t (.tup [kV kv.1,kv.2]),fun i H=>Rd H a (.dK kvs ep)/\i=kvs.length⟩
theorem AY {P:Program} {x1} {pos:Pos} (a it:Addr) (kvs:List (Key×V)) (ep:Nat):Turn P w K (.Tuple elts x1 pos) (TC a kvs ep) [it] it (fun i h=>∃ok ov,IsItemIter h it a i kvs.length ep ok ov)where
 mem:=by simp
 obj:=fun i h st b hb=>by
  have e:b=it:=by simpa using hb
  subst e;obtain⟨_,_,e⟩:=st;exact⟨_,e,fun v z=>by cases z⟩
 keep:=fun i h h' st k=>let⟨ok,ov,e⟩:=st;⟨ok,ov,k it (by simp) _ e⟩
 item:=by
  intro X hP hw hK hc i pins s σ H E I hf st hg;subst hP hw hK;obtain⟨hr,hi⟩:=hg;obtain⟨ok,ov,st⟩:=st;obtain⟨_,_,vs,rel,dd⟩:=mG I.bH hr;have hl:kvs.length=vs.length:=Paired.length rel;obtain⟨q,hq,rq⟩:=Paired.KS rel (getElem?_eq_getElem hi);rw[hl]at st;refine wpAny_pyNext_items_item st dd (k:=q.1) (v:=q.2) hq fun key h' hk ho' htup hsz hkp=>?_
  refine⟨_,rfl,wpAny_letOwnedTupleGo_items (s:={s with heap:=h'}) ho' fun h2 he2 sb=>?_⟩;have hT:s.heap.objs.size≠it:=fun z=>by
   have:=lt_size st;rw[<-z]at this;exact Nat.lt_irrefl _ this
  have hk2:∀b o,b∉[it]->s.heap.get? b=some o->h2.get? b=some o:=fun b o hb q=>
   sb.extBut b o (fun z=>hb (by simp[z])) (hkp b o (fun z=>hb (by simp[z])) q)
  have hfr:H s.heap.objs.size=none:=I.bH.fresh (le_refl _);have htup2:h2.get? s.heap.objs.size=some {cls:=.type "tuple",data:=.seq #[key,q.2]}:=sb.extBut _ _ hT htup;have I2:Inv X pins σ (upd H s.heap.objs.size (.tup [kV q.1,kvs[i].2])) {s with heap:=h2,toks:=s.toks}:=by
   refine I.S5 hk2 hf hfr (by simp[hT]) ⟨by show 2<=sizeLine;decide,[key,q.2],.cons (FF hk) (.cons rq.2 .nil),o8.of htup2⟩ (fun b hb o q=>?_);have r:b=it:=by simpa using hb
   subst r;exact⟨_,he2⟩
  refine⟨.ref s.heap.objs.size,_,I2,rfl,⟨s.heap.objs.size,hfr,rfl,fun kv hkv=>?_⟩,⟨_,_,by rw[hl];exact he2⟩,fun b hb=>?_⟩
  .rw[getElem?_eq_getElem hi]at hkv;cases hkv;rw[rq.1]
  .have r:b=it:=by simpa using hb
   rw[aG (by rw[r];exact Ne.symm hT)];exact(hf b hb).1
 done:=by
  intro X hP hw hK hc i pins s σ H E I hf st hg;subst hP hw hK;obtain⟨hr,hi⟩:=hg;obtain⟨ok,ov,st⟩:=st;obtain⟨_,_,vs,rel,dd⟩:=mG I.bH hr;have hl:kvs.length=vs.length:=Paired.length rel;rw[hl]at st;obtain⟨f0,f1,f2,f3,f4,f5⟩:=hf it (by simp);exact wpAny_pyNext_items_end (I.ok.hd hc) st dd (List.getElem?_eq_none_iff.mpr (by omega)) fun h' eb=>⟨rfl,I.turned (t':=s.toks) (fun b o hb e=>eb b o hb e) f0 f1 f3 f4 f5⟩
 self:=fun _ _ _ _ _ st h=>by
  obtain⟨_,_,e⟩:=st;exact PySem.W.kcp_self e h
section
variable {X:Cx}
def xH (tl:TE):TI:=fun σ H R=>tl σ H fun x H1=>∃a kvs ep,x= .ref a/\Rd H1 a (.dK kvs ep)/\R (RV a kvs ep) H1
theorem lV {tg:Expr} (hl:PE X l tl):PI X tg l (xH tl):=by
 intro pins s σ H R I h;refine bY (hl pins s σ H _ I h) fun v s1 ⟨x,H1,I1,r1,a,kvs,ep,e,hr,q⟩=>?_
 subst e;cases r1;obtain⟨_,hd,vs,rel,dd⟩:=mG I1.bH hr;refine wpAny_pyIter_dict hd dd ?_;refine⟨s1.heap.objs.size,[s1.heap.objs.size],_,_,H1,rfl,I1.kept (t':=s1.toks) fun b o e=>get?_push_of_some _ e,DG a _ kvs ep,⟨_,get?_push_size _ rfl,rfl,by rw[show kvs.length=vs.length from Paired.length rel];rfl⟩,fun b hb=>?_,q⟩;have e:b=s1.heap.objs.size:=by simpa using hb
 subst e;exact I1.nD (le_refl _) (I1.bH.fresh (le_refl _))
def sV (te:TE):TI:=fun σ H R=>te σ H fun x H1=>∃v a kvs ep,x= .ref v/\H1 v=some (SY v a)/\Rd H1 a (.dK kvs ep)/\R (TC a kvs ep) H1
theorem sZ {x1} {tpos:Pos} (hl:PE X l tl):PI X (.Tuple elts x1 tpos) l (sV tl):=by
 intro pins s σ H R I h;refine bY (hl pins s σ H _ I h) fun v s1 ⟨x,H1,I1,r1,vw,a,kvs,ep,e,hv,hr,q⟩=>?_
 subst e;cases r1;obtain⟨_,hd,vs,rel,dd⟩:=mG I1.bH hr;have vi:s1.heap.IsItemsView vw a:=(show cB X.prog X.w H1 s1.heap vw (SY vw a)from I1.bH vw _ hv).1;refine wpAny_pyIter_items vi dd ?_;refine⟨s1.heap.objs.size,[s1.heap.objs.size],_,_,H1,rfl,I1.kept (t':=s1.toks) fun b o e=>get?_push_of_some _ e,AY a _ kvs ep,⟨.none,.none,by rw[show kvs.length=vs.length from Paired.length rel];exact get?_push_size _ rfl⟩,fun b hb=>?_,q⟩;have e:b=s1.heap.objs.size:=by simpa using hb
 subst e;exact I1.nD (le_refl _) (I1.bH.fresh (le_refl _))
end
end L2
namespace L2
open PySem PyProof.Rows
section
variable {X:Cx}
theorem j7:dW X (.builtin "repr") (fun xs H Q=>∃b:Bool,xs=[.bl b]/\Q (.str (if b then "True"else "False")) H):=by
 intro pins s σ H xs us Q I r h;obtain⟨b,rfl,q⟩:=h;obtain⟨u,rfl,ru⟩:=vals1 r;cases ru;exact PySem.P.repr_of_bool ⟨.str (if b then "True"else "False"),H,I.tok _,⟨_,rfl⟩,q⟩
noncomputable def fQ {α:Type} (xs:List α) (n:Nat) (y:α):List α:=xs.take n++y::xs.drop n
def LD:V->List V->Hp->VK->Prop:=fun x vs H Q=>∃(l:Addr) (xs:List V) (k:Int) (y:V),x= .ref l/\vs=[.int k,y]/\H l=some (.lst xs)/\0<=k/\k<1000000000/\xs.length<1000000/\Q .aP (upd H l (.lst (fQ xs k.toNat y)))
theorem uQ:TY X "list.insert" LD:=by
 intro pins s σ H x vs v us Q I rx rv h;obtain⟨l,xs,k,y,rfl,rfl,hH,hk0,hk1,hz,q⟩:=h;cases rx;obtain⟨u,rfl,ru⟩:∃u2:Value×Value,us=[u2.1,u2.2]/\RelV (.int k) u2.1/\RelV y u2.2:=by
  cases rv with
  |cons h1 t=>cases t with|cons h2 t=>cases t;exact⟨(_,_),rfl,h1,h2⟩
 obtain⟨⟨t,et⟩,ry⟩:=ru;obtain⟨z,its,n,r,hl,e⟩:=I.JH hH;rw[et];have hs:its.length<1000000:=by rw[<-r.length];exact hz
 have sl:its.length<=sizeLine:=by rw[sizeLine_eq];omega
 refine call_meets F.slot_list_insert ⟨_,e,rfl⟩ F.entry_list_insert (F.args_list_insert_3 _ _ _) (PySem.AutoSeq1.list_insert_list_int_val_1 l its.toArray n k t u.2 (by simp[Builtin.List.listFitsIndex];omega) (by rw[size_toArray];exact sl)) ⟨e,?_⟩;refine⟨.aP,_,I.OF (its':=fQ its k.toNat u.2) hH e ?_ ?_ ?_,rfl,q⟩
 .show(its.toArray.extract 0 (if k<0 then(k+(its.toArray.size:Int)).toNat else min k.toNat its.toArray.size)).push u.2++its.toArray.extract (if k<0 then(k+(its.toArray.size:Int)).toNat else min k.toNat its.toArray.size)=(fQ its k.toNat u.2).toArray;rw[if_neg (by omega)];apply Array.toList_inj.mp;unfold fQ
  by_cases hc:k.toNat<=its.length
  .simp[Nat.min_eq_left hc,take_of_length_le]
  .have hc':its.length<=k.toNat:=by omega
   simp[Nat.min_eq_right hc',take_of_length_le hc',List.drop_eq_nil_of_le hc']
 .exact(r.take _).append (.cons ry (r.drop _))
 .unfold fQ;rw[length_append,length_cons,length_take,length_drop,sizeLine_eq];omega
end
end L2
namespace L2
open PySem PySem.Spec PyProof.Rows PySem.W
section
variable {prog:Program} {w:World} {A:Around}
theorem FJ {E:Value->Shared->Prop} {s0:Shared} {x y:Value} {Q:Value->Shared->Prop} {ok:Heap->Prop} (bt:Nat->Nat->Bool) (hh:A.handled=none)
  (bH:∀h',(∀b o,s0.heap.get? b=some o->h'.get? b=some o)->ok h') (okk:∀h h':Heap,ok h->(∀b o,b<s0.heap.objs.size->h.get? b=some o->h'.get? b=some o)->ok h') (hcmp:HP prog w A.in1 ok (fun i v=>[x,y][i]? =some v) bt)
  (hq:∀v h' tk,[x,y][argBest bt ([x,y].length - 1)]? =some v->(∀b o,s0.heap.get? b=some o->h'.get? b=some o)->Q v {s0 with heap:=h',toks:=tk}):wpAny (model prog w) A (call (.builtin "min") [x,y]) Q E s0:=by
 refine call_function_tree F.kind_min F.plain_min F.entry_min (F.args_min2 _ _) ?_;refine wpAny_bind (m:=Builtin.Builtins.bindParams "min" ["key","default"] 0 ⟨[],[]⟩) (wpAny_of_eq (show Builtin.Builtins.bindParams "min" ["key","default"] 0 ⟨[],[]⟩=pure [none,none]from rfl) ?_);show wpAny _ A.in1 (newTuple [x,y]>>=_) _ _ s0;refine wpAny_bind (wpAny_newObj_type ?_)
 let s:Shared:={s0 with heap:=s0.heap.push {cls:=.type "tuple",data:=.seq #[x,y]}}
 let l:Addr:=s0.heap.objs.size
 let vs:List Value:=[x,y]
 have lS0:s0.heap.objs.size<(s0.heap.push {cls:=.type "tuple",data:=.seq #[x,y]}).objs.size:=by rw[size_push];exact lt_succ_self _
 have hl:s.heap.IsTuple l vs.toArray:=⟨_,get?_push_size _ rfl,rfl,0,rfl⟩;have hn:0<vs.length:=by show 0<2;decide
 have hsz:s0.heap.objs.size<s.heap.objs.size:=lS0;have lS:l<s.heap.objs.size:=let⟨_,e,_⟩:=hl;lt_size e
 have k0:∀b o,s0.heap.get? b=some o->s.heap.get? b=some o:=fun b o e=>get?_push_of_some _ e
 refine wpAny_bind (wpAny_pyIter_tuple (s:=s) hl ?_);refine wpAny_bind (wpAny_newObj_type ?_);rw[pD];generalize hX:(s.heap.push {cls:=.type "tuple_iterator",data:=.fields #[.ref l,.int 0 0]})=h1;have z1:h1.objs.size=s.heap.objs.size+1:=by rw[<-hX];exact size_push ..
 have k1:∀b o,s.heap.get? b=some o->h1.get? b=some o:=fun b o e=>by rw[<-hX];exact get?_push_of_some _ e
 have e1:h1.get? s.heap.objs.size=some {cls:=.type "tuple_iterator",data:=.fields #[.ref l,.int 0 0]}:=by rw[<-hX];exact get?_push_size _ rfl
 have nI:l≠s.heap.objs.size:=ne_of_lt lS;have W:=Walks.tuple (prog:=prog) (w:=w) (A:=A.in1) (by exact hh) s.heap.objs.size l nI vs.toArray;have gS:(h1.push {cls:=.type "list",data:=.seq ([]:List Value).toArray}).get? h1.objs.size=some {cls:=.type "list",dict:=none,data:=.seq #[] 0,slots:= #[]}:=get?_push_size _ rfl;have nf:h1.objs.size∉[s.heap.objs.size,l]:=by
  rw[z1];simp only[mem_cons,not_mem_nil,or_false,not_or];exact⟨ne_of_gt (lt_succ_self _),ne_of_gt (lt_succ_of_lt lS)⟩
 have nw:h1.objs.size∉[s.heap.objs.size]:=fun z=>nf (by simp at z⊢;exact .inl z)
 have st0:(h1.push {cls:=.type "list",data:=.seq ([]:List Value).toArray}).IsTupleIter s.heap.objs.size l 0/\(h1.push {cls:=.type "list",data:=.seq ([]:List Value).toArray}).IsTuple l vs.toArray:=by
  refine⟨⟨_,get?_push_of_some _ e1,rfl,rfl⟩,?_⟩;obtain⟨o,e,r⟩:=hl;exact⟨o,get?_push_of_some _ (k1 _ _ e),r⟩
 refine wpAny_pure ⟨plainId_quiet F.plain_min_loop _,?_⟩;refine codeAny_builtin F.entry_min_loop ?_;rw[Around.under_plainId F.plain_min_loop _];refine wpAny_bind (m:=seqItems? (.ref h1.objs.size)) (wpAny_seqItems gS rfl ?_);refine wpAny_bind (m:=tryCatch (pyNext (.ref s.heap.objs.size)) _) (wpAny_tryCatch (W.item 0 {s with heap:=h1.push {cls:=.type "list",data:=.seq ([]:List Value).toArray}} _ _ (by simpa using hn) st0 fun v h' tk hP st' kp=>?_));have gS':=kp h1.objs.size _ nw gS;refine wpAny_bind (m:=updateSeq h1.objs.size (fun _=> #[v,v])) (wpAny_updateSeq gS' rfl ?_);rw[pD];have ne:∀{b:Addr} {o:Obj},b≠h1.objs.size->h'.get? b=some o->(h'.update h1.objs.size (Obj.mapSeq fun _=> #[v,v])).get? b=some o:=fun h q=>(get?_update_other _ _ (Ne.symm h)).trans q
 have ltS:∀{b:Addr} {o:Obj},s.heap.get? b=some o->b∉[s.heap.objs.size]/\b≠h1.objs.size:=fun e=>by
  have:=lt_size e;rw[z1];exact⟨by simp;exact ne_of_lt this,ne_of_lt (lt_succ_of_lt this)⟩
 have kq:∀b o,s.heap.get? b=some o->(h'.update h1.objs.size (Obj.mapSeq fun _=> #[v,v])).get? b=some o:=fun b o e=>ne (ltS e).2 (kp b o (ltS e).1 (get?_push_of_some _ (k1 b o e)))
 refine wpAny_pure ⟨plainId_quiet F.plain_min_loop _,y1 (ok:=ok) W bt (fun i j vi vj s Q E h1 h2 h3 h4=>hcmp i j vi vj s Q E h1 (by simpa using h2) (by simpa using h3) h4) h1.objs.size nf (fun h h2 o k=>okk h h2 o fun b u hb q=>k b u (by simp;exact ne_of_lt (lt_trans hb hsz)) (by rw[z1];exact ne_of_lt (lt_succ_of_lt (lt_trans hb hsz))) q) _ 0 _ v _ rfl (by simp;omega) (bH _ fun b o e=>kq b o (k0 b o e)) (W.frame _ _ _ st' fun b hbf o q=>ne (fun z=>nf (by rw[<-z];exact hbf)) q) (by simpa [argBest]using hP) (get?_update_self _ gS' rfl) fun v' h2 tk2 hP' kp2=>?_⟩;exact hq v' h2 tk2 (by have h9:vs[argBest bt (vs.length - 1)]? =some v':=(by simpa using hP');exact h9) fun b o e=>kp2 b o (ltS (k0 b o e)).1 (ltS (k0 b o e)).2 (kq b o (k0 b o e))
end
section
variable {X:Cx} {k:Nat}
open Mr
def NO (K:Frag):List V->Hp->VK->Prop:=fun xs H Q=>∃x y p q,xs=[x,y]/\i3 K J1 H [p,q] [x,y]/\fZ 3 [p,q]=true/\Q (if JY [p,q] 1 0=true then y else x) H
theorem SQ (K:Frag) (hr:d6 k X.A) (hK:X.K=K:=by rfl) (hc:X.calm=true:=by rfl):dW X (.builtin "min") (NO K):=by
 subst hK;intro pins s σ H xs us Q I r ⟨x,y,p,q,e,rp,cmp,qq⟩;subst e;obtain⟨u,v,rfl,rx,ry⟩:=vals2 r;have rv:Vals [x,y] [u,v]:=.cons rx (.cons ry .nil);have ok:∀z∈[p,q],qO 3 z=true:=fun z hz=>by
  have:=all_eq_true.mp cmp z hz;rw[and_eq_true]at this;exact sY this.1
 refine FJ (ok:=fun h=>∀b o,s.heap.get? b=some o->h.get? b=some o) (JY [p,q]) (by exact I.ok.hd hc) (fun h' kp=>kp) (fun h h' o kk b u e=>kk b u (lt_size e) (o b u e)) (fun i j vi vj s' Q E bH h1 h2 hQ=>?_) fun w h' tk hv kp=>?_
 .have hL:cM s'.heap [p,q] [u,v]:=i3.lies (I.kept (t':=s.toks) bH) (n:=3) (all_eq_true.mpr ok) rp rv;obtain⟨p1,e1,l1⟩:=hL.get h1;obtain⟨p2,e2,l2⟩:=hL.get h2;have m1:=mem_of_getElem? e1;have m2:=mem_of_getElem? e2;refine BB (s:=s') 3 X.A.in1 (by have:=hr.un;show X.A.units+1+3<_;omega) (ok p1 m1) (ok p2 m2) l1 l2 (nJ cmp m1 m2) _ _ _ _ ?_;have hQ:Q (.bool (jF (code 3 ([p,q].getD i .aP)) (code 3 ([p,q].getD j .aP)))) s':=hQ;rw[getD_eq_getElem?_getD,e1,getD_eq_getElem?_getD,e2]at hQ;exact hQ
 .have hv:[u,v][if JY [p,q] 1 0 then 1 else 0]? =some w:=hv;refine⟨if JY [p,q] 1 0=true then y else x,H,I.kept (t':=tk) kp,?_,qq⟩
  by_cases hb:JY [p,q] 1 0=true
  .rw[if_pos hb]at hv⊢
   cases hv;exact ry
  .rw[if_neg hb]at hv⊢
   cases hv;exact rx
end
end L2
namespace L2
open PySem PySem.Spec PyProof.Rows
variable {prog:Program} {w:World}
section
variable {prog:Program} {w:World} {A:Around} {E:Value->Shared->Prop} {s:Shared}
theorem ET {Q:Int->Shared->Prop} (h:Q 0xFCA86420 {s with toks:=s.toks+1}):wpAny (model prog w) A (pyHash .none) Q E s:=by
 unfold pyHash;have hv:[Value.none].any Value.onHeap=false:=rfl;refine wpAny_bind ?_;rw[cRoomFor,if_neg (by rw[hv];exact Bool.false_ne_true)];refine wpAny_pure ?_
 refine wpAny_bind (wpAny_specialOf (typeIs_none s) F.slot_NoneType_hash.lookup ?_);show wpAny _ _ (if(some (Value.builtin "NoneType.__hash__")==some Value.none)=true then _ else _) Q E s;rw[if_neg (by rw[beq_builtin_none];exact Bool.false_ne_true)];refine wpAny_bind (wpAny_specialOf (typeIs_none s) F.slot_NoneType_hash.lookup ?_);show wpAny _ _ (callSpecialIfBoundUnlessNone? .none "__hash__" _>>=_) Q E s;refine wpAny_bind (wpAny_callSpecialIfBoundUnlessNone?_slot (typeIs_none s) F.slot_NoneType_hash
  (wpAny_call_entry F.slot_NoneType_hash (typeIs_none s) F.entry_NoneType_hash
   (show wpAny _ _ (do ret (<-mkInt 0xFCA86420)) _ _ s from wpAny_ret_mkInt ?_) (F.args_NoneType_hash_1 _)))
 exact wpAny_pure h
end
theorem K0 {A:Around} {E:Value->Shared->Prop} {s:Shared} {Q:Bool->Shared->Prop} (h:Q true s):wpAny (model prog w) A (eqBool .none .none) Q E s:=by
 unfold eqBool;refine wpAny_holding ?_;rw[if_pos (by rfl)];exact wpAny_bind (wpAny_rule (wpAny_pure h))
noncomputable def RG:Option Key->Value->Bool
 |some k,v=>gC k v
 |none,v=>match v with| .none=>true|_=>false
theorem fK {v:Value} (h:RG none v=true):v= .none:=by
 cases v<;>first|rfl|cases h
theorem wX {k:Key} (h:gC k .none=true):False:=by
 rcases bB h with⟨_,_,_,e⟩|⟨_,_,_,e⟩<;>cases e
noncomputable def GR (prog:Program) (w:World):PySem.KeyKind prog w (Option Key)where
 is:=RG
 hash:=fun k=>match k with|some k=>PY w k|none=>0xFCA86420
 inj:=fun v a b ha hb=>by
  cases a with
  |none=>
   cases fK ha;cases b with
   |none=>rfl
   |some b=>exact(wX hb).elim
  |some a=>
   cases b with
   |none=>cases fK hb;exact(wX ha).elim
   |some b=>rw[(bA prog w).inj v a b ha hb]
 byValue:=fun k v h=>by
  cases k with
  |none=>cases fK h;rfl
  |some k=>exact(bA prog w).byValue k v h
 pyHash:=fun{A E s k v Q} hv h=>by
  cases k with
  |none=>cases fK hv;exact ET h
  |some k=>exact(bA prog w).pyHash (k:=k) hv h
 eqBool:=fun{A E s a b u v Q} hu hv h=>by
  cases a with
  | none=>
   cases fK hu;cases b with
   |none=>
    cases fK hv;rw[decide_eq_true rfl]at h;exact K0 h
   |some b=>
    rw[decide_eq_false (fun e=>nomatch e)]at h;rcases bB (show gC b v=true from hv)with⟨i,t,rfl,rfl⟩|⟨x,t,rfl,rfl⟩
    .exact SeqAt.EqAt.none_int i t _ _ _ _ h
    .exact SeqAt.EqAt.none_str x t _ _ _ _ h
  | some a=>
   cases b with
   |none=>
    cases fK hv;rw[decide_eq_false (fun e=>nomatch e)]at h;rcases bB (show gC a u=true from hu)with⟨i,t,rfl,rfl⟩|⟨x,t,rfl,rfl⟩
    .exact SeqAt.EqAt.int_none i t _ _ _ _ h
    .exact SeqAt.EqAt.str_none x t _ _ _ _ h
   | some b=>
    refine(bA prog w).eqBool (a:=a) (b:=b) hu hv ?_;have e:decide (some a=some b)=decide (a=b):=by
     by_cases q:a=b
     .subst q;simp
     .rw[decide_eq_false q,decide_eq_false fun z=>q (Option.some.inj z)]
    rw[<-e];exact h
 «strs»:=fun k x t v h=>by
  cases k with
  |none=>cases fK h
  |some k=>exact(bA prog w).strs k x t v h
theorem TF {h:Heap} {a:Addr} {vs:List (Key×Value)} (d:h.DictOf (bA prog w) a vs):∃f,h.MapOf (GR prog w) a f/\f none=none:=by
 obtain⟨o,es,ep,h1,h2,h3,h4,h5,h6⟩:=d;refine⟨fun k=>findBy (GR prog w).is es k,⟨o,es,ep,h1,h2,h3,fun e he=>?_,fun _=>rfl⟩,?_⟩
 .obtain⟨k,k1,k2⟩:=h4 e he;exact⟨some k,k1,k2⟩
 .have:es.find? (fun e=>(GR prog w).is none e.key)=none:=by
   rw[Array.find?_eq_none];intro e he hn;obtain⟨k,k1,_⟩:=h4 e he;have e2:e.key= .none:=fK hn;rw[e2]at k1;exact wX k1
  show(es.find? (fun e=>(GR prog w).is none e.key)).map (·.val)=none;rw[this];rfl
end L2
namespace My
open PySem L2
variable {A B:Prop}
noncomputable abbrev qA:Str:=Str.ofString "abcdefghijklmnopqrstuvwxyz0123456789"
noncomputable def KP (c:Nat):Bool:=!(Builtin.Str.occurrences qA ⟨#[c]⟩ 0 qA.length 1).isEmpty
noncomputable def cI (x:Str):Bool:=decide (1<=(x.length:Int)) && decide ((x.length:Int)<=12) && x.cps.toList.all KP
noncomputable def eY:V->Bool
 | .str x=>cI x
 |_=>false
theorem yL {v:V} (h:∀x,v≠ .str x):eY v=false:=by
 cases v<;>first|rfl|exact absurd rfl (h _)
def qE:Sp:=fun vs H Q _=>∃v k,vs=[v]/\Tg H v k/\∀H',aF H H'->Q (.bl (eY v)) H'
noncomputable def TX:V->Bool
 | .int i=>decide (0<=i) && decide (i<=99999999)
 |_=>false
noncomputable def U3 (c:Nat):Bool:=(!decide ((⟨#[c]⟩:Str).cps.toList<(Str.ofString " ").cps.toList)) && (!decide ((Str.ofString "~").cps.toList<(⟨#[c]⟩:Str).cps.toList))
noncomputable def QR:V->Bool
 | .str x=>!decide (60<(x.length:Int)) && x.cps.toList.all U3
 |_=>false
theorem xM (z:Str):List.all (List.map (fun c=>KP c) z.cps.toList) id=z.cps.toList.all KP:=by
 rw[all_map];rfl
theorem rV (xs:List V):vT xs []=xs.isEmpty:=by cases xs<;>rfl
theorem cS (h:A):if(!false)=true then A else B:=by rw[if_pos (show(!false)=true from rfl)];exact h
theorem cO (h:B):if(!true)=true then A else B:=by rw[if_neg (show¬(!true)=true from Bool.false_ne_true)];exact h
noncomputable def LW:List Str:=[Str.ofString "come",Str.ofString "go"]
noncomputable def NW:List Str:=[Str.ofString "split",Str.ofString "free",Str.ofString "read",Str.ofString "unread"]
noncomputable abbrev JW:Str:=Str.ofString "join"
theorem C4 {c:V} {r:List V}:uR (c::r) 0=some c:=cQ (j:=0) rfl
theorem iF {v:V} (h:eY v=true):∃x,v= .str x:=by
 cases v<;>first|exact⟨_,rfl⟩|cases h
def QV (f:Hp->V->Bool) (n:Nat):Sp:=fun vs H Q _=>∃v,vs=[v]/\jG n H v/\∀H',aF H H'->Q (.bl (f H v)) H'
end My
namespace My
open PySem L2 Mr PySem.NumText
variable {x:Str}
structure Lt where
 n:Str
 d:Int
 h:Str
 row:List Str
noncomputable def Lt.P (x:Lt):PV:=.tup [.str x.n,.int x.d,.str x.h,.tup (x.row.map .str)]
noncomputable def Lt.ok (x:Lt):Bool:=cI x.n && (TX (.int x.d) && (QR (.str x.h) && (!decide (9<(x.row.length:Int)) && x.row.all cI)))
inductive Dd where
 |lt (w:Str) (x:Lt)
 |ws (l:List Str)
noncomputable def Dd.P:Dd->PV
 | .lt w x=>.tup [.str w,x.P]
 | .ws l=>.tup (l.map .str)
noncomputable def TZ:List Str->Bool
 |[a,b]=>if LW.contains a=true then false else NW.contains a && cI b
 |[a,b,c]=>decide (a=JW) && (cI b && (cI c && !decide (b=c)))
 |_=>false
noncomputable def TL (row:List Str):Str:=if row.isEmpty=true then Str.ofString "-"else Txt.join (Str.ofString ",") row
noncomputable def U8 (n:Str) (d:Int) (h:Str) (row:List Str):Str:=n++Str.ofString " "++Str.ofString (toString d)++Str.ofString " "++TL row++Str.ofString " "++h
noncomputable def Lt.T (x:Lt):Str:=U8 x.n x.d x.h x.row
noncomputable def Dd.T:Dd->Str
 | .lt w x=>w++Str.ofString " "++x.T
 | .ws l=>Txt.join (Str.ofString " ") l
noncomputable def Dd.ok:Dd->Bool
 | .lt w x=>LW.contains w && x.ok
 | .ws l=>TZ l
theorem CA (c:Nat):KP c=true↔c∈qA.cps.toList:=by unfold KP;rw[StrLaws.found_one];exact decide_eq_true_iff
theorem eO (h:cI x=true):1<=x.length/\x.length<=12:=by
 unfold cI at h;rw[and_eq_true,and_eq_true]at h;have h1:=of_decide_eq_true h.1.1;have h2:=of_decide_eq_true h.1.2;omega
theorem yP (h1:1<=x.length) (h2:x.length<=12) (h:∀c∈x.cps.toList,c∈qA.cps.toList):cI x=true:=by
 unfold cI;rw[and_eq_true,and_eq_true,all_eq_true];exact⟨⟨decide_eq_true (by omega),decide_eq_true (by omega)⟩,fun c hc=>(CA c).mpr (h c hc)⟩
theorem kQ (y:Str) (ps:List Str):Txt.join y ps=Str.join y ps:=by
 show Builtin.Str.glued _ ps=_;rw[StrLaws.glued_eq_join]
theorem uZ (a b:Str):(a++b).cps.toList=a.cps.toList++b.cps.toList:=by rw[Str.cps_append,toList_append]
structure Lt.Ok (x:Lt):Prop where
 nm:cI x.n=true
 d0:0<=x.d
 d1:x.d<=99999999
 hd:x.h.length<=60/\∀c∈x.h.cps.toList,32<=c/\c<=126
 lr:x.row.length<=9
 tY:∀z∈x.row,cI z=true
theorem EC (y:Str):Txt.join y []=Str.empty:=by rw[kQ];rfl
theorem mem_join {y:Str} {c:Nat}:∀{ps:List Str},c∈(Txt.join y ps).cps.toList->c∈y.cps.toList\/ ∃p∈ps,c∈p.cps.toList
 |[],h=>by rw[EC]at h;cases h
 |[p],h=>by rw[kQ]at h;exact .inr ⟨p,mem_cons_self,h⟩
 | p::q::r,h=>by
  have ih:=mem_join (y:=y) (c:=c) (ps:=q::r);rw[kQ]at h ih;have h:c∈(p++y++Str.join y (q::r)).cps.toList:=h;rw[uZ,uZ,mem_append,mem_append]at h;rcases h with(h|h)|h
  .exact .inr ⟨p,mem_cons_self,h⟩
  .exact .inl h
  .rcases ih h with h|⟨z,h1,h2⟩
   .exact .inl h
   .exact .inr ⟨z,mem_cons_of_mem _ h1,h2⟩
end My
namespace L2
open PySem PySem.Spec PyProof.Rows
variable {m n p q r t z:Addr} {us vs:Array Value} {i j:Nat} {a b u v:Value} {R:Value->Shared->Prop}
section
variable {P:Program} {w:World} {B:Around} {FE:Value->Shared->Prop} {s:Shared}
theorem LA (D:ZipApart z p q r t m n)
  (gz:IsZip s.heap z p q .none) (gp:IsPair s.heap p (.ref r) (.ref t)) (gq:IsPair s.heap q a b)
  (g1:s.heap.IsTupleIter r m i) (g2:s.heap.IsTupleIter t n j) (gm:s.heap.IsTuple m us) (gn:s.heap.IsTuple n vs) (eu:us[i]? =some u) (ev:vs[j]? =some v)
  (k:∀h',IsZip h' z p q (rawInt s.heap.objs.size)->IsPair h' q u v->h'.IsTupleIter r m (i+1)->h'.IsTupleIter t n (j+1)->IsPair h' s.heap.objs.size u v->h'.objs.size=s.heap.objs.size+1->
   (∀c o,c≠z->c≠q->c≠r->c≠t->s.heap.get? c=some o->h'.get? c=some o)->R (.ref s.heap.objs.size) {s with heap:=h'}):
  wpAny (model P w) B (Builtin.«zip.__next__» ⟨[.ref z],[]⟩) (fun fin s'=>∃v,fin= .done (.ret v)/\R v s') FE s:=by
 show wpAny _ _ (field (.ref z) 2>>=_) _ _ _;refine wpAny_bind (wpAny_field gz rfl (x:=.bool false) rfl ?_);show wpAny _ _ (field (.ref z) 3>>=_) _ _ _;refine wpAny_bind (wpAny_field gz rfl (x:=.ref p) rfl ?_);refine wpAny_bind (wpAny_seqItems gp rfl ?_);show wpAny _ _ (Builtin.SmallTypes.ownedTupleIsFree (.ref z)>>=_) _ _ _;refine wpAny_bind ?_;unfold Builtin.SmallTypes.ownedTupleIsFree;refine wpAny_bind (wpAny_field gz rfl (x:=.none) rfl (wpAny_pure ?_));simp only[if_true];refine wpAny_bind (wpAny_rule ?_);refine wpAny_bind (wpAny_field gz rfl (x:=.ref q) rfl ?_);refine wpAny_bind (wpAny_setField_rec gz (by simp) fun h1 z1 s1=>?_);replace z1:IsZip h1 z p q .ellipsis:=z1;refine wpAny_bind ?_;simp only[zipIdx_cons,zipIdx_nil,forIn_cons,forIn_nil];refine wpAny_bind (wpAny_bind (wpAny_onRaise ?_));show wpAny _ _ (Builtin.SmallTypes.nextOf (.ref r)>>=_) _ _ _;refine wpAny_bind (cU (g1.extBut s1.extBut D.i1z) (gm.extBut s1.extBut D.l1z) eu fun h2 y2 s2=>wpAny_pure ?_);have q2:IsPair h2 q a b:=s2.extBut _ _ D.TOi1 (s1.extBut _ _ D.TOz gq);refine wpAny_bind (wpAny_seqItems q2 rfl ?_);refine wpAny_bind (wpAny_updateSeq_pair q2 fun h3 q3 s3=>?_);replace q3:IsPair h3 q u b:=q3;refine wpAny_bind (wpAny_letGo (wpAny_pure ?_));refine wpAny_bind (wpAny_bind (wpAny_onRaise ?_));show wpAny _ _ (Builtin.SmallTypes.nextOf (.ref t)>>=_) _ _ _;refine wpAny_bind (cU (((g2.extBut s1.extBut D.i2z).extBut s2.extBut D.i12.symm).extBut s3.extBut D.TOi2.symm)
  (((gn.extBut s1.extBut D.l2z).extBut s2.extBut D.l2i1).extBut s3.extBut D.l2TO) ev fun h4 y4 s4=>wpAny_pure ?_)
 have q4:IsPair h4 q u b:=s4.extBut _ _ D.TOi2 q3;refine wpAny_bind (wpAny_seqItems q4 rfl ?_);refine wpAny_bind (wpAny_updateSeq_pair q4 fun h5 q5 s5=>?_);replace q5:IsPair h5 q u v:=q5;refine wpAny_bind (wpAny_letGo (wpAny_pure (wpAny_pure ?_)));refine wpAny_bind (wpAny_seqItems q5 rfl ?_);refine wpAny_bind (wpAny_newTuple ?_);have esz:h5.objs.size=s.heap.objs.size:=by rw[s5.1,s4.1,s3.1,s2.1,s1.1]
 have z5:IsZip h5 z p q .ellipsis:=s5.extBut _ _ D.TOz.symm (s4.extBut _ _ D.i2z.symm (s3.extBut _ _ D.TOz.symm (s2.extBut _ _ D.i1z.symm z1)));have k5:∀c o,c≠z->c≠q->c≠r->c≠t->s.heap.get? c=some o->h5.get? c=some o:=fun c o c1 c2 c3 c4 e=>
  s5.extBut _ _ c2 (s4.extBut _ _ c4 (s3.extBut _ _ c2 (s2.extBut _ _ c3 (s1.extBut _ _ c1 e))))
 have i5:h5.IsTupleIter r m (i+1):=((y2.extBut s3.extBut D.TOi1.symm).extBut s4.extBut D.i12).extBut s5.extBut D.TOi1.symm;have j5:h5.IsTupleIter t n (j+1):=y4.extBut s5.extBut D.TOi2.symm;have zlt:z<h5.objs.size:=lt_size z5;show wpAny _ _ (Builtin.SmallTypes.ownedTupleHandOut (.ref z) (.ref h5.objs.size)>>=_) _ _ _;refine wpAny_bind ?_;unfold Builtin.SmallTypes.ownedTupleHandOut;have z6:IsZip (h5.push {cls:=.type "tuple",data:=.seq #[u,v]}) z p q .ellipsis:=get?_push_of_some _ z5;refine wpAny_bind (wpAny_setField_rec z6 (by simp) fun h7 z7 s7=>?_);replace z7:IsZip h7 z p q (rawInt h5.objs.size):=z7;refine wpAny_setField_rec z7 (by simp) fun h8 z8 s8=>?_
 replace z8:IsZip h8 z p q (rawInt h5.objs.size):=z8;have up:∀c o,c≠z->h5.get? c=some o->h8.get? c=some o:=fun c o c1 e=>s8.extBut _ _ c1 (s7.extBut _ _ c1 (get?_push_of_some _ e))
 have t8:IsPair h8 h5.objs.size u v:=s8.extBut _ _ (ne_of_gt zlt) (s7.extBut _ _ (ne_of_gt zlt) (get?_push_size _ rfl));have e8:h8.objs.size=h5.objs.size+1:=by rw[s8.1,s7.1,size_push]
 rw[esz]at z8 t8 e8;refine wpAny_pure ⟨_,rfl,?_⟩;show R (.ref h5.objs.size) _;rw[esz];exact k h8 z8 (up _ _ D.TOz q5) (i5.at fun o e=>up _ o D.i1z e) (j5.at fun o e=>up _ o D.i2z e) t8 e8 fun c o c1 c2 c3 c4 e=>up c o c1 (k5 c o c1 c2 c3 c4 e)
theorem zt_end {z p q r t m n:Addr} {i j:Nat} {us vs:Array Value} {a b:Value} {R:Fin->Shared->Prop} (hh:B.handled=none) (D:ZipApart z p q r t m n)
  (gz:IsZip s.heap z p q .none) (gp:IsPair s.heap p (.ref r) (.ref t)) (gq:IsPair s.heap q a b)
  (g1:s.heap.IsTupleIter r m i) (gm:s.heap.IsTuple m us) (eu:us[i]? =none)
  (k:∀h' e,(∀c o,c≠z->c≠q->c≠r->c≠t->s.heap.get? c=some o->h'.get? c=some o)->(∃o,h'.get? e=some o/\o.cls= .type "StopIteration")->FE (.ref e) {s with heap:=h'}):
  wpAny (model P w) B (Builtin.«zip.__next__» ⟨[.ref z],[]⟩) R FE s:=by
 show wpAny _ _ (field (.ref z) 2>>=_) _ _ _;refine wpAny_bind (wpAny_field gz rfl (x:=.bool false) rfl ?_);show wpAny _ _ (field (.ref z) 3>>=_) _ _ _;refine wpAny_bind (wpAny_field gz rfl (x:=.ref p) rfl ?_);refine wpAny_bind (wpAny_seqItems gp rfl ?_);show wpAny _ _ (Builtin.SmallTypes.ownedTupleIsFree (.ref z)>>=_) _ _ _;refine wpAny_bind ?_;unfold Builtin.SmallTypes.ownedTupleIsFree;refine wpAny_bind (wpAny_field gz rfl (x:=.none) rfl (wpAny_pure ?_));simp only[if_true];refine wpAny_bind (wpAny_rule ?_);refine wpAny_bind (wpAny_field gz rfl (x:=.ref q) rfl ?_);refine wpAny_bind (wpAny_setField_rec gz (by simp) fun h1 z1 s1=>?_);replace z1:IsZip h1 z p q .ellipsis:=z1;refine wpAny_bind ?_;simp only[zipIdx_cons,zipIdx_nil,forIn_cons,forIn_nil];refine wpAny_bind (wpAny_bind (wpAny_onRaise ?_));show wpAny _ _ (Builtin.SmallTypes.nextOf (.ref r)>>=_) _ _ _;refine wpAny_bind (eU hh (g1.extBut s1.extBut D.i1z) (gm.extBut s1.extBut D.l1z) eu fun h2 e s2 he=>?_);obtain⟨oe,g,ce⟩:=he;have z2:IsZip h2 z p q .ellipsis:=s2 _ _ D.i1z.symm z1;have ez:e≠z:=fun x=>by subst x;rw[z2]at g;cases g;simp at ce
 refine wpAny_setField_rec z2 (by simp) fun h3 _ s3=>k h3 e (fun c o c1 _ c3 _ x=>s3.extBut _ _ c1 (s2 _ _ c3 (s1.extBut _ _ c1 x))) ⟨oe,s3.extBut _ _ ez g,ce⟩
theorem KU {R:Option Value->Shared->Prop} (D:ZipApart z p q r t m n)
  (gz:IsZip s.heap z p q .none) (gp:IsPair s.heap p (.ref r) (.ref t)) (gq:IsPair s.heap q a b)
  (g1:s.heap.IsTupleIter r m i) (g2:s.heap.IsTupleIter t n j) (gm:s.heap.IsTuple m us) (gn:s.heap.IsTuple n vs) (eu:us[i]? =some u) (ev:vs[j]? =some v)
  (k:∀h',IsZip h' z p q (rawInt s.heap.objs.size)->IsPair h' q u v->h'.IsTupleIter r m (i+1)->h'.IsTupleIter t n (j+1)->IsPair h' s.heap.objs.size u v->h'.objs.size=s.heap.objs.size+1->
   (∀c o,c≠z->c≠q->c≠r->c≠t->s.heap.get? c=some o->h'.get? c=some o)->R (some (.ref s.heap.objs.size)) {s with heap:=h'}):
  wpAny (model P w) B (pyNext (.ref z)) R FE s:=by
 have T:s.TypeIs (.ref z) "zip":=⟨_,gz,rfl⟩;unfold pyNext;exact wpAny_bind (wpAny_attempt (wpAny_callSpecial?_slot (name:=Str.ofString "__next__") T F.slot_zip_next
  (wpAny_call_entry F.slot_zip_next T F.entry_zip_next
   (LA D gz gp gq g1 g2 gm gn eu ev fun h' a1 a2 a3 a4 a5 a6 a7=>wpAny_pure (k h' a1 a2 a3 a4 a5 a6 a7)) (F.args_zip_next_1 _))))
theorem zt_stop {z p q r t m n:Addr} {i j:Nat} {us vs:Array Value} {a b:Value} {R:Option Value->Shared->Prop} (hh:B.handled=none) (D:ZipApart z p q r t m n)
  (gz:IsZip s.heap z p q .none) (gp:IsPair s.heap p (.ref r) (.ref t)) (gq:IsPair s.heap q a b)
  (g1:s.heap.IsTupleIter r m i) (gm:s.heap.IsTuple m us) (eu:us[i]? =none)
  (k:∀h',(∀c o,c≠z->c≠q->c≠r->c≠t->s.heap.get? c=some o->h'.get? c=some o)->R none {s with heap:=h'}):wpAny (model P w) B (pyNext (.ref z)) R FE s:=by
 have T:s.TypeIs (.ref z) "zip":=⟨_,gz,rfl⟩;unfold pyNext;refine wpAny_bind (wpAny_attempt (wpAny_callSpecial?_slot (name:=Str.ofString "__next__") T F.slot_zip_next
  (wpAny_call_entry F.slot_zip_next T F.entry_zip_next (zt_end (j:=j) (n:=n) (vs:=vs) hh D gz gp gq g1 gm eu fun h' e hk he=>?_) (F.args_zip_next_1 _))))
 obtain⟨o,ho,hc⟩:=he;refine wpAny_bind (wpAny_isInstance (T:="StopIteration") (b:=true) ⟨o,ho,hc⟩ isSubtype_stop ?_);exact wpAny_pure (k _ hk)
end
theorem OD (m n:Addr) (us vs:Array Value):
  Meets (Builtin.«zip.__new__» ⟨[.type "zip",.ref m,.ref n],[]⟩) (fun _ R s=>s.heap.IsTuple m us/\s.heap.IsTuple n vs/\
   ∀h',IsZip h' (s.heap.objs.size+4) (s.heap.objs.size+2) (s.heap.objs.size+3) .none->IsPair h' (s.heap.objs.size+2) (.ref s.heap.objs.size) (.ref (s.heap.objs.size+1))->
    IsPair h' (s.heap.objs.size+3) .none .none->h'.IsTupleIter s.heap.objs.size m 0->h'.IsTupleIter (s.heap.objs.size+1) n 0->
    (∀c o,s.heap.get? c=some o->h'.get? c=some o)->R (.ok (.ret (.ref (s.heap.objs.size+4)))) {s with heap:=h'}):=
 .of_wp fun prog w A R s h=>by
  obtain⟨hp,g,d,tk,os⟩:=s;obtain⟨gm,gn,h⟩:=h
  have hsub:=sub_zip;have L1:Heap.IsTuple (Shared.heap ⟨hp,g,d,tk,os⟩) m us:=gm;have L2:Heap.IsTuple (Shared.heap ⟨hp.push {cls:=.type "tuple_iterator",data:=.fields #[.ref m,.int 0 0]},g,d,tk,os⟩) n vs:=let⟨o,e,r⟩:=gn;⟨o,get?_push_of_some _ e,r⟩
  dsimp only at h
  let h1:=hp.push {cls:=.type "tuple_iterator",data:=.fields #[.ref m,.int 0 0]}
  let h2:=h1.push {cls:=.type "tuple_iterator",data:=.fields #[.ref n,.int 0 0]}
  let h3:=h2.push {cls:=.type "tuple",data:=.seq #[.ref hp.objs.size,.ref h1.objs.size]}
  let h4:=h3.push {cls:=.type "tuple",data:=.seq #[.none,.none]}
  let h5:=h4.push {cls:=.type "zip",data:=.fields #[.none,.bool false,.bool false,.ref h2.objs.size,.ref h3.objs.size]}
  have z1:h1.objs.size=hp.objs.size+1:=size_push ..;have z2:h2.objs.size=hp.objs.size+2:=by rw[size_push,z1]
  have z3:h3.objs.size=hp.objs.size+3:=by rw[size_push,z2]
  have z4:h4.objs.size=hp.objs.size+4:=by rw[size_push,z3]
  have a1:h1.get? hp.objs.size=some _:=get?_push_size _ rfl;have a2:h2.get? h1.objs.size=some _:=get?_push_size _ rfl;have a3:h3.get? h2.objs.size=some _:=get?_push_size _ rfl;have a4:h4.get? h3.objs.size=some _:=get?_push_size _ rfl;have a5:h5.get? h4.objs.size=some _:=get?_push_size _ rfl;have u1:∀c o,hp.get? c=some o->h1.get? c=some o:=fun c o e=>get?_push_of_some _ e
  have u2:∀c o,h1.get? c=some o->h2.get? c=some o:=fun c o e=>get?_push_of_some _ e
  have u3:∀c o,h2.get? c=some o->h3.get? c=some o:=fun c o e=>get?_push_of_some _ e
  have u4:∀c o,h3.get? c=some o->h4.get? c=some o:=fun c o e=>get?_push_of_some _ e
  have u5:∀c o,h4.get? c=some o->h5.get? c=some o:=fun c o e=>get?_push_of_some _ e
  rw[z1]at a2 a3;rw[z2]at a3 a5;rw[z3]at a4 a5;have fin:R (.ok (.ret (.ref h4.objs.size))) ⟨h5,g,d,tk,os⟩:=by
   rw[z4]at a5⊢
   exact h h5 a5 (u5 _ _ (u4 _ _ a3)) (u5 _ _ a4) ⟨_,u5 _ _ (u4 _ _ (u3 _ _ (u2 _ _ a1))),rfl,rfl⟩ ⟨_,u5 _ _ (u4 _ _ (u3 _ _ a2)),rfl,rfl⟩ fun c o e=>u5 _ _ (u4 _ _ (u3 _ _ (u2 _ _ (u1 _ _ e))))
  wp_walk using wpAny_pyIter_tuple L1,wpAny_pyIter_tuple L2
  exact⟨_,rfl,fin⟩
section
variable {P:Program} {w:World} {B:Around} {FE:Value->Shared->Prop} {s:Shared}
theorem KW (gm:s.heap.IsTuple m us) (gn:s.heap.IsTuple n vs)
  (h:∀h',IsZip h' (s.heap.objs.size+4) (s.heap.objs.size+2) (s.heap.objs.size+3) .none->IsPair h' (s.heap.objs.size+2) (.ref s.heap.objs.size) (.ref (s.heap.objs.size+1))->
   IsPair h' (s.heap.objs.size+3) .none .none->h'.IsTupleIter s.heap.objs.size m 0->h'.IsTupleIter (s.heap.objs.size+1) n 0->
   (∀c o,s.heap.get? c=some o->h'.get? c=some o)->R (.ref (s.heap.objs.size+4)) {s with heap:=h'}):
  wpAny (model P w) B (call (.type "zip") [.ref m,.ref n]) R FE s:=by
 refine callType_new F.called_zip (by decide) (F.typeCall_zip_2 _ _) (F.newCall_zip_2 _ _) (fun obj=>F.args_object_init_3 obj _ _) F.entry_zip_new
  (OD m n us vs) ⟨gm,gn,fun h' a1 a2 a3 a4 a5 a6=>?_⟩
 exact⟨⟨_,a1,rfl⟩,h h' a1 a2 a3 a4 a5 a6⟩
end
noncomputable def PU (K:Frag) (a b:Addr):It:=
  ⟨fun i H=>∃xs ys x y,bU K H a xs/\bU K H b ys/\xs[i]? =some x/\ys[i]? =some y,
   fun i H v H'=>∃t,H t=none/\v= .ref t/\∀xs ys,bU K H a xs->bU K H b ys->∃x y,xs[i]? =some x/\ys[i]? =some y/\H'=upd H t (.tup [x,y]),
   fun i H=>∃xs,bU K H a xs/\xs.length<=i⟩
theorem iJ {P:Program} {w:World} {K:Frag} {elts:List Expr} {x1} {pos:Pos} (a b z p q r t:Addr) (nd:[z,p,q,r,t].Nodup) (na:a≠q) (nb:b≠q):
  Turn P w K (.Tuple elts x1 pos) (PU K a b) [z,p,q,r,t] z (fun i h=>IsZip h z p q .none/\IsPair h p (.ref r) (.ref t)/\(∃u v,IsPair h q u v)/\h.IsTupleIter r a i/\h.IsTupleIter t b i):=by
 have nd':=nd;simp only[nodup_cons,mem_cons,not_mem_nil,or_false,not_or,nodup_nil,not_false_eq_true,and_true]at nd';obtain⟨⟨zp,zq,zr,zt⟩,⟨pq,pr,pt⟩,⟨qr,qt⟩,rt⟩:=nd';have apart:∀{s:Shared} {i:Nat} {ua ub:Array Value} {u v:Value},IsZip s.heap z p q .none->s.heap.IsTupleIter r a i->s.heap.IsTupleIter t b i->s.heap.IsTuple a ua->s.heap.IsTuple b ub->ZipApart z p q r t a b:=by
  intro s i ua ub u v hz ⟨o1,e1,c1,_⟩ ⟨o2,e2,c2,_⟩ ⟨oa,ea,ca,_⟩ ⟨ob,eb,cb,_⟩;have key:∀(r:Addr) (o:Obj) (n:String) (l:Addr) (ol:Obj),s.heap.get? r=some o->o.cls= .type n->n≠"tuple"->s.heap.get? l=some ol->ol.cls= .type "tuple"->l≠r:=fun r o n l ol hr cr hn hl cl zz=>by
   subst zz;rw[hr]at hl;cases hl
   rw[cr]at cl;exact hn (Value.type.inj cl)
  exact⟨Ne.symm zp,Ne.symm zq,Ne.symm zr,Ne.symm zt,pq,pr,pt,qr,qt,rt,key z _ _ a oa hz rfl (by decide) ea ca,na,key r _ _ a oa e1 c1 (by decide) ea ca,key t _ _ a oa e2 c2 (by decide) ea ca,
   key z _ _ b ob hz rfl (by decide) eb cb,nb,key r _ _ b ob e1 c1 (by decide) eb cb,key t _ _ b ob e2 c2 (by decide) eb cb⟩
 exact{
  mem:=by simp
  obj:=fun i h st c hb=>by
   obtain⟨hz,hp,⟨u,v,hq⟩,⟨o1,h1,_,e1⟩,⟨o2,h2,_,e2⟩⟩:=st;simp only[mem_cons,not_mem_nil,or_false]at hb;rcases hb with r|r|r|r|r
   .subst r;exact⟨_,hz,fun v z=>by cases z⟩
   .subst r;exact⟨_,hp,fun v z=>by cases z⟩
   .subst r;exact⟨_,hq,fun v z=>by cases z⟩
   .subst r;exact⟨o1,h1,fun v z=>by rw[e1]at z;cases z⟩
   .subst r;exact⟨o2,h2,fun v z=>by rw[e2]at z;cases z⟩
  keep:=fun i h h' st k=>by
   obtain⟨hz,hp,⟨u,v,hq⟩,h1,h2⟩:=st;exact⟨k z (by simp) _ hz,k p (by simp) _ hp,⟨u,v,k q (by simp) _ hq⟩,h1.at fun o e=>k r (by simp) o e,h2.at fun o e=>k t (by simp) o e⟩
  item:=by
   intro X hP hw hK hc i pins s σ H E I hf st hg;subst hP hw hK;obtain⟨xs,ys,x,y,hqa,hqb,hx,hy⟩:=hg;obtain⟨ia,rva,pa,_⟩:=I.tuple hqa;obtain⟨ib,rvb,pb,_⟩:=I.tuple hqb;obtain⟨u,hu,ru⟩:=rva.get hx;obtain⟨v,hv,rv⟩:=rvb.get hy;obtain⟨hz,hp,⟨c1,c2,hq⟩,h1,h2⟩:=st;have D:=apart (u:=u) (v:=v) hz h1 h2 pa pb;have lt:∀(r:Addr) (o:Obj),s.heap.get? r=some o->s.heap.objs.size≠r:=fun r o e zz=>by
    have:=lt_size e;rw[<-zz]at this;exact Nat.lt_irrefl _ this
   have n0:s.heap.objs.size∉[z,p,q,r,t]:=by
    simp only[mem_cons,not_mem_nil,or_false,not_or];exact⟨lt z _ hz,lt p _ hp,lt q _ hq,let⟨o,e,_⟩:=h1;lt r o e,let⟨o,e,_⟩:=h2;lt t o e⟩
   refine KU D hz hp hq h1 h2 pa pb (u:=u) (v:=v) (by simpa using hu) (by simpa using hv) fun h' hz' hq' h1' h2' hT hsz hk=>?_
   refine⟨_,rfl,wpAny_letOwnedTupleGo_zip (s:={s with heap:=h'}) hz' fun hh2 hz2 sb=>?_⟩;have hk2:∀c o,c∉[z,p,q,r,t]->s.heap.get? c=some o->hh2.get? c=some o:=fun c o hb e=>by
    simp only[mem_cons,not_mem_nil,or_false,not_or]at hb;exact sb.extBut c o hb.1 (hk c o hb.1 hb.2.2.1 hb.2.2.2.1 hb.2.2.2.2 e)
   have hfr:H s.heap.objs.size=none:=I.bH.fresh (le_refl _);have hT2:hh2.get? s.heap.objs.size=some {cls:=.type "tuple",data:=.seq #[u,v]}:=sb.extBut _ _ (lt z _ hz) hT;have hp2:IsPair hh2 p (.ref r) (.ref t):=sb.extBut _ _ (Ne.symm zp) (hk p _ (Ne.symm zp) pq pr pt hp);have hq2:IsPair hh2 q u v:=sb.extBut _ _ (Ne.symm zq) hq';have h12:=h1'.extBut sb.extBut (Ne.symm zr);have h22:=h2'.extBut sb.extBut (Ne.symm zt);have I2:Inv X pins σ (upd H s.heap.objs.size (.tup [x,y])) {s with heap:=hh2,toks:=s.toks}:=by
    refine I.S5 hk2 hf hfr n0 ⟨by show 2<=sizeLine;decide,[u,v],.cons ru (.cons rv .nil),o8.of hT2⟩ (fun c hb o e=>?_);simp only[mem_cons,not_mem_nil,or_false]at hb;rcases hb with g|g|g|g|g
    .subst g;exact⟨_,hz2⟩
    .subst g;exact⟨_,hp2⟩
    .subst g;exact⟨_,hq2⟩
    .subst g;exact let⟨o,e,_⟩:=h12;⟨o,e⟩
    .subst g;exact let⟨o,e,_⟩:=h22;⟨o,e⟩
   refine⟨.ref s.heap.objs.size,_,I2,rfl,⟨s.heap.objs.size,hfr,rfl,fun xs' ys' hx' hy'=>⟨x,y,by rw[I.lQ hx' hqa];exact hx,by rw[I.lQ hy' hqb];exact hy,rfl⟩⟩,⟨hz2,hp2,⟨u,v,hq2⟩,h12,h22⟩,fun c hb=>?_⟩;rw[aG fun zz=>n0 (by rw[<-zz];exact hb)];exact(hf c hb).1
  done:=by
   intro X hP hw hK hc i pins s σ H E I hf st hg;subst hP hw hK;obtain⟨xs,hqa,hend⟩:=hg;obtain⟨ia,rva,pa,_⟩:=I.tuple hqa;obtain⟨hz,hp,⟨c1,c2,hq⟩,h1,h2⟩:=st;have l1:=rva.length;obtain⟨o1,e1,cc1,_⟩:=id h1;obtain⟨o2,e2,cc2,_⟩:=id h2;obtain⟨oa,ea,ca,_⟩:=id pa;have key:∀(r:Addr) (o:Obj) (n:String) (l:Addr) (ol:Obj),s.heap.get? r=some o->o.cls= .type n->n≠"tuple"->s.heap.get? l=some ol->ol.cls= .type "tuple"->l≠r:=fun r o n l ol hr cr hn hl cl zz=>by
    subst zz;rw[hr]at hl;cases hl
    rw[cr]at cl;exact hn (Value.type.inj cl)
   have D:ZipApart z p q r t a a:=⟨Ne.symm zp,Ne.symm zq,Ne.symm zr,Ne.symm zt,pq,pr,pt,qr,qt,rt,key z _ _ a oa hz rfl (by decide) ea ca,na,key r _ _ a oa e1 cc1 (by decide) ea ca,key t _ _ a oa e2 cc2 (by decide) ea ca,
    key z _ _ a oa hz rfl (by decide) ea ca,na,key r _ _ a oa e1 cc1 (by decide) ea ca,key t _ _ a oa e2 cc2 (by decide) ea ca⟩
   refine zt_stop (j:=0) (vs:= #[]) (I.ok.hd hc) D hz hp hq h1 pa (by simp;omega) fun h' hk=>⟨rfl,I.qG (t':=s.toks) (fun c o hb e=>?_) hf⟩
   simp only[mem_cons,not_mem_nil,or_false,not_or]at hb;exact hk c o hb.1 hb.2.2.1 hb.2.2.2.1 hb.2.2.2.2 e
  self:=fun _ _ _ _ _ st h=>wpAny_pyIter_zip st.1 h}
end L2
namespace My
open PySem L2 Mr
variable {H:Hp} {x:Lt} {v:V}
noncomputable abbrev EM:Str:=Str.ofString ""
theorem FR:EM.cps.toList=[]:=by decide+kernel
structure Nm (H:Hp) (p g l:Addr) (zs:List Str):Prop where
 el:H l=some (.lst (zs.map V.str))
 np:l≠p
 ng:l≠g
 lo:1<=zs.length
 hi:zs.length<=6
 nm:∀z∈zs,cI z=true
structure tJ (H:Hp) (v:V) (x:Lt):Prop where
 tr:Tr H x.P v
 ok:x.Ok
theorem tJ.kp {H':Hp} (h:tJ H v x) (k:iI H H'):tJ H' v x:=⟨h.tr.kp k,h.ok⟩
theorem xG:∀{row:List Str} {vs:List V},lT H (row.map PV.str) vs->vs=row.map V.str
 |[],_,.nil=>rfl
 |x::xs,_,.cons h r=>by cases h;rw[xG r];rfl
theorem tJ.at' (h:tJ H v x):∃a r,v= .ref a/\H a=some (.tup [.str x.n,.int x.d,.str x.h,.ref r])/\H r=some (.tup (x.row.map V.str)):=by
 obtain⟨a,us,e,ha,hu⟩:=h.tr.JI;cases hu with
 | cons h1 hu=>cases hu with
  | cons h2 hu=>cases hu with
   | cons h3 hu=>cases hu with
    |cons h4 hu=>
     cases hu;cases h1;cases h2;cases h3
     obtain⟨r,ws,e2,hr,hw⟩:=h4.JI;subst e2;rw[xG hw]at hr;exact⟨a,r,e,ha,hr⟩
theorem tJ.of {a r:Addr} (ha:H a=some (.tup [.str x.n,.int x.d,.str x.h,.ref r])) (hr:H r=some (.tup (x.row.map V.str))) (ok:x.Ok):tJ H (.ref a) x:=
 ⟨.tup ha (.cons (.str _) (.cons (.int _) (.cons (.str _) (.cons (.tup hr lT.strs) .nil)))),ok⟩
theorem s0:EM.length=0:=by decide+kernel
theorem HM (a b:Str):(a++b).length=a.length+b.length:=strLen_append a b
theorem join_le (z:Str) (ys:List Str):(Txt.join z ys).length<=(ys.map (·.length)).sum+ys.length*z.length:=by
 rw[kQ];exact StrLaws.join_length_le z ys
theorem GS {z:Str} {ys:List Str} (h:ys≠[]) (h1:∀y∈ys,1<=y.length):1<=(Txt.join z ys).length:=by
 rw[kQ]
 match ys,h,h1 with
 |[x],_,h1=>exact h1 x mem_cons_self
 |x::y::r,_,h1=>
  show 1<=(x++z++Str.join z (y::r)).length;rw[HM,HM];have:=h1 x mem_cons_self;omega
theorem rR {Pr:Str->Prop}:∀{ys:List V},(∀y∈ys,∃x:Str,y= .str x/\Pr x)->∃zs:List Str,ys=zs.map V.str/\(∀z∈zs,Pr z)
 |[],_=>⟨[],rfl,fun _ h=>nomatch h⟩
 |y::ys,h=>by
  obtain⟨zs,e,hz⟩:=rR (ys:=ys) fun z hz=>h z (mem_cons_of_mem _ hz)
  obtain⟨x,rfl,hx⟩:=h y mem_cons_self;refine⟨x::zs,by rw[e];rfl,fun z hz'=>?_⟩;rcases mem_cons.mp hz' with r|r
  .rw[r];exact hx
  .exact hz z r
theorem ED {Z:Str} {zs:List Str} (hZ:∀c∈Z.cps.toList,c∈qA.cps.toList) (hz:∀z∈zs,z.length=1/\∀c∈z.cps.toList,c∈Z.cps.toList) (h0:1<=zs.length) (h1:zs.length<=12):cI (Txt.join EM zs)=true:=by
 refine yP (GS (by intro z;rw[z]at h0;simp at h0) fun y hy=>by rw[(hz y hy).1];exact le_refl _) ?_ fun c hc=>?_
 .have h:=join_le EM zs;rw[y8 fun y hy=>(hz y hy).1,s0]at h;omega
 .rcases mem_join hc with h|⟨q,hq,h⟩
  .rw[FR]at h;cases h
  .exact hZ c ((hz q hq).2 c h)
theorem strAt {row:List Str} {i:Nat} {x:V} (h:(row.map V.str)[i]? =some x):∃n,row[i]? =some n/\x= .str n:=by
 rw[getElem?_map]at h;cases e:row[i]? with
 |none=>rw[e]at h;cases h
 |some n=>rw[e]at h;exact⟨n,rfl,(Option.some.inj h).symm⟩
theorem QL:p5 3 x.P=true/\qO 8 x.P=true:=by
 have h:∀n,p5 (n+2) x.P=true:=fun n=>by
  show([PV.str x.n,PV.int x.d,PV.str x.h,PV.tup (x.row.map PV.str)]).all (p5 (n+1))=true;have hr:p5 (n+1) (PV.tup (x.row.map PV.str))=true:=all_eq_true.mpr fun p hp=>by obtain⟨z,_,rfl⟩:=mem_map.mp hp;cases n<;>rfl
  simp only[all_cons,List.all_nil,hr,Bool.and_true];rfl
 exact⟨h 1,sY (h 6)⟩
theorem mJ (n:Nat):∀xs ys:List Str,(fI (jD n) (xs.map PV.str) (ys.map PV.str)).isSome=true
 |[],[]=>rfl
 |[],_::_=>rfl
 |_::_,[]=>rfl
 |x::xs,y::ys=>by
  rw[map_cons,map_cons];unfold fI;split
  .exact mJ n xs ys
  .cases n<;>rfl
theorem SS (l k:Lt):(jD 3 l.P k.P).isSome=true:=by
 show(fI (jD 2) [PV.str l.n,PV.int l.d,PV.str l.h,PV.tup (l.row.map PV.str)] [PV.str k.n,PV.int k.d,PV.str k.h,PV.tup (k.row.map PV.str)]).isSome=true;unfold fI;split
 .unfold fI;split
  .unfold fI;split
   .unfold fI;split
    .rfl
    .exact mJ 1 _ _
   .rfl
  .rfl
 .rfl
theorem GX (ls:List Lt):fZ 3 (ls.map Lt.P)=true:=all_eq_true.mpr fun p hp=>by
 obtain⟨l,_,rfl⟩:=mem_map.mp hp;rw[and_eq_true];refine⟨QL.1,all_eq_true.mpr fun q hq=>?_⟩;obtain⟨k,_,rfl⟩:=mem_map.mp hq;exact SS l k
theorem uH:∀{ps:List PV} {ls:List Lt},ps.Perm (ls.map Lt.P)->∃ks:List Lt,ks.Perm ls/\ps=ks.map Lt.P
 |[],ls,h=>by have:=h.nil_eq;rw[List.eq_nil_of_map_eq_nil this.symm];exact⟨[],.refl _,rfl⟩
 | p::ps,ls,h=>by
  obtain⟨a,l,b,e⟩:∃a l b,ls=a++l::b/\l.P=p:=by
   obtain⟨l,hl,e⟩:=mem_map.mp (h.mem_iff.mp mem_cons_self);obtain⟨a,b,e2⟩:=List.append_of_mem hl;exact⟨a,l,b,e2,e⟩
  obtain⟨e,rfl⟩:=e;have hp:ls.Perm (l::(a++b)):=by rw[e];exact List.perm_middle
  obtain⟨ks,k1,k2⟩:=uH (ps:=ps) (ls:=a++b) ((h.trans (hp.map _)).cons_inv);exact⟨l::ks,(k1.cons l).trans hp.symm,by rw[k2];rfl⟩
end My
namespace L2
open PySem PySem.Spec PyProof.Rows PySem.W
noncomputable def RF (a:Addr) (kvs:List (Key×V)) (ep:Nat):It:=
 ⟨fun i H=>Rd H a (.dK kvs ep)/\i<kvs.length,fun i H x H'=>H'=H/\∀kv,kvs[i]? =some kv->x=kv.2,fun i H=>Rd H a (.dK kvs ep)/\i=kvs.length⟩
theorem DR {P:Program} {w:World} {K:Frag} {tg:Expr} (a it:Addr) (kvs:List (Key×V)) (ep:Nat):Turn P w K tg (RF a kvs ep) [it] it (fun i h=>h.IsValIter it a i kvs.length ep)where
 mem:=by simp
 obj:=fun i h st b hb=>by
  have e:b=it:=by simpa using hb
  subst e;obtain⟨o,e,c,d⟩:=st;exact⟨o,e,fun v z=>by rw[d]at z;cases z⟩
 keep:=fun i h h' st k=>let⟨o,e,r⟩:=st;⟨o,k it (by simp) o e,r⟩
 item:=by
  intro X hP hw hK hc i pins s σ H E I hf st hg;subst hP hw hK;obtain⟨hr,hi⟩:=hg;obtain⟨_,_,vs,rel,dd⟩:=mG I.bH hr;have hl:kvs.length=vs.length:=Paired.length rel;obtain⟨q,hq,rq⟩:=Paired.KS rel (getElem?_eq_getElem hi);rw[hl]at st;obtain⟨f0,f1,f2,f3,f4,f5⟩:=hf it (by simp);refine wpAny_pyNext_values_item st dd (k:=q.1) (v:=q.2) hq fun h' st' sb=>?_
  have I1:Inv X pins σ H {s with heap:=h'}:=I.turned (t':=s.toks) (fun b o hb e=>(sb.2 b hb).trans e) f0 f1 f3 f4 f5;obtain⟨o,e,c,d⟩:=id st';rw[<-hl]at st';refine⟨q.2,rfl,sL (s:={s with heap:=h'}) e c d (by decide) ⟨kvs[i].2,H,I1,rq.2,⟨rfl,fun kv hkv=>?_⟩,st',fun b hb=>(hf b hb).1⟩⟩;rw[getElem?_eq_getElem hi]at hkv;cases hkv;rfl
 done:=by
  intro X hP hw hK hc i pins s σ H E I hf st hg;subst hP hw hK;obtain⟨hr,hi⟩:=hg;obtain⟨_,_,vs,rel,dd⟩:=mG I.bH hr;have hl:kvs.length=vs.length:=Paired.length rel;rw[hl]at st;obtain⟨f0,f1,f2,f3,f4,f5⟩:=hf it (by simp);exact wpAny_pyNext_values_end (I.ok.hd hc) st dd (List.getElem?_eq_none_iff.mpr (by omega)) fun h' eb=>⟨rfl,I.turned (t':=s.toks) (fun b o hb e=>eb b o hb e) f0 f1 f3 f4 f5⟩
 self:=fun _ _ _ _ _ st h=>wpAny_pyIter_valiter st h
section
variable {X:Cx}
def xD (te:TE):TI:=fun σ H R=>te σ H fun x H1=>∃v a kvs ep,x= .ref v/\H1 v=some (AO v a)/\Rd H1 a (.dK kvs ep)/\R (RF a kvs ep) H1
theorem qK {tg l:Expr} {tl:TE} (hl:PE X l tl):PI X tg l (xD tl):=by
 intro pins s σ H R I h;refine bY (hl pins s σ H _ I h) fun v s1 ⟨x,H1,I1,r1,vw,a,kvs,ep,e,hv,hr,q⟩=>?_
 subst e;cases r1;obtain⟨_,hd,vs,rel,dd⟩:=mG I1.bH hr;have vi:s1.heap.IsValuesView vw a:=(show cB X.prog X.w H1 s1.heap vw (AO vw a)from I1.bH vw _ hv).1;refine wpAny_pyIter_values vi dd ?_;refine⟨s1.heap.objs.size,[s1.heap.objs.size],_,_,H1,rfl,I1.kept (t':=s1.toks) fun b o e=>get?_push_of_some _ e,DR a _ kvs ep,⟨_,get?_push_size _ rfl,rfl,by rw[show kvs.length=vs.length from Paired.length rel];rfl⟩,fun b hb=>?_,q⟩;have e:b=s1.heap.objs.size:=by simpa using hb
 subst e;exact I1.nD (le_refl _) (I1.bH.fresh (le_refl _))
end
section
variable {X:Cx} {pins:List (Addr×Obj)} {σ:L2.St} {H:Hp} {s:Shared} {a:Addr} {A:Around} {E:Value->Shared->Prop}
theorem RH {kvs:List (Key×V)} {Q:Value->Shared->Prop} (I:Inv X pins σ H s) (g:EF H a kvs) (h:∀s',Inv X pins σ H s'->Q (.bool false) s'):wpAny (model X.prog X.w) A (compareOp .In .none (.ref a)) Q E s:=by
 obtain⟨z,hd,vs,rel,dd⟩:=i8 I.bH g;obtain⟨f,mf,fn⟩:=TF dd;refine wpAny_in_of (knd:=GR X.prog X.w) (k:=none) (key:=.none) rfl hd mf ?_;rw[fn];exact h _ (I.tok _)
end
def SN (neg:Bool):R2:=fun x y H Q=>∃a kvs,y= .ref a/\EF H a kvs/\((∃k,x=kV k/\Q (.bl (if neg then !(dX kvs k).isSome else(dX kvs k).isSome)) H)\/ (x= .aP/\Q (.bl neg) H))
theorem O4 {X:Cx} {k:Nat} (hr:d6 k X.A):j3 X (compareOp .In) (SN false):=by
 intro pins s σ H x y v u Q I rx ry h;obtain⟨a,kvs,rfl,ha,h⟩:=h;cases ry;rcases h with⟨key,rfl,q⟩|⟨rfl,q⟩
 .exact RC (by have:=hr.un;omega) I (.inl ⟨kvs,key,ha,rfl,rfl⟩) rx fun s' I'=>⟨.bl _,H,I',rfl,q⟩
 .cases rx;exact RH I ha fun s' I'=>⟨.bl _,H,I',rfl,q⟩
section
variable {X:Cx}
def yX (i j l:Nat) (ta:TA):TS:=fun D σ H=>ta σ H fun vs H1=>∃v w z,vs=[v,w,z]/\D.nx (((σ.set i (some v)).set j (some w)).set l (some z)) H1
theorem LG {i j l:Nat} {x y z:Str} {a b c:Expr} {ta:TA} {pos px py pz pt:Pos} {kt k2 pt2} (hc:X.calm=true) (hN:X.N.Nodup) (hi:X.N[i]? =some x) (hj:X.N[j]? =some y) (hl:X.N[l]? =some z) (hij:i≠j) (hil:i≠l) (hjl:j≠l)
  (hx:X.env.scope.names.lookup x=some .local) (hy:X.env.scope.names.lookup y=some .local) (hz:X.env.scope.names.lookup z=some .local) (ha:PA X [a,b,c] ta)
  (hw:swappedStores [.Tuple [.Name x px,.Name y py,.Name z pz] kt pt] (.Tuple [a,b,c] k2 pt2) X.env=pure (some [x,y,z]))
  (hs:swapsWithSole [.Tuple [.Name x px,.Name y py,.Name z pz] kt pt] (.Tuple [a,b,c] k2 pt2) pos.line X.env=pure false:=by rfl):
  PS X (.Assign [.Tuple [.Name x px,.Name y py,.Name z pz] kt pt] (.Tuple [a,b,c] k2 pt2) pos) (yX i j l ta):=by
 intro pins s σ H D I h;rw[exec_Assign_arm];refine wpAny_bind (wpAny_standAt ?_);rw[hs];refine wpAny_bind (wpAny_pure ?_);rw[if_neg (by decide)];refine wpAny_bind (Tuple_ (bY (ha _ pins s σ H _ I h) fun us s1 ⟨vs,H1,I1,r1,q1⟩=>?_));obtain⟨v,w,q,e1,q1⟩:=q1;subst e1;obtain⟨u1,u2,u3,rfl,rv,tY,rq⟩:∃u1 u2 u3,us=[u1,u2,u3]/\RelV v u1/\RelV w u2/\RelV q u3:=by
  cases r1 with
  | cons p q=>
   cases q with
   | cons p' q'=>
    cases q' with
    |cons p2 q2=>
     cases q2;exact⟨_,_,_,rfl,p,p',p2⟩
 refine wpAny_newObj_type ?_ (by show 3<=sizeLine;decide);have I2:Inv X pins σ H1 {s1 with heap:=s1.heap.push {cls:=.type "tuple",data:=.seq [u1,u2,u3].toArray}}:=I1.kept (t':=s1.toks) fun b o e=>get?_push_of_some _ e
 rw[hw];refine wpAny_bind (wpAny_pure ?_);show wpAny (model X.prog X.w) X.A (do rule "assign.swapped-stores";let items<-unpackItems (.ref s1.heap.objs.size) 3 none;assignInOrder [fun v=>bindName X.env z v,fun v=>bindName X.env y v,fun v=>bindName X.env x v] items.reverse;pure Flow.next) _ _ _;refine wpAny_bind (wpAny_rule (wpAny_bind (unpackItems_tuple (items:= #[u1,u2,u3]) (I.ok.hd hc) (IsTup.new s1.heap _) fun h' hx'=>?_)));have I3:=I2.kept (h':=h') (t':=s1.toks) fun b o e=>hx' b o (ne_of_lt (lt_size e)) e
 show wpAny _ _ (assignInOrder [fun v=>bindName X.env z v,fun v=>bindName X.env y v,fun v=>bindName X.env x v] [u3,u2,u1]>>=fun _=>pure Flow.next) _ _ _;refine wpAny_bind (assignInOrder_cons (wpAny_bindName (gT I3 hN hl (.inl hz) rq (fun s2 I4=>?_) (.inr hz))));refine assignInOrder_cons (wpAny_bindName (gT I4 hN hj (.inl hy) tY (fun s2 I4'=>?_) (.inr hy)));refine assignInOrder_cons (wpAny_bindName (gT I4' hN hi (.inl hx) rv (fun s3 I5=>assignInOrder_nil (wpAny_pure ?_)) (.inr hx)));rw[set_comm _ _ (Ne.symm hij),set_comm _ _ (Ne.symm hil),set_comm _ _ (Ne.symm hjl)]at I5;exact⟨_,H1,I5,q1⟩
end
end L2
namespace My
open PySem L2 Mr PySem.Builtin.Str
theorem O6 (l:List Nat) (h:1<=l.length):Txt.slice (S l) none (some (-1))=S (l.take (l.length - 1)):=by
 rw[<-R1 l (l.length - 1)];unfold Txt.slice;have hl:(S l).length=l.length:=GZ l;have:strSliceIndices none (some (-1)) 1 (S l).length=strSliceIndices none (some ((l.length - 1:Nat):Int)) 1 (S l).length:=by
  unfold strSliceIndices;rw[hl];simp only[show(1:Int)>0 by decide,if_true,show¬(((l.length - 1:Nat):Int)<0) by omega,if_false,show((-1:Int)<0) by decide];congr 1
  all_goals first|omega|(simp;omega)
 rw[this]
theorem DQ {x:Str} (h:cI x=true):(Txt.slice x none (some (-1))).length+1<=12/\∀c∈(Txt.slice x none (some (-1))).cps.toList,c∈qA.cps.toList:=by
 have hx:=eO h;have el:x.cps.toList.length=x.length:=by simp[Str.length]
 have e:Txt.slice x none (some (-1))=S (x.cps.toList.take (x.cps.toList.length - 1)):=by
  have:=O6 x.cps.toList (by omega);rw[PH]at this;exact this
 rw[e];refine⟨by rw[GZ,length_take];omega,fun c hc=>?_⟩;unfold cI at h;rw[and_eq_true,all_eq_true]at h;have hc':c∈x.cps.toList.take (x.cps.toList.length - 1):=by simpa [S]using hc
 exact(CA c).mp (h.2 c (List.mem_of_mem_take hc'))
end My
namespace L2
open PySem PySem.Spec PyProof.Rows
variable {m n p q r t z:Addr} {us vs:Array Value} {i j:Nat} {pos:Pos} {K:Frag} {a b u:Value}
section
variable {P:Program} {w:World} {B:Around} {FE:Value->Shared->Prop} {s:Shared}
theorem K4 {R:Fin->Shared->Prop} (hh:B.handled=none) (D:ZipApart z p q r t m n)
  (gz:IsZip s.heap z p q .none) (gp:IsPair s.heap p (.ref r) (.ref t)) (gq:IsPair s.heap q a b)
  (g1:s.heap.IsTupleIter r m i) (g2:s.heap.IsTupleIter t n j) (gm:s.heap.IsTuple m us) (gn:s.heap.IsTuple n vs) (eu:us[i]? =some u) (ev:vs[j]? =none)
  (k:∀h' e,(∀c o,c≠z->c≠q->c≠r->c≠t->s.heap.get? c=some o->h'.get? c=some o)->(∃o,h'.get? e=some o/\o.cls= .type "StopIteration")->FE (.ref e) {s with heap:=h'}):
  wpAny (model P w) B (Builtin.«zip.__next__» ⟨[.ref z],[]⟩) R FE s:=by
 show wpAny _ _ (field (.ref z) 2>>=_) _ _ _;refine wpAny_bind (wpAny_field gz rfl (x:=.bool false) rfl ?_);show wpAny _ _ (field (.ref z) 3>>=_) _ _ _;refine wpAny_bind (wpAny_field gz rfl (x:=.ref p) rfl ?_);refine wpAny_bind (wpAny_seqItems gp rfl ?_);show wpAny _ _ (Builtin.SmallTypes.ownedTupleIsFree (.ref z)>>=_) _ _ _;refine wpAny_bind ?_;unfold Builtin.SmallTypes.ownedTupleIsFree;refine wpAny_bind (wpAny_field gz rfl (x:=.none) rfl (wpAny_pure ?_));simp only[if_true];refine wpAny_bind (wpAny_rule ?_);refine wpAny_bind (wpAny_field gz rfl (x:=.ref q) rfl ?_);refine wpAny_bind (wpAny_setField_rec gz (by simp) fun h1 z1 s1=>?_);replace z1:IsZip h1 z p q .ellipsis:=z1;refine wpAny_bind ?_;simp only[zipIdx_cons,zipIdx_nil,forIn_cons,forIn_nil];refine wpAny_bind (wpAny_bind (wpAny_onRaise ?_));show wpAny _ _ (Builtin.SmallTypes.nextOf (.ref r)>>=_) _ _ _;refine wpAny_bind (cU (g1.extBut s1.extBut D.i1z) (gm.extBut s1.extBut D.l1z) eu fun h2 y2 s2=>wpAny_pure ?_);have q2:IsPair h2 q a b:=s2.extBut _ _ D.TOi1 (s1.extBut _ _ D.TOz gq);refine wpAny_bind (wpAny_seqItems q2 rfl ?_);refine wpAny_bind (wpAny_updateSeq_pair q2 fun h3 q3 s3=>?_);replace q3:IsPair h3 q u b:=q3;refine wpAny_bind (wpAny_letGo (wpAny_pure ?_));refine wpAny_bind (wpAny_bind (wpAny_onRaise ?_));show wpAny _ _ (Builtin.SmallTypes.nextOf (.ref t)>>=_) _ _ _;refine wpAny_bind (eU hh (((g2.extBut s1.extBut D.i2z).extBut s2.extBut D.i12.symm).extBut s3.extBut D.TOi2.symm)
  (((gn.extBut s1.extBut D.l2z).extBut s2.extBut D.l2i1).extBut s3.extBut D.l2TO) ev fun h4 e s4 he=>?_)
 obtain⟨oe,g,ce⟩:=he;have z4:IsZip h4 z p q .ellipsis:=s4 _ _ D.i2z.symm (s3.extBut _ _ D.TOz.symm (s2.extBut _ _ D.i1z.symm z1));have ez:e≠z:=fun x=>by subst x;rw[z4]at g;cases g;simp at ce
 refine wpAny_setField_rec z4 (by simp) fun h5 _ s5=>k h5 e (fun c o c1 c2 c3 c4 x=>s5.extBut _ _ c1 (s4 _ _ c4 (s3.extBut _ _ c2 (s2.extBut _ _ c3 (s1.extBut _ _ c1 x))))) ⟨oe,s5.extBut _ _ ez g,ce⟩
theorem HF {R:Option Value->Shared->Prop} (hh:B.handled=none) (D:ZipApart z p q r t m n)
  (gz:IsZip s.heap z p q .none) (gp:IsPair s.heap p (.ref r) (.ref t)) (gq:IsPair s.heap q a b)
  (g1:s.heap.IsTupleIter r m i) (g2:s.heap.IsTupleIter t n j) (gm:s.heap.IsTuple m us) (gn:s.heap.IsTuple n vs) (eu:us[i]? =some u) (ev:vs[j]? =none)
  (k:∀h',(∀c o,c≠z->c≠q->c≠r->c≠t->s.heap.get? c=some o->h'.get? c=some o)->R none {s with heap:=h'}):wpAny (model P w) B (pyNext (.ref z)) R FE s:=by
 have T:s.TypeIs (.ref z) "zip":=⟨_,gz,rfl⟩;unfold pyNext;refine wpAny_bind (wpAny_attempt (wpAny_callSpecial?_slot (name:=Str.ofString "__next__") T F.slot_zip_next
  (wpAny_call_entry F.slot_zip_next T F.entry_zip_next (K4 hh D gz gp gq g1 g2 gm gn eu ev fun h' e hk he=>?_) (F.args_zip_next_1 _))))
 obtain⟨o,ho,hc⟩:=he;refine wpAny_bind (wpAny_isInstance (T:="StopIteration") (b:=true) ⟨o,ho,hc⟩ isSubtype_stop ?_);exact wpAny_pure (k _ hk)
end
noncomputable def MB (K:Frag) (a b:Addr):It:=
 ⟨(PU K a b).go,(PU K a b).AX,fun i H=>∃xs ys,bU K H a xs/\bU K H b ys/\(xs.length<=i\/ (i<xs.length/\ys.length<=i))⟩
theorem DO {P:Program} {w:World} {elts:List Expr} {x1} (a b z p q r t:Addr) (nd:[z,p,q,r,t].Nodup) (na:a≠q) (nb:b≠q):
  Turn P w K (.Tuple elts x1 pos) (MB K a b) [z,p,q,r,t] z (fun i h=>IsZip h z p q .none/\IsPair h p (.ref r) (.ref t)/\(∃u v,IsPair h q u v)/\h.IsTupleIter r a i/\h.IsTupleIter t b i)where
 mem:=(iJ (P:=P) (w:=w) (K:=K) (elts:=elts) (x1:=x1) (pos:=pos) a b z p q r t nd na nb).mem
 obj:=(iJ (P:=P) (w:=w) (K:=K) (elts:=elts) (x1:=x1) (pos:=pos) a b z p q r t nd na nb).obj
 keep:=(iJ (P:=P) (w:=w) (K:=K) (elts:=elts) (x1:=x1) (pos:=pos) a b z p q r t nd na nb).keep
 item:=(iJ (P:=P) (w:=w) (K:=K) (elts:=elts) (x1:=x1) (pos:=pos) a b z p q r t nd na nb).item
 self:=(iJ (P:=P) (w:=w) (K:=K) (elts:=elts) (x1:=x1) (pos:=pos) a b z p q r t nd na nb).self
 done:=by
  intro X hP hw hK hc i pins s σ H E I hf st hg;obtain⟨xs,ys,hqa,hqb,hend⟩:=hg;rcases hend with hend|⟨h1,h2⟩
  .exact(iJ (P:=P) (w:=w) (K:=K) (elts:=elts) (x1:=x1) (pos:=pos) a b z p q r t nd na nb).done X hP hw hK hc i pins s σ H E I hf st ⟨xs,hqa,hend⟩
  subst hP hw hK;have nd':=nd;simp only[nodup_cons,mem_cons,not_mem_nil,or_false,not_or,nodup_nil,not_false_eq_true,and_true]at nd';obtain⟨⟨zp,zq,zr,zt⟩,⟨pq,pr,pt⟩,⟨qr,qt⟩,rt⟩:=nd';obtain⟨ia,rva,pa,_⟩:=I.tuple hqa;obtain⟨ib,rvb,pb,_⟩:=I.tuple hqb;obtain⟨hz,hp,⟨c1,c2,hq⟩,i1,i2⟩:=st;have l1:=rva.length;have l2:=rvb.length;obtain⟨o1,e1,cc1,_⟩:=id i1;obtain⟨o2,e2,cc2,_⟩:=id i2;obtain⟨oa,ea,ca,_⟩:=id pa;obtain⟨ob,eb,cb,_⟩:=id pb;have key:∀(r:Addr) (o:Obj) (n:String) (l:Addr) (ol:Obj),s.heap.get? r=some o->o.cls= .type n->n≠"tuple"->s.heap.get? l=some ol->ol.cls= .type "tuple"->l≠r:=fun r o n l ol hr cr hn hl cl zz=>by
   subst zz;rw[hr]at hl;cases hl
   rw[cr]at cl;exact hn (Value.type.inj cl)
  have D:ZipApart z p q r t a b:=⟨Ne.symm zp,Ne.symm zq,Ne.symm zr,Ne.symm zt,pq,pr,pt,qr,qt,rt,key z _ _ a oa hz rfl (by decide) ea ca,na,key r _ _ a oa e1 cc1 (by decide) ea ca,key t _ _ a oa e2 cc2 (by decide) ea ca,
   key z _ _ b ob hz rfl (by decide) eb cb,nb,key r _ _ b ob e1 cc1 (by decide) eb cb,key t _ _ b ob e2 cc2 (by decide) eb cb⟩
  have hil:i<ia.length:=by omega
  refine HF (u:=ia[i]) (I.ok.hd hc) D hz hp hq i1 i2 pa pb (by simp[hil]) (by simp;omega) fun h' hk=>⟨rfl,I.qG (t':=s.toks) (fun c o hb e=>?_) hf⟩
  simp only[mem_cons,not_mem_nil,or_false,not_or]at hb;exact hk c o hb.1 hb.2.2.1 hb.2.2.2.1 hb.2.2.2.2 e
section
variable {X:Cx} {elts:List Expr} {x1:Nat} {tpos:Pos}
def xC (K:Frag) (ta:TA):TI:=fun σ H R=>ta σ H fun vs H1=>∃a b xs ys,vs=[.ref a,.ref b]/\bU K H1 a xs/\bU K H1 b ys/\R (MB K a b) H1
theorem N6 (K:Frag) {a b:Expr} {ta:TA} {p:Pos} (hg:Gl X "zip") (hm:X.mg "zip"=none) (ha:PA X [a,b] ta) (hK:X.K=K:=by rfl) (hs:starEach [a,b] X.env=[(false,eval a X.env),(false,eval b X.env)]:=by rfl) (hs2:starEach [b] X.env=[(false,eval b X.env)]:=by rfl):
  PI X (.Tuple elts x1 tpos) (.Call (.Name "zip" p) [a,b] [] pos) (xC K ta):=by
 subst hK;intro pins s σ H R I h;refine Call_ (m6 I hg hm OH (PyProof.Rows.callWith_type1 (bY (ha pos pins s σ H _ I h) fun us s1 ⟨vs,H1,I1,r1,q1⟩=>?_) (by rw[hs,hs2]) (by rw[hs2];rfl)));obtain⟨l1,l2,xs,ys,e,hqa,hqb,q⟩:=q1;subst e;obtain⟨u,v,rfl,rx,ry⟩:=vals2 r1;cases rx;cases ry;obtain⟨ia,rva,pa,_⟩:=I1.tuple hqa;obtain⟨ib,rvb,pb,_⟩:=I1.tuple hqb;have lta:l1<s1.heap.objs.size:=let⟨_,e,_⟩:=pa;lt_size e
 have ltb:l2<s1.heap.objs.size:=let⟨_,e,_⟩:=pb;lt_size e
 refine KW pa pb fun h' hz hp hq h1 h2 hk=>?_
 have I2:Inv X pins σ H1 {s1 with heap:=h'}:=I1.kept (t':=s1.toks) hk;refine wpAny_pyIter_zip (s:={s1 with heap:=h'}) hz ?_;refine⟨s1.heap.objs.size+4,[s1.heap.objs.size+4,s1.heap.objs.size+2,s1.heap.objs.size+3,s1.heap.objs.size,s1.heap.objs.size+1],_,_,H1,rfl,I2,DO l1 l2 _ _ _ _ _ (by simp) (ne_of_lt (lt_of_lt_of_le lta (le_add_right _ 3))) (ne_of_lt (lt_of_lt_of_le ltb (le_add_right _ 3))),⟨hz,hp,⟨_,_,hq⟩,h1,h2⟩,fun c hb=>?_,q⟩;have hc:s1.heap.objs.size<=c:=by
  simp only[mem_cons,not_mem_nil,or_false]at hb;rcases hb with r|r|r|r|r<;>(rw[r];first|exact le_refl _|exact le_add_right _ _)
 exact I1.nD hc (I1.bH.fresh hc)
end
section
variable {k:Nat} {cL:List Nat} {g:TG} {tt:TT} {te:TE} {σ:St} {H:Hp} {Q:VK} {l:Addr}
theorem DH {a b:Addr} {xs ys:List V} (hA:bU K H a xs) (hB:bU K H b ys) (hxy:ys.length<=xs.length) (f:Nat->V) (Good:St->Prop) (h0:Good (bR k cL σ)) (hl:H l=none) (hlen:xs.length<sizeLine)
  (ht:∀(i:Nat) x y t σ H1 zs (N:St->Hp->Prop),xs[i]? =some x->ys[i]? =some y->Good σ->aF H H1->H1 t=none->(upd H1 t (.tup [x,y])) l=some (.lst zs)->zs.length<sizeLine->t≠l->
   (∀σ' H3,Good σ'->bZ l (upd H1 t (.tup [x,y])) H3->H3 l=some (.lst (zs++[f i]))->N σ' H3)->bK g tt te l (.ref t) σ (upd H1 t (.tup [x,y])) N)
  (hd:∀H',aF H H'->H' l=some (.lst ((List.range ys.length).map f))->Q (.ref l) H'):iN (MB K a b) g tt te l (bR k cL σ) (upd H l (.lst [])) Q:=by
 refine o9 (MB K a b) ys.length (fun _=>true) f Good h0 hl (by omega) (fun H' s=>⟨xs,ys,hA.same s,hB.same s,by omega⟩) (fun i H' hi s=>⟨xs,ys,xs[i]'(by omega),ys[i],hA.same s,hB.same s,by simp,by simp⟩) (fun i v σ H1 H2 zs N hi gd s e hz y hN=>?_)
  (fun H' s e=>hd H' s (by rw[e,filter_eq_self.mpr fun _ _=>rfl]))
 obtain⟨t,ht0,rfl,hq⟩:=y;obtain⟨x,y,hx,hy,rfl⟩:=hq xs ys (hA.same s) (hB.same s);have tl:t≠l:=fun z=>by rw[z,e]at ht0;cases ht0
 refine ht i x y t σ H1 zs N hx hy gd s ht0 (by rw[aG (Ne.symm tl)];exact e) hz tl fun σ' H3 g3 b e3=>hN σ' H3 g3 (fun c o h1 h2=>b c o (aF.upd ht0 c o h1) h2) ?_
 rw[e3,if_pos rfl]
end
end L2
namespace L2
open PySem PySem.Spec PyProof.Rows PySem.W
variable {A:Around} {ss:List Str} {j:Nat} {x:Str}
section
variable {P:Program} {w:World} {fs:List Addr} {H:Hp} {h h1 h2:Heap} {a:Addr} {o:HO}
theorem Un.JL (u:Un fs [] H H h h1) (ha:h.objs.size<=a) (k:∀b o,b≠a->h1.get? b=some o->h2.get? b=some o):Un fs [] H H h h2:=by
 have ne:∀b o,h.get? b=some o->b≠a:=fun b o q=>ne_of_lt (lt_of_lt_of_le (lt_size q) ha)
 exact⟨fun b o q n hb hx=>k b o (ne b o q) (u.keep b o q n hb hx),fun b o q n hb hx=>let⟨sl,e⟩:=u.slot b o q n hb hx;⟨sl,k b _ (ne b o q) e⟩,fun _ _ _ n _=>n,
  fun b o q hx=>let⟨o',e⟩:=u.there b o q hx;⟨o',k b o' (ne b o q) e⟩,fun _ _ q=>q,fun _ _ _ q=>q,u.nW⟩
theorem Un.add (u:Un fs [] H H h h1) (ha:h.objs.size<=a) (hn:H a=none):Un fs [] H (upd H a o) h h1:=by
 have nt:∀b u,H b=some u->b≠a:=fun b u e z=>by rw[z,hn]at e;cases e
 exact⟨u.keep,u.slot,fun b o q n _=>by rw[aG (ne_of_lt (lt_of_lt_of_le (lt_size q) ha))];exact n,u.there,fun b xs q=>by rw[aG (nt b _ q)];exact q,
  fun b o v q=>by rw[aG (nt b _ q)];exact q,fun b ps q=>⟨#[],by rw[aG (nt b _ q),q,Array.append_empty]⟩⟩
theorem jL.add (x:jL P w H h) (hn:H a=none) (new:cB P w (upd H a o) h a o):jL P w (upd H a o) h:=fun b u e=>by
 have nt:∀b u,H b=some u->b≠a:=fun b u e z=>by rw[z,hn]at e;cases e
 by_cases hb:b=a
 .subst hb;rw[aB]at e;cases e;exact new
 .rw[aG hb]at e;exact(x b u e).wU (fun _ _ _ q=>q) (fun c r=>by rw[aG (nt c _ r)];exact r) fun c xs r=>by rw[aG (nt c _ r)];exact r
end
structure MT (stack:List Env) (P:Program) (w:World) (H:Hp) (s s':Shared):Prop where
 os:s'.os=s.os
 bare:AllBare s'.gens
 un:Un (AQ stack) [] H H s.heap s'.heap
 ok:jL P w H s'.heap
section
variable {X:Cx} {pins:List (Addr×Obj)} {σ:St} {H:Hp} {s s1:Shared} {CX:EI} {k:Nat} {f kS l:Addr} {fd:FuncData} {ps:List Str} {sp:Sp} {e1:Nat} {vs keys:Array Value}
theorem Inv.U0 (I:Inv X pins σ H s) (a:MT X.stack X.prog X.w H s s1):Inv X pins σ H s1:=I.xS (ch:=[]) a.os a.un a.ok a.bare fun b z=>absurd z (by simp)
theorem MT.JL (a:MT X.stack X.prog X.w H s s1) {c:Addr} {h2:Heap} {tk:Nat} (hc:s.heap.objs.size<=c) (hn:H c=none) (kp:∀b o,b≠c->s1.heap.get? b=some o->h2.get? b=some o):
  MT X.stack X.prog X.w H s {s1 with heap:=h2,toks:=tk}:=⟨a.os,a.bare,a.un.JL hc kp,a.ok.but hn kp⟩
theorem FI {u:Value} {v:V} (I:Inv X pins σ H s) (F:aZ X.prog X.w X.K X.mg X.base dS k f fd ps sp) (hr:d6 k A) (hA:A.frames=X.A.frames) (hb:Binds X.K fd ps []) (a:MT X.stack X.prog X.w H s s1) (r:RelV v u)
  (q:sp [v] H (fun y H'=>y= .str x/\H'=H) E0) (hl:s.heap.objs.size<=l) (hk:s.heap.objs.size<=kS) {ol ok:Obj} (gl:s1.heap.get? l=some ol) (gk:s1.heap.get? kS=some ok):
  wpAny (model X.prog X.w) A (call (.ref f) [u]) (fun y s2=>∃t,y= .str x t/\MT X.stack X.prog X.w H s s2/\s2.heap.get? l=some ol/\s2.heap.get? kS=some ok) (fun _ _=>False) s1:=by
 have I1:=I.U0 a;have hlen:([u]:List Value).length=ps.length:=(F.len _ _ _ _ q);have e0:=I1.KO;refine wpAny_call (codeAny_mono (F.run A X.stack s1 H ⟨[u],[]⟩ [u] [v] _ E0 hr ⟨hA.trans e0.frames,e0.mod,e0.bs,e0.J2,e0.pJ,e0.M6,e0.bH,e0.bare⟩ (by have:=hb s1 [u] I1.xA (by simpa using hlen);simpa using this) (.cons r .nil) q) fun r s' hq=>?_);cases r with
 |error e=>exact hq
 | ok fl=>
  cases fl with
  | ret y=>
   obtain⟨z,H',os,bare,un,ok2,rz,e,rfl⟩:=hq;subst e;obtain⟨t,rfl⟩:=rz;have nf:∀b:Addr,s.heap.objs.size<=b->b∉AQ X.stack:=fun b hb z=>by
    obtain⟨_,o,ho,_⟩:=I.stack.mem z;exact absurd (lt_of_lt_of_le (lt_size ho) hb) (Nat.lt_irrefl _)
   exact⟨t,rfl,⟨os.trans a.os,bare,a.un.trans un,ok2⟩,un.keep l ol gl (I.bH.fresh hl) (nf l hl) (by simp),un.keep kS ok gk (I.bH.fresh hk) (nf kS hk) (by simp)⟩
  |next=>exact False.elim hq
  |brk=>exact False.elim hq
  |cont=>exact False.elim hq
theorem strs_snoc {t:Tok}:∀{us:List Value} {ss:List Str},StrsAre us ss->StrsAre (us++[.str x t]) (ss++[x])
 |_,_,.nil=>.cons x t .nil
 |_,_,.cons y u h=>.cons y u (strs_snoc h)
theorem EU {keys:Array Value} {vs:List Value} (hk:StrsAre keys.toList ss):KeysOf strKind (keys.zip vs.toArray):=by
 intro p hp;rw[ksk_zip]at hp;have:p.1∈keys.toList:=(of_mem_zip (a:=p.1) (b:=p.2) hp).1;have all:∀{us:List Value} {ss:List Str},StrsAre us ss->∀u∈us,∃a,strKind.keyOf u=some a:=by
  intro us ss h
  induction h with
  |nil=>intro u hu;simp at hu
  |cons y t h ih=>
   intro u hu;rcases mem_cons.mp hu with rfl|hu
   .exact⟨_,rfl⟩
   .exact ih u hu
 exact all hk _ this
theorem L4 {w:World} {prog:Program} {E:Value->Shared->Prop} {P:PySem.Fin->Shared->Prop} {vs:List Value} {a:Addr} {e:Nat} (hka:kS≠a)
  (nk:s.heap.get? kS=some (seqObj "list" keys e)) (na:s.heap.get? a=some (seqObj "list" #[] e1)) (hk:StrsAre keys.toList ss) (hlen:ss.length=vs.length) (h64:vs.length<64)
  (h:∀(h1 h':Heap) (out:Array Value) (c:Nat),(∀b o,b≠kS->s.heap.get? b=some o->h1.get? b=some o)->(∀b o,b≠a->h1.get? b=some o->h'.get? b=some o)->h'.get? a=some (seqObj "list" out c)->out.toList.Perm vs->P (.done (.ret .none)) {s with heap:=h'}):
  wpAny (model prog w) A (ksk_end a false vs.toArray e1 (.ref kS) keys) P E s:=by
 have hsz:keys.size=vs.length:=by
  have h1:=hk.length;rw[length_toList]at h1;omega
 have hzs:(keys.zip vs.toArray).size=vs.length:=by rw[Array.size_zip,hsz,size_toArray,Nat.min_self]
 have fin:∀st:SortSt,(arrOf st).Perm (keys.zip vs.toArray)->failedOf st=none->wpAny (model prog w) A (ksk_tail a false e1 (.ref kS) st) P E s:=by
  intro st hp hfl;have hsz2:(arrOf st).size=vs.length:=by rw[hp.size_eq,hzs]
  have s1:=Heap.SameBut.update s.heap kS (Obj.mapSeq fun _=>(#[]:Array Value));have na1:(s.heap.update kS (Obj.mapSeq fun _=>(#[]:Array Value))).get? a=some (seqObj "list" #[] e1):=(s1.2 a hka.symm).trans na;have s2:=Heap.SameBut.update (s.heap.update kS (Obj.mapSeq fun _=>(#[]:Array Value))) a (Obj.mapSeq fun _=>(arrOf st).map (·.2));obtain⟨c2,hc2⟩:∃c2,((s.heap.update kS (Obj.mapSeq fun _=>(#[]:Array Value))).update a (Obj.mapSeq fun _=>(arrOf st).map (·.2))).get? a=some (seqObj "list" ((arrOf st).map (·.2)) c2):=
   ⟨_,get?_update_seq na1 fun _=>(arrOf st).map (·.2)⟩
  unfold ksk_tail
  try dsimp only
  refine wpAny_bind (listUpdate_at nk rfl ?_ (by rw[hsz,sizeLine_eq];omega) (zero_le _));refine wpAny_bind (wpAny_letGo ?_);refine wpAny_bind (seqEpoch_at na1 rfl ?_);refine wpAny_bind (listUpdate_at na1 rfl ?_ (zero_le _) (by show((arrOf st).map (·.2)).size<=_;rw[Array.size_map,hsz2,sizeLine_eq];omega));rw[hfl];simp only[bne_self_eq_false,false_eq_true,if_false];refine wpAny_pure (h _ _ _ c2 (fun b o hb q=>(s1.2 b hb).trans q) (fun b o hb q=>(s2.2 b hb).trans q) hc2 ?_);have hl:(arrOf st).toList.Perm (keys.toList.zip vs):=by rw[<-ksk_zip];exact perm_iff_toList_perm.mp hp
  have:=hl.map Prod.snd;rw[Array.toList_map];rwa[List.map_snd_zip (by have:=hk.length;omega)]at this
 unfold ksk_end
 try dsimp only
 rw[if_neg Bool.false_ne_true,if_neg Bool.false_ne_true]
 by_cases h2:vs.toArray.size<2
 .rw[if_pos h2,if_pos h2];refine wpAny_bind (wpAny_pure ?_);rw[StateT.run_pure];refine wpAny_bind (wpAny_pure ?_)
  try dsimp only
  exact fin (SortSt.mk' general' (keys.zip vs.toArray) #[] 7 none) (Array.Perm.refl _) rfl
 .rw[if_neg h2,if_neg h2];rw[size_toArray]at h2;have hkd:keyKind' keys=pure oneType':=by
   obtain⟨v₁,v₂,rest,e⟩:∃v₁ v₂ rest,keys.toList=v₁::v₂::rest:=by
    have hl:2<=keys.toList.length:=by rw[length_toList,hsz];omega
    match keys.toList,hl with
    |v₁::v₂::rest,_=>exact⟨v₁,v₂,rest,rfl⟩
   have ek:keys=(v₁::v₂::rest).toArray:=by rw[<-e,toArray_toList]
   rw[e]at hk;rw[ek];exact keyKind_strs hk
  rw[hkd];refine wpAny_bind (wpAny_pure ?_);refine wpAny_bind (wpAny_mono (wpS_sortRunsK (κ:=strKind) strKind_oneLt (a₀:=keys.zip vs.toArray) (st:=SortSt.mk' oneType' (keys.zip vs.toArray) #[] 7 none)
   (Q:=fun _ st'=>(arrOf st').Perm (keys.zip vs.toArray)/\failedOf st'=none)
   (EU hk) ⟨Array.Perm.refl _,rfl,rfl,rfl⟩ (by rw[hzs];omega) (by rw[hzs];exact h64) fun st' a1 a2 a3=>⟨a1,a2⟩) ?_ fun _ _ e=>e)
  rintro⟨⟨⟩,st'⟩ s' ⟨rfl,hp,hf⟩
  try dsimp only
  exact fin st' hp hf
def o3 (K:Frag) (sp:Sp):V->Hp->VK->Prop:=fun x H Q=>∃p xs ks,x= .ref p/\bC K H p xs/\List.length ks=xs.length/\xs.length<64/\
 (∀(i:Nat) (v:V) (k:Str),xs[i]? =some v->ks[i]? =some k->sp [v] H (fun y H'=>y= .str k/\H'=H) E0)/\∀l ys,H l=none->ys.Perm xs->Q (.ref l) (upd H l (.lst ys))
theorem E1 {xs:List V} {us:List Value} (r:Vals xs us):∀{ws:List Value},ws.Perm us->∃ys,ys.Perm xs/\Vals ys ws:=by
 intro ws p
 induction p generalizing xs with
 |nil=>cases r;exact⟨[],.nil,.nil⟩
 | cons u _ ih=>
  cases r with
  |cons a b=>
   obtain⟨ys,h1,h2⟩:=ih b;exact⟨_,.cons _ h1,.cons a h2⟩
 | swap u v _=>
  cases r with
  |cons a b=>
   cases b with
   |cons c d=>exact⟨_,.swap _ _ _,.cons c (.cons a d)⟩
 |trans _ _ ih1 ih2=>
  obtain⟨ys,h1,h2⟩:=ih2 r;obtain⟨zs,h3,h4⟩:=ih1 h2;exact⟨zs,h3.trans h1,h4⟩
theorem BP (K:Frag) (F:aZ X.prog X.w X.K X.mg X.base dS k f fd ps sp) (hr:d6 j X.A) (hj:k+2<=j) (hb:Binds X.K fd ps []) (hK:X.K=K)
  {x:V} {u:Value} {Q:VK} (I:Inv X pins σ H s) (r:RelV x u) (h:o3 K sp x H Q):
  wpAny (model X.prog X.w) X.A (call (.builtin "sorted") [u] [(Str.ofString "key",.ref f)]) (EP X pins σ Q) X.xe s:=by
 subst hK;obtain⟨p,xs,ks,rfl,hq,hlen,h64,hsp,q⟩:=h;cases r;obtain⟨vs,rv,pl,hz⟩:=I.list hq;have hvl:=rv.length;have hl:=pl.isList;have hr2:d6 k X.A.in1.in1:=((hr.mono (show k+1+1<=j by omega)).in1).in1;refine call_function_entry_kw kind_sorted plain_sorted entry_sorted (ksk_s1 _ _) ?_;unfold Builtin.«sorted»;refine wpAny_bind (m:=checkCount "sorted" 1 1 _) (wpAny_pure ?_);refine wpAny_bind (collect_list hl ?_ (by rw[sizeLine_eq];omega));refine wpAny_bind (wpAny_newList ?_ (by rw[sizeLine_eq];omega));generalize hU:(s.heap.push (seqObj "list" #[] 0)).update s.heap.objs.size (Obj.mapSeq (·++vs.toArray))=U;have zU:U.objs.size=s.heap.objs.size+1:=by rw[<-hU,size_update];exact size_push' ..
 have kU:∀b o,s.heap.get? b=some o->U.get? b=some o:=fun b o gb=>by
  rw[<-hU,Heap.get?_update_ne _ _ _ _ (ne_of_lt (lt_size gb))];exact get?_push_of_some _ gb
 show wpAny _ _ _ _ _ {s with heap:=U.push (seqObj "list" vs.toArray 0)};rw[zU];have at':(U.push (seqObj "list" vs.toArray 0)).get? (s.heap.objs.size+1)=some (seqObj "list" vs.toArray 0):=by rw[<-zU];exact get?_push_size _ rfl
 refine wpAny_bind (wpAny_holding (wpAny_call_entry_kw slot_list_sort ⟨_,at',rfl⟩ entry_list_sort ?body (ksk_l1 _ _)));show wpAny (model X.prog X.w) X.A.in1.in1 (Builtin.«list.sort» ⟨[.ref (s.heap.objs.size+1)],_⟩) _ _ _;rw[ksk_t1];have la:s.heap.objs.size<=s.heap.objs.size+1:=le_succ _;have fa:H (s.heap.objs.size+1)=none:=I.bH.fresh la;generalize s.heap.objs.size+1=a at at' la fa;unfold ksk_tree;refine wpAny_bind (listItems_at at' rfl ?_);refine wpAny_bind (listUpdate_at at' rfl ?_ (by rw[size_toArray,sizeLine_eq];omega) (zero_le _));have s1:=Heap.SameBut.update (U.push (seqObj "list" vs.toArray 0)) a (Obj.mapSeq fun _=>(#[]:Array Value));obtain⟨e1,ho1⟩:∃e1,((U.push (seqObj "list" vs.toArray 0)).update a (Obj.mapSeq fun _=>(#[]:Array Value))).get? a=some (seqObj "list" #[] e1):=⟨_,get?_update_seq at' fun _=> #[]⟩;have kV:∀b o,s.heap.get? b=some o->((U.push (seqObj "list" vs.toArray 0)).update a (Obj.mapSeq fun _=>(#[]:Array Value))).get? b=some o:=fun b o gb=>
  (s1.2 b (ne_of_lt (lt_of_lt_of_le (lt_size gb) la))).trans (get?_push_of_some _ (kU b o gb))
 have zV:s.heap.objs.size<=((U.push (seqObj "list" vs.toArray 0)).update a (Obj.mapSeq fun _=>(#[]:Array Value))).objs.size:=by rw[size_update,size_push',zU];omega
 have JT:a<((U.push (seqObj "list" vs.toArray 0)).update a (Obj.mapSeq fun _=>(#[]:Array Value))).objs.size:=lt_size ho1;refine wpAny_bind (seqEpoch_at ho1 rfl ?_);refine wpAny_bind (wpAny_newTuple ?_ (by show vs.length<=_;rw[sizeLine_eq];omega));refine wpAny_bind (wpAny_newList ?_ (zero_le _));refine wpAny_holding ?_;generalize(U.push (seqObj "list" vs.toArray 0)).update a (Obj.mapSeq fun _=>(#[]:Array Value))=G at ho1 kV zV JT⊢
 dsimp only;have kG:∀b o,G.get? b=some o->((G.push (seqObj "tuple" vs.toArray 0)).push (seqObj "list" #[] 0)).get? b=some o:=fun b o gb=>get?_push_of_some _ (get?_push_of_some _ gb)
 have hkS:(G.push (seqObj "tuple" vs.toArray 0)).objs.size=G.objs.size+1:=size_push' ..;have gk0:((G.push (seqObj "tuple" vs.toArray 0)).push (seqObj "list" #[] 0)).get? (G.push (seqObj "tuple" vs.toArray 0)).objs.size=some (seqObj "list" #[] 0):=get?_push_size _ rfl;have lk:s.heap.objs.size<=(G.push (seqObj "tuple" vs.toArray 0)).objs.size:=by rw[hkS];omega
 have hka:(G.push (seqObj "tuple" vs.toArray 0)).objs.size≠a:=by rw[hkS];omega
 have ga0:=kG _ _ ho1;have kS0:∀b o,s.heap.get? b=some o->((G.push (seqObj "tuple" vs.toArray 0)).push (seqObj "list" #[] 0)).get? b=some o:=fun b o gb=>kG b o (kV b o gb)
 show wpAny _ _ _ _ _ {s with heap:=(G.push (seqObj "tuple" vs.toArray 0)).push (seqObj "list" #[] 0)};generalize(G.push (seqObj "tuple" vs.toArray 0)).push (seqObj "list" #[] 0)=J at gk0 ga0 kS0⊢
 generalize(G.push (seqObj "tuple" vs.toArray 0)).objs.size=kS at gk0 lk hka⊢
 have fk:H kS=none:=I.bH.fresh lk;have A0:MT X.stack X.prog X.w H s {s with heap:=J}:=⟨rfl,I.bare,Un.kept kS0,I.bH.kept kS0⟩;unfold ksk_rest;refine wpAny_bind (wpAny_rule ?_);rw[List.forIn_toArray];refine wpAny_bind (ksk_fold (fun i s'=>∃kA e,MT X.stack X.prog X.w H s s'/\s'.heap.get? kS=some (seqObj "list" kA e)/\s'.heap.get? a=some (seqObj "list" #[] e1)/\StrsAre kA.toList (ks.take i)) vs 0 _
  ⟨#[],0,A0,gk0,ga0,by simpa using StrsAre.nil⟩ ?step ?done)
 case step=>
  rintro i u s' hu ⟨kA,e,A1,gk,ga,hk⟩;simp only[Nat.zero_add]at hk⊢
  have hi:i<vs.length:=(List.getElem?_eq_some_iff.mp hu).1;have hkj:ks[i]? =some ks[i]:=getElem?_eq_getElem (by omega);have hxi:xs[i]? =some xs[i]:=getElem?_eq_getElem (by omega);obtain⟨u',hu',ru⟩:=rv.get hxi;rw[hu]at hu';cases hu';have hz:kA.size<=vs.length:=by
   have h1:=hk.length;rw[length_toList,length_take]at h1;omega
  refine wpAny_bind (wpAny_attempt (wpAny_mono (FI I F hr2 rfl hb A1 ru (hsp i _ _ hxi hkj) la lk ga gk) (fun v s'' he=>?_) fun _ _ hF=>hF.elim));obtain⟨t,rfl,A2,ga2,gk2⟩:=he
  try dsimp only
  have s3:=Heap.SameBut.update s''.heap kS (Obj.mapSeq (·.push (.str ks[i] t)));obtain⟨c2,hc2⟩:∃c2,(s''.heap.update kS (Obj.mapSeq (·.push (.str ks[i] t)))).get? kS=some (seqObj "list" (kA.push (.str ks[i] t)) c2):=⟨_,get?_update_seq gk2 (·.push (.str ks[i] t))⟩;have ek:ks.take (i+1)=ks.take i++[ks[i]]:=by rw[List.take_add_one,hkj];simp
  refine wpAny_bind (listUpdate_at gk2 rfl ?_ (by rw[sizeLine_eq];omega) (le_trans (Nat.le_of_eq (Array.size_push ..)) (by rw[sizeLine_eq];omega)));refine wpAny_pure ⟨rfl,kA.push (.str ks[i] t),c2,A2.JL (tk:=s''.toks) lk fk (fun b o hb q=>(s3.2 b hb).trans q),hc2,(s3.2 a hka.symm).trans ga2,?_⟩;rw[ek,toList_push];exact strs_snoc hk
 case done=>
  rintro s' ⟨kA,e,A1,gk,ga,hk⟩;rw[show ks.take (0+vs.length)=ks from take_of_length_le (by omega)]at hk
  try dsimp only
  refine wpAny_bind (listItems_at gk rfl ?_);refine L4 hka gk ga hk (by omega) (by omega) fun h1 h2 out c k1 k2 gc pm=>⟨_,rfl,wpAny_pure ?_⟩
  have A2:=A1.JL (tk:=s'.toks) lk fk k1;have A3:=A2.JL (tk:=s'.toks) la fa k2;obtain⟨ys,p1,p2⟩:=E1 rv pm;have okk:jL X.prog X.w (upd H a (.lst ys)) h2:=A3.ok.add fa ⟨by rw[p1.length_eq];exact hz,out.toList,c,p2,by rw[toArray_toList];exact gc⟩;exact⟨_,rfl,.ref a,upd H a (.lst ys),I.xS (ch:=[]) A3.os (A3.un.add la fa) okk A3.bare (fun b z=>absurd z (by simp)),rfl,q a ys fa p1⟩
theorem AR {te:TE} {e:Expr} {g:Str} {p gp kp pos:Pos} (K:Frag) (F:aZ X.prog X.w X.K X.mg X.base dS k f fd ps sp) (hr:d6 j X.A) (hj:k+2<=j) (hb:Binds X.K fd ps []) (hK:X.K=K)
  (hg:Gl X g) (hm:X.mg g=some (.ref f)) (hs:Gl X "sorted") (hsm:X.mg "sorted"=none) (he:PE X e te) (hgd:(g==("__debug__":Str))=false:=by decide)
  (hbt:backTo pos (starEach (e::[]) X.env)=(false,eval e X.env)::backTo pos (starEach [] X.env):=by rfl) (hpl:(backTo pos (starEach (e::[]) X.env)).any (·.1)=false:=by rfl):
  PE X (.Call (.Name "sorted" p) [e] [⟨some "key",.Name g gp,kp⟩] pos) (ML (o3 K sp) te):=by
 intro pins s σ H Q I h;refine wpAny_Call_Name_kw (m6 I hs hsm (by rfl:bootBuiltins "sorted"=some (.builtin "sorted")) ?_ (by decide) (by decide));refine callWith_kw ?_ hbt hpl rfl rfl;rw[hbt];refine Calls.spliced_cons (bY (he pins s σ H _ I h) fun u s1 ⟨v,H1,I1,ru,h2⟩=>Calls.spliced_nil ?_);refine bY (J7 (wA (v:=.ref f) hg hm rfl hgd) P1 pos pins s1 σ H1 (fun zs H2=>zs=[.ref f]/\H2=H1) I1 (show eV (tC (.ref f)) jZ σ H1 _ from⟨rfl,rfl⟩)) fun ws s2 ⟨zs,H2,I2,rz,q2⟩=>?_
 have q2:zs=[.ref f]/\H2=H1:=q2;obtain⟨rfl,rfl⟩:=q2;obtain⟨w,rfl,rw⟩:=vals1 rz;cases rw;exact BP K F hr hj hb hK I2 ru h2
end
end L2
namespace L2
open PySem PySem.Spec PyProof.Rows PySem.W Mr
section
variable {prog:Program} {w:World} {d:Addr} {es:Array DictEntry} {ep:Nat}
def S8 (d:Addr) (es:Array DictEntry) (ep:Nat) (h:Heap):Prop:=∃od,h.get? d=some od/\od.ExactDict/\od.data= .dict es ep
theorem S8.type {s:Shared} (h:S8 d es ep s.heap):s.TypeIs (.ref d) "dict":=let⟨o,ho,hx,_⟩:=h;⟨o,ho,hx.1⟩
theorem K8 (lo:(d==sysModules)=false):KdlSrc prog w "dict" d d es.size (fun i v=>∃e,es[i]? =some e/\v=e.key) (S8 d es ep)where
 type:=fun _ hm=>hm.type
 there:=fun _ ⟨_,ho,_⟩=>⟨lt_size ho,lt_size ho⟩
 keep:=fun _ _ ⟨o,ho,x⟩ hk=>⟨o,hk d (.inl rfl) o ho,x⟩
 notList:=by decide
 notTuple:=by decide
 hint:=fun _ _ _ _ hm hq=>kdl_hint_dict hm.type hq
 iter:=fun A s hh ⟨od,ho,hx,hd⟩=>⟨_,fun i h=>h.IsKeyIter s.heap.objs.size d i es.size ep/\S8 d es ep h,(fun _ _ hq=>Q2 lo ho hx hd hq),{
  sub:=fun b hb=>by simp at hb;simp[hb]
  frame:=fun _ _ _ st hk=>⟨st.1.at fun o e=>hk _ (by simp) o e,let⟨o,h1,h2⟩:=st.2;⟨o,hk d (by simp) o h1,h2⟩⟩
  item:=fun i s1 Q E hi st hQ=>by
   obtain⟨⟨od,ho1,hx1,hd1⟩,hit⟩:=And.intro st.2 st.1;refine nextK hh rfl hit ho1 hd1 (fun e h' he hit' hs'=>?_) fun hn=>?_
   .refine hQ e.key h' s1.toks ⟨e,he,rfl⟩ ⟨hit',od,hs'.extBut d od (ne_of_lt (lt_size ho)) ho1,hx1,hd1⟩ fun b o hb e=>hs'.extBut b o (fun h=>hb (by simp[h])) e
   .rw[Array.getElem?_eq_getElem hi]at hn;cases hn
  done:=fun s1 Q E st hQ=>by
   obtain⟨⟨od,ho1,hx1,hd1⟩,hit⟩:=And.intro st.2 st.1;refine nextK hh rfl hit ho1 hd1 (fun e h' he hit' hs'=>?_) fun hn h' he'=>hQ h' s1.toks fun b o hb e=>he' b o (fun h=>hb (by simp[h])) e
   rw[getElem?_eq_none (le_refl _)]at he;cases he
  self:=fun _ _ _ _ st hQ=>wpAny_pyIter_keyiter st.1 hQ},⟨⟨_,get?_push_size _ rfl,rfl,rfl⟩,od,get?_push_of_some _ ho,hx,hd⟩⟩
end
def sG (w:World):List V->Hp->VK->Prop:=fun xs H Q=>∃a kvs ep ps,xs=[.ref a]/\H a=some (DN w a kvs ep)/\lT H ps (kvs.map fun kv=>V.ref kv.2.1)/\kvs.length<64/\(∀x∈ps,xO true x=true)/\fZ 3 ps=true/\
 ∀l zs,lT H (tU 3 ps) zs->H l=none->Q (.ref l) (L2.upd H l (.lst zs))
theorem vC:∀{kvs:List NE} {xs:List (List NK×Addr×Value)},KN kvs xs->Vals (kvs.map fun kv=>V.ref kv.2.1) (xs.map fun x=>Value.ref x.2.1)
 |_,_,.nil=>.nil
 |_,_,.cons h r=>.cons (by show Value.ref _=_;rw[h.2.1]) (vC r)
theorem SI {X:Cx} {k:Nat} (hr:d6 k X.A) (hc:X.calm=true:=by rfl):dW X (.builtin "sorted") (sG X.w):=by
 intro pins s σ H xs us Q I r ⟨a,kvs,ep,ps,e,ha,rp,h64,led,cmp,q⟩;subst e;obtain⟨u,rfl,rx⟩:=vals1 r;cases rx;obtain⟨z,y,xs,rel,o,es,h1,h2,h3,h4,h5⟩:=(show cB X.prog X.w H s.heap a (DN X.w a kvs ep)from I.bH a _ ha).1;have hl:kvs.length=xs.length:=Paired.length rel;have hz:es.size=kvs.length:=by rw[hl,<-length_toList,h4,length_map]
 have rv:=vC rel;have hpl:=rp.length;rw[length_map]at hpl;have ok:∀x∈ps,qO 3 x=true:=fun x hx=>by
  have:=all_eq_true.mp cmp x hx;rw[and_eq_true]at this;exact sY this.1
 refine p0 (s:=s) (Ok:=fun ws s1=>ws=xs.map fun x=>Value.ref x.2.1) (R:=fun ws p=>kI tS (fun i=>code 3 (ps.getD i .aP)) p ws.length) (fun E' Q' kk=>?_) ?_ ?_ ?_ ?_
 .refine kN (K8 (es:=es) (ep:=ep) z) (by exact I.ok.hd hc) ⟨o,h1,h2,h3⟩ (by rw[hz];exact y) fun ws s1 g hlw hw=>kk ws s1 g ?_
  apply List.ext_getElem?;intro j;cases ej:ws[j]? with
  |none=>
   have:=List.getElem?_eq_none_iff.mp ej;rw[List.getElem?_eq_none_iff.mpr (by rw[length_map];omega)]
  |some v=>
   obtain⟨e,he,rfl⟩:=hw j v ej;rw[<-getElem?_toList,h4,getElem?_map]at he;obtain⟨x,hx,rfl⟩:=Option.map_eq_some_iff.mp he;rw[getElem?_map,hx];rfl
 .rintro ws s1 rfl;rw[length_map];omega
 .rintro ws s1 gr rfl l2 h' kp;have I':Inv X pins σ H {s1 with heap:=h'}:=(I.Q6 gr).kept (t':=s1.toks) kp;have hL:cM h' ps _:=i3.lies I' (n:=3) (all_eq_true.mpr ok) (rp.rep (K:=X.K) (Z:=J1)) rv;exact HG (s:={s1 with heap:=h'}) hL (by have:=hr.un;show X.A.units+1+1+2<_;omega) led ok cmp l2
 .rintro ws s1 rfl h2 i j a b;rw[show i=j by omega];exact KeyOrd.kle_refl _
 .rintro l s1 s2 out c ws p gr rfl g2 hla hat e1 e2 e3;have hp:p.toList.Perm (List.range ps.length):=by
   have:=perm_iff_toList_perm.mp e1;rw[length_map,<-hl,<-hpl]at this;simpa using this
  have hlt:∀i∈p.toList,i<ps.length:=fun i hi=>mem_range.mp (hp.mem_iff.mp hi)
  have z2:=mM rv p.toList fun i hi=>by have:=hlt i hi;rw[length_map];omega
  rw[<-e3]at z2;have hpz:p.toList.length=ps.length:=by rw[hp.length_eq,length_range]
  have hls:s.heap.objs.size<=l:=le_trans gr.size hla;have up:=ND e2 (by rw[hpz,length_map,hpl,hl]);have pm:(p.toList.map fun i=>ps.getD i PV.aP).Perm ps:=by
   have:=hp.map fun i=>ps.getD i PV.aP
   have e:(List.range ps.length).map (fun i=>ps.getD i PV.aP)=ps:=by
    apply ext_getElem
    .simp
    .intro i a1 a2;simp[getElem?_eq_getElem a2]
   rw[e]at this;exact this
  have es':tU 3 ps=p.toList.map fun i=>ps.getD i .aP:=
   kK (nZ 3 ps) up ((fF 3 ps).trans pm.symm) fun x hx y hy=>zX cmp ((fF 3 ps).mem_iff.mp hx) ((fF 3 ps).mem_iff.mp hy)
  refine⟨.ref l,_,I.MQ (o:=.lst (p.toList.map fun i=>(kvs.map fun kv=>V.ref kv.2.1).getD i .aP)) (gr.trans g2) hls ⟨by rw[length_map,hpz,hpl];exact y,out.toList,c,z2,by rw[toArray_toList];exact hat⟩,rfl,q l _ ?_ (I.bH.fresh hls)⟩;rw[es'];exact rp.pick hlt
end L2
namespace Rg
variable {α:Type}
noncomputable def jP (up:α->Option α):Nat->α->Option α
 |0,x=>some x
 |n+1,x=>(up x).bind (jP up n)
def w6 (up:α->Option α) (x:α):Prop:=∃n,jP up (n+1) x=some x
def Path (up:α->Option α):List α->Option α->Prop
 |[],_=>True
 |[x],e=>up x=e
 |x::y::l,e=>up x=some y/\Path up (y::l) e
structure Ring (up:α->Option α) (l:List α):Prop where
 ne:l≠[]
 nd:l.Nodup
 path:Path up l l.head?
def m7 (up:α->Option α) (T:α->Prop):Prop:=∀x y,T x->up x=some y->T y
variable {up:α->Option α}
theorem oR:∀(m n:Nat) (x:α),jP up (m+n) x=(jP up m x).bind (jP up n)
 |0,n,x=>by rw[Nat.zero_add];rfl
 |m+1,n,x=>by
  rw[Nat.add_right_comm];show(up x).bind (jP up (m+n))=((up x).bind (jP up m)).bind (jP up n);cases up x with
  |none=>rfl
  |some y=>exact oR m n y
theorem m7.walk {T:α->Prop} (h:m7 up T):∀(n:Nat) {x y:α},T x->jP up n x=some y->T y
 |0,_,_,hx,e=>by cases e;exact hx
 |n+1,x,y,hx,e=>by
  cases c:up x with
  |none=>rw[jP,c]at e;cases e
  |some z=>rw[jP,c]at e;exact h.walk n (h x z hx c) e
theorem B2 {x:α} {n:Nat} (h:jP up n x=some x):∀k,jP up (k*n) x=some x
 |0=>by rw[Nat.zero_mul];rfl
 |k+1=>by rw[Nat.succ_mul,oR,B2 h k];exact h
theorem w6.back {x:α} (h:w6 up x) (m:Nat):∃y j,jP up m x=some y/\jP up j y=some x:=by
 obtain⟨n,h⟩:=h;have k:=B2 h m;have e:m*(n+1)=m+m*n:=by rw[Nat.mul_succ,Nat.add_comm]
 rw[e,oR]at k;cases c:jP up m x with
 |none=>rw[c]at k;cases k
 |some y=>rw[c]at k;exact⟨y,_,rfl,k⟩
theorem Path.BG:∀{l:List α} {e:Option α} {i:Nat} {x:α},Path up l e->l[i]? =some x->jP up (l.length - i) x=e
 |[],_,_,_,_,h=>by simp at h
 |[a],e,0,x,p,h=>by
  cases h;show(up a).bind (jP up 0)=e;rw[show up a=e from p];cases e<;>rfl
 |[a],e,i+1,x,p,h=>by simp at h
 |a::b::l,e,0,x,p,h=>by
  cases h;show(up a).bind (jP up (b::l).length)=e;rw[p.1];exact Path.BG (l:=b::l) (i:=0) p.2 rfl
 |a::b::l,e,i+1,x,p,h=>by
  have:=Path.BG (l:=b::l) (i:=i) p.2 (by simpa using h);simpa using this
theorem Path.drop:∀{l:List α} {e:Option α} (n:Nat),Path up l e->Path up (l.drop n) e
 |_,_,0,p=>p
 |[],_,_+1,p=>p
 |[a],_,n+1,p=>by simp[Path]
 |a::b::l,e,n+1,p=>by
  rw[List.drop_succ_cons];exact Path.drop n p.2
theorem Path.snoc:∀{l:List α} {x:α} {e:Option α},Path up l (some x)->up x=e->Path up (l++[x]) e
 |[],x,e,_,h=>h
 |[a],x,e,p,h=>⟨p,h⟩
 |a::b::l,x,e,p,h=>⟨p.1,Path.snoc (l:=b::l) p.2 h⟩
theorem Path.step:∀{l:List α} {e:Option α} {x:α},Path up l e->x∈l->(∃y∈l,up x=some y)\/ up x=e
 |[],_,_,_,h=>by simp at h
 |[a],e,x,p,h=>by
  rw[mem_singleton.mp h];exact .inr p
 | a::b::l,e,x,p,h=>by
  rcases mem_cons.mp h with rfl|h
  .exact .inl ⟨b,by simp,p.1⟩
  .rcases Path.step (l:=b::l) p.2 h with⟨y,hy,e⟩|e
   .exact .inl ⟨y,mem_cons_of_mem _ hy,e⟩
   .exact .inr e
theorem Path.no {l:List α} {e:Option α} {x:α} (p:Path up l e) (hx:x∈l) (h:∀y,e=some y->∀j,jP up j y≠some x):¬w6 up x:=fun c=>by
 obtain⟨i,hi⟩:=List.getElem?_of_mem hx;obtain⟨y,j,h1,h2⟩:=c.back (l.length - i);rw[p.BG hi]at h1;exact h y h1 j h2
theorem Ring.closed {l:List α} (r:Ring up l):m7 up fun x=>x∈l:=fun x y hx e=>by
 rcases r.path.step hx with⟨z,hz,e'⟩|e'
 .rw[e]at e';cases e';exact hz
 .rw[e]at e';cases l with
  |nil=>exact absurd rfl r.ne
  |cons a l=>cases e';simp
theorem Ring.turn {l:List α} (r:Ring up l) {x:α} (hx:x∈l):jP up l.length x=some x:=by
 cases l with
 |nil=>exact absurd rfl r.ne
 | cons a l=>
  obtain⟨i,hi⟩:=List.getElem?_of_mem hx;have hl:i<(a::l).length:=(List.getElem?_eq_some_iff.mp hi).1;have h1:=r.path.BG hi;have h0:=r.path.BG (l:=a::l) (i:=0) (x:=a) rfl;have ha:∀j,j<=(a::l).length->∀z,(a::l)[j]? =some z->jP up j a=some z:=by
   intro j
   induction j with
   |zero=>intro _ z hz;cases hz;rfl
   |succ j ih=>
    intro hj z hz;have hj':j<(a::l).length:=by omega
    have e1:=ih (by omega) _ (getElem?_eq_getElem hj');rw[oR j 1,e1];have e2:=r.path.BG (getElem?_eq_getElem hj');have e3:=r.path.BG hz;have hlt:j+1<(a::l).length:=(List.getElem?_eq_some_iff.mp hz).1;have:Path up ((a::l).drop j) (a::l).head?:=r.path.drop j;rw[List.drop_eq_getElem_cons hj',List.drop_eq_getElem_cons hlt]at this;show(up _).bind (jP up 0)=_;rw[this.1];rw[getElem?_eq_getElem hlt]at hz;cases hz;rfl
  have e2:=ha i (by omega) x hi;have e3:jP up ((a::l).length - i+i) x=some x:=by
   rw[oR,h1];exact e2
  have:(a::l).length - i+i=(a::l).length:=by omega
  rw[this]at e3;exact e3
theorem Ring.w6 {l:List α} (r:Ring up l) {x:α} (hx:x∈l):w6 up x:=by
 refine⟨l.length - 1,?_⟩;have:0<l.length:=length_pos_of_mem hx;rw[show l.length - 1+1=l.length by omega];exact r.turn hx
structure Found (up:α->Option α) (S:List α) (F:List (List α)):Prop where
 cl:m7 up fun x=>x∈S
 ring:∀R∈F,Ring up R
 sub:∀R∈F,∀x∈R,x∈S
 nd:F.flatten.Nodup
 all:∀x∈S,w6 up x->x∈F.flatten
theorem Found.nil:Found up [] []:=⟨fun x y h=>by simp at h,by simp,by simp,by simp,by simp⟩
theorem Found.out {S:List α} {F:List (List α)} {l:List α} {e:Option α} (f:Found up S F) (p:Path up l e) (hd:∀x∈l,x∉S) (h:∀y,e=some y->y∈S):Found up (S++l) F where
 cl:=fun x y hx u=>by
  rcases mem_append.mp hx with hx|hx
  .exact mem_append_left _ (f.cl x y hx u)
  .rcases p.step hx with⟨z,hz,e'⟩|e'
   .rw[u]at e';cases e';exact mem_append_right _ hz
   .rw[u]at e';exact mem_append_left _ (h y e'.symm)
 ring:=f.ring
 sub:=fun R hR x hx=>mem_append_left _ (f.sub R hR x hx)
 nd:=f.nd
 all:=fun x hx c=>by
  rcases mem_append.mp hx with hx|hx
  .exact f.all x hx c
  .exact absurd c (p.no hx fun y ey j ej=>hd x hx (f.cl.walk j (h y ey) ej))
theorem Found.QJ {S:List α} {F:List (List α)} {p r:List α} (f:Found up S F) (hr:r≠[]) (hp:Path up (p++r) r.head?) (nd:(p++r).Nodup) (hd:∀x∈p++r,x∉S):Found up (S++(p++r)) (F++[r]):=by
 obtain⟨nd1,nd2,nd3⟩:=nodup_append.mp nd;have R:Ring up r:=⟨hr,nd2,by have:=hp.drop p.length;rwa[List.drop_left]at this⟩;refine⟨fun x y hx u=>?_,fun Q hQ=>?_,fun Q hQ x hx=>?_,?_,fun x hx c=>?_⟩
 .rcases mem_append.mp hx with hx|hx
  .exact mem_append_left _ (f.cl x y hx u)
  .rcases hp.step hx with⟨z,hz,e'⟩|e'
   .rw[u]at e';cases e';exact mem_append_right _ hz
   .rw[u]at e';cases r with
    |nil=>exact absurd rfl hr
    |cons a r=>cases e';exact mem_append_right _ (mem_append_right _ (by simp))
 .rcases mem_append.mp hQ with h|h
  .exact f.ring Q h
  .rw[mem_singleton.mp h];exact R
 .rcases mem_append.mp hQ with h|h
  .exact mem_append_left _ (f.sub Q h x hx)
  .rw[mem_singleton.mp h]at hx;exact mem_append_right _ (mem_append_right _ hx)
 .rw[List.flatten_append];refine nodup_append.mpr ⟨f.nd,by simpa using nd2,fun x hx y hy e=>?_⟩;subst e;obtain⟨Q,hQ,hx⟩:=List.mem_flatten.mp hx;exact hd x (mem_append_right _ (by simpa using hy)) (f.sub Q hQ x hx)
 .rw[List.flatten_append];rcases mem_append.mp hx with hx|hx
  .exact mem_append_left _ (f.all x hx c)
  .rcases mem_append.mp hx with hx|hx
   .refine absurd c (Path.no (l:=p++r) hp (mem_append_left _ hx) fun y ey j ej=>?_);have hy:y∈r:=by
     cases r with
     |nil=>cases ey
     |cons a r=>cases ey;simp
    exact nd3 x hx x (R.closed.walk j hy ej) rfl
   .exact mem_append_right _ (by simpa using hx)
end Rg
namespace My
open PySem L2
variable {ab:Hl} {zs:List Str} {o:Option Str} {x y:Str}
abbrev Hl:=List (Str×Option Str)
noncomputable def oV:Option Str->V
 |none=>.aP
 |some s=>.str s
theorem JM:∀{a b:Option Str},oV a=oV b->a=b
 |none,none,_=>rfl
 |some _,some _,h=>by cases h;rfl
 |none,some _,h=>by cases h
 |some _,none,h=>by cases h
noncomputable def dF (ab:Hl):List (Key×V):=ab.map fun z=>(Sum.inr z.1,oV z.2)
noncomputable abbrev ks (ab:Hl):List Str:=ab.map (·.1)
noncomputable def eJ (ab:Hl) (x:Str):Option Str:=(ab.find? fun z=>decide (z.1=x)).bind (·.2)
noncomputable def gH (ab:Hl) (x:Str) (o:Option Str):Hl:=if x∈ks ab then ab.map (fun z=>if z.1=x then(z.1,o)else z)else ab++[(x,o)]
theorem vE (x:Str):∀ab:Hl,dX (dF ab) (Sum.inr x)=(ab.find? fun z=>decide (z.1=x)).map fun z=>oV z.2
 |[]=>rfl
 |z::ab=>by
  have ih:=vE x ab
  by_cases h:z.1=x
  .rw[show dF (z::ab)=(Sum.inr z.1,oV z.2)::dF ab from rfl,dC (show(Sum.inr z.1:Key)=Sum.inr x by rw[h]),find?_cons,decide_eq_true h];rfl
  .rw[show dF (z::ab)=(Sum.inr z.1,oV z.2)::dF ab from rfl,cN (show¬(Sum.inr z.1:Key)=Sum.inr x from fun e=>h (Sum.inr.inj e)),find?_cons,decide_eq_false h,ih]
theorem CJ (x:Str):∀ab:Hl,(ab.find? fun z=>decide (z.1=x)).isSome=decide (x∈ks ab)
 |[]=>rfl
 | z::ab=>by
  rw[find?_cons]
  by_cases h:z.1=x
  .rw[decide_eq_true h,decide_eq_true (show x∈ks (z::ab) by rw[<-h];exact mem_cons_self)];rfl
  .rw[decide_eq_false h];show(ab.find? fun z=>decide (z.1=x)).isSome=_;rw[CJ x ab];exact decide_eq_decide.mpr ⟨fun hx=>mem_cons_of_mem _ hx,fun hx=>(mem_cons.mp hx).elim (fun e=>absurd e.symm h) id⟩
theorem lK (ab:Hl) (x:Str):(dX (dF ab) (Sum.inr x)).isSome=decide (x∈ks ab):=by
 rw[vE,isSome_map];exact CJ x ab
theorem qQ (ab:Hl) (x:Str):(dX (dF ab) (Sum.inr x)).getD .aP=oV (eJ ab x):=by
 rw[vE];unfold eJ;cases ab.find? fun z=>decide (z.1=x)<;>rfl
theorem oZ {ab:Hl} {x:Str} (h:x∈ks ab):dX (dF ab) (Sum.inr x)=some (oV (eJ ab x)):=by
 have h1:=lK ab x;have h2:=qQ ab x;rw[decide_eq_true h]at h1;cases e:dX (dF ab) (Sum.inr x)with
 |none=>rw[e]at h1;cases h1
 |some v=>rw[e]at h2;exact congrArg some h2
theorem iB (ab:Hl) (x:Str) (o:Option Str):putK (dF ab) (Sum.inr x) (oV o)=dF (gH ab x o):=by
 unfold putK gH;have h1:=lK ab x;rw[<-L2.iW]at h1;rw[h1]
 by_cases h:x∈ks ab
 .rw[decide_eq_true h,if_pos rfl,if_pos h];unfold dF;rw[map_map,map_map];refine map_congr_left fun z _=>?_
  show(if(Sum.inr z.1:Key)=Sum.inr x then _ else _)=_
  by_cases e:z.1=x
  .rw[if_pos (by rw[e])];show _=(fun z:Str×Option Str=>((Sum.inr z.1:Key),oV z.2)) (if z.1=x then _ else _);rw[if_pos e]
  .rw[if_neg (fun q=>e (Sum.inr.inj q))];show _=(fun z:Str×Option Str=>((Sum.inr z.1:Key),oV z.2)) (if z.1=x then _ else _);rw[if_neg e]
 .rw[decide_eq_false h,if_neg Bool.false_ne_true,if_neg h];unfold dF;rw[map_append];rfl
theorem sR {ab:Hl} {x:Str} (h:eJ ab x=some y):(x,some y)∈ab:=by
 unfold eJ at h;cases c:ab.find? fun z=>decide (z.1=x)with
 |none=>rw[c]at h;cases h
 |some z=>
  rw[c]at h;have h1:z.1=x:=of_decide_eq_true (List.find?_some (p:=fun z:Str×Option Str=>decide (z.1=x)) c);have h2:=List.mem_of_find?_eq_some c;obtain⟨a,b⟩:=z;cases h1;have h:b=some y:=h;rw[<-h];exact h2
theorem KR (h:eJ ab x=some y):x∈ks ab:=mem_map.mpr ⟨_,sR h,rfl⟩
theorem PC {ab:Hl} (nd:(ks ab).Nodup) (h:(x,o)∈ab):eJ ab x=o:=by
 induction ab with
 |nil=>cases h
 | cons z ab ih=>
  unfold eJ;have nd':=nodup_cons.mp nd;rw[find?_cons];rcases mem_cons.mp h with e|h
  .rw[<-e,decide_eq_true rfl];rfl
  .have ne:¬z.1=x:=fun e=>nd'.1 (mem_map.mpr ⟨(x,o),h,e.symm⟩)
   rw[decide_eq_false ne];exact ih nd'.2 h
theorem qD (ab:Hl) (x y:Str) (o:Option Str):eJ (gH ab x o) y=if y=x then o else eJ ab y:=by
 apply JM;rw[<-qQ,<-iB,JC]
 by_cases e:y=x
 .rw[if_pos (by rw[e]),if_pos e];rfl
 .rw[if_neg (fun q=>e (Sum.inr.inj q)),if_neg e,qQ]
theorem oN (ab:Hl) (x:Str) (o:Option Str):ks (gH ab x o)=if x∈ks ab then ks ab else ks ab++[x]:=by
 unfold gH
 by_cases h:x∈ks ab
 .rw[if_pos h,if_pos h];unfold ks;rw[map_map];refine map_congr_left fun z _=>?_
  show(if z.1=x then(z.1,o)else z).1=z.1;split<;>rfl
 .rw[if_neg h,if_neg h];unfold ks;rw[map_append];rfl
theorem dZ:y∈ks (gH ab x o)↔y∈ks ab\/ y=x:=by
 rw[oN]
 by_cases h:x∈ks ab
 .rw[if_pos h];exact⟨.inl,fun z=>z.elim id fun e=>by rw[e];exact h⟩
 .rw[if_neg h,mem_append,mem_singleton]
theorem ON (nd:(ks ab).Nodup):(ks (gH ab x o)).Nodup:=by
 rw[oN]
 by_cases h:x∈ks ab
 .rw[if_pos h];exact nd
 .rw[if_neg h];refine nodup_append.mpr ⟨nd,by simp,fun u hu w hw e=>?_⟩;rw[mem_singleton.mp hw]at e;exact h (by rw[<-e];exact hu)
structure E7 (zs:List Str) (ab:Hl):Prop where
 nd:(ks ab).Nodup
 cl:∀x y,eJ ab x=some y->y∈ks ab
 sub:∀x∈ks ab,x∈zs
theorem E7.nil:E7 zs []:=⟨nodup_nil,(fun _ _ h=>nomatch h),fun _ h=>nomatch h⟩
theorem E7.put (h:E7 zs ab) (hx:x∈zs) (ho:∀y,o=some y->y∈ks ab\/ y=x):E7 zs (gH ab x o):=by
 refine⟨ON h.nd,fun u y e=>?_,fun u hu=>(dZ.mp hu).elim (h.sub u) fun e=>by rw[e];exact hx⟩;rw[qD]at e;split at e
 .exact dZ.mpr (ho y e)
 .exact dZ.mpr (.inl (h.cl u y e))
theorem fU {α:Type} [DecidableEq α]:∀{xs ys:List α},xs.Nodup->(∀x∈xs,x∈ys)->xs.length<=ys.length
 |[],_,_,_=>zero_le _
 |x::xs,ys,nd,h=>by
  rw[nodup_cons]at nd;have hx:=h x mem_cons_self;have h1:=fU (xs:=xs) (ys:=ys.erase x) nd.2 fun y hy=>(List.mem_erase_of_ne fun e=>nd.1 (by rw[<-e];exact hy)).mpr (h y (mem_cons_of_mem _ hy))
  rw[List.length_erase_of_mem hx]at h1;have h2:=length_pos_of_mem hx;rw[length_cons];omega
theorem E7.len (h:E7 zs ab):ab.length<=zs.length:=by
 have:=fU h.nd h.sub;rwa[length_map]at this
theorem dR (ab:Hl):(dF ab).length=ab.length:=length_map ..
end My
namespace L2
open PySem
section
variable {a:Addr} {kvs:List (Key×V)} {ep:Nat} {g:TG} {tb:TS} {D:Ends} {σ:St} {H:Hp}
def LJ (J:It) (g:TG) (tb:TS) (D:Ends) (σ:St) (H:Hp):Prop:=∃W:Nat->Nat->St->Hp->Prop,(∃m,W 0 m σ H)/\∀i m σ H,W i m σ H->
 (J.stop i H/\D.nx σ H)\/ (J.go i H/\∃N:St->Hp->Prop,(∀σ' H',N σ' H'->∃m',m'<m/\W (i+1) m' σ' H')/\∀x H',J.AX i H x H'->g x σ H' fun σ2 H2=>tb {D with nx:=N,ct:=N,bk:=D.nx} σ2 H2)
theorem wN {J:It} (n:Nat) (Pv:Nat->St->Hp->Prop) (h0:Pv 0 σ H) (hst:∀σ H,Pv n σ H->J.stop n H) (hgo:∀i σ H,i<n->Pv i σ H->J.go i H)
  (hs:∀i x H' σ H,i<n->Pv i σ H->J.AX i H x H'->g x σ H' fun σ2 H2=>tb {D with nx:=Pv (i+1),ct:=Pv (i+1),bk:=D.nx} σ2 H2) (hd:∀σ H,Pv n σ H->D.nx σ H):LJ J g tb D σ H:=by
 refine⟨fun i m σ H=>m=n - i/\i<=n/\Pv i σ H,⟨n,by simp,zero_le _,h0⟩,?_⟩;rintro i m σ H ⟨rfl,hi,p⟩
 by_cases hlt:i<n
 .exact .inr ⟨hgo i σ H hlt p,Pv (i+1),fun σ' H' p'=>⟨n - (i+1),by omega,rfl,hlt,p'⟩,fun x H' y=>hs i x H' σ H hlt p y⟩
 .have e:i=n:=by omega
  subst e;exact .inl ⟨hst σ H p,hd σ H p⟩
theorem nM (Pv:Nat->St->Hp->Prop) (h0:Pv 0 σ H) (hl:∀i σ H,i<=kvs.length->Pv i σ H->Rd H a (.dK kvs ep))
  (hs:∀i kv σ H,kvs[i]? =some kv->Pv i σ H->g (kV kv.1) σ H fun σ2 H2=>tb {D with nx:=Pv (i+1),ct:=Pv (i+1),bk:=D.nx} σ2 H2) (hd:∀σ H,Pv kvs.length σ H->D.nx σ H):LJ (RV a kvs ep) g tb D σ H:=by
 refine wN kvs.length Pv h0 (fun σ H p=>⟨hl _ σ H (le_refl _) p,rfl⟩) (fun i σ H hi p=>⟨hl i σ H (le_of_lt hi) p,hi⟩) (fun i x H' σ H hi p ⟨e,y⟩=>?_) hd;subst e;rw[y _ (getElem?_eq_getElem hi)];exact hs i _ σ _ (getElem?_eq_getElem hi) p
theorem sO (Pv:Nat->St->Hp->Prop) (h0:Pv 0 σ H) (hl:∀i σ H,i<=kvs.length->Pv i σ H->Rd H a (.dK kvs ep))
  (hs:∀i kv σ H,kvs[i]? =some kv->Pv i σ H->g kv.2 σ H fun σ2 H2=>tb {D with nx:=Pv (i+1),ct:=Pv (i+1),bk:=D.nx} σ2 H2) (hd:∀σ H,Pv kvs.length σ H->D.nx σ H):LJ (RF a kvs ep) g tb D σ H:=by
 refine wN kvs.length Pv h0 (fun σ H p=>⟨hl _ σ H (le_refl _) p,rfl⟩) (fun i σ H hi p=>⟨hl i σ H (le_of_lt hi) p,hi⟩) (fun i x H' σ H hi p ⟨e,y⟩=>?_) hd;subst e;rw[y _ (getElem?_eq_getElem hi)];exact hs i _ σ _ (getElem?_eq_getElem hi) p
theorem oK (Pv:Nat->St->Hp->Prop) (h0:Pv 0 σ H) (hl:∀i σ H,i<=kvs.length->Pv i σ H->Rd H a (.dK kvs ep))
  (hs:∀i kv t σ H,kvs[i]? =some kv->H t=none->Pv i σ H->g (.ref t) σ (upd H t (.tup [kV kv.1,kv.2])) fun σ2 H2=>tb {D with nx:=Pv (i+1),ct:=Pv (i+1),bk:=D.nx} σ2 H2) (hd:∀σ H,Pv kvs.length σ H->D.nx σ H):LJ (TC a kvs ep) g tb D σ H:=by
 refine wN kvs.length Pv h0 (fun σ H p=>⟨hl _ σ H (le_refl _) p,rfl⟩) (fun i σ H hi p=>⟨hl i σ H (le_of_lt hi) p,hi⟩) (fun i x H' σ H hi p ⟨t,ht,ex,y⟩=>?_) hd;subst ex;rw[y _ (getElem?_eq_getElem hi)];exact hs i _ t σ _ (getElem?_eq_getElem hi) ht p
end
section
variable {k:Nat} {cL:List Nat} {g:TG} {tt:TT} {te:TE} {σ:St} {H:Hp} {Q:VK} {l:Addr}
theorem uV {a:Addr} {kvs:List (Key×V)} {ep:Nat} {ss:List Str} (hS:Rd H a (.dK kvs ep)) (hk:kvs.map (·.1)=ss.map Sum.inr) (p:Str->Bool) (R:Hp->Str->V->Prop) (Good:St->Prop) (h0:Good (bR k cL σ)) (hl:H l=none) (hlen:ss.length<sizeLine)
  (m:∀H1 H2 e v,iI H1 H2->R H1 e v->R H2 e v)
  (ht:∀n σ H1 ys (N:St->Hp->Prop),n∈ss->Good σ->aF H H1->H1 l=some (.lst ys)->ys.length<sizeLine->(p n=false->∀σ',Good σ'->N σ' H1)->
   (p n=true->∀σ' v H2,Good σ'->aF H1 H2->R H2 n v->N σ' (upd H2 l (.lst (ys++[v]))))->bK g tt te l (.str n) σ H1 N)
  (hd:∀H' ys,aF H H'->Paired (R H') (ss.filter p) ys->H' l=some (.lst ys)->Q (.ref l) H'):iN (RV a kvs ep) g tt te l (bR k cL σ) (upd H l (.lst [])) Q:=by
 have e:=congrArg List.length hk;rw[length_map,length_map]at e;have rd:∀H',aF H H'->Rd H' a (.dK kvs ep):=fun H' s=>hS.elim (fun z=>.inl (s _ _ z)) fun⟨o,z⟩=>.inr ⟨o,s _ _ z⟩
 refine oU (RV a kvs ep) ss V.str p R Good h0 hl hlen (fun H' s=>⟨rd H' s,by omega⟩) (fun i H' hi s=>⟨rd H' s,by omega⟩) (fun i H1 v H2 hi s y=>⟨y.1,ss[i],getElem?_eq_getElem hi,?_⟩) m ht hd;have hi':i<kvs.length:=by omega
 rw[y.2 _ (getElem?_eq_getElem hi')];have h1:(kvs.map (·.1))[i]? =some kvs[i].1:=by rw[getElem?_map,getElem?_eq_getElem hi'];rfl
 rw[hk,getElem?_map,getElem?_eq_getElem hi]at h1;rw[<-Option.some.inj h1];rfl
end
end L2
namespace My
open PySem L2
variable {b d:Addr} {M ab:Hl} {H H':Hp} {kvs:List (Key×V)} {F:List (List Str)} {l ns:List Str} {o:Option Str} {a s st x y:Str} {z:Str×Option Str} {u v:V}
theorem gM (h:dA H d kvs) (s:aF H H'):dA H' d kvs:=let⟨ep,e⟩:=h;⟨ep,s _ _ e⟩
theorem B1 (h:dA H d kvs) (n:H b=none):d≠b:=let⟨_,e⟩:=h;aJ e n
theorem G0 (ab:Hl):(dF ab).map (·.1)=(ks ab).map Sum.inr:=by
 unfold dF ks;rw[map_map,map_map];rfl
noncomputable def iU (S:List Str):List (Key×V):=S.map fun s=>(Sum.inr s,V.bl true)
noncomputable def kJ (S:List Str) (s:Str):List Str:=if s∈S then S else S++[s]
theorem jW (S:List Str):(iU S).length=S.length:=length_map ..
theorem HD (S:List Str):(iU S).map (·.1)=S.map Sum.inr:=by
 unfold iU;rw[map_map];rfl
theorem jT (x:Str):∀S:List Str,(dX (iU S) (Sum.inr x)).isSome=decide (x∈S)
 |[]=>rfl
 | s::S=>by
  by_cases h:s=x
  .rw[show iU (s::S)=(Sum.inr s,V.bl true)::iU S from rfl,dC (show(Sum.inr s:Key)=Sum.inr x by rw[h]),decide_eq_true (show x∈s::S by rw[h];exact mem_cons_self)];rfl
  .rw[show iU (s::S)=(Sum.inr s,V.bl true)::iU S from rfl,cN (show¬(Sum.inr s:Key)=Sum.inr x from fun e=>h (Sum.inr.inj e)),jT x S];exact decide_eq_decide.mpr ⟨fun hx=>mem_cons_of_mem _ hx,fun hx=>(mem_cons.mp hx).elim (fun e=>absurd e.symm h) id⟩
theorem nQ (S:List Str) (s:Str):putK (iU S) (Sum.inr s) (.bl true)=iU (kJ S s):=by
 unfold putK kJ;have h1:=jT s S;rw[<-L2.iW]at h1;rw[h1]
 by_cases h:s∈S
 .rw[decide_eq_true h,if_pos rfl,if_pos h];unfold iU;rw[map_map];refine map_congr_left fun z _=>?_
  show(if(Sum.inr z:Key)=Sum.inr s then((Sum.inr z:Key),V.bl true)else(Sum.inr z,V.bl true))=_;split<;>rfl
 .rw[decide_eq_false h,if_neg Bool.false_ne_true,if_neg h];unfold iU;rw[map_append];rfl
theorem eL {S:List Str}:x∈kJ S s↔x∈S\/ x=s:=by
 unfold kJ;split
 .exact⟨.inl,fun z=>z.elim id fun e=>by rw[e];assumption⟩
 .rw[mem_append,mem_singleton]
theorem qN {S:List Str} (h:S.Nodup):(kJ S s).Nodup:=by
 unfold kJ;split
 .exact h
 .rename_i hs;refine nodup_append.mpr ⟨h,by simp,fun u hu w hw e=>?_⟩;rw[mem_singleton.mp hw]at e;exact hs (by rw[<-e];exact hu)
theorem n4 {S:List Str} (h:s∉S):(kJ S s).length=S.length+1:=by
 unfold kJ;rw[if_neg h,length_append];rfl
noncomputable def pO:Option Str->Mr.PV
 |none=>.aP
 |some s=>.str s
noncomputable def JU (z:Str×Option Str):Mr.PV:=.tup [.str z.1,pO z.2]
theorem RR:∀o:Option Str,Tr H (pO o) (oV o)
 |none=>.aP
 |some s=>.str s
theorem QH:∀{o:Option Str} {v:V},Tr H (pO o) v->v=oV o
 |none,_,h=>by cases h;rfl
 |some s,_,h=>by cases h;rfl
theorem O3 (h:Tr H (JU z) u):∃b,u= .ref b/\H b=some (.tup [.str z.1,oV z.2]):=by
 obtain⟨b,us,rfl,hb,hl⟩:=h.JI;cases hl with
 | cons h1 hl=>
  cases hl with
  |cons h2 hl=>
   cases hl;cases h1;rw[QH h2]at hb;exact⟨b,rfl,hb⟩
theorem NR (h:H b=some (.tup [.str z.1,oV z.2])):Tr H (JU z) (.ref b):=.tup h (.cons (.str _) (.cons (RR _) .nil))
theorem OY (o:Option Str):Mr.eB (pO o) (pO o)=true:=by
 cases o with
 |none=>rfl
 |some s=>show(s==s)=true;exact beq_self_eq_true s
theorem D9 (h:∀x∈ab,∀y∈ab,x.1=y.1->x.2=y.2):Mr.fZ 3 (ab.map JU)=true:=by
 unfold Mr.fZ;rw[all_eq_true];intro p hp;obtain⟨x,hx,rfl⟩:=mem_map.mp hp;rw[and_eq_true,all_eq_true];refine⟨by unfold JU;cases x.2<;>rfl,fun q hq=>?_⟩;obtain⟨y,hy,rfl⟩:=mem_map.mp hq;show(Mr.jD 3 (.tup [.str x.1,pO x.2]) (.tup [.str y.1,pO y.2])).isSome=true;show(Mr.fI (Mr.jD 2) [.str x.1,pO x.2] [.str y.1,pO y.2]).isSome=true
 by_cases e:x.1=y.1
 .rw[<-h x hx y hy e,<-e];show(if Mr.eB (.str x.1) (.str x.1)=true then Mr.fI (Mr.jD 2) [pO x.2] [pO x.2]else _).isSome=true;rw[if_pos (show Mr.eB (.str x.1) (.str x.1)=true from beq_self_eq_true x.1)];show(if Mr.eB (pO x.2) (pO x.2)=true then Mr.fI (Mr.jD 2) [] []else _).isSome=true;rw[if_pos (OY _)];rfl
 .show(if Mr.eB (.str x.1) (.str y.1)=true then _ else Mr.jD 2 (.str x.1) (.str y.1)).isSome=true;rw[if_neg (show¬Mr.eB (.str x.1) (.str y.1)=true from fun z=>e (eq_of_beq (show(x.1==y.1)=true from z)))];rfl
theorem DM (ab:Hl):∀x∈ab.map JU,Mr.xO true x=true:=fun x hx=>by
 obtain⟨z,_,rfl⟩:=mem_map.mp hx;rfl
theorem zP {α β:Type} {f:α->β} {l:List β} {m:List β} (p:l.Perm m):∀{S:List α},m=S.map f->∃S':List α,S'.Perm S/\l=S'.map f:=by
 induction p with
 |nil=>
  intro S e;cases S with
  |nil=>exact⟨[],.nil,rfl⟩
  |cons a b=>cases e
 | cons x p ih=>
  intro S e;cases S with
  |nil=>cases e
  |cons a S=>
   obtain⟨e1,e2⟩:=List.cons.inj e;obtain⟨S',h1,h2⟩:=ih e2;exact⟨a::S',.cons _ h1,by rw[map_cons,h2,e1]⟩
 | swap x y l=>
  intro S e
  match S,e with
  |a::b::S,e=>
   obtain⟨e1,e2⟩:=List.cons.inj e;obtain⟨e2,e3⟩:=List.cons.inj e2;exact⟨b::a::S,.swap _ _ _,by rw[map_cons,map_cons,e1,e2,e3]⟩
 |trans p q ih1 ih2=>
  intro S e;obtain⟨S1,h1,h2⟩:=ih2 e;obtain⟨S2,h3,h4⟩:=ih1 h2;exact⟨S2,h3.trans h1,h4⟩
noncomputable def E3 (z:Int×Str×Str):Mr.PV:=.tup [.int z.1,.str z.2.1,.str z.2.2]
theorem OU (a b a' b':Str):(Mr.fI (Mr.jD 2) [.str a,.str b] [.str a',.str b']).isSome=true:=by
 show(if Mr.eB (.str a) (.str a')=true then Mr.fI (Mr.jD 2) [.str b] [.str b']else Mr.jD 2 (.str a) (.str a')).isSome=true;split
 .show(if Mr.eB (.str b) (.str b')=true then Mr.fI (Mr.jD 2) [] []else Mr.jD 2 (.str b) (.str b')).isSome=true;split<;>rfl
 .rfl
theorem z0 (zs:List (Int×Str×Str)):Mr.fZ 3 (zs.map E3)=true:=by
 unfold Mr.fZ;rw[all_eq_true];intro p hp;obtain⟨x,hx,rfl⟩:=mem_map.mp hp;rw[and_eq_true,all_eq_true];refine⟨rfl,fun q hq=>?_⟩;obtain⟨y,hy,rfl⟩:=mem_map.mp hq;show(if Mr.eB (.int x.1) (.int y.1)=true then Mr.fI (Mr.jD 2) [.str x.2.1,.str x.2.2] [.str y.2.1,.str y.2.2]else Mr.jD 2 (.int x.1) (.int y.1)).isSome=true;split
 .exact OU ..
 .rfl
def lR (H:Hp) (z:Str×Option Str) (u:V):Prop:=∃b,u= .ref b/\H b=some (.tup [.str z.1,oV z.2])
theorem lR.kt (k:iI H H') (h:lR H z u):lR H' z u:=let⟨b,e,q⟩:=h;⟨b,e,k _ _ q⟩
def T6 (z:Str×Option Str):Prop:=cI z.1=true/\∀y,z.2=some y->cI y=true/\y≠z.1
def fV (ab:Hl):Prop:=∀x y,eJ ab x=some y->y∈ks ab
def BY (ab:Hl) (ns:List Str) (x:Str):Prop:=∃n∈ns,∃k,Rg.jP (eJ ab) k n=some x
noncomputable def CK (a b:Str):Bool:=decide (a.cps.toList<b.cps.toList)
noncomputable def mY:List Str->Bool
 |[]=>true
 |[_]=>true
 |a::b::l=>CK a b && mY (b::l)
def p6 (H:Hp) (v:V) (ab:Hl):Prop:=∃t us,v= .ref t/\H t=some (.tup us)/\Paired (lR H) ab us
theorem p6.kt (k:iI H H') (h:p6 H v ab):p6 H' v ab:=let⟨t,us,e,ht,p⟩:=h;⟨t,us,e,k _ _ ht,L2.Paired.fN p fun _ _ q=>q.kt k⟩
def FA (H:Hp) (v:V) (ab:Hl):Prop:=p6 H v ab/\(∀z∈ab,T6 z)/\mY (ks ab)=true/\∀x,¬Rg.w6 (eJ ab) x
def PJ (ns:List Str) (ab:Hl):Prop:=fV ab/\(∀n∈ns,n∈ks ab)/\∀x∈ks ab,BY ab ns x
def z9 (H:Hp) (ns:List Str) (v:V):Prop:=∃ab,FA H v ab/\PJ ns ab
theorem LS {z z':Str×Option Str} (h:lR H z u) (h':lR H z' u):z=z':=by
 obtain⟨b,rfl,e⟩:=h;obtain⟨b',e',e2⟩:=h';cases e';rw[e]at e2;simp only[Option.some.injEq,HO.tup.injEq,List.cons.injEq,V.str.injEq]at e2;obtain⟨a,o⟩:=z;obtain⟨a',o'⟩:=z';have h1:a=a':=e2.1;have h2:o=o':=JM e2.2.1;rw[h1,h2]
theorem B3:∀{ab ab':Hl} {us:List V},Paired (lR H) ab us->Paired (lR H) ab' us->ab=ab'
 |_,_,_,.nil,.nil=>rfl
 |_,_,_,.cons h r,.cons h' r'=>by rw[LS h h',B3 r r']
theorem p6.inj {ab':Hl} (h:p6 H v ab) (h':p6 H v ab'):ab=ab':=by
 obtain⟨t,us,rfl,e,p⟩:=h;obtain⟨t',us',e1,e2,p'⟩:=h';cases e1;rw[e]at e2;cases e2;exact B3 p p'
theorem N4:CK a a=false:=decide_eq_false (lt_irrefl _)
theorem Q1 {b c:Str} (h:CK a b=true) (g:CK b c=true):CK a c=true:=decide_eq_true (List.lt_trans (of_decide_eq_true h) (of_decide_eq_true g))
theorem GF:∀{a:Str} {l:List Str},mY (a::l)=true->∀x∈l,CK a x=true
 |_,[],_,_,h=>nomatch h
 |a,b::l,h,x,hx=>by
  have h:(CK a b && mY (b::l))=true:=h;rw[and_eq_true]at h;rcases mem_cons.mp hx with e|e
  .rw[e];exact h.1
  .exact Q1 h.1 (GF h.2 x e)
theorem P2 {l:List Str} (h:mY (a::l)=true):mY l=true:=by
 cases l with
 |nil=>rfl
 |cons b l=>
  have h:(CK a b && mY (b::l))=true:=h;rw[and_eq_true]at h;exact h.2
theorem vX:∀{l:List Str},mY l=true->l.Nodup
 |[],_=>nodup_nil
 |a::l,h=>by
  rw[nodup_cons];refine⟨fun ha=>?_,vX (P2 h)⟩;have:=GF h a ha;rw[N4]at this;cases this
theorem pG:∀l:List Str,mY l=(List.range (l.length - 1)).all fun i=>CK ((l[i]?).getD default) ((l[i+1]?).getD default)
 |[]=>rfl
 |[_]=>rfl
 |a::b::l=>by
  show(CK a b && mY (b::l))=_;rw[pG (b::l)];show _=(List.range (l.length+1)).all _;rw[range_succ_eq_map,all_cons,all_map];rfl
theorem wR {up:Str->Option Str} (m n:Nat) (x:Str):Rg.jP up (m+n) x=(Rg.jP up m x).bind (Rg.jP up n):=Rg.oR m n x
theorem nG {up:Str->Option Str} {n:Nat} {y:Str} (h:Rg.jP up n x=some y):Rg.jP up (n+1) x=up y:=by
 rw[wR,h];show(up y).bind (Rg.jP up 0)=_;cases up y<;>rfl
theorem OM {up:Str->Option Str} (h:Rg.w6 up x) (m:Nat):∃y,Rg.jP up m x=some y:=let⟨y,_,e,_⟩:=h.back m;⟨y,e⟩
theorem P5 {up:Str->Option Str} {n:Nat} (h:Rg.jP up n x=some y) (hy:up y=none):¬Rg.w6 up x:=fun c=>by
 obtain⟨z,e⟩:=OM c (n+1);rw[nG h,hy]at e;cases e
theorem CI {ab:Hl} {x:Str} (h:Rg.w6 (eJ ab) x):x∈ks ab:=by
 obtain⟨n,e⟩:=h;cases c:eJ ab x with
 |none=>rw[Rg.jP,c]at e;cases e
 |some y=>exact KR c
structure Cl (ab:Hl) (x:Str) (l:List Str):Prop where
 ne:l≠[]
 at':∀i (h:i<l.length),Rg.jP (eJ ab) i x=some l[i]
theorem Cl.one:Cl ab x [x]:=⟨by simp,fun i h=>by
 have:i=0:=by simpa using h
 subst this;rfl⟩
theorem Cl.last (h:Cl ab x l):Rg.jP (eJ ab) (l.length - 1) x=some (l.getLast h.ne):=by
 rw[List.getLast_eq_getElem];exact h.at' _ (by have:=length_pos_iff.mpr h.ne;omega)
theorem Cl.snoc (h:Cl ab x l) (e:eJ ab (l.getLast h.ne)=some y):Cl ab x (l++[y]):=⟨by simp,fun i hi=>by
 rw[length_append]at hi
 by_cases c:i<l.length
 .rw[List.getElem_append_left c];exact h.at' i c
 .have:i=l.length:=by have:i<l.length+1:=hi;omega
  subst this;rw[List.getElem_append_right (le_refl _)];have hp:=length_pos_iff.mpr h.ne;have h2:=nG h.last;rw[show l.length - 1+1=l.length by omega]at h2;rw[h2,e];simp⟩
theorem Cl.mem {z:Str} (h:Cl ab x l) (hz:z∈l):∃k,Rg.jP (eJ ab) k x=some z:=by
 obtain⟨i,hi,rfl⟩:=List.mem_iff_getElem.mp hz;exact⟨i,h.at' i hi⟩
theorem Cl.keys (hc:fV ab) (h:Cl ab x l) (hx:x∈ks ab):∀z∈l,z∈ks ab:=fun z hz=>by
 obtain⟨k,e⟩:=h.mem hz;exact Rg.m7.walk (T:=fun y=>y∈ks ab) (fun a b _ e=>hc a b e) k hx e
theorem Cl.long (hc:fV ab) (h:Cl ab x l) (hx:x∈ks ab) (hl:ab.length<l.length):∃z,Rg.w6 (eJ ab) z:=by
 apply Classical.byContradiction;intro hno;have nd:l.Nodup:=by
  rw[List.nodup_iff_pairwise_ne,List.pairwise_iff_getElem];intro i j hi hj hij e;refine hno ⟨l[i],j - i - 1,?_⟩;have h1:=h.at' i hi;have h2:=h.at' j hj;have e2:Rg.jP (eJ ab) (i+(j - i - 1+1)) x=some l[j]:=by rw[show i+(j - i - 1+1)=j by omega];exact h2
  rw[wR,h1,<-e]at e2;exact e2
 have:=fU nd (h.keys hc hx);rw[length_map]at this;omega
theorem Cl.all (h:Cl ab x l) (e:eJ ab (l.getLast h.ne)=none) {k:Nat} {z:Str} (hz:Rg.jP (eJ ab) k x=some z):z∈l:=by
 by_cases c:k<l.length
 .rw[h.at' k c]at hz;cases hz;exact getElem_mem c
 .have hp:=length_pos_iff.mpr h.ne;have h2:=nG h.last;rw[show l.length - 1+1=l.length by omega,e]at h2;have e2:k=l.length+(k - l.length):=by omega
  rw[e2,wR,h2]at hz;cases hz
structure D4 (ab M:Hl) (S l:List Str) (st:Str) (o:Option Str):Prop where
 km:ks M=S++l
 path:Rg.Path (eJ ab) l o
 nd:(S++l).Nodup
 old:∀x∈S,eJ M x≠some st
 new:∀x∈l,eJ M x=some st
theorem D4.start {S:List Str} (k:ks M=S) (nd:S.Nodup) (old:∀x∈S,eJ M x≠some st):D4 ab M S [] st (some st):=
 ⟨by rw[append_nil];exact k,trivial,by rw[append_nil];exact nd,old,fun _ h=>nomatch h⟩
theorem D4.step {S:List Str} (c:D4 ab M S l st (some x)) (hx:x∉ks M):D4 ab (gH M x (some st)) S (l++[x]) st (eJ ab x):=by
 have hS:x∉S:=fun h=>hx (by rw[c.km];exact mem_append_left _ h)
 have hl:x∉l:=fun h=>hx (by rw[c.km];exact mem_append_right _ h)
 refine⟨?_,Rg.Path.snoc c.path rfl,?_,fun y hy=>?_,fun y hy=>?_⟩
 .rw[oN,if_neg hx,c.km,List.append_assoc]
 .rw[<-List.append_assoc];refine nodup_append.mpr ⟨c.nd,by simp,fun u hu w hw e=>?_⟩;rw[mem_singleton.mp hw]at e;exact hx (by rw[c.km,<-e];exact hu)
 .rw[qD,if_neg fun e=>hS (by rw[<-e];exact hy)];exact c.old y hy
 .rw[qD];rcases mem_append.mp hy with h|h
  .rw[if_neg fun e=>hl (by rw[<-e];exact h)];exact c.new y h
  .rw[if_pos (mem_singleton.mp h)]
theorem N5 {l:List Str} (h:x∈l):∃p r,l=p++x::r/\x∉p:=by
 induction l with
 |nil=>exact absurd h (by simp)
 | cons y l ih=>
  by_cases e:y=x
  .exact⟨[],l,by rw[e];rfl,by simp⟩
  .obtain⟨p,r,e2,n⟩:=ih ((mem_cons.mp h).resolve_left fun z=>e z.symm);exact⟨y::p,r,by rw[e2];rfl,fun z=>(mem_cons.mp z).elim (fun z=>e z.symm) n⟩
theorem D4.ring {S p r:List Str} (c:D4 ab M S (p++x::r) st (some x)) (f:Rg.Found (eJ ab) S F):Rg.Found (eJ ab) (S++(p++x::r)) (F++[x::r]):=by
 obtain⟨n1,n2,n3⟩:=nodup_append.mp c.nd;exact f.QJ (by simp) c.path n2 fun y hy hs=>n3 y hs y hy rfl
theorem D4.out {S:List Str} (c:D4 ab M S l st o) (f:Rg.Found (eJ ab) S F) (h:∀y,o=some y->y∈S):Rg.Found (eJ ab) (S++l) F:=by
 obtain⟨n1,n2,n3⟩:=nodup_append.mp c.nd;exact f.out c.path (fun y hy hs=>n3 y hs y hy rfl) h
theorem D4.met {S:List Str} (c:D4 ab M S l st o) (hx:x∈ks M):(eJ M x=some st/\x∈l)\/ (eJ M x≠some st/\x∈S):=by
 rw[c.km]at hx;rcases mem_append.mp hx with h|h
 .exact .inr ⟨c.old x h,h⟩
 .exact .inl ⟨c.new x h,h⟩
noncomputable def univ (ab:Hl):List Str:=ks ab++ab.filterMap (·.2)
theorem zK (ab:Hl):(univ ab).length<=2*ab.length:=by
 unfold univ;rw[length_append,length_map];have:=List.length_filterMap_le (fun z:Str×Option Str=>z.2) ab;omega
theorem LK (h:eJ ab x=some y):y∈univ ab:=mem_append_right _ (List.mem_filterMap.mpr ⟨_,sR h,rfl⟩)
theorem GO (h:x∈ks ab):x∈univ ab:=mem_append_left _ h
theorem found_iff {S:List Str} {F:List (List Str)} (f:Rg.Found (eJ ab) S F) (hS:∀x∈ks ab,x∈S):F=[]↔∀x,¬Rg.w6 (eJ ab) x:=by
 constructor
 .intro e x c;have:=f.all x (hS x (CI c)) c;rw[e]at this;exact absurd this (by simp)
 .intro h;cases F with
  |nil=>rfl
  |cons R F=>
   have r:=f.ring R mem_cons_self;cases hR:R with
   |nil=>exact absurd hR r.ne
   |cons x R'=>exact absurd (r.w6 (x:=x) (by rw[hR];exact mem_cons_self)) (h x)
structure p7 (ab:Hl) (ns S:List Str) (o:Option Str):Prop where
 nd:S.Nodup
 key:∀x∈S,x∈ks ab
 OK:∀x∈S,BY ab ns x
 cl:∀x∈S,∀y,eJ ab x=some y->y∈S\/ o=some y
 nx:∀y,o=some y->BY ab ns y
 all:∀n∈ns,n∈S\/ o=some n
theorem BY.up (h:BY ab ns x) (e:eJ ab x=some y):BY ab ns y:=by
 obtain⟨n,hn,k,q⟩:=h;exact⟨n,hn,k+1,by rw[nG q,e]⟩
theorem BY.mono {ms:List Str} (h:BY ab ns x) (s:∀n∈ns,n∈ms):BY ab ms x:=let⟨n,hn,q⟩:=h;⟨n,s n hn,q⟩
theorem p7.nil:p7 ab [] [] none:=⟨nodup_nil,(fun _ h=>nomatch h),(fun _ h=>nomatch h),(fun _ h=>nomatch h),(fun _ h=>nomatch h),(fun _ h=>nomatch h)⟩
theorem p7.more {S:List Str} (h:p7 ab ns S none) (n:Str):p7 ab (ns++[n]) S (some n)where
 nd:=h.nd
 key:=h.key
 OK:=fun x hx=>(h.OK x hx).mono fun m hm=>mem_append_left _ hm
 cl:=fun x hx y e=>.inl ((h.cl x hx y e).elim id fun z=>nomatch z)
 nx:=fun y e=>by cases e;exact⟨n,by simp,0,rfl⟩
 all:=fun m hm=>by
  rcases mem_append.mp hm with h1|h1
  .exact .inl ((h.all m h1).elim id fun z=>nomatch z)
  .rw[mem_singleton.mp h1];exact .inr rfl
theorem p7.step {S:List Str} (h:p7 ab ns S (some x)) (hx:x∉S) (hk:x∈ks ab):p7 ab ns (kJ S x) (eJ ab x)where
 nd:=qN h.nd
 key:=fun y hy=>(eL.mp hy).elim (h.key y) fun e=>by rw[e];exact hk
 OK:=fun y hy=>(eL.mp hy).elim (h.OK y) fun e=>by rw[e];exact h.nx x rfl
 cl:=fun y hy z e=>by
  rcases eL.mp hy with h1|h1
  .rcases h.cl y h1 z e with h2|h2
   .exact .inl (eL.mpr (.inl h2))
   .cases h2;exact .inl (eL.mpr (.inr rfl))
  .rw[h1]at e;exact .inr e
 nx:=fun y e=>(h.nx x rfl).up e
 all:=fun m hm=>.inl (eL.mpr ((h.all m hm).elim .inl fun e=>.inr (by cases e;rfl)))
theorem p7.stop {S:List Str} (h:p7 ab ns S o) (e:∀y,o=some y->y∈S):p7 ab ns S none where
 nd:=h.nd
 key:=h.key
 OK:=h.OK
 cl:=fun x hx y u=>.inl ((h.cl x hx y u).elim id fun z=>e y z)
 nx:=fun _ h=>nomatch h
 all:=fun m hm=>.inl ((h.all m hm).elim id fun z=>e m z)
theorem p7.iff {S:List Str} (h:p7 ab ns S none) (x:Str):x∈S↔BY ab ns x:=by
 refine⟨h.OK x,fun⟨n,hn,k,e⟩=>?_⟩;exact Rg.m7.walk (T:=fun y=>y∈S) (fun a b ha e=>(h.cl a ha b e).elim id fun z=>nomatch z) k ((h.all n hn).elim id fun z=>nomatch z) e
theorem p7.len {S:List Str} (h:p7 ab ns S o):S.length<=ab.length:=by
 have:=fU h.nd h.key;rwa[length_map]at this
theorem yJ {S:List Str} (nd:S.Nodup) (hk:∀x∈S,x∈ks ab) (nk:(ks ab).Nodup) (hS:∀x,x∈S↔BY ab ns x):S.length=ab.length↔∀x∈ks ab,BY ab ns x:=by
 constructor
 .intro e x hx;rw[<-hS];apply Classical.byContradiction;intro hno;have h1:=fU (xs:=x::S) (ys:=ks ab) (nodup_cons.mpr ⟨hno,nd⟩) fun y hy=>(mem_cons.mp hy).elim (fun e=>by rw[e];exact hx) (hk y)
  rw[length_cons,length_map]at h1;omega
 .intro h;have h1:=fU nd hk;have h2:=fU nk fun x hx=>(hS x).mpr (h x hx)
  rw[length_map]at h1 h2;omega
end My
namespace L2
open PySem
section
variable {k:Nat} {cL:List Nat} {g:TG} {tt:TT} {tk te:TE} {σ:St} {H:Hp} {Q:VK} {l:Addr}
def FL (g:TG) (tt:TT) (tk te:TE) (l:Addr) (x:V) (σ:St) (H:Hp) (N:St->Hp->Prop):Prop:=
 g x σ H fun σ4 H4=>tt σ4 H4 fun b H5=>if b=true then tk σ4 H5 fun kv H6=>te σ4 H6 fun y H7=>∃kvs key,dA H7 l kvs/\kv=kV key/\kvs.length<sizeLine/\∀ep,N σ4 (upd H7 l (.dK (putK kvs key y) ep))else N σ4 H5
end
end L2
namespace My
open PySem L2
variable {a b c d f p:Addr} {D:Ends} {M M' ab:Hl} {H H' H1 H2:Hp} {k:Kd} {kv:Key×V} {kvs:List (Key×V)} {F:List (List Str)} {S0 l zs:List Str} {acc us xs:List V} {x:Lt} {ep0 i j m:Nat} {o:Option Str} {K:Frag} {σ:St} {n st y:Str} {z:Str×Option Str} {α β:Type} {u v:V}
section
variable {k:Nat} {cL:List Nat} {g:TG} {tt:TT} {tk te:TE} {σ:St} {H:Hp} {Q:VK} {l:Addr}
theorem CQ (h:z.1∉ks ab):putK (dF ab) (Sum.inr z.1) (oV z.2)=dF (ab++[z]):=by
 rw[iB];unfold gH;rw[if_neg h]
theorem OO {H:Hp} {l:Addr} {o o':HO}:upd (upd H l o) l o'=upd H l o':=by
 funext b
 by_cases e:b=l
 .rw[e,aB,aB]
 .rw[aG e,aG e,aG e]
theorem HV (hS:bU K H a us) (hp:Paired (lR H) ab us) (nd:(ks ab).Nodup) (hlen:ab.length<sizeLine) (hl:H l=none) (Good:St->Prop) (h0:Good (bR k cL σ))
  (ht:∀z u σ H1 kvs (N:St->Hp->Prop),Good σ->lR H1 z u->dA H1 l kvs->kvs.length<sizeLine->(∀σ' ep,Good σ'->N σ' (upd H1 l (.dK (putK kvs (.inr z.1) (oV z.2)) ep)))->FL g tt tk te l u σ H1 N)
  (hd:∀ep,Q (.ref l) (upd H l (.dK (dF ab) ep))):MS (MI K a) g tt tk te l (bR k cL σ) (upd H l (.dK [] 0)) Q:=by
 have hlv:ab.length=us.length:=hp.length;refine⟨fun i m σ' H'=>m=us.length - i/\i<=us.length/\Good σ'/\∃ep,H'=upd H l (.dK (dF (ab.take i)) ep),⟨us.length,by simp,zero_le _,h0,0,rfl⟩,?_⟩;rintro i m σ' H2 ⟨rfl,hi,gd,ep,rfl⟩;have hS2:bU K (upd H l (.dK (dF (ab.take i)) ep)) a us:=hS.DW hl
 by_cases hlt:i<us.length
 .refine .inr ⟨⟨us,us[i],hS2,by simp[hlt]⟩,fun σ' H'=>i+1<=us.length/\Good σ'/\∃ep,H'=upd H l (.dK (dF (ab.take (i+1))) ep),fun σ3 H3 n=>⟨us.length - (i+1),by omega,rfl,n.1,n.2⟩,fun x H3 y=>?_⟩;obtain⟨e1,hx⟩:=y;subst e1;have hx:=hx us hS2;obtain⟨z,hz,r⟩:=L2.Paired.lY hp hx;have s0:aF H (upd H l (.dK (dF (ab.take i)) ep)):=aF.upd hl;have hnew:z.1∉ks (ab.take i):=fun hm=>by
   have e1:ks (ab.take (i+1))=ks (ab.take i)++[z.1]:=by
    rw[take_succ,hz];unfold ks;rw[map_append];rfl
   have:(ks (ab.take (i+1))).Nodup:=by
    unfold ks;rw[List.map_take];exact List.Nodup.sublist (take_sublist ..) nd
   rw[e1]at this;exact(nodup_append.mp this).2.2 z.1 hm z.1 (by simp) rfl
  refine ht z x σ' _ (dF (ab.take i)) _ gd (r.kt s0.kt) ⟨ep,aB⟩ ?_ fun σ3 ep3 g3=>⟨hlt,g3,ep3,?_⟩
  .rw[dR,length_take];omega
  .rw[OO,CQ hnew,take_succ,hz];rfl
 .have e:i=us.length:=by omega
  subst e;refine .inl ⟨⟨us,hS2,le_refl _⟩,?_⟩;rw[<-hlv,take_length];exact hd ep
end
noncomputable def markL:List V->Bool
 |[n,e]=>eY n && (decide (e= .aP)||(eY e && !decide (e=n)))
 |_=>false
theorem qW:∀{xs:List V},xs.length≠2->markL xs=false
 |[],_=>rfl
 |[_],_=>rfl
 |[_,_],h=>absurd rfl h
 |_::_::_::_,_=>rfl
noncomputable def markV (H:Hp) (v:V):Bool:=match i6 H v with
 |some xs=>markL xs
 |none=>false
noncomputable def JT (xs:List V) (i:Nat):Bool:=match xs[i]?,xs[i+1]? with
 |some (.str a),some (.str b)=>decide (a.cps.toList<b.cps.toList)
 |_,_=>false
noncomputable def tF (xs:List V):Bool:=(List.range (xs.length - 1)).all (JT xs)
theorem DJ (l:List Str):tF (l.map V.str)=mY l:=by
 rw[pG];unfold tF;rw[length_map,Bool.eq_iff_iff,all_eq_true,all_eq_true];refine forall_congr' fun i=>?_
 refine imp_congr_right fun hi=>?_
 have hi:=mem_range.mp hi;have e1:l[i]? =some (l[i]'(by omega)):=getElem?_eq_getElem (by omega);have e2:l[i+1]? =some (l[i+1]'(by omega)):=getElem?_eq_getElem (by omega);unfold JT;rw[getElem?_map,getElem?_map,e1,e2];rfl
theorem K2 (t:Tg H u k):markV H u=true↔∃z,lR H z u/\T6 z:=by
 constructor
 .intro h;rcases t.tup with⟨rfl,a,xs,rfl,ha,et⟩|⟨n,et⟩
  .unfold markV at h;rw[et]at h;have h:markL xs=true:=h
   by_cases h2:xs.length=2
   .match xs,h2,h with
    | [n,e],_,h=>
     have h:(eY n && (decide (e= .aP)||(eY e && !decide (e=n))))=true:=h;rw[and_eq_true,or_eq_true,and_eq_true]at h;obtain⟨x,rfl⟩:=iF h.1;rcases h.2 with h3|⟨h3,h4⟩
     .have e0:=of_decide_eq_true h3;subst e0;exact⟨(x,none),⟨a,rfl,ha⟩,h.1,fun y e=>nomatch e⟩
     .obtain⟨y,rfl⟩:=iF h3;refine⟨(x,some y),⟨a,rfl,ha⟩,h.1,fun w e=>?_⟩;cases e;refine⟨h3,fun e=>?_⟩;rw[e,decide_eq_true rfl]at h4;cases h4
   .rw[qW h2]at h;cases h
  .unfold markV at h;rw[et]at h;cases h
 .rintro⟨z,⟨b,rfl,hb⟩,h1,h2⟩;unfold markV;rw[dN hb];show(eY (.str z.1) && (decide (oV z.2= .aP)||(eY (oV z.2) && !decide (oV z.2= .str z.1))))=true;rw[show eY (.str z.1)=true from h1,Bool.true_and];obtain⟨x,o⟩:=z;cases o with
  |none=>rfl
  |some y=>
   obtain⟨h3,h4⟩:=h2 y rfl;show(decide (V.str y= .aP)||(cI y && !decide (V.str y= .str x)))=true;rw[h3,decide_eq_false (fun e=>nomatch e),decide_eq_false (fun e=>h4 (V.str.inj e))];rfl
theorem iD:∀{us:List V},(∀u∈us,∃k,Tg H u k)->(us.all (markV H)=true↔∃ab,Paired (lR H) ab us/\∀z∈ab,T6 z)
 |[],_=>⟨fun _=>⟨[],.nil,fun _ h=>nomatch h⟩,fun _=>rfl⟩
 | u::us,h=>by
  obtain⟨k,t⟩:=h u mem_cons_self;have ih:=iD (us:=us) fun w hw=>h w (mem_cons_of_mem _ hw)
  rw[all_cons,and_eq_true,K2 t,ih];constructor
  .rintro⟨⟨z,hz,nz⟩,ab,hp,na⟩;exact⟨z::ab,.cons hz hp,fun w hw=>(mem_cons.mp hw).elim (fun e=>by rw[e];exact nz) (na w)⟩
  .rintro⟨ab,hp,na⟩;cases hp with
   |cons hz hp=>exact⟨⟨_,hz,na _ mem_cons_self⟩,_,hp,fun w hw=>na w (mem_cons_of_mem _ hw)⟩
theorem rJ (t:Tg H v k) (s:Kp H H'):markV H' v=markV H v:=by unfold markV;rw[t.qV s]
def KJ (H:Hp) (v:V):Prop:=jG 3 H v/\∀xs,i6 H v=some xs->xs.length<=100
theorem KJ.kp (h:KJ H v) (s:Kp H H'):KJ H' v:=by
 refine⟨h.1.kp s,fun xs e=>?_⟩;obtain⟨k,t⟩:=h.1.tg;rw[t.qV s]at e;exact h.2 xs e
noncomputable def BQ (H:Hp) (v:V):V:=match i6 H v with
 |some (x::_)=>x
 |_=>.aP
noncomputable def PF (H:Hp) (v:V):V:=match i6 H v with
 |some [_,y]=>y
 |_=>.aP
theorem IE (h:lR H z u):BQ H u= .str z.1:=by
 obtain⟨b,rfl,e⟩:=h;unfold BQ;rw[dN e]
theorem HL (h:lR H z u):PF H u=oV z.2:=by
 obtain⟨b,rfl,e⟩:=h;unfold PF;rw[dN e]
theorem CP:∀{ab:Hl} {us:List V},Paired (lR H) ab us->us.map (BQ H)=(ks ab).map V.str
 |_,_,.nil=>rfl
 |_,_,.cons h r=>by
  rw[map_cons,IE h,CP r];rfl
theorem C7 {f:V->V} {g:Str×Option Str->V} (hf:∀z u,lR H z u->f u=g z):∀{ab:Hl} {us:List V},Paired (lR H) ab us->us.map f=ab.map g
 |_,_,.nil=>rfl
 |_,_,.cons h r=>by
  rw[map_cons,hf _ _ h,C7 hf r];rfl
theorem take_snoc {l:List α} {x:α} (h:l[i]? =some x):l.take (i+1)=l.take i++[x]:=by
 rw[take_succ,h];rfl
noncomputable def DX (acc:List Lt) (x:Lt):List Lt:=if(acc.any fun y=>decide (y.n=x.n))=true then acc else acc++[x]
noncomputable def bV (xs:List Lt):List Lt:=xs.foldl DX []
theorem zT {xs:List Lt} (h:xs[i]? =some x):bV (xs.take (i+1))=DX (bV (xs.take i)) x:=by
 unfold bV;rw[take_snoc h,List.foldl_append];rfl
theorem kD (xs:List Lt):(bV xs).length<=xs.length:=by
 have key:∀(l:List Lt) (k:List Lt),(l.foldl DX k).length<=k.length+l.length:=by
  intro l
  induction l with
  |nil=>intro k;exact le_refl _
  | cons x l ih=>
   intro k;have h1:=ih (DX k x);have h2:(DX k x).length<=k.length+1:=by
    unfold DX;split
    .omega
    .rw[length_append];exact le_refl _
   rw[List.foldl_cons,length_cons];omega
 have:=key xs [];simpa [bV]using this
def mF (H:Hp) (x:Lt) (kv:Key×V):Prop:=kv.1= .inr x.n/\tJ H kv.2 x
def mD (H:Hp) (v:V) (xs:List Lt):Prop:=∃a us,v= .ref a/\H a=some (.tup us)/\Paired (fun x u=>tJ H u x) xs us/\xs.length<=1000
theorem mF.same (s:aF H H') (h:mF H x kv):mF H' x kv:=⟨h.1,h.2.kp s.kt⟩
theorem mF.any:∀{acc:List Lt} {kvs:List (Key×V)},Paired (mF H) acc kvs->(kvs.any fun kv=>decide (kv.1=Sum.inr n))=acc.any fun y=>decide (y.n=n)
 |_,_,.nil=>rfl
 |_,_,.cons h r=>by
  rw[any_cons,any_cons,mF.any r,h.1];congr 1;exact decide_eq_decide.mpr ⟨fun e=>Sum.inr.inj e,fun e=>congrArg _ e⟩
theorem mF.vals:∀{acc:List Lt} {kvs:List (Key×V)},Paired (mF H) acc kvs->Paired (fun x u=>tJ H u x) acc (kvs.map (·.2))
 |_,_,.nil=>.nil
 |_,_,.cons h r=>.cons h.2 (mF.vals r)
theorem mF.snoc {R:α->β->Prop}:∀{xs:List α} {ys zs:List β} {x:α} {y:β},Paired R xs ys->R x y->zs=ys++[y]->Paired R (xs++[x]) zs
 |_,_,_,_,_,.nil,h,e=>by rw[e];exact .cons h .nil
 |_,_,_,_,_,.cons g r,h,e=>by rw[e];exact .cons g (mF.snoc r h rfl)
def UA (ab:Hl) (H H':Hp) (p f:Addr) (i:Nat):Prop:=aF H H'/\∃(F:List (List Str)) (M:Hl) (us:List V),dA H' p (dF M)/\H' f=some (.lst us)/\us.length=F.length/\F.length<=i/\Rg.Found (eJ ab) (ks M) F/\(ks M).Nodup/\
 (∀x∈(ks ab).take i,x∈ks M)/\(∀x∈ks M,∃s∈(ks ab).take i,eJ M x=some s)/\∀x∈ks M,x∈univ ab
theorem nE {ab:Hl} {i:Nat} (h:(dF ab)[i]? =some kv):∃x,(ks ab)[i]? =some x/\kv.1= .inr x/\kv.2=oV (ab.map (·.2))[i]?.join:=by
 unfold dF at h;rw[getElem?_map]at h;cases e:ab[i]? with
 |none=>rw[e]at h;cases h
 |some z=>
  rw[e]at h;have h:=Option.some.inj h;subst h;exact⟨z.1,by unfold ks;rw[getElem?_map,e];rfl,rfl,by rw[getElem?_map,e];rfl⟩
structure zY (ab M M':Hl) (us:List V) (p f c:Addr) (st:Str) (H H':Hp) (l:List Str) (o:Option Str):Prop where
 s:aF H H'
 dm:dA H' p (dF M')
 hu:H' f=some (.lst us)
 hc:H' c=some (.lst (l.map V.str))
 cl:D4 ab M' (ks M) l st o
 un:∀x∈ks M',x∈univ ab
 ou:∀y,o=some y->y∈univ ab
 S3:o=some st\/ st∈l
 kp:∀x∈ks M,eJ M' x=eJ M x
theorem zY.len (w:zY ab M M' us p f c st H H' l o):(ks M').length<=2*ab.length:=
 le_trans (fU (by rw[w.cl.km];exact w.cl.nd) w.un) (zK ab)
theorem zY.step (w:zY ab M M' us p f c st H H' l (some y)) (hy:y∉ks M') (ep:Nat) (hp:H p=none) (hc0:H c=none) (ncp:c≠p) (ncf:c≠f) (npf:p≠f):
  zY ab M (gH M' y (some st)) us p f c st H (upd (upd H' p (.dK (putK (dF M') (.inr y) (.str st)) ep)) c (.lst (l.map V.str++[.str y]))) (l++[y]) (eJ ab y)where
 s:=fun b o h=>by
  rw[aG (aJ h hc0),aG (aJ h hp)];exact w.s b o h
 dm:=⟨ep,by rw[aG ncp.symm,aB];exact congrArg (fun z=>some (HO.dK z ep)) (iB M' y (some st))⟩
 hu:=by rw[aG ncf.symm,aG npf.symm];exact w.hu
 hc:=by rw[aB,map_append];rfl
 cl:=w.cl.step hy
 un:=fun x hx=>(dZ.mp hx).elim (w.un x) fun e=>by rw[e];exact w.ou y rfl
 ou:=fun z e=>LK e
 S3:=.inr (w.S3.elim (fun e=>by cases e;simp) fun h=>mem_append_left _ h)
 kp:=fun x hx=>by
  rw[qD,if_neg fun e=>hy (by rw[w.cl.km,<-e];exact mem_append_left _ hx)];exact w.kp x hx
theorem zY.end (w:zY ab M M' us p f c st H H' l o) (fd:Rg.Found (eJ ab) (ks M) F) (ho:∀y,o=some y->y∈ks M) (hst0:(ks ab)[i]? =some st) (hul:us.length=F.length) (hFi:F.length<=i)
  (hst:∀x∈(ks ab).take i,x∈ks M) (hval:∀x∈ks M',∃s∈(ks ab).take (i+1),eJ M' x=some s):UA ab H H' p f (i+1):=by
 have k:=w.cl.km;refine⟨w.s,F,M',us,w.dm,w.hu,hul,by omega,by rw[k];exact w.cl.out fd ho,by rw[k];exact w.cl.nd,fun x hx=>?_,hval,w.un⟩;rw[take_succ,hst0]at hx;rcases mem_append.mp hx with h|h
 .rw[k];exact mem_append_left _ (hst x h)
 .have e:x=st:=by simpa using h
  subst e;rw[k];rcases w.S3 with h|h
  .exact mem_append_left _ (ho _ h)
  .exact mem_append_right _ h
theorem zY.ring (w:zY ab M M' us p f c st H H' l (some y)) (fd:Rg.Found (eJ ab) (ks M) F) (hy:y∈l) (hst0:(ks ab)[i]? =some st) (hul:us.length=F.length) (hFi:F.length<=i)
  (hst:∀x∈(ks ab).take i,x∈ks M) (hval:∀x∈ks M',∃s∈(ks ab).take (i+1),eJ M' x=some s) {r:Addr} {zs:List V} (hr:H' r=none) (hf0:H f=none) (npf:p≠f):UA ab H (upd (upd H' r (.lst zs)) f (.lst (us++[.ref r]))) p f (i+1):=by
 obtain⟨pp,rr,e,_⟩:=N5 hy;subst e;have k:=w.cl.km;obtain⟨ep,em⟩:=w.dm;refine⟨fun b o h=>?_,F++[y::rr],M',us++[.ref r],⟨ep,?_⟩,aB,by simp[hul],by rw[length_append];show F.length+1<=_;omega,by rw[k];exact w.cl.ring fd,by rw[k];exact w.cl.nd,fun x hx=>?_,hval,w.un⟩
 .rw[aG (aJ h hf0),aG (aJ (w.s b o h) hr)];exact w.s b o h
 .rw[aG npf,aG (aJ em hr)];exact em
 .rw[take_succ,hst0]at hx;rcases mem_append.mp hx with h|h
  .rw[k];exact mem_append_left _ (hst x h)
  .have e:x=st:=by simpa using h
   subst e;rw[k];rcases w.S3 with h|h
   .cases h;exact mem_append_right _ hy
   .exact mem_append_right _ h
theorem zY.val {T:List Str} (w:zY ab M M' us p f c st H H' l o) (hval:∀x∈ks M,∃s∈T,eJ M x=some s):∀x∈ks M',∃s∈T++[st],eJ M' x=some s:=fun x hx=>by
 rw[w.cl.km]at hx;rcases mem_append.mp hx with h|h
 .obtain⟨s,hs,e⟩:=hval x h;exact⟨s,mem_append_left _ hs,by rw[w.kp x h];exact e⟩
 .exact⟨st,by simp,w.cl.new x h⟩
noncomputable def JX (x:Lt) (i:Nat):Str:=(x.row[i]?).getD (Str.ofString "")
noncomputable def keepR (x:Lt) (i:Nat):Bool:=!decide (JX x i=x.n) && !((x.row.drop (i+1)).contains (JX x i))
noncomputable def aW (x:Lt):List Str:=((List.range x.row.length).filter (keepR x)).map (JX x)
def UM (ab:Hl) (p f:Addr) (H H':Hp) (r:List Str) (u:V):Prop:=∃b,u= .ref b/\b≠p/\b≠f/\H b=none/\H' b=some (.lst (r.map V.str))/\r≠[]/\r.length<=9/\∀x∈r,x∈ks ab
def UL (ab:Hl) (H H':Hp) (p f:Addr) (i:Nat):Prop:=aF H H'/\∃(S:List Str) (rs:List (List Str)) (us:List V),dA H' p (iU S)/\S.Nodup/\(∀x∈S,x∈ks ab)/\H' f=some (.lst us)/\Paired (UM ab p f H H') rs us/\rs.length<=i
structure J3 (ab:Hl) (S0:List Str) (p c:Addr) (H H1 H':Hp) (S l:List Str) (o:Option Str):Prop where
 s:aF H H'
 b:∀b o,H1 b=some o->b≠p->b≠c->H' b=some o
 dm:dA H' p (iU S)
 hc:H' c=some (.lst (l.map V.str))
 nd:S.Nodup
 sub:∀x∈S,x∈ks ab
 ls:∀x∈l,x∈S
 ll:l.length<=S.length
 ou:∀y,o=some y->y∈ks ab
theorem J3.len {S:List Str} (w:J3 ab S0 p c H H1 H' S l o):S.length<=ab.length:=by
 have:=fU w.nd w.sub;rwa[length_map]at this
theorem J3.step {S:List Str} (w:J3 ab S0 p c H H1 H' S l (some y)) (hcl:fV ab) (hy:y∉S) (ep:Nat) (hp:H p=none) (hc0:H c=none) (ncp:c≠p):
  J3 ab S0 p c H H1 (upd (upd H' p (.dK (putK (iU S) (.inr y) (.bl true)) ep)) c (.lst (l.map V.str++[.str y]))) (kJ S y) (l++[y]) (eJ ab y)where
 s:=fun b o h=>by
  rw[aG (aJ h hc0),aG (aJ h hp)];exact w.s b o h
 b:=fun b o h n1 n2=>by rw[aG n2,aG n1];exact w.b b o h n1 n2
 dm:=⟨ep,by rw[aG ncp.symm,aB,nQ]⟩
 hc:=by rw[aB,map_append];rfl
 nd:=qN w.nd
 sub:=fun x hx=>(eL.mp hx).elim (w.sub x) fun e=>by rw[e];exact w.ou y rfl
 ls:=fun x hx=>(mem_append.mp hx).elim (fun h=>eL.mpr (.inl (w.ls x h))) fun h=>eL.mpr (.inr (mem_singleton.mp h))
 ll:=by
  rw[n4 hy,length_append];have:=w.ll;show l.length+1<=_;omega
 ou:=fun z e=>hcl y z e
theorem LU {l:List Str}:FG .aP (l.map V.str)=false:=by
 unfold FG;rw[List.any_map]
 induction l with
 |nil=>rfl
 |cons a l ih=>rw[any_cons,ih];rfl
theorem vF {i:Nat}:hJ xs (some (i:Int)) none=xs.drop i:=by
 cases i with
 |zero=>
  unfold hJ;rw[HT.qS];show(xs.take xs.length).drop (HT.fL xs.length 0 (some 0))=_;rw[take_length];unfold HT.fL;simp
 |succ i=>exact sQ
theorem FW (h:y∈l):l.drop (l.idxOf y)≠[]/\(∀x∈l.drop (l.idxOf y),x∈l)/\(l.drop (l.idxOf y)).length<=l.length:=by
 have h1:l.idxOf y<l.length:=List.idxOf_lt_length_of_mem h;refine⟨fun e=>?_,fun x hx=>List.mem_of_mem_drop hx,by rw[length_drop];omega⟩;have:=congrArg List.length e;rw[length_drop]at this;have:l.length - l.idxOf y=0:=this;omega
noncomputable def JV (z:Int×Int×Str):Mr.PV:=.tup [.int z.1,.int z.2.1,.str z.2.2]
theorem NV (a a':Int) (b b':Str):(Mr.fI (Mr.jD 2) [.int a,.str b] [.int a',.str b']).isSome=true:=by
 show(if Mr.eB (.int a) (.int a')=true then Mr.fI (Mr.jD 2) [.str b] [.str b']else Mr.jD 2 (.int a) (.int a')).isSome=true;split
 .show(if Mr.eB (.str b) (.str b')=true then Mr.fI (Mr.jD 2) [] []else Mr.jD 2 (.str b) (.str b')).isSome=true;split<;>rfl
 .rfl
theorem NQ (zs:List (Int×Int×Str)):Mr.fZ 3 (zs.map JV)=true:=by
 unfold Mr.fZ;rw[all_eq_true];intro p hp;obtain⟨x,hx,rfl⟩:=mem_map.mp hp;rw[and_eq_true,all_eq_true];refine⟨rfl,fun q hq=>?_⟩;obtain⟨y,hy,rfl⟩:=mem_map.mp hq;show(if Mr.eB (.int x.1) (.int y.1)=true then Mr.fI (Mr.jD 2) [.int x.2.1,.str x.2.2] [.int y.2.1,.str y.2.2]else Mr.jD 2 (.int x.1) (.int y.1)).isSome=true;split
 .exact NV ..
 .rfl
theorem RO {z:Int×Int×Str} (h:Tr H (JV z) u):∃b,u= .ref b/\H b=some (.tup [.int z.1,.int z.2.1,.str z.2.2]):=by
 obtain⟨b,us,rfl,hb,hl⟩:=h.JI;cases hl with
 | cons h1 hl=>cases hl with
  | cons h2 hl=>cases hl with
   |cons h3 hl=>
    cases hl;cases h1;cases h2;cases h3
    exact⟨b,rfl,hb⟩
theorem o6 {P:α->Mr.PV}:∀{xs:List α} {ys:List V},Paired (fun x u=>Tr H (P x) u) xs ys->lT H (xs.map P) ys
 |_,_,.nil=>.nil
 |_,_,.cons h r=>.cons h (o6 r)
theorem HB:∀{ab:Hl} {us:List V},lT H (ab.map JU) us->Paired (lR H) ab us
 |[],_,.nil=>.nil
 |_::_,_,.cons h r=>.cons (O3 h) (HB r)
theorem GC:∀{rs:List Str} {ys:List V},Paired (fun n v=>∃a b,Tr H (JV (a,b,n)) v) rs ys->∃zs:List (Int×Int×Str),Paired (fun z u=>Tr H (JV z) u) zs ys/\zs.map (·.2.2)=rs
 |_,_,.nil=>⟨[],.nil,rfl⟩
 |n::_,_,.cons ⟨a,b,h⟩ r=>let⟨zs,p,e⟩:=GC r;⟨(a,b,n)::zs,.cons h p,by rw[map_cons,e]⟩
theorem uN:∀(ys:List Str) (j:Nat),(ys.map V.str).eraseIdx j=(ys.eraseIdx j).map V.str
 |[],_=>rfl
 |_::_,0=>rfl
 |y::ys,j+1=>congrArg (V.str y::·) (uN ys j)
theorem CT {n:Nat} (h:j<n):seqIndex? (j:Int) n=some j:=by
 unfold seqIndex?;simp only[show¬(j:Int)<0 by omega,if_false];rw[if_pos (by simp;omega)];simp
theorem mF.val {n:Str}:∀{xs:List Lt} {kvs:List (Key×V)},Paired (mF H) xs kvs->(dX kvs (.inr n)=none/\∀x∈xs,x.n≠n)\/ ∃x∈xs,x.n=n/\∃u,dX kvs (.inr n)=some u/\tJ H u x
 |_,_,.nil=>.inl ⟨rfl,fun _ h=>nomatch h⟩
 | x::xs,kv::kvs,.cons h r=>by
  obtain⟨k,v⟩:=kv;have h1:k=Sum.inr x.n:=h.1
  by_cases e:x.n=n
  .exact .inr ⟨x,mem_cons_self,e,v,dC (show(k,v).1=_ by rw[h1,e]),h.2⟩
  .rcases mF.val (n:=n) r with⟨a,b⟩|⟨y,hy,ey,u,hu,hl⟩
   .refine .inl ⟨?_,fun y hy=>(mem_cons.mp hy).elim (fun z=>by rw[z];exact e) (b y)⟩;rw[cN (show¬(k,v).1=Sum.inr n from fun z=>e (Sum.inr.inj (h1.symm.trans z)))];exact a
   .refine .inr ⟨y,mem_cons_of_mem _ hy,ey,u,?_,hl⟩;rw[cN (show¬(k,v).1=Sum.inr n from fun z=>e (Sum.inr.inj (h1.symm.trans z)))];exact hu
noncomputable def MW (ab:Hl):V->Bool
 | .aP=>true
 | .str y=>decide (y∈ks ab)
 |_=>false
noncomputable def TB (ab:Hl):V->Bool
 | .str y=>decide (y∈ks ab)
 |_=>false
noncomputable def P8 (ab:Hl):Bool:=ab.all fun z=>MW ab (oV z.2)
theorem qJ (nd:(ks ab).Nodup):P8 ab=true↔fV ab:=by
 unfold P8;rw[all_eq_true];constructor
 .intro h x y e;have:=h _ (sR e);exact of_decide_eq_true (show decide (y∈ks ab)=true from this)
 .intro h z hz;obtain⟨x,o⟩:=z;cases o with
  |none=>rfl
  |some y=>exact decide_eq_true (h x y (PC nd hz))
theorem JR (h:tJ H u x):BQ H u= .str x.n:=by
 obtain⟨a,r,rfl,ha,_⟩:=h.at';unfold BQ;rw[dN ha]
theorem CU {f:V->V} {g:Lt->V} (hf:∀x u,tJ H u x->f u=g x):∀{xs:List Lt} {us:List V},Paired (fun x u=>tJ H u x) xs us->us.map f=xs.map g
 |_,_,.nil=>rfl
 |_,_,.cons h r=>by
  rw[map_cons,hf _ _ h,CU hf r];rfl
theorem mD.kt (k:iI H H') {xs:List Lt} (h:mD H v xs):mD H' v xs:=let⟨a,us,e,ha,hp,hl⟩:=h;⟨a,us,e,k _ _ ha,L2.Paired.fN hp fun _ _ q=>q.kp k,hl⟩
theorem FX {k:Key} (h:kv∈putK kvs k v):kv∈kvs\/ kv=(k,v):=by
 unfold putK at h;split at h
 .obtain⟨x,hx,e⟩:=mem_map.mp h
  by_cases c:x.1=k
  .rw[if_pos c]at e;exact .inr (by rw[<-e,<-c])
  .rw[if_neg c]at e;exact .inl (by rw[<-e];exact hx)
 .rcases mem_append.mp h with h|h
  .exact .inl h
  .exact .inr (mem_singleton.mp h)
theorem EW (kvs:List (Key×V)) (k:Key) (v:V):(putK kvs k v).map (·.1)=if kvs.any (fun kv=>decide (kv.1=k))=true then kvs.map (·.1)else kvs.map (·.1)++[k]:=by
 unfold putK;split
 .rw[map_map];refine map_congr_left fun x _=>?_
  show(if x.1=k then(x.1,v)else x).1=x.1;split<;>rfl
 .rw[map_append];rfl
theorem LV {k:Key} (nd:(kvs.map (·.1)).Nodup):((putK kvs k v).map (·.1)).Nodup:=by
 rw[EW];split
 .exact nd
 .rename_i h;refine nodup_append.mpr ⟨nd,by simp,fun x hx y hy e=>?_⟩;rw[mem_singleton.mp hy]at e;obtain⟨kv,hkv,rfl⟩:=mem_map.mp hx;exact h (List.any_eq_true.mpr ⟨kv,hkv,decide_eq_true e⟩)
theorem w8 {xs:List α} {x:α}:uR (xs++[x]) (-1)=some x:=by
 unfold uR JZ;have e:(xs++[x]).length=xs.length+1:=by rw[length_append];rfl
 rw[e,if_neg (by decide),if_pos (by omega),show(-1+((xs.length+1:Nat):Int))=(xs.length:Int) by omega];simp
theorem IL {l:List Str}:∃o,uR (V.aP::l.map V.str) (-1)=some (oV o)/\∀y,o=some y->y∈l:=by
 rcases List.eq_nil_or_concat l with h|⟨l',y,h⟩
 .subst h;exact⟨none,w8 (xs:=[]),fun _ h=>nomatch h⟩
 .rw[List.concat_eq_append]at h;subst h;refine⟨some y,?_,fun z e=>by cases e;simp⟩;rw[map_append];exact w8 (xs:=V.aP::l'.map V.str)
def UW (zs:List Str) (ab:Hl) (H:Hp) (kv:Key×V):Prop:=∃n z,kv.1= .inr n/\n∈zs/\Tr H (E3 z) kv.2/\z.2.2∈ks ab
structure qC (H H':Hp) (zs:List Str) (p lu:Addr) (kT:List (Key×V)) (ab:Hl):Prop where
 s:aF H H'
 t:dA H' p kT
 u:dA H' lu (dF ab)
 up:E7 zs ab
 nd:(kT.map (·.1)).Nodup
 td:∀kv∈kT,UW zs ab H' kv
section
variable {H H':Hp} {zs:List Str} {p lu:Addr} {kT:List (Key×V)} {ab:Hl}
theorem qC.len (i:qC H H' zs p lu kT ab):kT.length<=zs.length:=by
 have h1:=fU (xs:=kT.map (·.1)) (ys:=zs.map Sum.inr) i.nd fun k hk=>by
  obtain⟨kv,hkv,rfl⟩:=mem_map.mp hk;obtain⟨n,z,e,hn,_⟩:=i.td kv hkv;rw[e];exact mem_map.mpr ⟨n,hn,rfl⟩
 rwa[length_map,length_map]at h1
theorem qC.same (i:qC H H' zs p lu kT ab) (s3:aF H' H2):qC H H2 zs p lu kT ab:=⟨i.s.trans s3,gM i.t s3,gM i.u s3,i.up,i.nd,fun kv hkv=>let⟨n,z,e,hn,t,h⟩:=i.td kv hkv;⟨n,z,e,hn,t.kp s3.kt,h⟩⟩
theorem qC.new (i:qC H H' zs p lu kT ab) {o:HO} (hb:H' b=none):qC H (upd H' b o) zs p lu kT ab:=
 ⟨i.s.trans (aF.upd hb),gM i.t (aF.upd hb),gM i.u (aF.upd hb),i.up,i.nd,fun kv hkv=>let⟨n,z,e,hn,t,h⟩:=i.td kv hkv;⟨n,z,e,hn,t.kp (aF.upd hb).kt,h⟩⟩
theorem qC.N7 (i:qC H H' zs p lu kT ab) (hlu:H lu=none) (npl:p≠lu) {x:Str} (hx:x∈zs) (ho:∀y,o=some y->y∈ks ab\/ y=x) (ep:Nat):qC H (upd H' lu (.dK (dF (gH ab x o)) ep)) zs p lu kT (gH ab x o)where
 s:=fun b z h=>by rw[aG (aJ h hlu)];exact i.s b z h
 t:=let⟨e,h⟩:=i.t;⟨e,by rw[aG npl];exact h⟩
 u:=⟨ep,aB⟩
 up:=i.up.put hx ho
 nd:=i.nd
 td:=fun kv hkv=>let⟨n,z,e,hn,t,h⟩:=i.td kv hkv;⟨n,z,e,hn,t.kp (iI.dk i.u),dZ.mpr (.inl h)⟩
theorem qC.TV (i:qC H H' zs p lu kT ab) (hp:H p=none) (npl:p≠lu) {z:Int×Str×Str} (hn:n∈zs) (hv:Tr H' (E3 z) v) (hz:z.2.2∈ks ab) (ep:Nat):qC H (upd H' p (.dK (putK kT (.inr n) v) ep)) zs p lu (putK kT (.inr n) v) ab where
 s:=fun b z h=>by rw[aG (aJ h hp)];exact i.s b z h
 t:=⟨ep,aB⟩
 u:=let⟨e,h⟩:=i.u;⟨e,by rw[aG npl.symm];exact h⟩
 up:=i.up
 nd:=LV i.nd
 td:=fun kv hkv=>by
  rcases FX hkv with h|h
  .obtain⟨m,z',e,hm,t,h'⟩:=i.td kv h;exact⟨m,z',e,hm,t.kp (iI.dk i.t),h'⟩
  .rw[h];exact⟨n,z,rfl,hn,hv.kp (iI.dk i.t),hz⟩
theorem qC.get (i:qC H H' zs p lu kT ab) (h:dX kT (.inr n)=some v):∃z,Tr H' (E3 z) v/\z.2.2∈ks ab:=by
 have key:∀{l:List (Key×V)},(∀kv∈l,UW zs ab H' kv)->dX l (.inr n)=some v->∃z,Tr H' (E3 z) v/\z.2.2∈ks ab:=by
  intro l
  induction l with
  |nil=>intro _ h;cases h
  | cons kv l ih=>
   intro hl h
   by_cases e:kv.1=Sum.inr n
   .rw[dC e]at h;cases h;obtain⟨_,z,_,_,t,hz⟩:=hl _ mem_cons_self;exact⟨z,t,hz⟩
   .rw[cN e]at h;exact ih (fun kv hkv=>hl kv (mem_cons_of_mem _ hkv)) h
 exact key i.td h
end
theorem QI {z:Int×Str×Str} (h:Tr H (E3 z) u):∃b,u= .ref b/\H b=some (.tup [.int z.1,.str z.2.1,.str z.2.2]):=by
 obtain⟨b,us,rfl,hb,hl⟩:=h.JI;cases hl with
 | cons h1 hl=>cases hl with
  | cons h2 hl=>cases hl with
   |cons h3 hl=>
    cases hl;cases h1;cases h2;cases h3
    exact⟨b,rfl,hb⟩
theorem BN {e:Str} (h:e∈aW x):e∈x.row:=by
 unfold aW at h;obtain⟨i,hi,rfl⟩:=mem_map.mp h;have hi:=mem_range.mp (mem_filter.mp hi).1;unfold JX;rw[getElem?_eq_getElem hi];exact getElem_mem hi
theorem BH (x:Lt):(aW x).length<=x.row.length:=by
 unfold aW;rw[length_map];have:=length_filter_le (keepR x) (List.range x.row.length);rwa[length_range]at this
def tI (zs:List Str) (H:Hp) (x:Lt) (kv:NE):Prop:=tJ H (.ref kv.2.1) x/\rO x.P= .t kv.1/\x.n∈zs/\∀r∈x.row,r∈zs
theorem tI.kt (k:iI H H') {kv:NE} (h:tI zs H x kv):tI zs H' x kv:=⟨h.1.kp k,h.2⟩
theorem pL:∀row:List Str,lG (row.map Mr.PV.str)=true
 |[]=>by simp[lG]
 |x::xs=>by simp[lG,keyed,pL xs]
theorem zB (x:Lt):keyed x.P=true:=by
 unfold Lt.P;simp[keyed,lG,pL]
theorem zD:∀row:List Str,p8 (nK (row.map Mr.PV.str))=0
 |[]=>by simp[nK,p8]
 |x::xs=>by simp[nK,rO,p8,uI,zD xs]
theorem JN (x:Lt):∃ks,rO x.P= .t ks/\p8 ks<=4:=by
 refine⟨_,by unfold Lt.P;simp only[rO];rfl,?_⟩;simp[nK,rO,p8,uI,zD]
theorem tI.ks:∀{xs:List Lt} {kvs:List NE},Paired (tI zs H) xs kvs->KL H kvs
 |_,_,.nil=>fun _ h=>nomatch h
 | x::_,kv::_,.cons h r=>fun k hk=>by
  rcases mem_cons.mp hk with e|hk
  .subst e;obtain⟨h1,h2,_⟩:=h;obtain⟨ks,e1,e2⟩:=JN x;rw[e1]at h2;have h2:ks=k.1:=NK.t.inj h2;subst h2;refine⟨?_,e2⟩;have:=h1.tr.nk (zB x);rwa[e1]at this
  .exact tI.ks r k hk
theorem tI.UN:∀{xs:List Lt} {kvs:List NE},Paired (tI zs H) xs kvs->lT H (xs.map Lt.P) (kvs.map fun kv=>V.ref kv.2.1)
 |_,_,.nil=>.nil
 |_,_,.cons h r=>.cons h.1.tr (tI.UN r)
theorem sE {R:α->β->Prop} {f:β->β} (hf:∀a b,R a b->R a (f b)):∀{xs:List α} {ys:List β},Paired R xs ys->Paired R xs (ys.map f)
 |_,_,.nil=>.nil
 |_,_,.cons h r=>.cons (hf _ _ h) (sE hf r)
theorem tI.put {xs:List Lt} {kvs:List NE} (p:Paired (tI zs H) xs kvs) {ks:List NK} (h:tI zs H x (ks,b,.bl true)):∃xs',Paired (tI zs H) xs' (putN kvs ks b (.bl true))/\xs'.length<=xs.length+1:=by
 unfold putN;split
 .refine⟨xs,sE (fun a kv r=>?_) p,le_succ _⟩;split
  .exact r
  .exact r
 .exact⟨xs++[x],mF.snoc p h rfl,by rw[length_append];exact le_refl _⟩
theorem GP:∀{xs:List Lt} {kvs:List NE},Paired (tI zs H) xs kvs->∀x∈xs,x.Ok/\x.n∈zs/\∀r∈x.row,r∈zs
 |_,_,.nil,_,h=>nomatch h
 |_,_,.cons h r,x,hx=>by
  rcases mem_cons.mp hx with e|hx
  .rw[e];exact⟨h.1.ok,h.2.2⟩
  .exact GP r x hx
theorem IU:∀{xs:List Lt} {vs:List V},lT H (xs.map Lt.P) vs->(∀x∈xs,x.Ok)->Paired (fun x u=>tJ H u x) xs vs
 |[],_,.nil,_=>.nil
 |_::_,_,.cons h r,k=>.cons ⟨h,k _ mem_cons_self⟩ (IU r fun x hx=>k x (mem_cons_of_mem _ hx))
def iV:V->Prop
 | .str z=>z.length<=1000000
 | .aP=>True
 | .bl _=>True
 | .int _=>True
 |_=>False
theorem pC:∀{v:V},iV v->Any H v
 | .str _,h=>wQ h
 | .aP,_=>MF
 | .bl _,_=>P7
 | .int _,_=>J9
def KC (acc:List V):List V->Prop
 |[]=>True
 |v::vs=>(v∈acc\/ iV v)/\KC acc vs
theorem KC.all (A:∀v∈acc,Any H v):∀{xs:List V},KC acc xs->∀v∈xs,Any H v
 |[],_,_,h=>nomatch h
 |x::xs,h,v,hv=>by
  rcases mem_cons.mp hv with e|hv
  .rw[e];exact h.1.elim (A x) pC
  .exact KC.all A h.2 v hv
theorem gA (A:∀v∈acc,Any H v) (h:H a=none) (hx:KC acc xs) (hl:xs.length<=30000):∀v∈V.ref a::acc,Any (upd H a (.tup xs)) v:=fun v hv=>by
 have k:=Kp.of (aF.upd (o:=.tup xs) h);rcases mem_cons.mp hv with e|hv
 .rw[e];exact lW aB hl fun x hx'=>(hx.all A x hx').kp k
 .exact(A v hv).kp k
theorem w4 (A:∀v∈acc,Any H v) (h:H a=none):∀v∈V.ref a::acc,Any (upd H a (.lst xs)) v:=fun v hv=>by
 have k:=Kp.of (aF.upd (o:=.lst xs) h);rcases mem_cons.mp hv with e|hv
 .rw[e];exact ME aB
 .exact(A v hv).kp k
theorem xP {c:TT} {a b:TS} (A B:Hp->Prop) (h:∀Q':Bool->Hp->Prop,(∀H',A H'->Q' true H')->(∀H',B H'->Q' false H')->c σ H Q') (ha:∀H',A H'->a D σ H') (hb:∀H',B H'->b D σ H'):zL c a b D σ H:=
 h _ (fun H' x=>o4 (ha H' x)) (fun H' x=>kL (hb H' x))
theorem oP {t u:TS} (N:St->Hp->Prop) (h:∀n:St->Hp->Prop,(∀σ' H',N σ' H'->n σ' H')->t {D with nx:=n} σ H) (hu:∀σ' H',N σ' H'->u D σ' H'):p9 t u D σ H:=h (u D) hu
theorem oX {n:Nat} {y:V} (h:u∈fQ xs n y):u∈xs\/ u=y:=by
 unfold fQ at h;rcases mem_append.mp h with h|h
 .exact .inl (List.mem_of_mem_take h)
 .rcases mem_cons.mp h with h|h
  .exact .inr h
  .exact .inl (List.mem_of_mem_drop h)
theorem uL {n:Nat} {y:V}:(fQ xs n y).length=xs.length+1:=by
 unfold fQ;rw[length_append,length_cons,length_take,length_drop];omega
theorem TN {a:Int} (h:FG (.int a) [.int 0,.int 3]=true):a=0\/ a=3:=by
 unfold FG at h;simp only[any_cons,List.any_nil,Bool.or_false,or_eq_true]at h;rcases h with h|h
 .exact .inl (eq_of_beq (show((0:Int)==a)=true from h)).symm
 .exact .inr (eq_of_beq (show((3:Int)==a)=true from h)).symm
def UG (z:Str×Option Str):Prop:=z.1.length<=100/\∀y,z.2=some y->y.length<=100
theorem FH {o:Option Str} (h:∀y,o=some y->y.length<=100):iV (oV o):=by
 cases o with
 |none=>trivial
 |some y=>have:=h y rfl;show y.length<=1000000;omega
theorem GL (h:lR H z u) (k:UG z):Any H u:=by
 obtain⟨b,rfl,e⟩:=h;refine lW e (by simp) fun x hx=>?_
 simp only[mem_cons,mem_nil_iff,or_false]at hx;rcases hx with rfl|rfl
 .exact wQ (by have:=k.1;omega)
 .exact pC (FH k.2)
def yU (H:Hp) (u:V):Prop:=∃(a:Addr) (z:Str) (r:List V),u= .ref a/\H a=some (.tup (.str z::r))
theorem yU.kt (k:iI H H') (h:yU H u):yU H' u:=let⟨a,z,r,e,q⟩:=h;⟨a,z,r,e,k _ _ q⟩
theorem OL (h:lR H z u):yU H u:=let⟨b,e,q⟩:=h;⟨b,z.1,_,e,q⟩
theorem zJ:∀{xs:List V},(∀u∈xs,yU H u)->∃ks:List Str,ks.length=xs.length/\∀(i:Nat) (v:V) (k:Str),xs[i]? =some v->ks[i]? =some k->∃a r,v= .ref a/\H a=some (.tup (.str k::r))
 |[],_=>⟨[],rfl,fun i v k h=>by simp at h⟩
 | x::xs,h=>by
  obtain⟨a,z,r,e,q⟩:=h x mem_cons_self;obtain⟨ks,hl,hk⟩:=zJ (xs:=xs) fun u hu=>h u (mem_cons_of_mem _ hu)
  refine⟨z::ks,by rw[length_cons,length_cons,hl],fun i v k h1 h2=>?_⟩;cases i with
  |zero=>
   simp at h1 h2;subst h1 h2;exact⟨a,r,e,q⟩
  |succ i=>exact hk i v k (by simpa using h1) (by simpa using h2)
theorem qH {P:V->Prop} {ok:Str×Option Str->Prop} (h:∀z u,lR H z u->ok z->P u):∀{ab:Hl} {us:List V},Paired (lR H) ab us->(∀z∈ab,ok z)->∀u∈us,P u
 |_,_,.nil,_,_,hu=>nomatch hu
 |_,_,.cons r rr,k,u,hu=>by
  rcases mem_cons.mp hu with e|hu
  .rw[e];exact h _ _ r (k _ mem_cons_self)
  .exact qH h rr (fun z hz=>k z (mem_cons_of_mem _ hz)) u hu
theorem yR {lo hi:Option Int} {y:V} (h:y∈hJ xs lo hi):y∈xs:=List.mem_of_mem_drop (List.mem_of_mem_take h)
theorem nY {n:Nat} (h:j<n):JZ n (j:Int)=some j:=by
 unfold JZ;rw[if_pos (by omega),if_pos (by omega)];simp
theorem CL (h:j<xs.length):(hJ xs (some (j:Int)) none).length+(hJ xs none (some (j:Int))).length<=xs.length:=by
 rw[vF,length_drop];have:(hJ xs none (some (j:Int))).length<=j:=by
  unfold hJ;rw[length_take,HT.qS,HT.CZ];omega
 omega
section
variable {k:Nat} {cL:List Nat} {g:TG} {tt:TT} {te:TE} {σ:St} {H:Hp} {Q:VK} {l:Addr}
theorem E4 {ep:Nat} (hS:Rd H a (.dK kvs ep)) (f:V->V) (Good:St->Prop) (h0:Good (bR k cL σ)) (hl:H l=none) (hlen:kvs.length<sizeLine)
  (ht:∀kv σ H1 ys (N:St->Hp->Prop),kv∈kvs->Good σ->aF H H1->H1 l=some (.lst ys)->ys.length<sizeLine->
   (∀σ' H2,Good σ'->aF H1 H2->N σ' (upd H2 l (.lst (ys++[f kv.2]))))->bK g tt te l kv.2 σ H1 N)
  (hd:∀H',aF H H'->H' l=some (.lst (kvs.map fun kv=>f kv.2))->Q (.ref l) H'):iN (RF a kvs ep) g tt te l (bR k cL σ) (upd H l (.lst [])) Q:=by
 have rd:∀H',aF H H'->Rd H' a (.dK kvs ep):=fun H' s=>hS.elim (fun z=>.inl (s _ _ z)) fun⟨o,z⟩=>.inr ⟨o,s _ _ z⟩
 refine oU (RF a kvs ep) kvs (·.2) (fun _=>true) (fun _ kv v=>v=f kv.2) Good h0 hl hlen (fun H' s=>⟨rd H' s,rfl⟩) (fun i H' hi s=>⟨rd H' s,hi⟩) (fun i H1 v H2 hi s y=>⟨y.1,kvs[i],getElem?_eq_getElem hi,y.2 _ (getElem?_eq_getElem hi)⟩) (fun _ _ _ _ _ r=>r) (fun kv σ H1 ys N hk gd s e hz _ h2=>ht kv σ H1 ys N hk gd s e hz fun σ' H2 g2 s2=>h2 rfl σ' _ H2 g2 s2 rfl) fun H' ys s p e=>hd H' s (by rw[e,Paired.GU p,filter_eq_self.mpr fun _ _=>rfl])
end
theorem K9 (hm:m=l.length - 1):((List.range m).map fun i=>CK ((l[i]?).getD default) ((l[i+1]?).getD default)).all id=mY l:=by
 subst hm;rw[pG,all_map];rfl
theorem KY (ab:Hl):((dF ab).map fun kv=>MW ab kv.2).all id=P8 ab:=by
 unfold P8 dF;rw[map_map,all_map];rfl
theorem LB (nd:(ks ab).Nodup) (h:ab[i]? =some z):z.1∉ks (ab.take i)/\ab.take (i+1)=ab.take i++[z]:=by
 have e:ab.take (i+1)=ab.take i++[z]:=by rw[take_succ,h];rfl
 refine⟨fun hm=>?_,e⟩;have e1:ks (ab.take (i+1))=ks (ab.take i)++[z.1]:=by rw[e];unfold ks;rw[map_append];rfl
 have:(ks (ab.take (i+1))).Nodup:=by
  unfold ks;rw[List.map_take];exact List.Nodup.sublist (take_sublist ..) nd
 rw[e1]at this;exact(nodup_append.mp this).2.2 z.1 hm z.1 (by simp) rfl
theorem xR:∀{xs:List Lt} {kvs:List (Key×V)},Paired (mF H) xs kvs->kvs.map (·.1)=(xs.map (·.n)).map Sum.inr
 |_,_,.nil=>rfl
 |_,_,.cons h r=>by
  rw[map_cons,map_cons,map_cons,h.1,xR r]
theorem mS:∀(xs acc:List Lt),(acc.map (·.n)).Nodup->((xs.foldl DX acc).map (·.n)).Nodup/\∀x∈xs.foldl DX acc,x∈acc\/ x∈xs
 |[],acc,h=>⟨h,fun _ hx=>.inl hx⟩
 | y::xs,acc,h=>by
  have h2:((DX acc y).map (·.n)).Nodup:=by
   unfold DX;split
   .exact h
   .rename_i hno;rw[map_append];refine nodup_append.mpr ⟨h,by simp,fun u hu w hw e=>?_⟩;have hw:w=y.n:=by simpa using hw
    obtain⟨z,hz,rfl⟩:=mem_map.mp hu;exact hno (List.any_eq_true.mpr ⟨z,hz,decide_eq_true (e.trans hw)⟩)
  obtain⟨a,b⟩:=mS xs (DX acc y) h2;refine⟨a,fun x hx=>(b x hx).elim (fun h3=>?_) fun h3=>.inr (mem_cons_of_mem _ h3)⟩;unfold DX at h3;split at h3
  .exact .inl h3
  .rcases mem_append.mp h3 with h3|h3
   .exact .inl h3
   .exact .inr (by rw[mem_singleton.mp h3];exact mem_cons_self)
theorem DE (xs:List Lt):((bV xs).map (·.n)).Nodup:=(mS xs [] nodup_nil).1
theorem AK (xs:List Lt):∀x∈bV xs,x∈xs:=fun x hx=>((mS xs [] nodup_nil).2 x hx).elim (fun h=>nomatch h) id
theorem lR.back (t:Tg H u k) (s:aF H H') (h:lR H' z u):lR H z u:=by
 obtain⟨b,rfl,hb⟩:=h;rcases t.tup with⟨_,a,xs,e,ha,_⟩|⟨_,e⟩
 .cases e;have:=s _ _ ha;rw[hb]at this;cases this;exact⟨b,rfl,ha⟩
 .rw[<-t.qV (.of s),dN hb]at e;cases e
theorem xF (s:aF H H'):∀{ab:Hl} {us:List V},(∀u∈us,∃k,Tg H u k)->Paired (lR H') ab us->Paired (lR H) ab us
 |_,_,_,.nil=>.nil
 |_,_,h,.cons r rr=>by
  obtain⟨k,t⟩:=h _ mem_cons_self;exact .cons (r.back t s) (xF s (fun u hu=>h u (mem_cons_of_mem _ hu)) rr)
theorem y3 {ns:List Str} (s:aF H H') (h:KJ H v):z9 H' ns v↔z9 H ns v:=by
 constructor
 .rintro⟨ab,⟨⟨t,us,rfl,ht,hp⟩,hm⟩,hd⟩;obtain⟨⟨k,hT⟩,hx⟩:=h.1;rcases hT.tup with⟨_,a,xs,e,ha,et⟩|⟨_,e⟩
  .cases e;have h2:=s _ _ ha;rw[ht]at h2;cases h2;exact⟨ab,⟨⟨t,us,rfl,ha,xF s (fun u hu=>((hx us et).2 u hu).tg) hp⟩,hm⟩,hd⟩
  .rw[<-hT.qV (.of s),dN ht]at e;cases e
 .rintro⟨ab,⟨hp,hm⟩,hd⟩;exact⟨ab,⟨hp.kt s.kt,hm⟩,hd⟩
theorem pN {R:α->β->Prop}:∀(j:Nat) {xs:List α} {ys:List β},Paired R xs ys->Paired R (xs.take j) (ys.take j)
 |0,_,_,_=>by simp;exact .nil
 |_+1,_,_,.nil=>.nil
 |j+1,_,_,.cons h r=>.cons h (pN j r)
theorem FP (k:Nat):hJ xs none (some (k:Int))=xs.take k:=by
 unfold hJ;rw[HT.CZ,HT.qS,drop_zero,sub_zero]
 by_cases h:k<=xs.length
 .rw[Nat.min_eq_left h]
 .rw[Nat.min_eq_right (by omega),take_of_length_le (le_refl _),take_of_length_le (by omega)]
local macro_rules | `(tactic| walk_at "vc0") => `(tactic| simp only [IS, o5, jS, ML, tC, bS, rI, zZ, rU, J5, eV, jZ, w5, AH, IB, iP, zL, gZ, rP, nL, pP, SJ, JB, wG, Q9, tB, zF, JF, yH, pI, QY, xT, nN, NG, zO, xJ, FU, HC, DC, MO, IH, IQ, uY, zG, GH, FT, uD, sA, RZ, SA, rJoin, IA, FC, sS, rD, yF, mU, jC, zC, DY, EJ, xQ, GB, QC, L2.start, vH, nC, gt_iff_lt, ge_iff_le, map_cons, map_nil, cons_append, nil_append, length_cons, length_nil, List.replicate, List.getElem?_cons_zero, List.getElem?_cons_succ, set_cons_zero, set_cons_succ, Option.some.injEq, V.int.injEq, V.str.injEq, V.bl.injEq, V.ref.injEq, V.ty.injEq, List.cons.injEq, and_true, true_and, exists_eq_left, exists_eq_left', exists_eq_right, exists_and_left, exists_and_right, exists_eq_or_imp, exists_const, Nat.reduceAdd, Nat.reduceSub, ite_true, ite_false, false_eq_true, if_true, if_false, and_assoc, Bool.not_true, Bool.not_false, Bool.true_and, Bool.false_and, decide_true, decide_false, reduceCtorEq, false_and, exists_false, or_false, false_or, yX, yT, yZ, sC, qT, oS, xH, sV, xD, y7, rG, sG, pF, sU, o3, xC])
local macro_rules | `(tactic| walk_at "vc1") => `(tactic| simp only [IS, o5, jS, ML, tC, bS, rI, zZ, rU, J5, eV, jZ, w5, AH, IB, iP, zL, gZ, rP, nL, pP, SJ, JB, wG, Q9, tB, zF, JF, yH, pI, QY, xT, nN, NG, zO, xJ, FU, HC, DC, MO, IH, IQ, uY, zG, GH, FT, uD, sA, RZ, SA, rJoin, IA, FC, sS, rD, yF, mU, jC, zC, DY, EJ, xQ, GB, QC, L2.start, vH, nC, gt_iff_lt, ge_iff_le, map_cons, map_nil, cons_append, nil_append, length_cons, length_nil, List.replicate, List.getElem?_cons_zero, List.getElem?_cons_succ, set_cons_zero, set_cons_succ, Option.some.injEq, V.int.injEq, V.str.injEq, V.bl.injEq, V.ref.injEq, V.ty.injEq, List.cons.injEq, and_true, true_and, exists_eq_left, exists_eq_left', exists_eq_right, exists_and_left, exists_and_right, exists_eq_or_imp, exists_const, Nat.reduceAdd, Nat.reduceSub, ite_true, ite_false, false_eq_true, if_true, if_false, and_assoc, Bool.not_true, Bool.not_false, Bool.true_and, Bool.false_and, decide_true, decide_false, reduceCtorEq, false_and, exists_false, or_false, false_or, yX, yT, yZ, sC, qT, oS, xH, sV, xD, y7, rG, sG, pF, sU, o3, xC, pR])
local macro_rules | `(tactic| walk_at "vc2") => `(tactic| simp only [IS, o5, jS, ML, tC, bS, rI, zZ, rU, J5, eV, jZ, w5, AH, IB, iP, zL, gZ, rP, nL, pP, SJ, JB, wG, Q9, tB, zF, JF, yH, pI, QY, xT, nN, NG, zO, xJ, FU, HC, DC, MO, IH, IQ, uY, zG, GH, FT, uD, sA, RZ, SA, rJoin, IA, FC, sS, rD, yF, mU, jC, zC, DY, EJ, xQ, GB, QC, L2.start, vH, nC, gt_iff_lt, ge_iff_le, map_cons, map_nil, cons_append, nil_append, length_cons, length_nil, List.replicate, List.getElem?_cons_zero, List.getElem?_cons_succ, set_cons_zero, set_cons_succ, Option.some.injEq, V.int.injEq, V.str.injEq, V.bl.injEq, V.ref.injEq, V.ty.injEq, List.cons.injEq, and_true, true_and, exists_eq_left, exists_eq_left', exists_eq_right, exists_and_left, exists_and_right, exists_eq_or_imp, exists_const, Nat.reduceAdd, Nat.reduceSub, ite_true, ite_false, false_eq_true, if_true, if_false, and_assoc, Bool.not_true, Bool.not_false, Bool.true_and, Bool.false_and, decide_true, decide_false, reduceCtorEq, false_and, exists_false, or_false, false_or, yX, yT, yZ, sC, qT, oS, xH, sV, xD, y7, rG, sG, pF, sU, o3, xC, MG])
local macro_rules | `(tactic| walk_at "vc3") => `(tactic| simp only [IS, o5, jS, ML, tC, bS, rI, zZ, rU, J5, eV, jZ, w5, AH, IB, iP, zL, gZ, rP, nL, pP, SJ, JB, wG, Q9, tB, zF, JF, yH, pI, QY, xT, nN, zO, xJ, FU, HC, DC, MO, IH, IQ, uY, zG, GH, FT, uD, sA, RZ, SA, rJoin, IA, FC, sS, rD, yF, mU, jC, zC, DY, EJ, xQ, GB, QC, L2.start, vH, nC, gt_iff_lt, ge_iff_le, map_cons, map_nil, cons_append, nil_append, length_cons, length_nil, List.replicate, List.getElem?_cons_zero, List.getElem?_cons_succ, set_cons_zero, set_cons_succ, Option.some.injEq, V.int.injEq, V.str.injEq, V.bl.injEq, V.ref.injEq, V.ty.injEq, List.cons.injEq, and_true, true_and, exists_eq_left, exists_eq_left', exists_eq_right, exists_and_left, exists_and_right, exists_eq_or_imp, exists_const, Nat.reduceAdd, Nat.reduceSub, ite_true, ite_false, false_eq_true, if_true, if_false, and_assoc, Bool.not_true, Bool.not_false, Bool.true_and, Bool.false_and, decide_true, decide_false, reduceCtorEq, false_and, exists_false, or_false, false_or, yX, yT, yZ, sC, qT, oS, xH, sV, xD, y7, rG, sG, pF, sU, o3, xC])
noncomputable def top (i:Nat):Stmt:=PySem.Challenge.pw_answertrees_k57_wishes_known.main.body.getD i (.Pass ⟨0,0,0,0⟩)
noncomputable abbrev eI:Stmt:=top 1
noncomputable abbrev d7:Stmt:=top 3
noncomputable abbrev hV:Stmt:=top 5
noncomputable abbrev eM:Stmt:=top 9
noncomputable abbrev gQ:Stmt:=top 10
noncomputable abbrev fG:Stmt:=top 12
noncomputable abbrev dU:Stmt:=top 13
noncomputable abbrev dB:Stmt:=top 14
noncomputable abbrev dH:Stmt:=top 16
noncomputable abbrev eA:Stmt:=top 18
noncomputable abbrev eC:Stmt:=top 19
noncomputable abbrev dD:Stmt:=top 20
noncomputable abbrev dI:Stmt:=top 21
noncomputable abbrev cE:Stmt:=top 22
noncomputable abbrev d9:Stmt:=top 23
noncomputable abbrev dO:Stmt:=top 24
noncomputable abbrev cC:Stmt:=top 25
noncomputable abbrev gG:Stmt:=top 26
noncomputable abbrev dJ:Stmt:=top 27
noncomputable abbrev bQ:Stmt:=top 28
noncomputable abbrev cV:Stmt:=top 29
noncomputable abbrev fJ:Stmt:=top 30
noncomputable abbrev cF:Stmt:=top 31
noncomputable abbrev cY:Stmt:=top 32
noncomputable abbrev eD:Stmt:=top 33
noncomputable abbrev bW:Stmt:=top 34
noncomputable abbrev cG:Stmt:=top 35
noncomputable abbrev bL:Stmt:=top 36
noncomputable abbrev fH:Stmt:=top 37
noncomputable abbrev eE:Stmt:=top 38
noncomputable abbrev dM:Stmt:=top 39
noncomputable abbrev cP:Stmt:=top 40
noncomputable abbrev cX:Stmt:=top 41
noncomputable abbrev iM:Stmt:=top 42
structure Txt (K:Frag) (mg:Str->Option Value) (fs:Nat->Addr) (fds:Nat->FuncData) (tc:Nat->Addr) (u:Nat->Value):Prop where
 mT:Def K mg "standing" eI ["pack"] (fs 0) (fds 0)
 sJ:Def K mg "rings_in" d7 ["above"] (fs 1) (fds 1)
 CG:Def K mg "shown" hV ["pack","above"] (fs 2) (fds 2)
 oM:Def K mg "is_name" eM ["thing"] (fs 3) (fds 3)
 CH:Def K mg "rises" gQ ["things"] (fs 4) (fds 4)
 uJ:Def K mg "is_mark" fG ["thing"] (fs 5) (fds 5)
 sM:Def K mg "has_ring" dU ["marks"] (fs 6) (fds 6)
 tH:Def K mg "is_marks" dB ["thing"] (fs 7) (fds 7)
 oQ:Def K mg "is_wish" dH ["pack","thing"] (fs 8) (fds 8)
 tD:Def K mg "_law_hand" eA ["_law_script","_law_k"] (fs 9) (fds 9)
 aQ:Def K mg "_law_take" eC ["_law_hand_here","_law_many"] (fs 10) (fds 10)
 sP:Def K mg "_law_name" dD ["_law_hand_here","_law_used"] (fs 11) (fds 11)
 pV:Def K mg "_law_names" dI ["_law_hand_here","_law_many"] (fs 12) (fds 12)
 oF:Def K mg "_law_letter" cE ["_law_hand_here","_law_name_here","_law_names_here"] (fs 13) (fds 13)
 rW:Def K mg "_law_pack" d9 ["_law_hand_here","_law_names_here"] (fs 14) (fds 14)
 lD:Def K mg "_law_stand" dO ["_law_pack_here"] (fs 15) (fds 15)
 j0:Def K mg "_law_elders" cC ["_law_letter_here"] (fs 16) (fds 16)
 x8:Def K mg "_law_up" gG ["_law_stand_here","_law_held"] (fs 17) (fds 17)
 pQ:Def K mg "_law_rings" dJ ["_law_up_here"] (fs 18) (fds 18)
 mE:Def K mg "_law_weakest" bQ ["_law_stand_here","_law_held","_law_ring"] (fs 19) (fds 19)
 pU:Def K mg "_law_shown" cV ["_law_stand_here","_law_up_here"] (fs 20) (fds 20)
 tV:Def K mg "_law_any" fJ ["_law_hand_here","_law_names_here"] (fs 21) (fds 21)
 mB:Def K mg "_law_beneath" cF ["_law_up_here","_law_name_here"] (fs 22) (fds 22)
 pS:Def K mg "_law_moved" cY ["_law_hand_here","_law_up_here"] (fs 23) (fds 23)
 rY:Def K mg "_law_wish" eD ["_law_hand_here","_law_stand_here","_law_names_here"] (fs 24) (fds 24)
 jE:Def K mg "_law_is_name" bW ["_law_thing"] (fs 25) (fds 25)
 jI:Def K mg "_law_is_pair" cG ["_law_thing"] (fs 26) (fds 26)
 j6:Def K mg "_law_is_due" bL ["_law_stand_here","_law_thing"] (fs 27) (fds 27)
 oY:Def K mg "_law_odd" fH ["_law_hand_here","_law_names_here"] (fs 28) (fds 28)
 mL:Def K mg "_law_long" eE ["_law_hand_here","_law_names_here"] (fs 29) (fds 29)
 kR:Def K mg "_law_first" dM ["_law_pair"] (fs 30) (fds 30)
 gJ:Def K mg "_law_spoilt" cP ["_law_hand_here","_law_wish_here","_law_names_here"] (fs 31) (fds 31)
 pY:Def K mg "_law_right" cX ["_law_hand_here"] (fs 32) (fds 32)
 Q0:Def K mg "law" iM ["_law_script"] (fs 33) (fds 33)
 eX:mg "tuple"=none
 cH:mg "len"=none
 cD:mg "isinstance"=none
 uT:mg "str"=none
 iS:mg "all"=none
 eW:mg "range"=none
 uF:mg "int"=none
 qR:mg "min"=none
 gY:mg "sorted"=none
 g0:mg "enumerate"=none
 pE:mg "list"=none
 x4:mg "zip"=none
 kM:mg "repr"=none
 yB:mg "max"=none
 wH:mg "NAME_SIGNS"=some (u 0)
 vZ:RelV (.str "abcdefghijklmnopqrstuvwxyz0123456789") (u 0)
 rN:mg "LONGEST_NAME"=some (u 1)
 sD:RelV (.int 12) (u 1)
theorem RA:IntMulOk ((10:Int)^Int.toNat 60) ((10:Int)^Int.toNat 30):=by unfold IntMulOk;decide+kernel
theorem MP:(0:Int)<(10:Int)^Int.toNat 60*(10:Int)^Int.toNat 30:=by decide+kernel
def QS (K:Frag):Sp:=fun vs H Q _=>∃(a:Addr) (ns:List Int) (k:Int),vs=[.ref a,.int k]/\bC K H a (ns.map V.int)/\0<=k/\k<=63/\∀p H',H p=none->Box 0 H' p->aF H H'->Q (.ref p) H'
def xW (K:Frag):Sp:=fun vs H Q _=>∃(a:Addr) (zs:List Str),vs=[.ref a]/\H a=some (.lst (zs.map V.str))/\zs.length<=1000/\∀H',aF H H'->Q (.bl (tF (zs.map V.str))) H'
def vJ:Sp:=fun vs H Q _=>∃v xs,vs=[v]/\mD H v xs/\∀b ws H',aF H H'->H' b=some (.tup ws)->Paired (fun x u=>tJ H' u x) (bV xs) ws->Q (.ref b) H'
def zA:Sp:=fun vs H Q _=>∃v xs,vs=[v]/\mD H v xs/\∀d kvs ep H',aF H H'->H d=none->H' d=some (.dK kvs ep)->Paired (mF H') (bV xs) kvs->Q (.ref d) H'
theorem rT {xs:List Lt} (ha:H a=some (.tup us)) (hp:Paired (fun x u=>tJ H u x) xs us) (hl:xs.length<=1000) (hp0:H p=none)
  (q:∀kvs ep H' v2,aF H H'->H' p=some (.dK kvs ep)->Paired (mF H') (bV xs) kvs->D.nx [some (.ref a),some (.ref p),v2] H'):
  P6 (NU K (bS 0)) (iP 2)
   (zL (gZ (jS (Mr.BF true) (jS (xJ K) (bS 2) (tC (V.int 0))) (bS 1)))
    (pR (bS 1) (jS (xJ K) (bS 2) (tC (V.int 0))) (bS 2)) rP) D [some (.ref a),some (.ref p),none] (upd H p (.dK [] 0)):=by
 have hlv:xs.length=us.length:=hp.length;refine⟨_,rfl,a,rfl,⟨_,bU.of (aF.upd hp0 _ _ ha)⟩,qL (K:=K) (a:=a) (xs:=us) (fun i σ H'=>aF H H'/\(∃kvs ep,H' p=some (.dK kvs ep)/\Paired (mF H') (bV (xs.take i)) kvs)/\∃v2,σ=[some (.ref a),some (.ref p),v2]) ⟨aF.upd hp0,⟨[],0,aB,.nil⟩,_,rfl⟩ (fun i σ H' _ ⟨s',_⟩=>(bU.of ha).same s') ?_ ?_⟩
 .rintro i x σ H1 hx ⟨s1,⟨kvs,ep,hf1,pr⟩,v2,rfl⟩;obtain⟨y,hy,hL⟩:=L2.Paired.lY hp hx;obtain⟨t,r,rfl,ht,hr⟩:=(hL.kp s1.kt).at';have hst:=zT hy;have hany:=mF.any (n:=y.n) pr;have hlen:kvs.length<=1000:=by
   have h1:=pr.length;have h2:=kD (xs.take i);rw[length_take]at h2;omega
  have hs:(dX kvs (Sum.inr y.n)).isSome=(bV (xs.take i)).any fun z=>decide (z.n=y.n):=by rw[<-iW];exact hany
  walk_at "vc0";refine⟨_,bU.of ht,_,C4,p,kvs,.inr y.n,rfl,⟨ep,.inl hf1⟩,rfl,_,rfl,?_⟩;unfold DX at hst;cases hc:(bV (xs.take i)).any fun z=>decide (z.n=y.n)with
  |true=>
   rw[if_neg (by rw[if_pos rfl,hs,hc];decide)];rw[hc,if_pos rfl]at hst;exact⟨s1,⟨kvs,⟨ep,hf1⟩,by rw[hst];exact pr⟩,_,rfl⟩
  | false=>
   rw[if_pos (by rw[if_pos rfl,hs,hc];rfl)];rw[hc,if_neg Bool.false_ne_true]at hst;walk_at "vc1";have kt:∀ep',iI H1 (upd H1 p (.dK (putK kvs (Sum.inr y.n) (.ref t)) ep')):=fun ep'=>iI.dk ⟨ep,hf1⟩
   refine⟨_,bU.of ht,_,C4,.inl ⟨kvs,.inr y.n,⟨ep,hf1⟩,rfl,iZ (by omega),fun ep'=>⟨fun b o h=>by rw[aG (aJ h hp0)];exact s1 b o h,⟨_,⟨ep',aB⟩,?_⟩,_,rfl⟩⟩⟩;rw[hst];have e2:putK kvs (Sum.inr y.n) (V.ref t)=kvs++[(Sum.inr y.n,V.ref t)]:=by
    unfold putK;rw[hany,hc,if_neg Bool.false_ne_true]
   refine mF.snoc (L2.Paired.fN pr fun _ _ h=>⟨h.1,h.2.kp (kt ep')⟩) ?_ e2;exact⟨rfl,(hL.kp s1.kt).kp (kt ep')⟩
 .rintro σ H1 ⟨s1,⟨kvs,ep,hf1,pr⟩,v2,rfl⟩;rw[<-hlv,take_length]at pr;exact q kvs ep H1 v2 s1 hf1 pr
def NA:Sp:=fun vs H Q _=>∃(a:Addr) (x:V) (us:List V),vs=[.ref a]/\H a=some (.tup (x::us))/\Q x H
structure xB (H:Hp) (l:Addr) (zs:List Str):Prop where
 el:H l=some (.lst (zs.map V.str))
 nm:∀z∈zs,cI z=true
 le:zs.length<=9
def HE:Sp:=fun vs H Q _=>∃(p l:Addr) (zs:List Str) (c:Nat),vs=[.ref p,.ref l]/\Box c H p/\c<900000/\xB H l zs/\1<=zs.length/\∀x H',x.length<=25->Box (c+2) H' p->bZ p H H'->Q (.str x) H'
def MJ:Sp:=fun vs H Q _=>∃v x,vs=[v]/\tJ H v x/\∀l H',aF H H'->H l=none->H' l=some (.lst ((aW x).map V.str))->Q (.ref l) H'
theorem JK [DecidableEq α]:∀{xs ys:List α},xs.Nodup->(∀x∈xs,x∈ys)->xs.length<=ys.length
 |[],_,_,_=>zero_le _
 |x::xs,ys,nd,h=>by
  rw[nodup_cons]at nd;have hx:=h x mem_cons_self;have h1:=JK (xs:=xs) (ys:=ys.erase x) nd.2 fun y hy=>(List.mem_erase_of_ne fun e=>nd.1 (by rw[<-e];exact hy)).mpr (h y (mem_cons_of_mem _ hy))
  rw[List.length_erase_of_mem hx]at h1;have h2:=length_pos_of_mem hx;rw[length_cons];omega
def PQ:Sp:=fun vs H Q _=>∃(p l:Addr) (zs:List Str) (c:Nat),vs=[.ref p,.ref l]/\Box c H p/\c<800000/\xB H l zs/\l≠p/\∀x H',cI x=true->Box (c+14) H' p->bZ p H H'->Q (.str x) H'
def RM:Sp:=fun vs H Q _=>∃(p:Addr) (m c:Nat),vs=[.ref p,.int (m:Int)]/\Box c H p/\c<700000/\m<=9/\∀l zs H',H l=none->l≠p->xB H' l zs->zs.length=m->Box (c+14*m) H' p->bZ p H H'->Q (.ref l) H'
def IP:Sp:=fun vs H Q _=>∃(p l:Addr) (zs:List Str) (n:Str) (c:Nat),vs=[.ref p,.str n,.ref l]/\Box c H p/\c<800000/\xB H l zs/\1<=zs.length/\l≠p/\cI n=true/\∀v x H',tJ H' v x->x.n=n->(∀r∈x.row,r∈zs)->Box (c+30) H' p->bZ p H H'->Q v H'
def rS (p d:Addr) (H H':Hp):Prop:=∀b o,H b=some o->b≠p->b≠d->H' b=some o
def QW:Sp:=fun vs H Q _=>∃(p l:Addr) (zs:List Str) (c:Nat),vs=[.ref p,.ref l]/\Box c H p/\c<400000/\xB H l zs/\1<=zs.length/\l≠p/\∀v xs H',mD H' v xs->xs.length<=18->(∀x∈xs,x.n∈zs/\∀r∈x.row,r∈zs)->Box (c+600) H' p->bZ p H H'->Q v H'
structure K1 (H:Hp) (d:Addr) (zs:List Str) (xs:List Lt):Prop where
 el:∃kvs,dA H d kvs/\Paired (mF H) xs kvs
 nm:∀x∈xs,x.n∈zs/\∀r∈x.row,r∈zs
 nd:(xs.map (·.n)).Nodup
 le:zs.length<=9
structure HX (H:Hp) (d:Addr) (zs:List Str) (ab:Hl):Prop where
 el:dA H d (dF ab)
 up:E7 zs ab
def M5:Sp:=fun vs H Q _=>∃(s h:Addr) (zs:List Str) (xs:List Lt),vs=[.ref s,.ref h]/\K1 H s zs xs/\dA H h []/\∀d ab H',aF H H'->H d=none->HX H' d zs ab->(∀x∈xs,x.n∈ks ab)->Q (.ref d) H'
def MV:Sp:=fun vs H Q _=>∃(d:Addr) (zs:List Str) (ab:Hl),vs=[.ref d]/\HX H d zs ab/\zs.length<=9/\∀l us rs H',aF H H'->H l=none->H' l=some (.lst us)->Paired (fun(r:List Str) u=>∃b,u= .ref b/\H b=none/\H' b=some (.lst (r.map V.str))/\r≠[]/\r.length<=9/\∀x∈r,x∈ks ab) rs us->rs.length<=9->Q (.ref l) H'
def Q3:Sp:=fun vs H Q _=>∃(s h r:Addr) (zs:List Str) (xs:List Lt) (rs:List Str),vs=[.ref s,.ref h,.ref r]/\K1 H s zs xs/\dA H h []/\H r=some (.lst (rs.map V.str))/\rs≠[]/\rs.length<=9/\∀x H',x∈rs->aF H H'->Q (.str x) H'
def GK (H:Hp) (v:V) (zs:List Str) (ab:Hl):Prop:=∃t us,v= .ref t/\H t=some (.tup us)/\Paired (fun z u=>∃b,u= .ref b/\H b=some (.tup [.str z.1,oV z.2])) ab us/\(∀z∈ab,z.1∈zs/\∀y,z.2=some y->y∈zs)/\ab.length<=9
def FZ:Sp:=fun vs H Q _=>∃(s d:Addr) (zs:List Str) (xs:List Lt) (ab:Hl),vs=[.ref s,.ref d]/\K1 H s zs xs/\HX H d zs ab/\(∀x∈xs,x.n∈ks ab)/\∀v wb H',GK H' v zs wb->aF H H'->Q v H'
def NC:Sp:=fun vs H Q _=>∃(p l:Addr) (zs:List Str) (c:Nat),vs=[.ref p,.ref l]/\Box c H p/\c<800000/\xB H l zs/\l≠p/\∀d ab H',H d=none->HX H' d zs ab->(∀z∈zs,z∈ks ab)->Box (c+18) H' p->bZ p H H'->Q (.ref d) H'
def RJ:Sp:=fun vs H Q _=>∃(d:Addr) (zs:List Str) (ab:Hl) (x:Str),vs=[.ref d,.str x]/\HX H d zs ab/\zs.length<=9/\∀f kvs H',aF H H'->H f=none->dA H' f kvs->Q (.ref f) H'
def P4:Sp:=fun vs H Q _=>∃(p d:Addr) (zs:List Str) (ab:Hl) (c:Nat),vs=[.ref p,.ref d]/\Box c H p/\c<800000/\HX H d zs ab/\zs.length<=9/\∀ab' H',HX H' d zs ab'->ks ab'=ks ab->Box (c+2) H' p->rS p d H H'->Q .aP H'
def R7:Sp:=fun vs H Q _=>∃(d:Addr) (ab:Hl),vs=[.ref d]/\dA H d (dF ab)/\(ks ab).Nodup/\ab.length<=1000/\∀l us H',aF H H'->H l=none->H' l=some (.lst us)->(us=[]↔∀x,¬Rg.w6 (eJ ab) x)->Q (.ref l) H'
def QN:Sp:=fun vs H Q _=>∃(v:V) (ab:Hl),vs=[v]/\p6 H v ab/\(ks ab).Nodup/\ab.length<=1000/\∀b H',aF H H'->(b=true↔∃x,Rg.w6 (eJ ab) x)->Q (.bl b) H'
def SF:Sp:=fun vs H Q _=>∃v,vs=[v]/\KJ H v/\∀b H',aF H H'->(b=true↔∃ab,FA H v ab)->Q (.bl b) H'
def RW:Sp:=fun vs H Q _=>∃(v:V) (d:Addr) (xs:List Lt) (ab:Hl),vs=[v,.ref d]/\mD H v xs/\dA H d (dF ab)/\(ks ab).Nodup/\fV ab/\ab.length<=1000/\(∀x∈bV xs,x.n∈ks ab)/\∀f S H',aF H H'->H f=none->dA H' f (iU S)->S.Nodup->(∀x,x∈S↔BY ab ((bV xs).map (·.n)) x)->Q (.ref f) H'
def Q8:Sp:=fun vs H Q _=>∃(v t:V) (xs:List Lt),vs=[v,t]/\mD H v xs/\KJ H t/\∀b H',aF H H'->(b=true↔z9 H ((bV xs).map (·.n)) t)->Q (.bl b) H'
def MH:Sp:=fun vs H Q _=>∃(d:Addr) (t:V) (kvs:List (Key×V)) (xs:List Lt),vs=[.ref d,t]/\dA H d kvs/\Paired (mF H) xs kvs/\xs.length<=1000/\KJ H t/\∀b H',aF H H'->(b=true↔z9 H (xs.map (·.n)) t)->Q (.bl b) H'
def MY:Sp:=fun vs H Q _=>∃(p l:Addr) (zs:List Str) (c:Nat),vs=[.ref p,.ref l]/\Box c H p/\c<900000/\xB H l zs/\1<=zs.length/\l≠p/\∀v H',jG 2 H' v->Box (c+3) H' p->bZ p H H'->Q v H'
def NI (m:Nat) (H:Hp) (v:V):Prop:=∃ab,p6 H v ab/\ab.length<=m/\∀z∈ab,z.1.length<=100/\∀y,z.2=some y->y.length<=100
def IC (m:Nat) (H:Hp) (v:V):Prop:=∃t us,v= .ref t/\H t=some (.tup us)/\us.length<=m/\∀u∈us,jG 2 H u
def M7:Sp:=fun vs H Q _=>∃(p l:Addr) (v:V) (zs:List Str) (c m:Nat),vs=[.ref p,v,.ref l]/\Box c H p/\c<800000/\NI m H v/\m<=20/\xB H l zs/\1<=zs.length/\l≠p/\∀v' H',IC (m+1) H' v'->Box (c+20) H' p->bZ p H H'->Q v' H'
def SG:Sp:=fun vs H Q _=>∃(p s l:Addr) (zs:List Str) (xs:List Lt) (c:Nat),vs=[.ref p,.ref s,.ref l]/\Box c H p/\c<700000/\K1 H s zs xs/\xB H l zs/\l≠p/\s≠p/\∀v H',(∃ab,GK H' v zs ab)->Box (c+60) H' p->bZ p H H'->Q v H'
def vL:Sp:=fun vs H Q _=>∃(p:Addr) (c:Nat),vs=[.ref p]/\Box c H p/\c<1000/\∀H',bZ p H H'->Q (.bl true) H'
theorem IF (e0:H d=some (.dK (dF ab) ep0)) (hp:H p=none) (hc0:H c=none) (ncp:c≠p) (ncf:c≠f) (npf:p≠f) (hl:ab.length<=1000)
  (w0:zY ab M M us p f c st H H1 [] (some st))
  (rest:∀l o M' H',zY ab M M' us p f c st H H' l o->(∀y,o=some y->y∈ks M')->D.nx [some (.ref d),some (.ref p),some (.ref f),some (.str st),some (.ref c),some (oV o)] H'):
  pB (wG (gZ (jS (fun x y H Q=>y=V.aP/\Q (V.bl !decide (x=V.aP)) H) (bS 5) (tC V.aP))) (gZ (jS (Mr.BF true) (bS 5) (bS 1))))
   (p9 (pR (bS 1) (bS 5) (bS 3)) (p9 (nL (NG K "list" jC (bS 4) (eV (bS 5) jZ))) (o5 (pF (bS 0) (bS 5)) (iP 5)))) D
   [some (.ref d),some (.ref p),some (.ref f),some (.str st),some (.ref c),some (.str st)] H1:=by
 refine⟨fun m σ' H'=>∃l o M',m=2*ab.length - (ks M').length/\σ'=[some (V.ref d),some (.ref p),some (.ref f),some (.str st),some (.ref c),some (oV o)]/\zY ab M M' us p f c st H H' l o,⟨_,[],some st,M,rfl,rfl,w0⟩,?_⟩;rintro m σ' H2 ⟨l,o,M',rfl,rfl,w⟩;obtain⟨em,hM⟩:=id w.dm;have hlen:=w.len;have hkl:(dF M').length=(ks M').length:=by rw[dR,length_map]
 cases o with
 |none=>
  walk_at "vc0";exact cO (rest l none M' H2 w fun _ h=>nomatch h)
 | some y=>
  walk_at "vc0";refine cS ⟨p,dF M',.inr y,rfl,⟨em,.inl hM⟩,rfl,_,rfl,?_⟩
  by_cases hy:y∈ks M'
  .rw[if_neg (by rw[if_pos rfl,lK,decide_eq_true hy];decide)];exact rest l (some y) M' H2 w fun z e=>by cases e;exact hy
  .rw[if_pos (by rw[if_pos rfl,lK,decide_eq_false hy];rfl)];refine⟨fun σ3 H3=>σ3=[some (V.ref d),some (.ref p),some (.ref f),some (.str st),some (.ref c),some (oV (eJ ab y))]/\zY ab M (gH M' y (some st)) us p f c st H H3 (l++[y]) (eJ ab y),?_,?_⟩
   .rintro σ3 H3 ⟨rfl,w3⟩;have h3:=w3.len;have h4:(ks (gH M' y (some st))).length=(ks M').length+1:=by rw[oN,if_neg hy,length_append];rfl
    exact⟨_,by omega,_,_,_,rfl,rfl,w3⟩
   .refine aK ?_;walk_at "vc1"
    refine .inl ⟨dF M',.inr y,⟨em,hM⟩,rfl,iZ (by omega),fun ep=>?_⟩;have n1:∀o,upd H2 p o c=H2 c:=fun o=>aG ncp
    refine aK ?_;walk_at "vc0"
    refine⟨.inl ⟨_,bC.of (by rw[n1];exact w.hc)⟩,l.map V.str,by rw[n1];exact w.hc,iZ ?_,?_⟩
    .rw[length_map];have h5:(ks M').length=(ks M).length+l.length:=by rw[w.cl.km,length_append]
     omega
    have w3:=w.step hy ep hp hc0 ncp ncf npf;exact⟨.inl ⟨dF ab,ep0,.inl (w3.s _ _ e0)⟩,_,.inl ⟨dF ab,.inr y,⟨ep0,.inl (w3.s _ _ e0)⟩,rfl,rfl⟩,qQ ab y,w3⟩
theorem sh_whileP {K:Frag} {ab:Hl} {ns S0:List Str} {d p:Addr} {n:Str} {H H1:Hp} {D:Ends} {ep0:Nat} {v u3:V} (e0:H d=some (.dK (dF ab) ep0)) (hp:H p=none) (hcl:fV ab) (hl:ab.length<=1000) (hn:n∈ks ab) (s1:aF H H1) (d1:dA H1 p (iU S0)) (w0:p7 ab ns S0 (some n))
  (rest:∀S o H',aF H H'->iI H1 H'->dA H' p (iU S)->p7 ab ns S none->D.nx [some v,some (V.ref d),some (.ref p),some u3,some (oV o)] H'):
  pB (wG (gZ (jS (fun x y H Q=>y=V.aP/\Q (V.bl !decide (x=V.aP)) H) (bS 4) (tC V.aP))) (gZ (jS (Mr.BF true) (bS 4) (bS 2))))
   (p9 (pR (bS 2) (bS 4) (tC (V.bl true))) (o5 (jS Mr.D1 (bS 1) (bS 4)) (iP 4))) D [some v,some (V.ref d),some (.ref p),some u3,some (.str n)] H1:=by
 refine⟨fun m σ' H'=>∃S o,m=ab.length - S.length/\σ'=[some v,some (V.ref d),some (.ref p),some u3,some (oV o)]/\aF H H'/\iI H1 H'/\dA H' p (iU S)/\p7 ab ns S o/\∀y,o=some y->y∈ks ab,⟨_,S0,some n,rfl,rfl,s1,(fun _ _ h=>h),d1,w0,fun y e=>by cases e;exact hn⟩,?_⟩;rintro m σ' H2 ⟨S,o,rfl,rfl,s2,t2,⟨em,hM⟩,w,hk⟩;have hlen:=w.len;cases o with
 |none=>
  walk_at "vc0";exact cO (rest S none H2 s2 t2 ⟨em,hM⟩ w)
 | some y=>
  walk_at "vc0";refine cS ⟨p,iU S,.inr y,rfl,⟨em,.inl hM⟩,rfl,_,rfl,?_⟩
  by_cases hy:y∈S
  .rw[if_neg (by rw[if_pos rfl,jT,decide_eq_true hy];decide)];exact rest S (some y) H2 s2 t2 ⟨em,hM⟩ (w.stop fun z e=>by cases e;exact hy)
  .rw[if_pos (by rw[if_pos rfl,jT,decide_eq_false hy];rfl)];have hky:=hk y rfl;have w3:=w.step hy hky;have hl3:=w3.len;have hl4:=n4 hy;refine⟨fun σ3 H3=>σ3=[some v,some (V.ref d),some (.ref p),some u3,some (oV (eJ ab y))]/\aF H H3/\iI H1 H3/\dA H3 p (iU (kJ S y)),?_,?_⟩
   .rintro σ3 H3 ⟨rfl,s3,t3,d3⟩;exact⟨_,by omega,kJ S y,rfl,eJ ab y,rfl,s3,t3,d3,w3,fun z e=>hcl y z e⟩
   .refine aK ?_;walk_at "vc1"
    refine .inl ⟨iU S,.inr y,⟨em,hM⟩,rfl,iZ (by rw[jW];omega),fun ep=>?_⟩;have s3:∀o,aF H (upd H2 p o):=fun o b z h=>by rw[aG (aJ h hp)];exact s2 b z h
    walk_at "vc0";exact⟨d,dF ab,.inr y,_,rfl,⟨ep0,.inl (s3 _ _ _ e0)⟩,rfl,oZ hky,rfl,s3 _,t2.trans (iI.dk ⟨em,hM⟩),⟨ep,by rw[aB,nQ]⟩⟩
theorem sh_whileL {K:Frag} {ab:Hl} {ns S0:List Str} {d p:Addr} {n:Str} {H H1:Hp} {D:Ends} {ep0:Nat} {s:Addr} (e0:H d=some (.dK (dF ab) ep0)) (hp:H p=none) (hcl:fV ab) (hl:ab.length<=1000) (hn:n∈ks ab) (s1:aF H H1) (d1:dA H1 p (iU S0)) (w0:p7 ab ns S0 (some n))
  (rest:∀S o H',aF H H'->iI H1 H'->dA H' p (iU S)->p7 ab ns S none->D.nx [some (V.ref s),some (V.ref d),some (.ref p),some (oV o)] H'):
  pB (wG (gZ (jS (fun x y H Q=>y=V.aP/\Q (V.bl !decide (x=V.aP)) H) (bS 3) (tC V.aP))) (gZ (jS (Mr.BF true) (bS 3) (bS 2))))
   (p9 (pR (bS 2) (bS 3) (tC (V.bl true))) (o5 (jS Mr.D1 (bS 1) (bS 3)) (iP 3))) D [some (V.ref s),some (V.ref d),some (.ref p),some (.str n)] H1:=by
 refine⟨fun m σ' H'=>∃S o,m=ab.length - S.length/\σ'=[some (V.ref s),some (V.ref d),some (.ref p),some (oV o)]/\aF H H'/\iI H1 H'/\dA H' p (iU S)/\p7 ab ns S o/\∀y,o=some y->y∈ks ab,⟨_,S0,some n,rfl,rfl,s1,(fun _ _ h=>h),d1,w0,fun y e=>by cases e;exact hn⟩,?_⟩;rintro m σ' H2 ⟨S,o,rfl,rfl,s2,t2,⟨em,hM⟩,w,hk⟩;have hlen:=w.len;cases o with
 |none=>
  walk_at "vc0";exact cO (rest S none H2 s2 t2 ⟨em,hM⟩ w)
 | some y=>
  walk_at "vc0";refine cS ⟨p,iU S,.inr y,rfl,⟨em,.inl hM⟩,rfl,_,rfl,?_⟩
  by_cases hy:y∈S
  .rw[if_neg (by rw[if_pos rfl,jT,decide_eq_true hy];decide)];exact rest S (some y) H2 s2 t2 ⟨em,hM⟩ (w.stop fun z e=>by cases e;exact hy)
  .rw[if_pos (by rw[if_pos rfl,jT,decide_eq_false hy];rfl)];have hky:=hk y rfl;have w3:=w.step hy hky;have hl3:=w3.len;have hl4:=n4 hy;refine⟨fun σ3 H3=>σ3=[some (V.ref s),some (V.ref d),some (.ref p),some (oV (eJ ab y))]/\aF H H3/\iI H1 H3/\dA H3 p (iU (kJ S y)),?_,?_⟩
   .rintro σ3 H3 ⟨rfl,s3,t3,d3⟩;exact⟨_,by omega,kJ S y,rfl,eJ ab y,rfl,s3,t3,d3,w3,fun z e=>hcl y z e⟩
   .refine aK ?_;walk_at "vc1"
    refine .inl ⟨iU S,.inr y,⟨em,hM⟩,rfl,iZ (by rw[jW];omega),fun ep=>?_⟩;have s3:∀o,aF H (upd H2 p o):=fun o b z h=>by rw[aG (aJ h hp)];exact s2 b z h
    walk_at "vc0";exact⟨d,dF ab,.inr y,_,rfl,⟨ep0,.inl (s3 _ _ _ e0)⟩,rfl,oZ hky,rfl,s3 _,t2.trans (iI.dk ⟨em,hM⟩),⟨ep,by rw[aB,nQ]⟩⟩
theorem HR (e0:H d=some (.dK (dF ab) ep0)) (hp:H p=none) (hc0:H c=none) (ncp:c≠p) (hcl:fV ab) (hl:ab.length<=1000)
  (w0:J3 ab S0 p c H H1 H1 S0 [] (some n))
  (rest:∀S l o H',J3 ab S0 p c H H1 H' S l o->D.nx [some (.ref d),some (.ref f),some (.ref p),some (oV o),some (.ref c)] H'):
  pB (wG (gZ (jS (fun x y H Q=>y=V.aP/\Q (V.bl !decide (x=V.aP)) H) (bS 3) (tC V.aP))) (gZ (jS (Mr.BF true) (bS 3) (bS 2))))
   (p9 (pR (bS 2) (bS 3) (tC (V.bl true))) (p9 (nL (NG K "list" jC (bS 4) (eV (bS 3) jZ))) (o5 (jS Mr.D1 (bS 0) (bS 3)) (iP 3)))) D
   [some (.ref d),some (.ref f),some (.ref p),some (.str n),some (.ref c)] H1:=by
 refine⟨fun m σ' H'=>∃S l o,m=ab.length - S.length/\σ'=[some (V.ref d),some (.ref f),some (.ref p),some (oV o),some (.ref c)]/\J3 ab S0 p c H H1 H' S l o,⟨_,S0,[],some n,rfl,rfl,w0⟩,?_⟩;rintro m σ' H2 ⟨S,l,o,rfl,rfl,w⟩;obtain⟨em,hM⟩:=id w.dm;have hlen:=w.len;cases o with
 |none=>
  walk_at "vc0";exact cO (rest S l none H2 w)
 | some y=>
  walk_at "vc0";refine cS ⟨p,iU S,.inr y,rfl,⟨em,.inl hM⟩,rfl,_,rfl,?_⟩
  by_cases hy:y∈S
  .rw[if_neg (by rw[if_pos rfl,jT,decide_eq_true hy];decide)];exact rest S l (some y) H2 w
  .rw[if_pos (by rw[if_pos rfl,jT,decide_eq_false hy];rfl)];have hky:=w.ou y rfl;refine⟨fun σ3 H3=>σ3=[some (V.ref d),some (.ref f),some (.ref p),some (oV (eJ ab y)),some (.ref c)]/\J3 ab S0 p c H H1 H3 (kJ S y) (l++[y]) (eJ ab y),?_,?_⟩
   .rintro σ3 H3 ⟨rfl,w3⟩;have h3:=w3.len;have h4:=n4 hy;exact⟨_,by omega,kJ S y,rfl,l++[y],eJ ab y,rfl,w3⟩
   .refine aK ?_;walk_at "vc1"
    refine .inl ⟨iU S,.inr y,⟨em,hM⟩,rfl,iZ (by rw[jW];omega),fun ep=>?_⟩;have n1:∀o,upd H2 p o c=H2 c:=fun o=>aG ncp
    refine aK ?_;walk_at "vc0"
    refine⟨.inl ⟨_,bC.of (by rw[n1];exact w.hc)⟩,l.map V.str,by rw[n1];exact w.hc,iZ (by rw[length_map];have:=w.ll;omega),?_⟩;have w3:=w.step hcl hy ep hp hc0 ncp;exact⟨d,dF ab,.inr y,_,rfl,⟨ep0,.inl (w3.s _ _ e0)⟩,rfl,oZ hky,rfl,w3⟩
theorem rS.trans (a:rS p d H H1) (b:rS p d H1 H2):rS p d H H2:=fun c o h n m=>b c o (a c o h n m) n m
theorem rS.fr (a:bZ p H H1) (b:rS p d H1 H2) (hd:H d=none):bZ p H H2:=fun c o h n=>b c o (a c o h n) n (aJ h hd)
theorem rS.kt {c:Nat} (b:rS p d H H1) (hp:Box c H p) (hd:dA H d kvs):iI H H1:=fun a us e=>b a _ e (fun z=>by subst z;obtain⟨i,j,k,e1,_⟩:=hp;rw[e1]at e;cases e) (fun z=>by subst z;obtain⟨ep,e1⟩:=hd;rw[e1]at e;cases e)
theorem K1.to {s:Addr} {xs:List Lt} (h:K1 H s zs xs) (k:iI H H') (e:∀o,H s=some o->H' s=some o):K1 H' s zs xs:=let⟨⟨kvs,⟨ep,hk⟩,hst⟩,a,b,c⟩:=h;⟨⟨kvs,⟨ep,e _ hk⟩,L2.Paired.fN hst fun _ _ q=>⟨q.1,q.2.kp k⟩⟩,a,b,c⟩
theorem RQ {c:Nat} (hp:Box c H p) (hd:dA H d kvs):d≠p:=fun e=>by
 obtain⟨i,j,k,e1,_⟩:=hp;obtain⟨ep,e2⟩:=hd;rw[e,e1]at e2;cases e2
theorem wi_rest {K:Frag} {p s l d:Addr} {zs:List Str} {xs:List Lt} {ab:Hl} {c m:Nat} {H H1:Hp} {Q:VK} {v3 v6 v7:Option V} (hS:K1 H1 s zs xs) (hc:c<700000) (hm:m<=3) (hd0:H d=none) (hU:HX H1 d zs ab) (hin:∀x∈xs,x.n∈ks ab) (hp:Box (c+30) H1 p) (b1:bZ p H H1) (nsd:s≠d) (nsp:s≠p)
  (q:∀v H',(∃ab,GK H' v zs ab)->Box (c+60) H' p->bZ p H H'->Q v H'):
  p9 (P6 (M9 (eV (bS 4) jZ)) (iP 8) (nL (pP P4 [] E0 (eV (bS 0) (eV (bS 5) jZ))))) (w5 (pP FZ [] E0 (eV (bS 1) (eV (bS 5) jZ)))) {nx:=fun x H'=>Q V.aP H',rt:=Q}
   [some (.ref p),some (.ref s),some (.ref l),v3,some (.int m),some (.ref d),v6,v7,none] H1:=by
 refine aK ⟨_,rfl,_,rfl,by omega,by omega,iG (fun i σ H'=>(∃ab',HX H' d zs ab'/\ks ab'=ks ab)/\Box (c+30+2*i) H' p/\rS p d H1 H'/\∃v8,σ=[some (.ref p),some (.ref s),some (.ref l),v3,some (.int m),some (.ref d),v6,v7,v8]) ⟨⟨ab,hU,rfl⟩,hp,fun _ _ h _ _=>h,_,rfl⟩ ?_ ?_⟩
 .rintro i σ H2 hi ⟨⟨ab',hU2,hk⟩,hp2,b2,v8,rfl⟩;have hi:i<m:=by simpa using hi
  walk_at "vc0";exact⟨p,d,zs,ab',c+30+2*i,rfl,hp2,by omega,hU2,hS.le,fun ab3 H3 hU3 hk3 hp3 b3=>⟨⟨ab3,hU3,hk3.trans hk⟩,hp3,b2.trans b3,_,rfl⟩⟩
 .rintro σ H2 ⟨⟨ab',hU2,hk⟩,hp2,b2,v8,rfl⟩;rw[toNat_natCast]at hp2;walk_at "vc0";refine⟨s,d,zs,xs,ab',rfl,hS.to (b2.kt hp hU.el) fun o h=>b2 _ _ h nsp nsd,hU2,fun x hx=>by rw[hk];exact hin x hx,fun v wb H3 hw s3=>q v H3 ⟨wb,hw⟩ (Box.up (p:=p) (Box.same (p:=p) hp2 s3) (by omega)) ((b2.fr b1 hd0).trans (bZ.of s3))⟩
theorem pH {c c':Nat} {d:Addr} {H:Hp} (hp:Box c H p) (hp':Box c' H' p) (b:bZ p H H') (h:H' d=none):H d=none:=by
 cases e:H d with
 |none=>rfl
 | some o=>
  by_cases z:d=p
  .obtain⟨i,j,k,e1,_⟩:=hp';rw[z,e1]at h;cases h
  .rw[b _ _ e z]at h;cases h
theorem lO {d:Addr} {H:Hp} (s:aF H H') (h:H' d=none):H d=none:=by
 cases e:H d with
 |none=>rfl
 |some o=>rw[s _ _ e]at h;cases h
theorem DK {ab:Hl} {du dr:Addr} {v5 v7:Option V} {eu:Nat} (e0:H1 du=some (.dK (dF ab) eu)) (hcl:fV ab) (hl:ab.length<=100) (hn:n∈ks ab) (hc:H1 c=some (.lst [.str n])) (ncu:du≠c)
  (rest:∀l (w:Cl ab n l) H',l.length<=ab.length->bZ c H1 H'->H' c=some (.lst (l.map V.str))->eJ ab (l.getLast w.ne)=none->D.nx [some (.ref d),some (.ref a),some (.ref du),some (.ref dr),some (.str n),v5,some (.ref c),v7] H')
  (bad:∀H',bZ c H1 H'->(∃z,Rg.w6 (eJ ab) z)->D.rt (.bl false) H'):
  pB (gZ (jS (fun x y H Q=>y=V.aP/\Q (V.bl !decide (x=V.aP)) H) (jS Mr.D1 (bS 2) (jS (zO K) (bS 6) (ML (rU fun i=>V.int (-i)) (tC (V.int 1))))) (tC V.aP)))
   (p9 (nL (NG K "list" jC (bS 6) (eV (jS Mr.D1 (bS 2) (jS (zO K) (bS 6) (ML (rU fun i=>V.int (-i)) (tC (V.int 1))))) jZ)))
    (zL (gZ (jS (zZ fun i j=>V.bl (decide (j<i))) (J5 (uY K) (eV (bS 6) jZ)) (J5 MK (eV (bS 2) jZ)))) (w5 (tC (V.bl false))) rP)) D
   [some (.ref d),some (.ref a),some (.ref du),some (.ref dr),some (.str n),v5,some (.ref c),v7] H1:=by
 refine⟨fun m σ' H'=>∃l,∃w:Cl ab n l,m=ab.length+1 - l.length/\σ'=[some (.ref d),some (.ref a),some (.ref du),some (.ref dr),some (.str n),v5,some (.ref c),v7]/\l.length<=ab.length/\bZ c H1 H'/\H' c=some (.lst (l.map V.str)),⟨_,[n],Cl.one,rfl,rfl,by
  have:0<(ks ab).length:=length_pos_of_mem hn;rw[length_map]at this;exact this,bZ.refl,hc⟩,?_⟩
 rintro m σ' H2 ⟨l,w,rfl,rfl,hll,b2,hc2⟩;have hd2:=b2 _ _ e0 ncu;have hlast:uR (l.map V.str) (-1)=some (.str (l.getLast w.ne)):=by
  have e:l.map V.str=(l.dropLast.map V.str)++[.str (l.getLast w.ne)]:=by
   conv=>lhs;rw[<-List.dropLast_concat_getLast w.ne]
   rw[map_append];rfl
  rw[e];exact w8
 have hk:=w.keys hcl hn _ (List.getLast_mem w.ne);have hv:=oZ hk;walk_at "vc0";refine⟨_,bC.of hc2,_,hlast,du,dF ab,.inr _,_,rfl,⟨eu,.inl hd2⟩,rfl,hv,?_⟩;cases ho:eJ ab (l.getLast w.ne)with
 |none=>exact cO (rest l w H2 hll b2 hc2 ho)
 | some y=>
  refine cS ⟨fun σ3 H3=>σ3=[some (.ref d),some (.ref a),some (.ref du),some (.ref dr),some (.str n),v5,some (.ref c),v7]/\(l++[y]).length<=ab.length/\bZ c H1 H3/\H3 c=some (.lst ((l++[y]).map V.str)),?_,?_⟩
  .rintro σ3 H3 ⟨rfl,h1,h2,h3⟩;have:(l++[y]).length=l.length+1:=by rw[length_append];rfl
   exact⟨_,by omega,l++[y],rfl,rfl,h1,h2,w.snoc ho,h3⟩
  .have hlm:(l.map V.str).length=l.length:=length_map ..;have hel:(l.map V.str++[V.str y]).length=l.length+1:=by rw[length_append,length_map];rfl
   have b3:bZ c H1 (upd H2 c (.lst (l.map V.str++[V.str y]))):=fun b o h n=>by rw[aG n];exact b2 b o h n
   have hc3:upd H2 c (.lst (l.map V.str++[V.str y])) c=some (.lst (l.map V.str++[V.str y])):=aB;refine aK ?_;walk_at "vc0"
   refine⟨.inl ⟨_,bC.of hc2⟩,_,bC.of hc2,_,hlast,du,dF ab,.inr _,_,rfl,⟨eu,.inl hd2⟩,rfl,hv,?_⟩;rw[ho];refine⟨_,hc2,iZ (by omega),_,bC.of hc3,du,dF ab,rfl,⟨eu,.inl (b3 _ _ e0 ncu)⟩,_,rfl,?_⟩;have e1:(l++[y]).length=l.length+1:=by rw[length_append];rfl
   rw[hel,dR];refine lX (fun hlt=>bad _ b3 ((w.snoc ho).long hcl hn (by omega))) (fun hlt=>⟨by omega,b3,by rw[map_append];exact hc3⟩)
theorem NI.kt (k:iI H H') (h:NI m H v):NI m H' v:=let⟨ab,p,r⟩:=h;⟨ab,p.kt k,r⟩
theorem IC.kp (k:Kp H H') (h:IC m H v):IC m H' v:=let⟨t,us,e,ht,hl,ha⟩:=h;⟨t,us,e,k.tup ht,hl,fun u hu=>(ha u hu).kp k⟩
theorem IC.up {n:Nat} (h:IC m H v) (hl:m<=n):IC n H v:=let⟨t,us,e,ht,hm,ha⟩:=h;⟨t,us,e,ht,le_trans hm hl,ha⟩
theorem IC.th (h:IC m H v) (hm:m<=100):KJ H v:=by
 obtain⟨t,us,rfl,ht,hl,ha⟩:=h;refine⟨⟨⟨.tup,⟨t,us,rfl,ht⟩,fun _ e=>nomatch e⟩,fun xs e=>?_⟩,fun xs e=>?_⟩
 .rw[dN ht]at e;cases e;exact⟨by omega,ha⟩
 .rw[dN ht]at e;cases e;omega
theorem NI.ts (h:NI m H v):IC m H v:=by
 obtain⟨ab,⟨t,us,rfl,ht,hp⟩,hl,hs⟩:=h;exact⟨t,us,rfl,ht,by rw[<-hp.length];exact hl,fun u hu=>qH (P:=Any H) (fun z u h k=>GL h k) hp hs u hu 2⟩
theorem yM {b1 b2:Bool} (h:b1=b2):(!decide ((if b1=true then Str.ofString "True"else Str.ofString "False")=(if b2=true then Str.ofString "True"else Str.ofString "False")))=false:=by
 rw[h,decide_eq_true rfl];rfl
theorem zN {b1 b2:Bool} {P:Prop} (h1:b1=true↔P) (h2:b2=true↔P):b1=b2:=by
 cases b1<;>cases b2<;>first|rfl|exact absurd (h1.mpr (h2.mp rfl)) Bool.false_ne_true|exact absurd (h2.mpr (h1.mp rfl)) Bool.false_ne_true
section
variable {P:Program} {w:World} {K:Frag} {mg:Str->Option Value} {base:Heap} {fs:Nat->Addr} {fds:Nat->FuncData} {tc:Nat->Addr} {u:Nat->Value}
theorem kZ:aX ["pack","first","letter"] ["pack"] (aD eI):=⟨rfl,rfl,rfl,by decide+kernel,rfl,by decide+kernel,by decide+kernel⟩
set_option maxHeartbeats 4000000 in
theorem zI (T:Txt K mg fs fds tc u):aZ P w K mg base dS 1 (fs 0) (fds 0) ["pack"] vJ:=by
 refine T.mT.F.ok kZ (fun vs H Q E h=>?_) (fun cdv A outer s H vs Q E hr h=>?_)
 .obtain⟨v,xs,rfl,⟨a,us,rfl,ha,hp,hl⟩,q⟩:=h;rfl
 .obtain⟨v,xs,rfl,⟨a,us,rfl,ha,hp,hl⟩,q⟩:=h;refine⟨_,(aE (aR (i:=1) kZ.nd rfl (Or.inl rfl) dQ)
   (aE (cJ PassesOwn.never rfl (gL K (pv 0)) (aO (i:=2) kZ.nd rfl (Or.inl rfl)) (aH (cA (aT (Mr.kE hr) (aS (lP K) (pv 2) aI (fun _ _=>rfl)) (pv 1) (by rfl)) (aH (dE (gD hr) (pv 1) (aS (lP K) (pv 2) aI (fun _ _=>rfl)) (pv 2) rfl)) bI)))
   (aH (aV (eN T2 (by rfl) T.eX fR (aA (oB (pv 1)) aC)))))),?_⟩
  refine aK ?_;walk_at "vc0"
  refine fun p hp0=>aK (rT ha hp hl hp0 fun kvs ep H1 v2 s1 h1 pr=>?_)
  walk_at "vc0";refine⟨⟨kvs,ep,.inl h1⟩,fun v hv=>⟨v,p,kvs,rfl,aB,⟨ep,.inl (by rw[aG (aJ h1 hv)];exact h1)⟩,fun l hl=>?_⟩⟩;have s2:=(aF.upd (o:=AO v p) hv).trans (aF.upd (o:=.tup (kvs.map (·.2))) hl);exact q l _ _ (s1.trans s2) aB (mF.vals (L2.Paired.fN pr fun _ _ h=>h.same s2))
theorem eZ:aX ["above","met","found","start","climbed","name"] ["above"] (aD d7):=⟨rfl,rfl,rfl,by decide+kernel,rfl,by decide+kernel,by decide+kernel⟩
set_option maxHeartbeats 4000000 in
theorem yG (T:Txt K mg fs fds tc u):aZ P w K mg base dS 1 (fs 1) (fds 1) ["above"] R7:=by
 refine T.sJ.F.ok eZ (fun vs H Q E h=>?_) (fun cdv A outer s H vs Q E hr h=>?_)
 .obtain⟨d,ab,rfl,hd,nd,hl,q⟩:=h;rfl
 .obtain⟨d,ab,rfl,hd,nd,hl,q⟩:=h;refine⟨_,(aE (aR (i:=1) eZ.nd rfl (Or.inl rfl) dQ)
   (aE (aR (i:=2) eZ.nd rfl (Or.inl rfl) (eG aC))
   (aE (cJ PassesOwn.never rfl (lV (pv 0)) (aO (i:=3) eZ.nd rfl (Or.inl rfl)) (aE (aR (i:=4) eZ.nd rfl (Or.inl rfl) (eG aC))
   (aE (aR (i:=5) eZ.nd rfl (Or.inl rfl) (pv 3))
   (aE (lH PassesOwn.never (PW.pt (mX (aT jY (pv 5) cK (bG _)) (kC (aT (Mr.kE hr) (pv 5) (pv 1) (by rfl))))) (aE (dE (gD hr) (pv 1) (pv 5) (pv 3) rfl)
   (aE (fX (gB K plainAttrs_list PySem.F.slot_list_append PySem.F.type_list_append eQ (pv 4) (aA (pv 5) aC)))
   (aH (aR (i:=5) eZ.nd rfl (Or.inl rfl) (HI (gD hr) (pv 0) (pv 5) ⟨rfl,by rfl,rfl,rfl⟩))))))
   (aH (cA (PW.pt (mX (aT jY (pv 5) cK (bG _)) (kC (aT lJ (aS (Mr.NJ hr) (pv 1) (pv 5) (fun _ _=>rfl)) (pv 3) (bG _))))) (aH (fX (gB K plainAttrs_list PySem.F.slot_list_append PySem.F.type_list_append eQ (pv 2) (aA (fS (SX K) (pv 4) (gP (gB K plainAttrs_list slot_list_index PySem.F.type_list_index (vB K) (pv 4) (aA (pv 5) aC))) gR) aC)))) bI))))))
   (aH (aV (pv 2)))))),?_⟩
  obtain⟨ep0,e0⟩:=hd;have nu:=zK ab;refine aK ?_;walk_at "vc0"
  refine fun p hp=>?_
  refine aK ?_;walk_at "vc0"
  refine⟨zero_le _,fun f hf=>?_⟩;have s0:aF H (upd (upd H p (HO.dK [] 0)) f (.lst [])):=(aF.upd hp).trans (aF.upd hf);have npf:p≠f:=fun e=>by rw[e,aB]at hf;cases hf
  have hf0:H f=none:=by rw[aG npf.symm]at hf;exact hf
  refine aK ⟨_,rfl,d,dF ab,ep0,rfl,.inl (s0 _ _ e0),nM (fun i σ H'=>UA ab H H' p f i/\∃v3 v4 v5,σ=[some (V.ref d),some (.ref p),some (.ref f),v3,v4,v5]) ⟨⟨s0,[],[],[],⟨0,by rw[aG npf];exact aB⟩,aB,rfl,le_refl _,Rg.Found.nil,nodup_nil,(fun _ h=>nomatch h),(fun _ h=>nomatch h),(fun _ h=>nomatch h)⟩,_,_,_,rfl⟩ (fun i σ H' _ ⟨⟨s',_⟩,_⟩=>.inl (s' _ _ e0)) ?_ ?_⟩
  .rintro i kv σ H1 hkv ⟨⟨s1,F,M,us,⟨em,hM⟩,hu,hul,hFi,fd,ndM,hst,hval,hun⟩,v3,v4,v5,rfl⟩;obtain⟨st,hst0,e1,_⟩:=nE hkv;rw[e1];have hti:=take_snoc hst0;have hstk:st∈ks ab:=mem_of_getElem? hst0;have hnst:st∉(ks ab).take i:=fun hm=>by
    have h1:((ks ab).take (i+1)).Nodup:=List.Nodup.sublist (take_sublist ..) nd;rw[hti]at h1;exact(nodup_append.mp h1).2.2 st hm st (by simp) rfl
   have hil:i<ab.length:=by
    have:=(List.getElem?_eq_some_iff.mp hst0).1;rwa[length_map]at this
   have hnp:∀{b:Addr},H1 b=none->b≠p/\b≠f:=fun h=>⟨fun e=>(by rw[e,hM]at h;cases h),fun e=>(by rw[e,hu]at h;cases h)⟩
   walk_at "vc0";refine aK ?_;walk_at "vc0"
   refine⟨zero_le _,fun c hc=>?_⟩;obtain⟨ncp,ncf⟩:=hnp hc;refine aK ?_;walk_at "vc0"
   have kt:aF H1 (upd H1 c (.lst [])):=aF.upd hc;have w0:zY ab M M us p f c st H (upd H1 c (.lst [])) [] (some st):=⟨s1.trans kt,⟨em,kt _ _ hM⟩,kt _ _ hu,aB,D4.start rfl ndM (fun x hx e=>by
    obtain⟨w,hw,e2⟩:=hval x hx;rw[e]at e2;cases e2;exact hnst hw),hun,(fun y e=>by cases e;exact GO hstk),.inl rfl,fun _ _=>rfl⟩
   have hc0:H c=none:=by
    cases e:H c with
    |none=>rfl
    |some o=>rw[s1 _ _ e]at hc;cases hc
   refine aK (IF e0 hp hc0 ncp ncf npf hl w0 fun l o M' H2 w ho=>?_);have hv:=w.val hval;rw[<-hti]at hv;cases o with
   |none=>
    walk_at "vc0";exact cO ⟨w.end fd (fun _ h=>nomatch h) hst0 hul hFi hst hv,_,rfl⟩
   | some y=>
    walk_at "vc0";obtain⟨em2,hM2⟩:=id w.dm;obtain⟨s',hs',e'⟩:=hv y (ho y rfl);refine cS ⟨p,dF M',.inr y,_,rfl,⟨em2,.inl hM2⟩,rfl,oZ (ho y rfl),?_⟩;rw[e'];refine⟨rfl,lX (fun es=>?_) (fun es=>?_)⟩
    .have es:=V.str.inj es;subst es;have hy:y∈l:=(w.cl.met (ho y rfl)).elim (·.2) fun z=>absurd e' z.1
     refine⟨.inl ⟨us,bC.of w.hu⟩,.inl ⟨_,bC.of w.hc⟩,c,l,y,rfl,rfl,bC.of w.hc,hy,?_,_,rfl,_,bC.of w.hc,fun r hr=>⟨us,?_,iZ ?_,w.ring fd hy hst0 hul hFi hst hv hr hf0 npf,_,rfl⟩⟩
     .have h5:(ks M').length=(ks M).length+l.length:=by rw[w.cl.km,length_append]
      have:=w.len;omega
     .rw[aG (aJ w.hu hr)];exact w.hu
     .omega
    .have hy:y∈ks M:=(w.cl.met (ho y rfl)).elim (fun z=>absurd (by rw[e']at z;have:=Option.some.inj z.1;rw[this];rfl) es) (·.2);exact⟨w.end fd (fun z e=>by cases e;exact hy) hst0 hul hFi hst hv,_,rfl⟩
  .rintro σ H1 ⟨⟨s1,F,M,us,hM,hu,hul,hFi,fd,ndM,hst,hval,hun⟩,v3,v4,v5,rfl⟩;rw[dR,show ab.length=(ks ab).length from(length_map ..).symm,take_length]at hst;walk_at "vc0";refine q f us H1 s1 hf0 hu ?_;rw[<-found_iff fd hst];exact⟨fun e=>length_eq_zero_iff.mp (by rw[<-hul,e];rfl),fun e=>length_eq_zero_iff.mp (by rw[hul,e];rfl)⟩
theorem BA:aX ["thing"] ["thing"] (aD eM):=⟨rfl,rfl,rfl,by decide+kernel,rfl,by decide+kernel,by decide+kernel⟩
set_option maxHeartbeats 4000000 in
theorem BE (T:Txt K mg fs fds tc u):aZ P w K mg base dS 1 (fs 3) (fds 3) ["thing"] qE:=by
 refine T.oM.F.ok BA (fun vs H Q E h=>?_) (fun cdv A outer s H vs Q E hr h=>?_)
 .obtain⟨v,k,rfl,hT,q⟩:=h;rfl
 .obtain⟨v,k,rfl,hT,q⟩:=h;refine⟨_,(aE (cA (PW.pt (m9 (fA (fB (aN (EA K) (by rfl) T.cD eS (aA (pv 0) (aA (lN (v:=.ty "str") rfl T.uT IJ rfl) aC))))) (mR (fA (HQ C8 C8 aI (aN nX (by rfl) T.cH bT (aA (pv 0) aC)) (wA (v:=.int 12) rfl T.rN T.sD)))))) (aH (aV eK)) bI)
   (aH (aV (aN (qZ K rfl) (by rfl) T.iS iR (aA (gK ["sign"] 1 [] ["thing"] (aD eM) rfl rfl rfl (AS (pv 0)) (by decide+kernel) (fun _=>(aO (i:=0) (show(["sign"]:List Str).Nodup by decide+kernel) rfl (Or.inl rfl))) (fun _=>dG) (fun _=>(cR uC (pv 0) (wA (v:=.str "abcdefghijklmnopqrstuvwxyz0123456789") rfl T.wH T.vZ) (by rfl)))) aC))))),?_⟩
  refine aK ?_;walk_at "vc0"
  refine⟨_,hT.is.ty,_,IY k,?_⟩
  by_cases e:k= .str
  .subst e;obtain⟨x,rfl⟩:=hT.is;have hx:=hT.OW x rfl;rw[decide_eq_true rfl];refine cO ?_;walk_at "vc0";refine⟨gO (by omega),?_⟩;refine lX (fun g1=>?_) (fun g1=>?_)
   .refine O9 (fun g2=>?_) (fun g2=>?_)
    .have e:eY (.str x)=false:=by show cI x=false;unfold cI;rw[(by simpa using g2:decide ((x.length:Int)<=12)=false),Bool.and_false];rfl
     rw[<-e];exact q _ (aF.refl _)
    .have g2:decide ((x.length:Int)<=12)=true:=by simpa using g2
     refine⟨_,rfl,x,rfl,fun l hl=>o7 x (fun _=>true) (fun v=>match v with| .str z=>.bl (!(Builtin.Str.occurrences qA z 0 qA.length 1).isEmpty)|v=>v) (fun σ=>∃o,σ=[o]) ⟨_,rfl⟩ (iZ (by omega)) ?_ ?_⟩
     .rintro c σ xs N hc hz ⟨o,rfl⟩ hN;unfold bK;walk_at "vc2";exact⟨_,aB,hz,by rw[nP];exact hN _ ⟨_,rfl⟩⟩
     .refine⟨l,rfl,x.cps.toList.map fun c=>KP c,bC.of ?_,?_⟩
      .rw[aB];refine congrArg (fun z=>some (HO.lst z)) ?_;rw[filter_eq_self.mpr (fun _ _=>rfl),map_map];unfold mN;rw[map_map];rfl
      .rw[xM];have e:eY (.str x)=x.cps.toList.all KP:=by show cI x=_;unfold cI;rw[decide_eq_true g1,g2];rfl
       rw[<-e];exact q _ (aF.upd hl)
   .have e:eY (.str x)=false:=by show cI x=false;unfold cI;rw[decide_eq_false g1];rfl
    rw[<-e];exact q _ (aF.refl _)
  .rw[decide_eq_false e];refine cS ?_;have en:=yL (hT.is.B7 e);rw[<-en];exact q H (aF.refl _)
theorem HW:aX ["things"] ["things"] (aD gQ):=⟨rfl,rfl,rfl,by decide+kernel,rfl,by decide+kernel,by decide+kernel⟩
set_option maxHeartbeats 4000000 in
theorem ID (T:Txt K mg fs fds tc u):aZ P w K mg base dS 1 (fs 4) (fds 4) ["things"] (xW K):=by
 refine T.CH.F.ok HW (fun vs H Q E h=>?_) (fun cdv A outer s H vs Q E hr h=>?_)
 .obtain⟨a,zs,rfl,ha,hl,q⟩:=h;rfl
 .obtain⟨a,zs,rfl,ha,hl,q⟩:=h;refine⟨_,(aH (aV (aN (qZ K rfl) (by rfl) T.iS iR (aA (gK ["at","things"] 1 [0] ["things"] (aD gQ) rfl rfl rfl (eR rfl T.eW (aA (bD wY (aN (jU K) (by rfl) T.cH bT (aA (pv 0) aC)) aI) aC)) (by decide+kernel) (fun _=>(aO (i:=0) (show(["at","things"]:List Str).Nodup by decide+kernel) rfl (Or.inl rfl))) (fun _=>dG) (fun _=>(cR tW (aS (lM K) (pv 1) (pv 0) (fun _ _=>rfl)) (aS (lM K) (pv 1) (bD fM (pv 0) aI) (fun _ _=>rfl)) (bG _)))) aC)))),?_⟩;walk_at "vc0";have hml:(zs.map V.str).length=zs.length:=length_map ..;refine⟨_,rfl,a,_,rfl,bC.of ha,_,_,rfl,rfl,_,rfl,by omega,by omega,fun l hl0=>xZ 0 _ (fun _=>true) (fun v=>match v with| .int j=>.bl (JT (zs.map V.str) j.toNat)|v=>v) (fun σ=>∃o,σ=[o,some (.ref a)]) ⟨_,rfl⟩ (iZ (by omega)) ?_ ?_⟩
  .rintro i σ xs N hi hz ⟨o,rfl⟩ hN;have hi1:i+1<zs.length:=by omega
   have g1:(zs.map V.str)[i]? =some (.str zs[i]):=by simp
   have g2:(zs.map V.str)[i+1]? =some (.str zs[i+1]):=by simp
   have ha':=(bC.of (K:=K) ha).DW (o:=.lst xs) hl0;have h:=hN [some (.int (0+i)),some (.ref a)] ⟨_,rfl⟩;dsimp only at h;rw[if_pos rfl]at h;unfold bK;walk_at "vc2";refine⟨_,ha',_,(by rw[zero_add];exact cQ g1),_,ha',_,(by rw[zero_add];exact cQ (j:=i+1) g2),_,rfl,_,rfl,xs,aB,hz,?_⟩;rw[nP];have e:JT (zs.map V.str) ((0:Int)+(i:Int)).toNat=decide (zs[i].cps.toList<zs[i+1].cps.toList):=by
    rw[zero_add,toNat_natCast];unfold JT;rw[g1,g2]
   rw[e]at h;exact h
  .refine⟨l,rfl,(List.range (zs.length - 1)).map (JT (zs.map V.str)),bC.of ?_,?_⟩
   .rw[aB];refine congrArg (fun z=>some (HO.lst z)) ?_;rw[filter_eq_self.mpr (fun _ _=>rfl),map_map];unfold mN;rw[map_map,hml];have e:((zs.length:Int) - 1).toNat=zs.length - 1:=by omega
    rw[e];refine map_congr_left fun i _=>?_
    show V.bl (JT (zs.map V.str) ((0:Int)+(i:Int)).toNat)=_;rw[zero_add,toNat_natCast];rfl
   .have e:((List.range (zs.length - 1)).map (JT (zs.map V.str))).all id=tF (zs.map V.str):=by
     unfold tF;rw[all_map,hml];rfl
    rw[e];exact q _ (aF.upd hl0)
theorem i7:aX ["_law_script","_law_k","_law_cell","_law_great"] ["_law_script","_law_k"] (aD eA):=⟨rfl,rfl,rfl,by decide+kernel,rfl,by decide+kernel,by decide+kernel⟩
set_option maxHeartbeats 4000000 in
theorem xX (T:Txt K mg fs fds tc u):aZ P w K mg base dS 1 (fs 9) (fds 9) ["_law_script","_law_k"] (QS K):=by
 refine T.tD.F.ok i7 (fun vs H Q E h=>?_) (fun cdv A outer s H vs Q E hr h=>?_)
 .obtain⟨a,ns,k,rfl,hS,hk0,hk,q⟩:=h;rfl
 .obtain ⟨a,ns,k,rfl,hS,hk0,hk,q⟩:=h;refine⟨_,(aE (aR (i:=2) i7.nd rfl (Or.inl rfl) aI)
   (aE (cA (aT NL (pv 1) (aN (jU K) (by rfl) T.cH bT (aA (pv 0) aC)) (bG _)) (aH (aR (i:=2) i7.nd rfl (Or.inl rfl) (aS (lM K) (pv 0) (pv 1) (fun _ _=>rfl)))) bI)
   (aE (aR (i:=3) i7.nd rfl (Or.inl rfl) (bD lE (bD iL (pv 2) (bD KI (bD wK aI aI) (bD wK aI aI))) (eN uW (by rfl) T.uF JQ (aA (cR RT (pv 2) (bD wK aI aI) (bG _)) aC))))
   (aH (aV (eG (aA (pv 3) (aA (bD iL (bD fM (bD fM (bD iL (pv 2) aI) (bD lE aI (pv 1))) aI) aI) (aA aI aC))))))))),?_⟩
  have fin:∀c:Int,p9
     (o5
      (jS (rI DV fun i j=>V.int (i*j))
       (jS (rI (fun x j=>0<j) fun i j=>V.int (i % j)) (bS 2)
        (jS (rI IntMulOk fun i j=>V.int (i*j))
         (jS (rI (fun i j=>0<=j/\↑(Builtin.Int.intBits i)*j<=2^27) fun i j=>V.int (i^j.toNat)) (tC (V.int 10)) (tC (V.int 60)))
         (jS (rI (fun i j=>0<=j/\↑(Builtin.Int.intBits i)*j<=2^27) fun i j=>V.int (i^j.toNat)) (tC (V.int 10)) (tC (V.int 30)))))
       (J5 (fun xs H Q=>(∃i,xs=[V.int i]/\Q (V.int i) H)\/ ∃k,xs=[V.bl k]/\Q (V.int (if k=true then 1 else 0)) H)
        (eV (jS (zZ fun i j=>V.bl (decide (j<=i))) (bS 2) (jS (rI (fun i j=>0<=j/\↑(Builtin.Int.intBits i)*j<=2^27) fun i j=>V.int (i^j.toNat)) (tC (V.int 10)) (tC (V.int 18)))) jZ)))
      (iP 3))
     (w5
      (AH
       (eV (bS 3)
        (eV
         (jS (rI (fun x j=>0<j) fun i j=>V.int (i % j))
          (jS (zZ fun i j=>V.int (i+j))
           (jS (zZ fun i j=>V.int (i+j)) (jS (rI (fun x j=>0<j) fun i j=>V.int (i % j)) (bS 2) (tC (V.int 2305843009213693951))) (jS (rI DV fun i j=>V.int (i*j)) (tC (V.int 7919)) (bS 1)))
           (tC (V.int 3)))
          (tC (V.int 2305843009213693951)))
         (eV (tC (V.int 0)) jZ)))))
     {nx:=fun x H'=>Q V.aP H',rt:=Q} [some (.ref a),some (.int k),some (.int c),none] H:=fun c=>by
   refine aK ?_;walk_at "vc0"
   refine⟨by decide,by decide+kernel,by decide,by decide+kernel,RA,MP,by decide,by decide+kernel,GN,by decide,.inl ⟨by decide,by decide⟩,by decide,by decide,fun p hp=>q p _ hp ⟨_,_,_,aB,Int.mul_nonneg (emod_nonneg _ (Int.ne_of_gt MP)) R6,emod_nonneg _ (by decide),emod_lt_of_pos _ (by decide),by decide,by decide⟩ (aF.upd hp)⟩
  refine aK ?_;walk_at "vc0"
  refine aK ?_;walk_at "vc0"
  refine⟨_,hS,?_⟩;refine O9 (fun hlt=>?_) (fun _=>fin 0);obtain⟨c,hc⟩:=IK hk0 (by simpa using hlt);exact⟨_,hS,_,hc,fin c⟩
theorem gX:aX ["_law_hand_here","_law_many","_law_digit","_law_mixed"] ["_law_hand_here","_law_many"] (aD eC):=⟨rfl,rfl,rfl,by decide+kernel,rfl,by decide+kernel,by decide+kernel⟩
set_option maxHeartbeats 4000000 in
theorem yE (T:Txt K mg fs fds tc u):aZ P w K mg base dS 1 (fs 10) (fds 10) ["_law_hand_here","_law_many"] sN:=by
 refine T.aQ.F.ok gX (fun vs H Q E h=>?_) (fun cdv A outer s H vs Q E hr h=>?_)
 .obtain⟨p,n,c,rfl,hp,hc,hn0,hn,q⟩:=h;rfl
 .obtain⟨p,n,c,rfl,hp,hc,hn0,hn,q⟩:=h;refine⟨_,(aE (cA (aT HS (aS (lM K) (pv 0) aI (fun _ _=>rfl)) aI (bG _)) (aE (aR (i:=2) gX.nd rfl (Or.inl rfl) (bD iL (aS (lM K) (pv 0) aI (fun _ _=>rfl)) (pv 1)))
   (aE (kW (bD rH (aS (lM K) (pv 0) aI (fun _ _=>rfl)) (pv 1)) (pA (pv 0) aI set_list))
   (aH (aV (pv 2))))) bI)
   (aE (kW (bD fM (aS (lM K) (pv 0) aI (fun _ _=>rfl)) aI) (pA (pv 0) aI set_list))
   (aE (aR (i:=3) gX.nd rfl (Or.inl rfl) (bD fM (bD fM (aS (lM K) (pv 0) aI (fun _ _=>rfl)) (bD lE (bD lE aI (aS (lM K) (pv 0) aI (fun _ _=>rfl))) (aS (lM K) (pv 0) aI (fun _ _=>rfl)))) aI))
   (aE (aR (i:=3) gX.nd rfl (Or.inl rfl) (bD iL (bD lE (pv 3) (bD fM aI (bD lE aI (aS (lM K) (pv 0) aI (fun _ _=>rfl))))) aI))
   (aE (aR (i:=3) gX.nd rfl (Or.inl rfl) (bD iL (bD lE (pv 3) (bD fM (bD iL (pv 3) aI) (bD lE aI (aS (lM K) (pv 0) aI (fun _ _=>rfl))))) aI))
   (aH (aV (bD iL (bD fM (bD rH (pv 3) aI) (bD rH (pv 3) aI)) (pv 1))))))))),?_⟩
  obtain⟨a,b,i,he,ha,hb0,hb,hi0,hi⟩:=hp;refine aK ?_;walk_at "vc0"
  refine⟨_,bC.of he,_,rfl,_,rfl,?_⟩;refine O9 (fun _=>?_) (fun _=>?_)
  .refine aK ?_;walk_at "vc0"
   refine⟨_,bC.of he,_,rfl,_,rfl,hn0,?_⟩;refine aK ?_;walk_at "vc0"
   refine⟨_,bC.of he,_,rfl,_,rfl,⟨hn0,Int.lt_trans hn (by decide)⟩,_,he,_,rfl,?_⟩;exact q _ _ (emod_nonneg _ (by omega)) (emod_lt_of_pos _ hn0) ⟨_,_,_,aB,Int.ediv_nonneg ha (by omega),hb0,hb,hi0,by omega⟩ bZ.upd
  .refine aK ?_;walk_at "vc0"
   refine⟨_,bC.of he,_,rfl,_,rfl,_,he,_,rfl,?_⟩;have hu:upd H p (HO.lst ([V.int a,V.int b,V.int i].set (Int.toNat 2) (V.int (i+1)))) p=some (.lst [.int a,.int b,.int (i+1)]):=aB;refine aK ?_;walk_at "vc0"
   refine⟨_,bC.of hu,_,rfl,_,bC.of hu,_,rfl,_,rfl,.inr ⟨by omega,by omega⟩,_,bC.of hu,_,rfl,_,rfl,.inr ⟨by omega,by omega⟩,_,rfl,?_⟩;generalize b+65537*(i+1)*(i+1)+11=O;refine aK ?_;walk_at "vc0"
   refine⟨_,bC.of hu,_,rfl,_,rfl,.inl ⟨by decide,by decide⟩,.inr ⟨by omega,by omega⟩,by decide,?_⟩;have o0:0<=O*(48271+2*(i+1)) % 2305843009213693921:=emod_nonneg _ (by decide);have o1:O*(48271+2*(i+1)) % 2305843009213693921<2305843009213693921:=emod_lt_of_pos _ (by decide);generalize O*(48271+2*(i+1)) % 2305843009213693921=O2 at o0 o1;refine aK ?_;walk_at "vc0"
   refine⟨by decide,_,bC.of hu,_,rfl,_,rfl,.inl ⟨by decide,by decide⟩,.inl ⟨by omega,by omega⟩,by decide,?_⟩;refine⟨⟨by decide,by decide⟩,⟨by decide,by decide⟩,hn0,?_⟩;exact q _ _ (emod_nonneg _ (by omega)) (emod_lt_of_pos _ hn0) ⟨_,_,_,hu,ha,hb0,hb,by omega,by omega⟩ bZ.upd
theorem kB:aX ["_law_pack_here","_law_stand_here","_law_letter_here"] ["_law_pack_here"] (aD dO):=⟨rfl,rfl,rfl,by decide+kernel,rfl,by decide+kernel,by decide+kernel⟩
set_option maxHeartbeats 4000000 in
theorem wB (T:Txt K mg fs fds tc u):aZ P w K mg base dS 1 (fs 15) (fds 15) ["_law_pack_here"] zA:=by
 refine T.lD.F.ok kB (fun vs H Q E h=>?_) (fun cdv A outer s H vs Q E hr h=>?_)
 .obtain⟨v,xs,rfl,⟨a,us,rfl,ha,hp,hl⟩,q⟩:=h;rfl
 .obtain⟨v,xs,rfl,⟨a,us,rfl,ha,hp,hl⟩,q⟩:=h;refine⟨_,(aE (aR (i:=1) kB.nd rfl (Or.inl rfl) dQ)
   (aE (cJ PassesOwn.never rfl (gL K (pv 0)) (aO (i:=2) kB.nd rfl (Or.inl rfl)) (aH (cA (aT (Mr.kE hr) (aS (lP K) (pv 2) aI (fun _ _=>rfl)) (pv 1) (by rfl)) (aH (dE (gD hr) (pv 1) (aS (lP K) (pv 2) aI (fun _ _=>rfl)) (pv 2) rfl)) bI)))
   (aH (aV (pv 1))))),?_⟩
  refine aK ?_;walk_at "vc0"
  refine fun p hp0=>aK (rT ha hp hl hp0 fun kvs ep H1 v2 s1 h1 pr=>?_)
  walk_at "vc0";exact q p kvs ep H1 s1 hp0 h1 pr
theorem mK:aX ["_law_letter_here","_law_row"] ["_law_letter_here"] (aD cC):=⟨rfl,rfl,rfl,by decide+kernel,rfl,by decide+kernel,by decide+kernel⟩
set_option maxHeartbeats 4000000 in
theorem tO (T:Txt K mg fs fds tc u):aZ P w K mg base dS 1 (fs 16) (fds 16) ["_law_letter_here"] MJ:=by
 refine T.j0.F.ok mK (fun vs H Q E h=>?_) (fun cdv A outer s H vs Q E hr h=>?_)
 .obtain⟨v,x,rfl,hL,q⟩:=h;rfl
 .obtain⟨v,x,rfl,hL,q⟩:=h;refine⟨_,(aE (aR (i:=1) mK.nd rfl (Or.inr rfl) (aS (lP K) (pv 0) aI (fun _ _=>rfl)))
   (aH (aV (gK ["_law_at","_law_row","_law_letter_here"] 1 [1,0] ["_law_letter_here","_law_row"] (aD cC) rfl rfl rfl (eR rfl T.eW (aA (aN (LO K) (by rfl) T.cH bT (aA (pv 1) aC)) aC)) (by decide+kernel) (fun _=>(aO (i:=0) (show(["_law_at","_law_row","_law_letter_here"]:List Str).Nodup by decide+kernel) rfl (Or.inl rfl))) (fun _=>(qB (PW.pt (mX (aT rB (aS (lP K) (pv 1) (pv 0) (fun _ _=>rfl)) (aS (lP K) (pv 2) aI (fun _ _=>rfl)) (bG _)) (kC (aT (FV K) (aS (lP K) (pv 1) (pv 0) (fun _ _=>rfl)) (fS vG (pv 1) (gP (bD fM (pv 0) aI)) gR) (by rfl))))))) (fun _=>(aS (lP K) (pv 1) (pv 0) (fun _ _=>rfl))))))),?_⟩
  obtain⟨t,r,rfl,ht,hr⟩:=hL.at';have hlr:=hL.ok.lr;have hml:(x.row.map V.str).length=x.row.length:=length_map ..;refine aK ?_;walk_at "vc0"
  refine⟨_,bU.of ht,_,cQ (j:=3) rfl,_,rfl,r,_,rfl,bU.of hr,_,rfl,by omega,by omega,fun l hl0=>o9 (E6 0 _) x.row.length (keepR x) (fun i=>.str (JX x i)) (fun σ=>∃o,σ=[o,some (.ref r),some (.ref t)]) ⟨_,rfl⟩ hl0 (iZ (by omega)) (fun H' s'=>by show Int.toNat _<=_;omega) (fun i H' hi s'=>by show _<Int.toNat _;omega) ?_ ?_⟩
  .rintro i v σ H1 H2 ys N hi ⟨o,rfl⟩ s1 h1 hz ⟨rfl,rfl⟩ hN;unfold bK;walk_at "vc0";have e1:x.row[i]? =some (JX x i):=by unfold JX;rw[getElem?_eq_getElem hi];rfl
   have g1:uR (x.row.map V.str) (0+(i:Int))=some (.str (JX x i)):=by
    rw[zero_add];exact cQ (by rw[getElem?_map,e1];rfl)
   have hr2:=s1 _ _ hr;have ht2:=s1 _ _ ht;refine⟨_,bU.of hr2,_,g1,_,bU.of ht2,_,C4,rfl,?_⟩
   by_cases en:JX x i=x.n
   .rw[if_neg (by rw[decide_eq_true (by rw[en])];decide)];have ep:keepR x i=false:=by unfold keepR;rw[decide_eq_true en];rfl
    exact hN _ _ ⟨_,rfl⟩ bZ.refl (by rw[ep,if_neg Bool.false_ne_true];exact h1)
   .rw[if_pos (by rw[decide_eq_false (fun z=>en (V.str.inj z))];rfl)];refine⟨_,bU.of hr2,_,g1,_,hr2,fun p H' s' hp'=>⟨_,.inr (bU.of hp'),rfl,?_,?_⟩⟩
    .rw[zero_add,sQ,<-map_drop];exact iC
    rw[zero_add,sQ,<-map_drop,qI,<-zero_add (i:Int)];cases ec:(x.row.drop (i+1)).contains (JX x i)with
    |true=>
     have ep:keepR x i=false:=by unfold keepR;rw[ec,Bool.not_true,Bool.and_false]
     exact kL (hN _ _ ⟨_,rfl⟩ (bZ.of s') (by rw[ep,if_neg Bool.false_ne_true];exact s' _ _ h1))
    |false=>
     have ep:keepR x i=true:=by unfold keepR;rw[decide_eq_false en,ec];rfl
     refine o4 ⟨_,bU.of (s' _ _ hr2),_,g1,ys,s' _ _ h1,hz,?_⟩;exact hN _ _ ⟨_,rfl⟩ ((bZ.of s').trans bZ.upd) (by rw[ep,if_pos rfl];exact aB)
  .intro H' s' h';exact q l H' s' hl0 (by rw[h'];unfold aW;rw[map_map];rfl)
theorem gI:aX ["_law_up_here","_law_found","_law_done","_law_name_here","_law_trail"] ["_law_up_here"] (aD dJ):=⟨rfl,rfl,rfl,by decide+kernel,rfl,by decide+kernel,by decide+kernel⟩
set_option maxHeartbeats 4000000 in
theorem wJ (T:Txt K mg fs fds tc u):aZ P w K mg base dS 1 (fs 18) (fds 18) ["_law_up_here"] MV:=by
 refine T.pQ.F.ok gI (fun vs H Q E h=>?_) (fun cdv A outer s H vs Q E hr h=>?_)
 .obtain⟨d,zs,ab,rfl,hU,hz,q⟩:=h;rfl
 .obtain⟨d,zs,ab,rfl,hU,hz,q⟩:=h;refine⟨_,(aE (rL (i:=1) (j:=2) rfl gI.nd rfl rfl (by decide) rfl rfl (aA (eG aC) (aA dQ aC)) rfl)
   (aE (cJ PassesOwn.never rfl (lV (pv 0)) (aO (i:=3) gI.nd rfl (Or.inl rfl)) (aE (aR (i:=4) gI.nd rfl (Or.inl rfl) (eG aC))
   (aE (lH PassesOwn.never (PW.pt (mX (aT jY (pv 3) cK (bG _)) (kC (aT (Mr.kE hr) (pv 3) (pv 2) (by rfl))))) (aE (dE (gD hr) (pv 2) (pv 3) eK rfl)
   (aE (fX (gB K plainAttrs_list PySem.F.slot_list_append PySem.F.type_list_append eQ (pv 4) (aA (pv 3) aC)))
   (aH (aR (i:=3) gI.nd rfl (Or.inl rfl) (aS (Mr.NJ hr) (pv 0) (pv 3) (fun _ _=>rfl)))))))
   (aH (cA (aT (TR K) (pv 3) (pv 4) (by rfl)) (aH (fX (gB K plainAttrs_list PySem.F.slot_list_append PySem.F.type_list_append eQ (pv 1) (aA (fS (SX K) (pv 4) (gP (gB K plainAttrs_list slot_list_index PySem.F.type_list_index (vB K) (pv 4) (aA (pv 3) aC))) gR) aC)))) bI)))))
   (aH (aV (pv 1))))),?_⟩
  obtain⟨⟨ep0,e0⟩,hup⟩:=hU;have hl8:=hup.len;refine aK ?_;walk_at "vc0"
  refine⟨zero_le _,fun f hf p hp1=>?_⟩;have npf:p≠f:=fun e=>by rw[e,aB]at hp1;cases hp1
  have hp:H p=none:=by rw[aG npf]at hp1;exact hp1
  have s0:aF H (upd (upd H f (HO.lst [])) p (.dK [] 0)):=(aF.upd hf).trans (aF.upd hp1);refine aK ⟨_,rfl,d,dF ab,ep0,rfl,.inl (s0 _ _ e0),nM (fun i σ H'=>UL ab H H' p f i/\∃v3 v4,σ=[some (V.ref d),some (.ref f),some (.ref p),v3,v4]) ⟨⟨s0,[],[],[],⟨0,aB⟩,nodup_nil,(fun _ h=>nomatch h),by rw[aG npf.symm];exact aB,.nil,le_refl _⟩,_,_,rfl⟩ (fun i σ H' _ ⟨⟨s',_⟩,_⟩=>.inl (s' _ _ e0)) ?_ ?_⟩
  .rintro i kv σ H1 hkv ⟨⟨s1,S,rs,us,⟨em,hM⟩,ndS,hsub,hu,hrs,hri⟩,v3,v4,rfl⟩;obtain⟨st,hst0,e1,_⟩:=nE hkv;rw[e1];have hstk:st∈ks ab:=mem_of_getElem? hst0;have hil:i<ab.length:=by
    have:=(List.getElem?_eq_some_iff.mp hst0).1;rwa[length_map]at this
   walk_at "vc0";refine aK ?_;walk_at "vc0"
   refine⟨zero_le _,fun c hc=>?_⟩;have kt:aF H1 (upd H1 c (.lst [])):=aF.upd hc;have ncp:c≠p:=fun e=>by rw[e,hM]at hc;cases hc
   have ncf:c≠f:=fun e=>by rw[e,hu]at hc;cases hc
   have hc0:H c=none:=by
    cases e:H c with
    |none=>rfl
    |some o=>rw[s1 _ _ e]at hc;cases hc
   have w0:J3 ab S p c H (upd H1 c (.lst [])) (upd H1 c (.lst [])) S [] (some st):=⟨s1.trans kt,fun _ _ h _ _=>h,⟨em,kt _ _ hM⟩,aB,ndS,hsub,(fun _ h=>nomatch h),zero_le _,fun y e=>by cases e;exact hstk⟩;refine aK (HR (K:=K) e0 hp hc0 ncp hup.cl (by omega) w0 fun S' l o H2 w=>?_);have hu2:=w.b _ _ (kt _ _ hu) npf.symm ncf.symm;have hrl:=hrs.length;have hS8:=w.len;have hl8':=w.ll;have hlm:(l.map V.str).length=l.length:=length_map ..;have hrs2:Paired (UM ab p f H H2) rs us:=L2.Paired.fN hrs fun r u ⟨b,e,n1,n2,h0,h1,hh⟩=>⟨b,e,n1,n2,h0,w.b _ _ (kt _ _ h1) n1 (fun e=>by rw[e,hc]at h1;cases h1),hh⟩
   have fin:UL ab H H2 p f (i+1):=⟨w.s,S',rs,us,w.dm,w.nd,w.sub,hu2,hrs2,by omega⟩;cases o with
   |none=>
    walk_at "vc0";refine⟨_,.inl (bC.of w.hc),rfl,iC,?_⟩;rw[show FG (oV none) (l.map V.str)=false from LU];exact kL ⟨fin,_,rfl⟩
   | some y=>
    walk_at "vc0";refine⟨_,.inl (bC.of w.hc),rfl,iC,?_⟩;rw[show FG (oV (some y)) (l.map V.str)=l.contains y from qI];cases hcn:l.contains y with
    |false=>exact kL ⟨fin,_,rfl⟩
    | true=>
     have hy:y∈l:=List.contains_iff_mem.mp hcn;obtain⟨dr1,dr2,dr3⟩:=FW hy;refine o4 ⟨.inl ⟨us,bC.of hu2⟩,.inl ⟨_,bC.of w.hc⟩,c,l,y,rfl,rfl,bC.of w.hc,hy,by omega,_,rfl,_,bC.of w.hc,fun r hr=>⟨us,?_,iZ (by omega),?_⟩⟩
     .rw[aG (aJ hu2 hr)];exact hu2
     rw[vF,<-map_drop];obtain⟨em2,hM2⟩:=id w.dm;have nrp:r≠p:=(aJ hM2 hr).symm;have nrf:r≠f:=(aJ hu2 hr).symm;have hr0:H r=none:=by
      cases e:H r with
      |none=>rfl
      |some o=>rw[w.s _ _ e]at hr;cases hr
     have s3:∀o1 o2,aF H (upd (upd H2 r o1) f o2):=fun o1 o2 b z h=>by
      rw[aG (aJ h hf),aG (aJ (w.s _ _ h) hr)];exact w.s _ _ h
     refine⟨⟨s3 _ _,S',rs++[l.drop (l.idxOf y)],us++[.ref r],⟨em2,by rw[aG npf,aG nrp.symm];exact hM2⟩,w.nd,w.sub,aB,mF.snoc (L2.Paired.fN hrs2 fun r' u ⟨b,e,n1,n2,h0,h1,hh⟩=>⟨b,e,n1,n2,h0,by rw[aG n2,aG (aJ h1 hr)];exact h1,hh⟩) ⟨r,rfl,nrp,nrf,hr0,by rw[aG nrf];exact aB,dr1,by omega,fun x hx=>w.sub x (w.ls x (dr2 x hx))⟩ rfl,by rw[length_append];show rs.length+1<=_;omega⟩,_,rfl⟩
  .rintro σ H1 ⟨⟨s1,S,rs,us,hM,ndS,hsub,hu,hrs,hri⟩,v3,v4,rfl⟩;walk_at "vc0";exact q f us rs H1 s1 hf hu (L2.Paired.fN hrs fun r u ⟨b,e,n1,n2,h0,h1,hh⟩=>⟨b,e,h0,h1,hh⟩) (by rw[dR]at hri;omega)
theorem kP:aX ["_law_stand_here","_law_held","_law_ring","_law_free"] ["_law_stand_here","_law_held","_law_ring"] (aD bQ):=⟨rfl,rfl,rfl,by decide+kernel,rfl,by decide+kernel,by decide+kernel⟩
set_option maxHeartbeats 4000000 in
theorem q0 (T:Txt K mg fs fds tc u):aZ P w K mg base dS 1 (fs 19) (fds 19) ["_law_stand_here","_law_held","_law_ring"] Q3:=by
 refine T.mE.F.ok kP (fun vs H Q E h=>?_) (fun cdv A outer s H vs Q E hr h=>?_)
 .obtain⟨s,h,r,zs,xs,rs,rfl,hS,hh,hr1,hne,hl8,q⟩:=h;rfl
 .obtain⟨s,h,r,zs,xs,rs,rfl,hS,hh,hr1,hne,hl8,q⟩:=h;refine⟨_,(aE (zR (i:=3) ["_law_name_here","_law_held"] 1 [1] ["_law_stand_here","_law_held","_law_ring","_law_free"] (aD bQ) rfl rfl rfl kP.nd rfl rfl (oH K (pv 2)) (by decide+kernel) (fun _=>(aO (i:=0) (show(["_law_name_here","_law_held"]:List Str).Nodup by decide+kernel) rfl (Or.inl rfl))) (fun _=>(qB (aT (Mr.kE hr) (pv 0) (pv 1) (by rfl)))) (fun _=>(pv 0)))
   (aH (aV (aS (lP K) (aN (Mr.T9 K hr) (by rfl) T.qR AJ (aA (gK ["_law_name_here","_law_stand_here"] 1 [0] ["_law_stand_here","_law_held","_law_ring","_law_free"] (aD bQ) rfl rfl rfl (oH K (pv 3)) (by decide+kernel) (fun _=>(aO (i:=0) (show(["_law_name_here","_law_stand_here"]:List Str).Nodup by decide+kernel) rfl (Or.inl rfl))) (fun _=>dG) (fun _=>(GV (aT (Mr.inD hr) (pv 0) (pv 1) (by rfl)) (bP (aA aI (aA (aS (lP K) (aS (Mr.NJ hr) (pv 1) (pv 0) (fun _ _=>rfl)) aI (fun _ _=>rfl)) (aA (pv 0) aC)))) (bP (aA aI (aA aI (aA (pv 0) aC))))))) aC)) aI (fun _ _=>rfl))))),?_⟩
  obtain⟨⟨kvs,⟨ek,hk⟩,hst⟩,hnm,hndS,hz8⟩:=hS;obtain⟨eh,he⟩:=hh;refine aK ?_;walk_at "vc0"
  refine⟨_,rfl,r,rfl,⟨_,bC.of hr1⟩,fun l hl0=>rQ hl0 (bC.of hr1) (fun _=>true) (fun v=>v) (fun σ=>∃o,σ=[o,some (.ref h)]) ⟨_,rfl⟩ (iZ (by rw[length_map];omega)) ?_ ?_⟩
  .rintro x σ xs N hx hz ⟨o,rfl⟩ hN;obtain⟨n,hn,rfl⟩:=mem_map.mp hx;unfold bK;walk_at "vc0";refine⟨h,[],.inr n,rfl,⟨eh,.inl (aF.upd hl0 _ _ he)⟩,rfl,?_⟩;refine⟨_,rfl,?_⟩;rw[if_pos (by rw[if_pos rfl];rfl)];refine⟨xs,aB,hz,?_⟩;rw[OO];exact hN _ ⟨_,rfl⟩
  .rw[show(rs.map V.str).filter (fun _=>true)=rs.map V.str from filter_eq_self.mpr (by simp),map_id'];have s1:aF H (upd H l (.lst (rs.map V.str))):=aF.upd hl0;refine⟨_,rfl,l,rfl,⟨_,bC.of aB⟩,fun l2 hl2=>EG (bC.of aB) (fun _=>true) (fun H' n v=>∃a b,Tr H' (JV (a,b,n)) v) (fun σ=>∃o,σ=[o,some (.ref s)]) ⟨_,rfl⟩ hl2 (iZ (by omega)) (fun _ _ _ _ k ⟨a,b,t⟩=>⟨a,b,t.kp k⟩) ?_ ?_⟩
   .rintro n σ H1 ys N hn ⟨o,rfl⟩ s2 e2 hz hN1 hN2;unfold bK;walk_at "vc2";have hk1:=s2 _ _ (s1 _ _ hk);have hst1:Paired (mF H1) xs kvs:=L2.Paired.fN hst fun _ _ h=>(h.same s1).same s2
    rcases mF.val (n:=n) hst1 with⟨hv,_⟩|⟨x,hx,en,u,hv,hL⟩
    .refine⟨s,kvs,.inr n,rfl,⟨ek,.inl hk1⟩,rfl,_,rfl,?_⟩;rw[if_neg (by rw[if_neg Bool.false_ne_true,hv];exact Bool.false_ne_true)];exact⟨gO (by decide),fun t ht=>⟨ys,aF.upd ht _ _ e2,hz,hN2 rfl _ _ _ ⟨_,rfl⟩ (aF.upd ht) ⟨0,0,.tup aB (.cons (.int _) (.cons (.int _) (.cons (.str _) .nil)))⟩⟩⟩
    .obtain⟨a,r',rfl,ha,hr'⟩:=hL.at';refine⟨s,kvs,.inr n,rfl,⟨ek,.inl hk1⟩,rfl,_,rfl,?_⟩;rw[if_pos (by rw[if_neg Bool.false_ne_true,hv];rfl)];exact⟨s,kvs,.inr n,_,rfl,⟨ek,.inl hk1⟩,rfl,hv,a,rfl,_,bU.of ha,_,cQ (j:=1) rfl,gO (by decide),fun t ht=>⟨ys,aF.upd ht _ _ e2,hz,hN2 rfl _ _ _ ⟨_,rfl⟩ (aF.upd ht) ⟨1,x.d,.tup aB (.cons (.int _) (.cons (.int _) (.cons (.str _) .nil)))⟩⟩⟩
   .intro H1 ys s2 hpr e2;rw[show rs.filter (fun _=>true)=rs from filter_eq_self.mpr (by simp)]at hpr;obtain⟨zs,hzs,ezs⟩:=GC hpr;have hlz:=hzs.length;have hl0:0<zs.length:=by
     have:=congrArg List.length ezs;rw[length_map]at this;have:=length_pos_iff.mpr hne;omega
    refine⟨l2,ys,zs.map JV,rfl,bC.of e2,(o6 hzs).rep,by rw[length_map];exact hl0,NQ zs,?_⟩;have hle:=Mr.rA (Mr.JY (zs.map JV)) ((zs.map JV).length - 1);generalize hj:argBest (Mr.JY (zs.map JV)) ((zs.map JV).length - 1)=j at hle⊢
    rw[length_map]at hle;have hjl:j<ys.length:=by omega
    have hyj:ys[j]? =some ys[j]:=getElem?_eq_getElem hjl;obtain⟨z,hz,hz'⟩:=L2.Paired.lY hzs hyj;obtain⟨b,e,hb⟩:=RO hz';rw[getD_eq_getElem?_getD,hyj];refine⟨b,e,_,bU.of hb,_,cQ (j:=2) rfl,q z.2.2 H1 ?_ (s1.trans s2)⟩;rw[<-ezs];exact mem_map.mpr ⟨z,mem_of_getElem? hz,rfl⟩
theorem iA:aX ["_law_stand_here","_law_up_here","_law_shown_here","_law_name_here"] ["_law_stand_here","_law_up_here"] (aD cV):=⟨rfl,rfl,rfl,by decide+kernel,rfl,by decide+kernel,by decide+kernel⟩
set_option maxHeartbeats 4000000 in
theorem vU (T:Txt K mg fs fds tc u):aZ P w K mg base dS 1 (fs 20) (fds 20) ["_law_stand_here","_law_up_here"] FZ:=by
 refine T.pU.F.ok iA (fun vs H Q E h=>?_) (fun cdv A outer s H vs Q E hr h=>?_)
 .obtain⟨s,d,zs,xs,ab,rfl,hS,hU,hin,q⟩:=h;rfl
 .obtain⟨s,d,zs,xs,ab,rfl,hS,hU,hin,q⟩:=h;refine⟨_,(aE (aR (i:=2) iA.nd rfl (Or.inl rfl) dQ)
   (aE (cJ PassesOwn.never rfl (lV (pv 0)) (aO (i:=3) iA.nd rfl (Or.inl rfl)) (aH (lH PassesOwn.never (PW.pt (mX (aT jY (pv 3) cK (bG _)) (kC (aT (Mr.kE hr) (pv 3) (pv 2) (by rfl))))) (aE (dE (gD hr) (pv 2) (pv 3) eK rfl)
   (aH (aR (i:=3) iA.nd rfl (Or.inl rfl) (aS (Mr.NJ hr) (pv 1) (pv 3) (fun _ _=>rfl))))))))
   (aH (aV (eN (HZ K) (by rfl) T.eX fR (aA (aN (RI K hr) (by rfl) T.gY oG (aA (gK ["_law_name_here","_law_up_here"] 1 [1] ["_law_stand_here","_law_up_here","_law_shown_here","_law_name_here"] (aD cV) rfl rfl rfl (lV (pv 2)) (by decide+kernel) (fun _=>(aO (i:=0) (show(["_law_name_here","_law_up_here"]:List Str).Nodup by decide+kernel) rfl (Or.inl rfl))) (fun _=>dG) (fun _=>(bP (aA (pv 0) (aA (aS (Mr.NJ hr) (pv 1) (pv 0) (fun _ _=>rfl)) aC))))) aC)) aC)))))),?_⟩
  obtain⟨⟨kvs,⟨ek,hk⟩,hst⟩,hnm,hndS,hz8⟩:=hS;obtain⟨⟨ep0,e0⟩,hup⟩:=hU;have hl8:=hup.len;refine aK ?_;walk_at "vc0"
  refine fun p hp=>?_
  have s0:aF H (upd H p (HO.dK [] 0)):=aF.upd hp;refine aK ⟨_,rfl,s,kvs,ek,rfl,.inl (s0 _ _ hk),nM (fun i σ H'=>aF H H'/\(∃S,dA H' p (iU S)/\p7 ab ((xs.map (·.n)).take i) S none)/\∃v3,σ=[some (V.ref s),some (V.ref d),some (.ref p),v3]) ⟨s0,⟨[],⟨0,aB⟩,p7.nil⟩,_,rfl⟩ (fun i σ H' _ ⟨s',_⟩=>.inl (s' _ _ hk)) ?_ ?_⟩
  .rintro i kv σ H1 hkv ⟨s1,⟨S,hS,w⟩,v3,rfl⟩;obtain⟨y,hy,hR⟩:=L2.Paired.lY hst hkv;rw[hR.1];have hyn:(xs.map (·.n))[i]? =some y.n:=by rw[getElem?_map,hy];rfl
   have w1:=w.more y.n;rw[<-take_snoc hyn]at w1;walk_at "vc0";refine sh_whileL (K:=K) e0 hp hup.cl (by omega) (hin y (mem_of_getElem? hy)) s1 hS w1 fun S' o H' s' t' d' w'=>⟨s',⟨S',d',w'⟩,_,rfl⟩
  .rintro σ H1 ⟨s1,⟨S,⟨es,hS⟩,w⟩,v3,rfl⟩;have hSl:=w.len;walk_at "vc0";refine⟨_,rfl,p,iU S,es,rfl,.inl hS,fun l hl0=>uV (.inl hS) (HD S) (fun _=>true) (fun H' n v=>Tr H' (JU (n,eJ ab n)) v) (fun σ=>∃o,σ=[o,some (.ref d)]) ⟨_,rfl⟩ hl0 (iZ (by omega)) (fun _ _ _ _ k t=>t.kp k) ?_ ?_⟩
   .rintro n σ H2 ys N hn ⟨o,rfl⟩ s2 e2 hz hN1 hN2;unfold bK;walk_at "vc2";refine⟨d,dF ab,.inr n,_,rfl,⟨ep0,.inl ((s1.trans s2) _ _ e0)⟩,rfl,oZ (w.key n hn),gO (by decide),fun t ht=>⟨ys,aF.upd ht _ _ e2,hz,hN2 rfl _ _ _ ⟨_,rfl⟩ (aF.upd ht) (NR (z:=(n,eJ ab n)) aB)⟩⟩
   .intro H2 ys s2 hpr e2;rw[show S.filter (fun _=>true)=S from filter_eq_self.mpr (by simp)]at hpr;have htr:=o6 (P:=fun n=>JU (n,eJ ab n)) hpr;have em:S.map (fun n=>JU (n,eJ ab n))=(S.map fun n=>(n,eJ ab n)).map JU:=by rw[map_map];rfl
    rw[em]at htr;refine⟨l,rfl,ys,bC.of e2,_,htr,by rw[<-hpr.length];omega,DM _,D9 fun x hx y hy e=>?_,fun l2 zs2 hzs2 hl2=>⟨_,bC.of aB,fun t ht=>?_⟩⟩
    .obtain⟨n,_,rfl⟩:=mem_map.mp hx;obtain⟨m,_,rfl⟩:=mem_map.mp hy;have e:n=m:=e;rw[e]
    .obtain⟨wb,pw,ew⟩:=zP (Mr.fF 3 _) rfl;rw[ew]at hzs2;have s4:=((s1.trans s2).trans (aF.upd (o:=.lst zs2) hl2)).trans (aF.upd (o:=.tup zs2) ht);have kt2:=((aF.upd (o:=.lst zs2) hl2).trans (aF.upd (o:=.tup zs2) ht)).kt;refine q _ wb _ ⟨t,zs2,rfl,aB,L2.Paired.fN (HB hzs2) fun _ _ h=>h.kt kt2,fun z hz=>?_,?_⟩ s4
     .obtain⟨n,hn,rfl⟩:=mem_map.mp (pw.mem_iff.mp hz);exact⟨hup.sub n (w.key n hn),fun y e=>hup.sub y (hup.cl n y e)⟩
     .rw[pw.length_eq,length_map];omega
theorem fC:aX ["_law_up_here","_law_name_here","_law_found","_law_turn","_law_one","_law_elder"] ["_law_up_here","_law_name_here"] (aD cF):=⟨rfl,rfl,rfl,by decide+kernel,rfl,by decide+kernel,by decide+kernel⟩
set_option maxHeartbeats 4000000 in
theorem sX (T:Txt K mg fs fds tc u):aZ P w K mg base dS 1 (fs 22) (fds 22) ["_law_up_here","_law_name_here"] RJ:=by
 refine T.mB.F.ok fC (fun vs H Q E h=>?_) (fun cdv A outer s H vs Q E hr h=>?_)
 .obtain⟨d,zs,ab,x,rfl,hU,hz,q⟩:=h;rfl
 .obtain⟨d,zs,ab,x,rfl,hU,hz,q⟩:=h;refine⟨_,(aE (aR (i:=2) fC.nd rfl (Or.inl rfl) (LR (E8 (pv 1) eK LC) rfl rfl (fun z=>nomatch z) (by decide)))
   (aE (cJ PassesOwn.never rfl (eR rfl T.eW (aA (aN DA (by rfl) T.cH bT (aA (pv 0) aC)) aC)) (aO (i:=3) fC.nd rfl (Or.inl rfl)) (aH (cJ PassesOwn.never rfl (sZ (tG (pv 0))) (fW (n:=2) K rfl (bJ (aO (i:=4) fC.nd rfl (Or.inl rfl)) (bJ (aO (i:=5) fC.nd rfl (Or.inl rfl)) fY))) (aH (cA (aT (O4 hr) (pv 5) (pv 2) (by rfl)) (aH (dE (gD hr) (pv 2) (pv 4) eK rfl)) bI)))))
   (aH (aV (pv 2))))),?_⟩
  obtain⟨⟨ep0,e0⟩,hup⟩:=hU;have hl:=hup.len;have hkl:=dR ab;refine aK ?_;walk_at "vc0"
  refine fun p hp=>⟨aB,[(.inr x,.bl true)],rfl,by show 1<=15;decide,fun ep=>?_⟩
  rw[nP];have s0:=aF.upd (o:=.dK (m8 [] [(Sum.inr x,V.bl true)]) ep) hp;have inv0:∃S,dA (upd H p (.dK (m8 [] [(Sum.inr x,V.bl true)]) ep)) p (iU S)/\S.Nodup/\∀y∈S,y∈x::ks ab:=⟨[x],⟨ep,by rw[aB];rfl⟩,by simp,by simp⟩;have bd:∀{S:List Str},S.Nodup->(∀y∈S,y∈x::ks ab)->(iU S).length<=10:=fun{S} h1 h2=>by
   have:=fU h1 h2;rw[jW];rw[length_cons,length_map]at this;omega
  refine aK ⟨_,rfl,d,dF ab,rfl,⟨ep0,.inl (s0 _ _ e0)⟩,_,rfl,by omega,by omega,iG (fun i σ H'=>(∃S,dA H' p (iU S)/\S.Nodup/\∀y∈S,y∈x::ks ab)/\aF H H'/\∃v3 v4 v5,σ=[some (V.ref d),some (.str x),some (.ref p),v3,v4,v5]) ⟨inv0,s0,_,_,_,rfl⟩ ?_ ?_⟩
  .rintro i σ H2 hi ⟨⟨S,hS,hnd,hsub⟩,s2,v3,v4,v5,rfl⟩;walk_at "vc0";refine⟨_,rfl,d,dF ab,rfl,⟨ep0,.inl (s2 _ _ e0)⟩,fun v hv=>⟨v,d,dF ab,ep0,rfl,aB,.inl (aF.upd hv _ _ (s2 _ _ e0)),oK (fun j σ H'=>(∃S,dA H' p (iU S)/\S.Nodup/\∀y∈S,y∈x::ks ab)/\aF H H'/\∃v3 v4 v5,σ=[some (V.ref d),some (.str x),some (.ref p),v3,v4,v5]) ⟨⟨S,gM hS (aF.upd hv),hnd,hsub⟩,s2.trans (aF.upd hv),_,_,_,rfl⟩ (fun j σ H' _ ⟨_,s',_⟩=>.inl (s' _ _ e0)) ?_ ?_⟩⟩
   .rintro j kv t σ H' hkv ht ⟨⟨S,⟨es,hS⟩,hnd,hsub⟩,s',v3,v4,v5,rfl⟩;obtain⟨st,hst0,e1,e2⟩:=nE hkv;rw[e1,e2];have s3:=s'.trans (aF.upd (o:=HO.tup [kV (Sum.inr st),oV (ab.map (·.2))[j]?.join]) ht);have hS3:upd H' t (HO.tup [kV (Sum.inr st),oV (ab.map (·.2))[j]?.join]) p=some (.dK (iU S) es):=aF.upd ht _ _ hS;have hstk:st∈ks ab:=mem_of_getElem? hst0;have fin:∀v,(∃S,dA (upd H' t (HO.tup [kV (Sum.inr st),v])) p (iU S)/\S.Nodup/\∀y∈S,y∈x::ks ab):=fun v=>⟨S,⟨es,aF.upd ht _ _ hS⟩,hnd,hsub⟩
    generalize(ab.map (·.2))[j]?.join=o at s3 hS3⊢
    walk_at "vc0";refine⟨_,bU.of aB,rfl,_,_,rfl,_,_,rfl,rfl,?_⟩;cases o with
    |none=>exact⟨p,iU S,rfl,⟨es,.inl hS3⟩,.inr ⟨rfl,_,rfl,kL ⟨fin _,s3,_,rfl⟩⟩⟩
    | some y=>
     refine⟨p,iU S,rfl,⟨es,.inl hS3⟩,.inl ⟨.inr y,rfl,_,rfl,?_⟩⟩;rw[if_neg Bool.false_ne_true,jT]
     by_cases hy:y∈S
     .rw[decide_eq_true hy];refine o4 ?_;walk_at "vc1";refine .inl ⟨iU S,.inr st,⟨es,hS3⟩,rfl,iZ (by have:=bd hnd hsub;omega),fun ep2=>⟨⟨kJ S st,⟨ep2,by rw[aB,nQ]⟩,qN hnd,fun w hw=>(eL.mp hw).elim (hsub w) fun e=>by rw[e];exact mem_cons_of_mem _ hstk⟩,fun b z h=>by rw[aG (aJ h hp)];exact s3 b z h,_,rfl⟩⟩
     .rw[decide_eq_false hy];exact kL ⟨fin _,s3,_,rfl⟩
   .rintro σ H' ⟨hS,s',v3,v4,v5,rfl⟩;exact⟨hS,s',_,_,_,rfl⟩
  .rintro σ H2 ⟨⟨S,hS,hnd,hsub⟩,s2,v3,v4,v5,rfl⟩;walk_at "vc0";exact q p _ H2 s2 hp hS
theorem lI:aX ["_law_thing","_law_signs"] ["_law_thing"] (aD bW):=⟨rfl,rfl,rfl,by decide+kernel,rfl,by decide+kernel,by decide+kernel⟩
set_option maxHeartbeats 4000000 in
theorem qX (T:Txt K mg fs fds tc u):aZ P w K mg base dS 1 (fs 25) (fds 25) ["_law_thing"] qE:=by
 refine T.jE.F.ok lI (fun vs H Q E h=>?_) (fun cdv A outer s H vs Q E hr h=>?_)
 .obtain⟨v,k,rfl,hT,q⟩:=h;rfl
 .obtain⟨v,k,rfl,hT,q⟩:=h;refine⟨_,(aE (aR (i:=1) lI.nd rfl (Or.inr rfl) g9)
   (aH (aV (qY (aN (EA K) (by rfl) T.cD eS (aA (pv 0) (aA (lN (v:=.ty "str") rfl T.uT IJ rfl) aC))) (qY (HN C8 C8 aI (aN nX (by rfl) T.cH bT (aA (pv 0) aC)) aI) (kY (aN (qZ K rfl) (by rfl) T.iS iR (aA (gK ["_law_sign","_law_signs"] 1 [1] ["_law_thing","_law_signs"] (aD bW) rfl rfl rfl (AS (pv 0)) (by decide+kernel) (fun _=>(aO (i:=0) (show(["_law_sign","_law_signs"]:List Str).Nodup by decide+kernel) rfl (Or.inl rfl))) (fun _=>dG) (fun _=>(cR uC (pv 0) (pv 1) (by rfl)))) aC)))))))),?_⟩
  refine aK ?_;walk_at "vc0"
  refine⟨_,hT.is.ty,_,IY k,?_⟩
  by_cases e:k= .str
  .subst e;obtain⟨x,rfl⟩:=hT.is;have hx:=hT.OW x rfl;rw[decide_eq_true rfl];refine o4 ?_;walk_at "vc0";refine⟨gO (by omega),?_⟩;refine lX (fun g1=>lX (fun g2=>?_) (fun g2=>?_)) (fun g1=>?_)
   .refine⟨_,rfl,x,rfl,fun l hl=>o7 x (fun _=>true) (fun v=>match v with| .str z=>.bl (!(Builtin.Str.occurrences qA z 0 qA.length 1).isEmpty)|v=>v) (fun σ=>∃o,σ=[o,some (V.str qA)]) ⟨_,rfl⟩ (iZ (by omega)) ?_ ?_⟩
    .rintro c σ xs N hc hz ⟨o,rfl⟩ hN;unfold bK;walk_at "vc2";exact⟨_,aB,hz,by rw[nP];exact hN _ ⟨_,rfl⟩⟩
    .refine⟨l,rfl,x.cps.toList.map fun c=>KP c,bC.of ?_,?_⟩
     .rw[aB];refine congrArg (fun z=>some (HO.lst z)) ?_;rw[filter_eq_self.mpr (fun _ _=>rfl),map_map];unfold mN;rw[map_map];rfl
     .rw[xM];have e:eY (.str x)=x.cps.toList.all KP:=by show cI x=_;unfold cI;rw[decide_eq_true g1,decide_eq_true g2];rfl
      rw[<-e];exact q _ (aF.upd hl)
   .have e:eY (.str x)=false:=by show cI x=false;unfold cI;rw[decide_eq_false g2,Bool.and_false];rfl
    rw[<-e];exact q _ (aF.refl _)
   .have e:eY (.str x)=false:=by show cI x=false;unfold cI;rw[decide_eq_false g1];rfl
    rw[<-e];exact q _ (aF.refl _)
  .rw[decide_eq_false e];refine kL ?_;have en:=yL (hT.is.B7 e);rw[<-en];exact q H (aF.refl _)
theorem wI:aX ["_law_pair"] ["_law_pair"] (aD dM):=⟨rfl,rfl,rfl,by decide+kernel,rfl,by decide+kernel,by decide+kernel⟩
set_option maxHeartbeats 4000000 in
theorem wW (T:Txt K mg fs fds tc u):aZ P w K mg base dS 1 (fs 30) (fds 30) ["_law_pair"] NA:=by
 refine T.kR.F.ok wI (fun vs H Q E h=>?_) (fun cdv A outer s H vs Q E hr h=>?_)
 .obtain⟨a,x,us,rfl,ha,q⟩:=h;rfl
 .obtain⟨a,x,us,rfl,ha,q⟩:=h;refine⟨_,(aH (aV (aS (lP K) (pv 0) aI (fun _ _=>rfl)))),?_⟩;walk_at "vc0";exact⟨_,bU.of ha,_,C4,q⟩
theorem lL:aX ["pack","above","found","letter","name"] ["pack","above"] (aD hV):=⟨rfl,rfl,rfl,by decide+kernel,rfl,by decide+kernel,by decide+kernel⟩
set_option maxHeartbeats 4000000 in
theorem GG (T:Txt K mg fs fds tc u) (G_standing:aZ P w K mg base dS 1 (fs 0) (fds 0) ["pack"] vJ):aZ P w K mg base dS 2 (fs 2) (fds 2) ["pack","above"] RW:=by
 refine T.CG.F.ok lL (fun vs H Q E h=>?_) (fun cdv A outer s H vs Q E hr h=>?_)
 .obtain⟨v,d,xs,ab,rfl,hP,hd,nd,hcl,hl,hin,q⟩:=h;rfl
 .obtain⟨v,d,xs,ab,rfl,hP,hd,nd,hcl,hl,hin,q⟩:=h;refine⟨_,(aE (aR (i:=2) lL.nd rfl (Or.inl rfl) dQ)
   (aE (cJ PassesOwn.never rfl (gL K (aU T.mT G_standing hr (by decide) rfl (aA (pv 0) aC))) (aO (i:=3) lL.nd rfl (Or.inl rfl)) (aE (aR (i:=4) lL.nd rfl (Or.inl rfl) (aS (lP K) (pv 3) aI (fun _ _=>rfl)))
   (aH (lH PassesOwn.never (PW.pt (mX (aT jY (pv 4) cK (bG _)) (kC (aT (Mr.kE hr) (pv 4) (pv 2) (by rfl))))) (aE (dE (gD hr) (pv 2) (pv 4) eK rfl)
   (aH (aR (i:=4) lL.nd rfl (Or.inl rfl) (aS (Mr.NJ hr) (pv 1) (pv 4) (fun _ _=>rfl)))))))))
   (aH (aV (pv 2))))),?_⟩
  obtain⟨ep0,e0⟩:=hd;refine aK ?_;walk_at "vc0"
  refine fun p hp=>aK ?_
  have s0:aF H (upd H p (HO.dK [] 0)):=aF.upd hp;refine⟨_,rfl,v,xs,rfl,?_,fun b ws H1 s1 hb hws=>⟨b,rfl,⟨ws,bU.of hb⟩,qL (K:=K) (a:=b) (xs:=ws) (fun i σ H'=>iI H1 H'/\aF H H'/\(∃S,dA H' p (iU S)/\p7 ab (((bV xs).map (·.n)).take i) S none)/\∃v3 v4,σ=[some v,some (V.ref d),some (.ref p),v3,v4]) ⟨(fun _ _ h=>h),s0.trans s1,⟨[],⟨0,?_⟩,p7.nil⟩,_,_,rfl⟩ (fun i σ H' _ ⟨s',_⟩=>bU.of (s' _ _ hb)) ?_ ?_⟩⟩
  .obtain⟨a,us,rfl,ha,hpp,hll⟩:=hP;exact⟨a,us,rfl,s0 _ _ ha,L2.Paired.fN hpp fun _ _ h=>h.kp s0.kt,hll⟩
  .exact s1 _ _ aB
  .rintro i x σ H2 hx ⟨s2,s2',⟨S,hS,w⟩,v3,v4,rfl⟩;obtain⟨y,hy,hL⟩:=L2.Paired.lY hws hx;obtain⟨t,r,rfl,ht,hr⟩:=(hL.kp s2).at';have hyn:((bV xs).map (·.n))[i]? =some y.n:=by rw[getElem?_map,hy];rfl
   walk_at "vc0";refine aK ?_;walk_at "vc0"
   refine⟨_,bU.of ht,_,C4,?_⟩;have w1:=w.more y.n;rw[<-take_snoc hyn]at w1;refine sh_whileP (K:=K) e0 hp hcl hl (hin y (mem_of_getElem? hy)) s2' hS w1 fun S' o H' s' t' d' w'=>⟨s2.trans t',s',⟨S',d',w'⟩,_,_,rfl⟩
  .rintro σ H2 ⟨s2,s2',⟨S,hS,w⟩,v3,v4,rfl⟩;rw[<-hws.length,show(bV xs).length=((bV xs).map (·.n)).length from(length_map ..).symm,take_length]at w;walk_at "vc0";exact q p S H2 s2' hp hS w.nd w.iff
theorem AV:aX ["thing"] ["thing"] (aD fG):=⟨rfl,rfl,rfl,by decide+kernel,rfl,by decide+kernel,by decide+kernel⟩
set_option maxHeartbeats 4000000 in
theorem AA (T:Txt K mg fs fds tc u) (G_is_name:aZ P w K mg base dS 1 (fs 3) (fds 3) ["thing"] qE):aZ P w K mg base dS 2 (fs 5) (fds 5) ["thing"] (QV markV 2):=by
 refine T.uJ.F.ok AV (fun vs H Q E h=>?_) (fun cdv A outer s H vs Q E hr h=>?_)
 .obtain⟨v,rfl,hA,q⟩:=h;rfl
 .obtain⟨v,rfl,hA,q⟩:=h;refine⟨_,(aE (cA (PW.pt (m9 (fA (fB (aN (EA K) (by rfl) T.cD eS (aA (pv 0) (aA (lN (v:=.ty "tuple") rfl T.eX fR rfl) aC))))) (m9 (aT rB (aN (LO K) (by rfl) T.cH bT (aA (pv 0) aC)) aI (bG _)) (mR (fA (fB (aU T.oM G_is_name hr (by decide) rfl (aA (aS (lP K) (pv 0) aI (fun _ _=>rfl)) aC)))))))) (aH (aV eK)) bI)
   (aH (aV (CM (cR wD (aS (lP K) (pv 0) aI (fun _ _=>rfl)) cK (bG _)) (kY (qY (aU T.oM G_is_name hr (by decide) rfl (aA (aS (lP K) (pv 0) aI (fun _ _=>rfl)) aC)) (kY (cR rB (aS (lP K) (pv 0) aI (fun _ _=>rfl)) (aS (lP K) (pv 0) aI (fun _ _=>rfl)) (bG _))))))))),?_⟩
  obtain⟨⟨k,hT⟩,hx⟩:=hA;refine aK ?_;walk_at "vc0"
  refine⟨_,hT.is.ty,_,vK k,?_⟩;rcases hT.tup with⟨rfl,a,xs,rfl,ha,et⟩|⟨n,et⟩
  .rw [decide_eq_true rfl];refine cO ?_;have hx:=hx xs et;walk_at "vc0";refine⟨_,bU.of ha,rfl,?_⟩
   by_cases h2:xs.length=2
   .match xs,h2 with
    | [c,e],_=>
     have eq:markV H (.ref a)=(eY c && (decide (e= .aP)||(eY e && !decide (e=c)))):=by unfold markV;rw[et];rfl
     rw[eq]at q;obtain⟨kc,tc'⟩:=(hx.2 c (by simp)).tg;obtain⟨ke,te'⟩:=(hx.2 e (by simp)).tg;rw[decide_eq_true (show(([c,e]:List V).length:Int)=2 from rfl)];refine cO ⟨_,bU.of ha,_,rfl,c,kc,rfl,tc',fun H1 s1=>⟨_,rfl,?_⟩⟩;cases e1:eY c with
     |false=>rw[e1]at q;exact cS (q H1 s1)
     | true=>
      rw[e1,Bool.true_and]at q;refine cO ⟨_,(bU.of ha).same s1,_,rfl,?_⟩;refine lX (fun en=>?_) (fun en=>?_)
      .rw[decide_eq_true en,Bool.true_or]at q;exact q H1 s1
      .rw[decide_eq_false en,Bool.false_or]at q;refine⟨_,(bU.of ha).same s1,_,rfl,e,ke,rfl,te'.same s1,fun H2 s2=>⟨_,rfl,?_⟩⟩;cases e2:eY e with
       |false=>rw[e2]at q;exact kL (q H2 (s1.trans s2))
       |true=>
        rw[e2,Bool.true_and]at q;obtain⟨u,rfl⟩:=iF e1;obtain⟨w,rfl⟩:=iF e2;refine o4 ⟨_,(bU.of ha).same (s1.trans s2),_,rfl,_,(bU.of ha).same (s1.trans s2),_,rfl,rfl,?_⟩;exact q H2 (s1.trans s2)
   .have eq:markV H (.ref a)=false:=by unfold markV;rw[et];exact qW h2
    rw[eq]at q;rw[decide_eq_false (show¬(xs.length:Int)=2 by omega)];exact cS (q H (aF.refl _))
  .have eq:markV H v=false:=by unfold markV;rw[et]
   rw[eq]at q;rw[decide_eq_false n];exact cS (q H (aF.refl _))
theorem yC:aX ["marks"] ["marks"] (aD dU):=⟨rfl,rfl,rfl,by decide+kernel,rfl,by decide+kernel,by decide+kernel⟩
set_option maxHeartbeats 4000000 in
theorem yD (T:Txt K mg fs fds tc u) (G_rings_in:aZ P w K mg base dS 1 (fs 1) (fds 1) ["above"] R7):aZ P w K mg base dS 2 (fs 6) (fds 6) ["marks"] QN:=by
 refine T.sM.F.ok yC (fun vs H Q E h=>?_) (fun cdv A outer s H vs Q E hr h=>?_)
 .obtain⟨v,ab,rfl,hv,nd,hl,q⟩:=h;rfl
 .obtain⟨v,ab,rfl,hv,nd,hl,q⟩:=h;refine⟨_,(aH (aV (cR (R4 K hr) (aU T.sJ G_rings_in hr (by decide) rfl (aA (MM ["name","elder"] 2 [] ["marks"] (aD dU) rfl rfl rfl (gL K (pv 0)) (by decide+kernel) (fun _=>(fW (n:=2) K rfl (bJ (aO (i:=0) (show(["name","elder"]:List Str).Nodup by decide+kernel) rfl (Or.inl rfl)) (bJ (aO (i:=1) (show(["name","elder"]:List Str).Nodup by decide+kernel) rfl (Or.inl rfl)) fY)))) (fun _=>dG) (fun _=>(pv 0)) (fun _=>(pv 1))) aC)) (eG aC) (bG _)))),?_⟩;obtain⟨t,us,rfl,ht,hp⟩:=hv;walk_at "vc0";refine⟨_,rfl,t,rfl,⟨us,bU.of ht⟩,fun l hl0=>HV (bU.of ht) hp nd (iZ (by omega)) hl0 (fun σ=>∃o1 o2,σ=[o1,o2]) ⟨_,_,rfl⟩ ?_ ?_⟩
  .rintro z u σ H1 kvs N ⟨o1,o2,rfl⟩ ⟨b,rfl,hb⟩ hk hkl hN;unfold FL;walk_at "vc2";exact⟨_,bU.of hb,rfl,_,_,rfl,_,_,rfl,rfl,kvs,hk,.inr z.1,rfl,hkl,fun ep=>hN _ ep ⟨_,_,rfl⟩⟩
  .intro ep;refine⟨l,ab,rfl,⟨ep,aB⟩,nd,hl,fun l2 us H2 s2 hl2 hus hiff=>?_⟩;walk_at "vc0";have ns:=(aF.upd (o:=.dK (dF ab) ep) hl0).trans s2;refine⟨zero_le _,fun e he=>⟨us,bC.of (by rw[aG (aJ hus he)];exact hus),[],bC.of aB,fun hn=>⟨by rw[length_eq_zero_iff.mp hn];rfl,rfl⟩,?_⟩⟩;rw[rV];refine q _ _ (ns.trans (aF.upd he)) ?_;cases us with
   |nil=>exact⟨(fun h=>nomatch h),fun⟨x,c⟩=>absurd c (hiff.mp rfl x)⟩
   |cons a us=>exact⟨fun _=>Classical.byContradiction fun hno=>absurd (hiff.mpr fun x c=>hno ⟨x,c⟩) (by simp),fun _=>rfl⟩
theorem gU:aX ["_law_hand_here","_law_used","_law_signs","_law_size","_law_name_here"] ["_law_hand_here","_law_used"] (aD dD):=⟨rfl,rfl,rfl,by decide+kernel,rfl,by decide+kernel,by decide+kernel⟩
set_option maxHeartbeats 4000000 in
theorem x6 (T:Txt K mg fs fds tc u) (G_law_take:aZ P w K mg base dS 1 (fs 10) (fds 10) ["_law_hand_here","_law_many"] sN):aZ P w K mg base dS 2 (fs 11) (fds 11) ["_law_hand_here","_law_used"] PQ:=by
 refine T.sP.F.ok gU (fun vs H Q E h=>?_) (fun cdv A outer s H vs Q E hr h=>?_)
 .obtain⟨p,l,zs,c,rfl,hp,hc,hN,npl,q⟩:=h;rfl
 .obtain⟨p,l,zs,c,rfl,hp,hc,hN,npl,q⟩:=h;refine⟨_,(aE (aR (i:=2) gU.nd rfl (Or.inr rfl) g9)
   (aE (aR (i:=3) gU.nd rfl (Or.inl rfl) (bD fM aI (aU T.aQ G_law_take hr (by decide) rfl (aA (pv 0) (aA (aS (lP K) (bP (aA aI (aA aI (aA aI (aA aI aC))))) (aU T.aQ G_law_take hr (by decide) rfl (aA (pv 0) (aA aI aC))) (fun _ _=>rfl)) aC)))))
   (aE (aR (i:=4) gU.nd rfl (Or.inr rfl) (gB K PySem.F.plainAttrs_str PySem.F.slot_str_join PySem.F.type_str_join (SR K) g9 (aA (gK ["_law_turn","_law_signs","_law_hand_here"] 1 [2,0] ["_law_hand_here","_law_used","_law_signs","_law_size","_law_name_here"] (aD dD) rfl rfl rfl (eR rfl T.eW (aA (pv 3) aC)) (by decide+kernel) (fun _=>(aO (i:=0) (show(["_law_turn","_law_signs","_law_hand_here"]:List Str).Nodup by decide+kernel) rfl (Or.inl rfl))) (fun _=>dG) (fun _=>(aS NT (pv 1) (aU T.aQ G_law_take hr (by decide) rfl (aA (pv 2) (aA aI aC))) (fun _ _=>rfl)))) aC)))
   (aE (cA (aT (TR K) (pv 4) (pv 1) (by rfl)) (aH (aR (i:=4) gU.nd rfl (Or.inr rfl) (aS (lM K) (gK ["_law_sign","_law_name_here","_law_used"] 1 [4,1] ["_law_hand_here","_law_used","_law_signs","_law_size","_law_name_here"] (aD dD) rfl rfl rfl (AS (pv 2)) (by decide+kernel) (fun _=>(aO (i:=0) (show(["_law_sign","_law_name_here","_law_used"]:List Str).Nodup by decide+kernel) rfl (Or.inl rfl))) (fun _=>(qB (aT (FV K) (bD jV (fS BK (pv 1) gR (gP (y0 rX aI))) (pv 0)) (pv 2) (by rfl)))) (fun _=>(bD jV (fS BK (pv 1) gR (gP (y0 rX aI))) (pv 0)))) aI (fun _ _=>rfl)))) bI)
   (aH (aV (pv 4))))))),?_⟩
  have e36:qA.length=36:=by decide+kernel
  have e0:(Str.ofString "").length=0:=by decide+kernel
  refine aK ?_;walk_at "vc0"
  refine aK ?_;walk_at "vc0"
  refine⟨by decide,fun t ht=>⟨p,_,c,rfl,Box.same (p:=p) hp (aF.upd ht),by omega,by decide,by decide,fun d H1 d0 d1 hp1 b1=>?_⟩⟩;have ntp:t≠p:=(Box.ne hp ht).symm;have ht1:=b1 _ _ (aB (o:=HO.tup [V.int 3,V.int 3,V.int 3,V.int 12]) (a:=t) (H:=H)) ntp;obtain⟨v,hv,hat⟩:=dY (xs:=[V.int 3,V.int 3,V.int 3,V.int 12]) d0 d1;obtain⟨m,rfl,m0,m12⟩:∃m:Int,v= .int m/\0<m/\m<=12:=by
   simp only[mem_cons,mem_nil_iff,or_false]at hv;rcases hv with h|h|h|h<;>exact⟨_,h,by decide,by decide⟩
  refine⟨_,d,rfl,bU.of ht1,_,hat,p,m,c+1,rfl,hp1,by omega,m0,by omega,fun e H2 f0 f1 hp2 b2=>⟨e,rfl,?_⟩⟩;have bb:=((bZ.of (p:=p) (aF.upd (o:=HO.tup [V.int 3,V.int 3,V.int 3,V.int 12]) ht)).trans b1).trans b2;refine aK ?_;walk_at "vc3"
  refine⟨rfl,_,rfl,_,rfl,by omega,by omega,fun l4 hl4=>rM 0 _ p (c+1+1) 1 (fun _ v=>∃x:Str,v= .str x/\(x.length=1/\∀c∈x.cps.toList,c∈qA.cps.toList)) (fun σ=>∃o,σ=[o,some (V.str qA),some (.ref p)]) ⟨_,rfl⟩ hp2 hl4 (by omega) (fun _ _ _ _ h=>h) ?_ ?_⟩
  .rintro i σ H4 xs N hi ⟨o,rfl⟩ hp4 hx hxl b4 hN;unfold bK;walk_at "vc2";refine⟨p,_,_,rfl,hp4,by omega,by decide,by decide,fun d H5 d0 d1 hp5 b5=>?_⟩;obtain⟨cc,hcm,hcc⟩:=IW (z:=qA) d0 (by rw[e36];exact d1);exact⟨_,rfl,gO (by rw[e36];decide),_,hcc,hN _ _ _ ⟨_,rfl⟩ ⟨_,rfl,rfl,fun c hc=>by simp at hc;rw[hc];exact hcm⟩ hp5 b5⟩
  .intro ys H4 hyl hR hy hp4 b4;obtain⟨ns,e,hns⟩:=rR hR;subst e;rw[length_map]at hyl;have hnb:cI (Txt.join (Str.ofString "") ns)=true:=ED (fun _ h=>h) hns (by omega) (by omega);have bb4:=bb.trans b4;have hN4:H4 l=some (.lst (zs.map V.str)):=bb4 _ _ hN.el npl;refine⟨_,l4,ns,rfl,rfl,bC.of hy,by rw[e0,y8 fun y hy=>(hns y hy).1];omega,?_⟩;generalize Txt.join (Str.ofString "") ns=nm at hnb;refine aK ?_;walk_at "vc0"
   refine⟨_,.inl (bC.of hN4),rfl,iC,?_⟩;rw[qI];cases hcn:zs.contains nm with
   |false=>exact kL (q nm H4 hnb (Box.up (p:=p) hp4 (by omega)) bb4)
   | true=>
    have hnl:=(eO hnb).2;refine o4 ⟨_,rfl,qA,rfl,fun l5 hl5=>o7 qA (fun v=>match v with| .str z=>!zs.contains (Txt.slice nm none (some (-1))++z)|_=>false) (fun v=>match v with| .str z=>.str (Txt.slice nm none (some (-1))++z)|v=>v) (fun σ=>∃o,σ=[o,some (.str nm),some (.ref l)]) ⟨_,rfl⟩ (iZ (by rw[e36];decide)) ?_ ?_⟩
    .rintro ch σ xs N hch hz ⟨o,rfl⟩ hN2;unfold bK;walk_at "vc0";have l1:(({cps:= #[ch]}:Str)).length=1:=rfl;have hB:(Txt.slice nm none (some (-1))).length<=12:=uP hnl;have nl5:l≠l5:=fun e=>by rw[e,hl5]at hN4;cases hN4
     refine⟨gO (by omega),gO (by rw[l1];omega),_,.inl (bC.of (by rw[aG nl5];exact hN4)),rfl,iC,?_⟩;rw[qI];have h:=hN2 [some (.str ⟨#[ch]⟩),some (.str nm),some (.ref l)] ⟨_,rfl⟩;dsimp only at h;cases hcc:zs.contains (Txt.slice nm none (some (-1))++⟨#[ch]⟩)with
     |true=>
      rw[if_neg (by show¬((!zs.contains _)=true);rw[hcc];decide)]at h;exact cO h
     |false=>
      rw[if_pos (by show(!zs.contains _)=true;rw[hcc];rfl)]at h;refine cS ⟨gO (by omega),gO (by rw[l1];omega),xs,aB,hz,?_⟩;rw[nP];exact h
    .obtain⟨c0,hc0,hno⟩:∃c∈qA.cps.toList,zs.contains (Txt.slice nm none (some (-1))++⟨#[c]⟩)=false:=by
      apply Classical.byContradiction;intro hall;have hs:∀y∈qA.cps.toList.map (fun c=>Txt.slice nm none (some (-1))++(⟨#[c]⟩:Str)),y∈zs:=fun y hy=>by
       obtain⟨c1,hc1,rfl⟩:=mem_map.mp hy;cases h:zs.contains (Txt.slice nm none (some (-1))++⟨#[c1]⟩)with
       |true=>exact List.contains_iff_mem.mp h
       |false=>exact absurd ⟨c1,hc1,h⟩ hall
      have nd:(qA.cps.toList.map fun c=>Txt.slice nm none (some (-1))++(⟨#[c]⟩:Str)).Nodup:=List.Pairwise.map _ (fun a b hab e=>hab (by
       have e1:(Txt.slice nm none (some (-1))).cps++ #[a]=(Txt.slice nm none (some (-1))).cps++ #[b]:=congrArg Str.cps e;have e2:=congrArg Array.toList e1;rw[toList_append,toList_append]at e2;have e3:=List.append_cancel_left e2;cases e3;rfl)) (show qA.cps.toList.Nodup by decide+kernel)
      have h1:=JK nd hs;rw[length_map,show qA.cps.toList.length=36 by decide+kernel]at h1;have h2:=hN.le;omega
     have hB:=DQ hnb;have hm:V.str (⟨#[c0]⟩:Str)∈(qA.cps.toList.map fun c=>V.str (⟨#[c]⟩:Str)).filter (fun v=>match v with|V.str z=>!zs.contains (Txt.slice nm none (some (-1))++z)|_=>false):=mem_filter.mpr ⟨mem_map.mpr ⟨c0,hc0,rfl⟩,by show(!zs.contains _)=true;rw[hno];rfl⟩;refine⟨l5,rfl,_,bC.of aB,?_⟩;generalize hF:List.filter _ (qA.cps.toList.map fun c=>V.str (⟨#[c]⟩:Str))=F at hm⊢
     obtain⟨y,F',rfl⟩:∃y F',F=y::F':=by
      cases F with
      |nil=>exact absurd hm (by simp)
      |cons y F'=>exact⟨_,_,rfl⟩
     have hy:y∈y::F':=mem_cons_self;rw[<-hF]at hy;obtain⟨c1,hc1,rfl⟩:=mem_map.mp (mem_filter.mp hy).1;rw[map_cons];have lB:(Txt.slice nm none (some (-1))++(⟨#[c1]⟩:Str)).length=(Txt.slice nm none (some (-1))).length+1:=HM _ _;refine⟨_,C4,q _ _ (yP (by omega) (by omega) fun c hc=>?_) (Box.up (p:=p) (Box.same (p:=p) hp4 (aF.upd hl5)) (by omega)) (bb4.trans (bZ.of (aF.upd hl5)))⟩;have hc':c∈((Txt.slice nm none (some (-1))).cps++ #[c1]).toList:=hc;rw[toList_append]at hc';rcases mem_append.mp hc' with h|h
     .exact hB.2 c h
     .rw[mem_singleton.mp h];exact hc1
theorem jK:aX ["_law_hand_here","_law_name_here","_law_names_here","_law_day","_law_row"] ["_law_hand_here","_law_name_here","_law_names_here"] (aD cE):=⟨rfl,rfl,rfl,by decide+kernel,rfl,by decide+kernel,by decide+kernel⟩
set_option maxHeartbeats 4000000 in
theorem tN (T:Txt K mg fs fds tc u) (G_law_take:aZ P w K mg base dS 1 (fs 10) (fds 10) ["_law_hand_here","_law_many"] sN):aZ P w K mg base dS 2 (fs 13) (fds 13) ["_law_hand_here","_law_name_here","_law_names_here"] IP:=by
 refine T.oF.F.ok jK (fun vs H Q E h=>?_) (fun cdv A outer s H vs Q E hr h=>?_)
 .obtain⟨p,l,zs,n,c,rfl,hp,hc,hN,hz1,npl,hn,q⟩:=h;rfl
 .obtain⟨p,l,zs,n,c,rfl,hp,hc,hN,hz1,npl,hn,q⟩:=h;refine⟨_,(aE (aR (i:=3) jK.nd rfl (Or.inl rfl) (aS (lM K) (eG (aA (aU T.aQ G_law_take hr (by decide) rfl (aA (pv 0) (aA aI aC))) (aA (bD wY aI (aU T.aQ G_law_take hr (by decide) rfl (aA (pv 0) (aA aI aC)))) (aA (aU T.aQ G_law_take hr (by decide) rfl (aA (pv 0) (aA aI aC))) aC)))) (aU T.aQ G_law_take hr (by decide) rfl (aA (pv 0) (aA aI aC))) (fun _ _=>rfl)))
   (aE (zR (i:=4) ["_law_turn","_law_names_here","_law_hand_here"] 1 [2,0] ["_law_hand_here","_law_name_here","_law_names_here","_law_day","_law_row"] (aD cE) rfl rfl rfl jK.nd rfl rfl (eR rfl T.eW (aA (aU T.aQ G_law_take hr (by decide) rfl (aA (pv 0) (aA (aS (lP K) (bP (aA aI (aA aI (aA aI (aA aI aC))))) (aU T.aQ G_law_take hr (by decide) rfl (aA (pv 0) (aA aI aC))) (fun _ _=>rfl)) aC))) aC)) (by decide+kernel) (fun _=>(aO (i:=0) (show(["_law_turn","_law_names_here","_law_hand_here"]:List Str).Nodup by decide+kernel) rfl (Or.inl rfl))) (fun _=>dG) (fun _=>(aS (lM K) (pv 1) (aU T.aQ G_law_take hr (by decide) rfl (aA (pv 2) (aA (aN (jU K) (by rfl) T.cH bT (aA (pv 1) aC)) aC))) (fun _ _=>rfl))))
   (aH (aV (bP (aA (pv 1) (aA (pv 3) (aA (aS (lP K) (bP (aA g9 (aA g9 (aA g9 (aA g9 aC))))) (aU T.aQ G_law_take hr (by decide) rfl (aA (pv 0) (aA aI aC))) (fun _ _=>rfl)) (aA (eN (HZ K) (by rfl) T.eX fR (aA (pv 4) aC)) aC))))))))),?_⟩
  refine aK ?_;walk_at "vc0"
  refine⟨p,4,c,rfl,hp,by omega,by decide,by decide,fun d1 H1 d10 d11 hp1 b1=>⟨p,3,c+1,rfl,hp1,by omega,by decide,by decide,fun d2 H2 d20 d21 hp2 b2=>⟨d2,rfl,p,100000000,c+1+1,rfl,hp2,by omega,by decide,by decide,fun d3 H3 d30 d31 hp3 b3=>⟨gO (by decide),fun t1 ht1=>⟨p,3,c+1+1+1,rfl,Box.same (p:=p) hp3 (aF.upd ht1),by omega,by decide,by decide,fun d4 H4 d40 d41 hp4 b4=>?_⟩⟩⟩⟩⟩;have nt1:t1≠p:=(Box.ne hp3 ht1).symm;have et1:=b4 _ _ (aB (o:=HO.lst [V.int d1,V.int (99999999 - d2),V.int d3]) (a:=t1) (H:=H3)) nt1;obtain⟨v,hv,hat⟩:=dY (xs:=[V.int d1,V.int (99999999 - d2),V.int d3]) d40 d41;obtain⟨dy,rfl,dy0,dy1⟩:∃m:Int,v= .int m/\0<=m/\m<=99999999:=by
   simp only[mem_cons,mem_nil_iff,or_false]at hv;rcases hv with h|h|h<;>exact⟨_,h,by omega,by omega⟩
  refine⟨_,d4,rfl,bC.of et1,_,hat,?_⟩;have b04:=(((b1.trans b2).trans b3).trans (bZ.of (p:=p) (aF.upd (o:=HO.lst [V.int d1,V.int (99999999 - d2),V.int d3]) ht1))).trans b4;clear b1 b2 b3 b4 hp1 hp2 hp3 ht1 et1 hat hv;refine aK ?_;walk_at "vc0"
  refine⟨_,rfl,by decide,fun t ht=>⟨_,rfl,p,4,_,rfl,Box.same (p:=p) hp4 (aF.upd ht),by omega,by decide,by decide,fun d5 H5 d50 d51 hp5 b5=>?_⟩⟩;have ntp:t≠p:=(Box.ne hp4 ht).symm;have et:=b5 _ _ (aB (o:=HO.tup [V.int 3,V.int 4,V.int 5,V.int 10]) (a:=t) (H:=H4)) ntp;obtain⟨v,hv,hat⟩:=dY (xs:=[V.int 3,V.int 4,V.int 5,V.int 10]) d50 d51;obtain⟨m,rfl,m0,m10⟩:∃m:Int,v= .int m/\0<m/\m<=10:=by
   simp only[mem_cons,mem_nil_iff,or_false]at hv;rcases hv with h|h|h|h<;>exact⟨_,h,by decide,by decide⟩
  have b06:=(b04.trans (bZ.of (p:=p) (aF.upd (o:=HO.tup [V.int 3,V.int 4,V.int 5,V.int 10]) ht))).trans b5;refine⟨t,_,d5,_,rfl,rfl,bU.of et,hat,p,m,_,rfl,hp5,by omega,m0,by omega,fun e H6 e0 e1 hp6 b6=>⟨e,rfl,by omega,by omega,fun l6 hl6=>rM 0 _ p _ 1 (fun _ v=>∃z:Str,v= .str z/\z∈zs) (fun σ=>∃o,σ=[o,some (.ref l),some (.ref p)]) ⟨_,rfl⟩ hp6 hl6 (by omega) (fun _ _ _ _ h=>h) ?_ ?_⟩⟩
  .have hN6:H6 l=some (.lst (zs.map V.str)):=(b06.trans b6) _ _ hN.el npl;rintro i σ H7 xs N hi ⟨o,rfl⟩ hp7 hx hxl b7 hNN;have hN7:=b7 _ _ hN6 npl;have hml:(zs.map V.str).length=zs.length:=length_map ..;have h8:=hN.le;have hi:i<10:=by omega
   unfold bK;walk_at "vc2";refine⟨_,bC.of hN7,p,_,_,rfl,hp7,by omega,by omega,by omega,fun d H8 d0 d1 hp8 b8=>⟨zs.map V.str,d,rfl,bC.of (b8 _ _ hN7 npl),?_⟩⟩;obtain⟨y,hy,hat⟩:=dY d0 d1;obtain⟨z,hz,rfl⟩:=mem_map.mp hy;exact⟨_,hat,hNN _ _ _ ⟨_,rfl⟩ ⟨z,rfl,hz⟩ hp8 b8⟩
  intro ys H7 hyl hR hy hp7 b7;have b07:=(b06.trans b6).trans b7;have n7:ys.length<=9:=by omega
  obtain⟨row,erow,hrow⟩:=rR hR;subst erow;rw[length_map]at n7;clear hyl;refine⟨gO (by decide),fun t2 ht2=>⟨p,4,_,rfl,Box.same (p:=p) hp7 (aF.upd ht2),by omega,by decide,by decide,fun d8 H8 d80 d81 hp8 b8=>?_⟩⟩;have nt2:t2≠p:=(Box.ne hp7 ht2).symm;have nl6:l6≠p:=(Box.ne hp6 hl6).symm;have e2:=b8 _ _ (aB (o:=HO.tup [V.str (Str.ofString ""),V.str (Str.ofString "re: walls"),V.str (Str.ofString "Walls"),V.str (Str.ofString "walls  (old)")]) (a:=t2) (H:=H7)) nt2;have hy8:=b8 _ _ (aF.upd (o:=HO.tup [V.str (Str.ofString ""),V.str (Str.ofString "re: walls"),V.str (Str.ofString "Walls"),V.str (Str.ofString "walls  (old)")]) ht2 _ _ hy) nl6;obtain⟨v,hv,hat⟩:=dY (xs:=[V.str (Str.ofString ""),V.str (Str.ofString "re: walls"),V.str (Str.ofString "Walls"),V.str (Str.ofString "walls  (old)")]) d80 d81;obtain⟨h,rfl,h60,hcs⟩:∃h:Str,v= .str h/\h.length<=60/\∀c∈h.cps.toList,32<=c/\c<=126:=by
   simp only[mem_cons,mem_nil_iff,or_false]at hv;rcases hv with h|h|h|h<;>exact⟨_,h,by decide+kernel,by decide+kernel⟩
  have b08:=(b07.trans (bZ.of (p:=p) (aF.upd (o:=HO.tup [V.str (Str.ofString ""),V.str (Str.ofString "re: walls"),V.str (Str.ofString "Walls"),V.str (Str.ofString "walls  (old)")]) ht2))).trans b8;have ok:Lt.Ok ⟨n,dy,h,row⟩:=⟨hn,dy0,dy1,⟨h60,hcs⟩,n7,fun z hz=>hN.nm z (hrow z hz)⟩;refine⟨_,d8,rfl,bU.of e2,_,hat,l6,rfl,_,bC.of hy8,fun r hr=>⟨gO (by decide),fun a ha=>q _ ⟨n,dy,h,row⟩ _ (tJ.of aB (by rw[aG (aJ aB ha)];exact aB) ok) rfl hrow ?_ ((b08.trans (.of (aF.upd hr))).trans (.of (aF.upd ha)))⟩⟩;exact Box.up (p:=p) (Box.same (p:=p) (Box.same (p:=p) hp8 (aF.upd hr)) (aF.upd ha)) (by omega)
theorem cZ:aX ["_law_stand_here","_law_held","_law_told","_law_up_here","_law_letter_here","_law_row","_law_at","_law_name_here","_law_claim","_law_elder"] ["_law_stand_here","_law_held"] (aD gG):=⟨rfl,rfl,rfl,by decide+kernel,rfl,by decide+kernel,by decide+kernel⟩
set_option maxHeartbeats 4000000 in
theorem D2 (T:Txt K mg fs fds tc u) (G_law_elders:aZ P w K mg base dS 1 (fs 16) (fds 16) ["_law_letter_here"] MJ):aZ P w K mg base dS 2 (fs 17) (fds 17) ["_law_stand_here","_law_held"] M5:=by
 refine T.x8.F.ok cZ (fun vs H Q E h=>?_) (fun cdv A outer s H vs Q E hr h=>?_)
 .obtain⟨s,h,zs,xs,rfl,hS,hh,q⟩:=h;rfl
 .obtain⟨s,h,zs,xs,rfl,hS,hh,q⟩:=h;refine⟨_,(aE (rL (i:=2) (j:=3) rfl cZ.nd rfl rfl (by decide) rfl rfl (aA dQ (aA dQ aC)) rfl)
   (aE (cJ PassesOwn.never rfl (qK (oB (pv 0))) (aO (i:=4) cZ.nd rfl (Or.inl rfl)) (aE (aR (i:=5) cZ.nd rfl (Or.inl rfl) (aU T.j0 G_law_elders hr (by decide) rfl (aA (pv 4) aC)))
   (aH (cJ PassesOwn.never rfl (KQ K rfl T.g0 (aA (pv 5) aC)) (fW (n:=2) K rfl (bJ (aO (i:=6) cZ.nd rfl (Or.inl rfl)) (bJ (aO (i:=7) cZ.nd rfl (Or.inl rfl)) fY))) (aE (dE (gD hr) (pv 3) (pv 7) cK rfl)
   (aH (cA (aT HS (pv 6) aI (bG _)) (aE (aR (i:=8) cZ.nd rfl (Or.inl rfl) (bP (aA (aS (lP K) (pv 4) aI (fun _ _=>rfl)) (aA (aS (lP K) (pv 4) aI (fun _ _=>rfl)) (aA (aS (lM K) (pv 5) (bD wY (pv 6) aI) (fun _ _=>rfl)) aC)))))
   (aH (dE (gD hr) (pv 2) (pv 7) (aN (SQ K hr) (by rfl) T.qR AJ (aA (JJ (gD hr) (pv 2) (pv 7) (pv 8) ⟨rfl,by rfl,rfl,rfl⟩) (aA (pv 8) aC))) rfl))) bI)))))))
   (aE (cJ PassesOwn.never rfl (sZ (tG (pv 2))) (fW (n:=2) K rfl (bJ (aO (i:=7) cZ.nd rfl (Or.inl rfl)) (bJ (aO (i:=8) cZ.nd rfl (Or.inl rfl)) fY))) (aH (dE (gD hr) (pv 3) (pv 7) (aS (lP K) (pv 8) aI (fun _ _=>rfl)) rfl)))
   (aE (cJ PassesOwn.never rfl (qK (oB (pv 0))) (aO (i:=4) cZ.nd rfl (Or.inl rfl)) (aH (dE (gD hr) (pv 3) (aS (lP K) (pv 4) aI (fun _ _=>rfl)) (aS (lM K) (bD sH (OJ (PN (ew cK) BI)).h (aU T.j0 G_law_elders hr (by decide) rfl (aA (pv 4) aC))) (y0 rX aI) (fun _ _=>rfl)) rfl)))
   (aE (cJ PassesOwn.never rfl (qK (oB (pv 1))) (aO (i:=9) cZ.nd rfl (Or.inl rfl)) (aH (cA (PW.pt (mX (aT jY (pv 9) cK (bG _)) (kC (aT (Mr.kE hr) (pv 9) (pv 3) (by rfl))))) (aH (dE (gD hr) (pv 3) (pv 9) cK rfl)) bI)))
   (aE (cJ PassesOwn.never rfl (sZ (tG (pv 1))) (fW (n:=2) K rfl (bJ (aO (i:=7) cZ.nd rfl (Or.inl rfl)) (bJ (aO (i:=9) cZ.nd rfl (Or.inl rfl)) fY))) (aH (dE (gD hr) (pv 3) (pv 7) (pv 9) rfl)))
   (aH (aV (pv 3))))))))),?_⟩
  obtain⟨⟨kvs,⟨ek,hk⟩,hst⟩,hnm,hndS,hz8⟩:=hS;obtain⟨eh,heh⟩:=hh;refine aK ?_;walk_at "vc0"
  refine fun p hp lu hlu1=>?_
  have npu:p≠lu:=fun e=>by rw[<-e,aB]at hlu1;cases hlu1
  have hlu:H lu=none:=by rw[aG npu.symm]at hlu1;exact hlu1
  have I0:qC H (upd (upd H p (.dK [] 0)) lu (.dK [] 0)) zs p lu [] []:=⟨(aF.upd hp).trans (aF.upd hlu1),⟨0,by rw[aG npu];exact aB⟩,⟨0,aB⟩,E7.nil,nodup_nil,fun _ h=>nomatch h⟩;have hrow:∀x∈xs,∀e∈aW x,e∈zs:=fun x hx e he=>(hnm x hx).2 e (BN he)
  refine aK ⟨_,rfl,s,kvs,rfl,⟨ek,.inl (I0.s _ _ hk)⟩,fun v hv=>⟨v,s,kvs,ek,rfl,aB,.inl (aF.upd hv _ _ (I0.s _ _ hk)),sO (fun i σ H'=>(∃kT ab,qC H H' zs p lu kT ab/\∀x∈xs.take i,∀e∈aW x,e∈ks ab)/\∃v4 v5 v6 v7 v8 v9,σ=[some (V.ref s),some (.ref h),some (.ref p),some (.ref lu),v4,v5,v6,v7,v8,v9]) ⟨⟨[],[],I0.new hv,fun _ h=>nomatch h⟩,_,_,_,_,_,_,rfl⟩ (fun i σ H' _ ⟨⟨_,_,I,_⟩,_⟩=>.inl (I.s _ _ hk)) ?_ ?_⟩⟩
  .rintro i kv σ H2 hkv ⟨⟨kT,ab,I,hall⟩,v4,v5,v6,v7,v8,v9,rfl⟩;obtain⟨y,hy,hR⟩:=L2.Paired.lY hst hkv;have hyx:=mem_of_getElem? hy;obtain⟨a0,r0,ea,ha0,hr0⟩:=hR.2.at';obtain⟨_,hR⟩:=hR;rw[ea]at hR⊢
   walk_at "vc0";refine aK ?_;walk_at "vc0"
   refine⟨_,y,rfl,(hR.kp I.s.kt),fun l H3 s3 hl0 hl3=>?_⟩;have I3:=I.same s3;have nlp:l≠p:=fun e=>by obtain⟨e2,h2⟩:=I.t;rw[e,h2]at hl0;cases hl0
   have nlu:l≠lu:=fun e=>by obtain⟨e2,h2⟩:=I.u;rw[e,h2]at hl0;cases hl0
   have ha3:=I3.s _ _ ha0;refine⟨_,rfl,.inr ⟨l,_,rfl,bC.of hl3,C9 (fun j σ H'=>(∃kT2 ab2,qC H H' zs p lu kT2 ab2/\(∀x∈ks ab,x∈ks ab2)/\(∀e∈(aW y).take j,e∈ks ab2)/\iI H3 H'/\H' l=some (.lst ((aW y).map V.str)))/\∃v6 v7 v8 v9,σ=[some (V.ref s),some (.ref h),some (.ref p),some (.ref lu),some (.ref a0),some (.ref l),v6,v7,v8,v9]) ⟨⟨kT,ab,I3,fun _ h=>h,(fun _ h=>nomatch h),fun _ _ h=>h,hl3⟩,_,_,_,_,rfl⟩ (fun j σ H' _ ⟨⟨_,_,_,_,_,_,e⟩,_⟩=>bC.of e) ?_ ?_⟩⟩
   .rintro j x t σ H4 hx ht ⟨⟨kT2,ab2,I4,hs1,hs2,kt4,hl4⟩,v6,v7,v8,v9,rfl⟩;obtain⟨e,he,rfl⟩:=strAt hx;have hez:e∈zs:=hrow y hyx e (mem_of_getElem? he);have hlen4:=I4.len;have hab4:=I4.up.len;have htk:=take_snoc he;have I5:=I4.new (o:=.tup [.int j,.str e]) ht;have kt5:iI H3 (upd H4 t (.tup [.int j,.str e])):=kt4.trans (aF.upd ht).kt;have hl5:upd H4 t (.tup [.int j,.str e]) l=some (.lst ((aW y).map V.str)):=aF.upd ht _ _ hl4;have ht5:upd H4 t (.tup [.int j,.str e]) t=some (.tup [.int j,.str e]):=aB;generalize upd H4 t (.tup [.int j,.str e])=H5 at I5 kt5 hl5 ht5⊢
    walk_at "vc0";refine⟨_,bU.of ht5,rfl,_,_,rfl,_,_,rfl,rfl,?_⟩;refine aK ?_;walk_at "vc1"
    refine .inl ⟨dF ab2,.inr e,I5.u,rfl,iZ (by rw[dR];omega),fun ep=>?_⟩;rw[show putK (dF ab2) (Sum.inr e) V.aP=dF (gH ab2 e none)from iB ab2 e none];have I6:=I5.N7 hlu npu hez (o:=none) (fun y h=>nomatch h) ep;have kt6:=kt5.trans (iI.dk (ob:=.dK (dF (gH ab2 e none)) ep) I5.u);have hl6:upd H5 lu (.dK (dF (gH ab2 e none)) ep) l=some (.lst ((aW y).map V.str)):=by rw[aG nlu];exact hl5
    generalize upd H5 lu (.dK (dF (gH ab2 e none)) ep)=H6 at I6 kt6 hl6⊢
    have hs6:∀x∈ks ab,x∈ks (gH ab2 e none):=fun x hx=>dZ.mpr (.inl (hs1 x hx))
    have hs7:∀x∈(aW y).take (j+1),x∈ks (gH ab2 e none):=fun x hx=>by
     rw[htk]at hx;exact dZ.mpr ((mem_append.mp hx).elim (fun h=>.inl (hs2 x h)) fun h=>.inr (mem_singleton.mp h))
    walk_at "vc0";refine lX (fun hj=>?_) (fun hj=>?_)
    .have ha6:=kt6 _ _ ha3;obtain⟨j',rfl⟩:∃j':Nat,j=j'+1:=⟨j - 1,by omega⟩;have hjl:j'<(aW y).length:=by have:=(List.getElem?_eq_some_iff.mp he).1;omega
     have he':(aW y)[j']? =some (aW y)[j']:=getElem?_eq_getElem hjl;have hek:(aW y)[j']∈ks (gH ab2 e none):=dZ.mpr (.inl (hs2 _ (by
      rw[take_snoc he'];exact mem_append_right _ (by simp))))
     refine aK ?_;walk_at "vc0"
     refine⟨_,bU.of ha6,_,cQ (j:=1) rfl,_,bU.of ha6,_,C4,_,bC.of hl6,.str (aW y)[j'],?_,gO (by decide),fun b hb=>?_⟩
     .rw[show(((j'+1:Nat):Int) - 1)=(j':Int) by omega];exact cQ (by rw[getElem?_map,he'];rfl)
     have I7:=I6.new (o:=.tup [.int y.d,.str y.n,.str (aW y)[j']]) hb;have kt7:=kt6.trans (aF.upd (o:=.tup [.int y.d,.str y.n,.str (aW y)[j']]) hb).kt;have hl7:=(aF.upd (o:=.tup [.int y.d,.str y.n,.str (aW y)[j']]) hb) _ _ hl6;have hc7:Tr (upd H6 b (.tup [.int y.d,.str y.n,.str (aW y)[j']])) (E3 (y.d,y.n,(aW y)[j'])) (.ref b):=.tup aB (.cons (.int _) (.cons (.str _) (.cons (.str _) .nil)));generalize upd H6 b (.tup [.int y.d,.str y.n,.str (aW y)[j']])=H7 at I7 kt7 hl7 hc7⊢
     walk_at "vc1";obtain⟨eT,hT⟩:=id I7.t;have hlenT:=I7.len;refine⟨.inl ⟨kT2,eT,.inl hT⟩,_,.inl ⟨kT2,.inr e,⟨eT,.inl hT⟩,rfl,rfl⟩,?_⟩;obtain⟨z,hz,hz2⟩:∃z,Tr H7 (E3 z) ((dX kT2 (Sum.inr e)).getD (.ref b))/\z.2.2∈ks (gH ab2 e none):=by
      cases ev:dX kT2 (Sum.inr e)with
      |none=>exact⟨_,hc7,hek⟩
      |some v=>exact I7.get ev
     generalize(dX kT2 (Sum.inr e)).getD (.ref b)=v at hz⊢
     have fin:∀(v':V) z',Tr H7 (E3 z') v'->z'.2.2∈ks (gH ab2 e none)->KH H7 p (.str e) v' fun H'=>(∃kT2 ab2,qC H H' zs p lu kT2 ab2/\(∀x∈ks ab,x∈ks ab2)/\(∀e∈(aW y).take (j'+1+1),e∈ks ab2)/\iI H3 H'/\H' l=some (.lst ((aW y).map V.str)))/\∃x,v9=x:=
      fun v' z' h1 h2=>.inl ⟨kT2,.inr e,⟨eT,hT⟩,rfl,iZ (by omega),fun ep=>⟨⟨_,_,I7.TV hp npu hez h1 h2 ep,hs6,hs7,kt7.trans (iI.dk I7.t),by rw[aG nlp];exact hl7⟩,_,rfl⟩⟩
     refine⟨_,_,E3 z,E3 (y.d,y.n,(aW y)[j']),rfl,(lT.cons hz (.cons hc7 .nil)).rep,z0 [z,(y.d,y.n,(aW y)[j'])],?_⟩
     by_cases hbt:Mr.JY [E3 z,E3 (y.d,y.n,(aW y)[j'])] 1 0=true
     .rw[if_pos hbt];exact fin _ _ hc7 hek
     .rw[if_neg hbt];exact fin _ _ hz hz2
    .exact⟨⟨kT2,_,I6,hs6,hs7,kt6,hl6⟩,_,rfl⟩
   .rintro σ H4 ⟨⟨kT2,ab2,I4,hs1,hs2,kt4,hl4⟩,v6,v7,v8,v9,rfl⟩;refine⟨⟨kT2,ab2,I4,fun x hx e he=>?_⟩,_,_,_,_,_,_,rfl⟩;rw[take_snoc hy]at hx;rcases mem_append.mp hx with h|h
    .exact hs1 e (hall x h e he)
    .rw[mem_singleton.mp h]at he;rw[length_map,take_length]at hs2;exact hs2 e he
  .rintro σ H2 ⟨⟨kT,ab,I,hall⟩,v4,v5,v6,v7,v8,v9,rfl⟩;rw[<-hst.length,take_length]at hall;dsimp only;obtain⟨eT,hT⟩:=id I.t;have hlenT:=I.len;refine aK ⟨_,rfl,p,kT,rfl,⟨eT,.inl hT⟩,fun v hv=>⟨v,p,kT,eT,rfl,aB,.inl (aF.upd hv _ _ hT),oK (fun i σ H'=>(∃ab2,qC H H' zs p lu kT ab2/\H' p=some (.dK kT eT)/\∀x∈ks ab,x∈ks ab2)/\∃v4 v5 v6 v7 v8 v9,σ=[some (V.ref s),some (.ref h),some (.ref p),some (.ref lu),v4,v5,v6,v7,v8,v9]) ⟨⟨ab,I.new hv,aF.upd hv _ _ hT,fun _ h=>h⟩,_,_,_,_,_,_,rfl⟩ (fun i σ H' _ ⟨⟨_,_,e,_⟩,_⟩=>.inl e) ?_ ?_⟩⟩
   .rintro i kv t σ H3 hkv ht ⟨⟨ab2,I3,hp3,hs3⟩,v4,v5,v6,v7,v8,v9,rfl⟩;obtain⟨n,z,ekv,hn,hz,hz2⟩:=I3.td kv (mem_of_getElem? hkv);obtain⟨b,eb,hb⟩:=QI hz;rw[ekv,eb];have hb3:=(aF.upd (o:=.tup [kV (Sum.inr n),V.ref b]) ht) _ _ hb;have hab3:=I3.up.len;have I4:=I3.new (o:=.tup [kV (Sum.inr n),V.ref b]) ht;have hp4:=(aF.upd (o:=.tup [kV (Sum.inr n),V.ref b]) ht) _ _ hp3;have ht4:upd H3 t (.tup [kV (Sum.inr n),V.ref b]) t=some (.tup [kV (Sum.inr n),V.ref b]):=aB;generalize upd H3 t (.tup [kV (Sum.inr n),V.ref b])=H4 at hb3 I4 hp4 ht4⊢
    walk_at "vc1";refine⟨_,bU.of ht4,rfl,_,_,rfl,_,_,rfl,rfl,b,rfl,_,bU.of hb3,_,cQ (j:=2) rfl,.inl ⟨dF ab2,.inr n,I4.u,rfl,iZ (by rw[dR];omega),fun ep=>?_⟩⟩;rw[show putK (dF ab2) (Sum.inr n) (V.str z.2.2)=dF (gH ab2 n (some z.2.2))from iB ab2 n (some z.2.2)];exact⟨⟨_,I4.N7 hlu npu hn (fun y e=>by cases e;exact .inl hz2) ep,by rw[aG npu];exact hp4,fun x hx=>dZ.mpr (.inl (hs3 x hx))⟩,_,rfl⟩
   .rintro σ H3 ⟨⟨ab2,I3,hp3,hs3⟩,v4,v5,v6,v7,v8,v9,rfl⟩;dsimp only;have hk3:=I3.s _ _ hk;refine aK ⟨_,rfl,s,kvs,rfl,⟨ek,.inl hk3⟩,fun v hv=>⟨v,s,kvs,ek,rfl,aB,.inl (aF.upd hv _ _ hk3),sO (fun i σ H'=>(∃ab3,qC H H' zs p lu kT ab3/\(∀x∈ks ab2,x∈ks ab3)/\∀x∈xs.take i,x.n∈ks ab3)/\∃v4 v5 v6 v7 v8 v9,σ=[some (V.ref s),some (.ref h),some (.ref p),some (.ref lu),v4,v5,v6,v7,v8,v9]) ⟨⟨ab2,I3.new hv,fun _ h=>h,fun _ h=>nomatch h⟩,_,_,_,_,_,_,rfl⟩ (fun i σ H' _ ⟨⟨_,I,_⟩,_⟩=>.inl (I.s _ _ hk)) ?_ ?_⟩⟩
    .rintro i kv σ H4 hkv ⟨⟨ab3,I4,hs4,hn4⟩,v4,v5,v6,v7,v8,v9,rfl⟩;obtain⟨y,hy,hR⟩:=L2.Paired.lY hst hkv;have hyx:=mem_of_getElem? hy;obtain⟨a0,r0,ea,ha0,hr0⟩:=hR.2.at';obtain⟨_,hR⟩:=hR;rw[ea]at hR⊢
     walk_at "vc1";refine⟨gO (by decide),fun b hb=>⟨_,y,rfl,hR.kp (I4.s.trans (aF.upd hb)).kt,fun l H5 s5 hl0 hl5=>⟨l,rfl,_,s5 _ _ aB,_,hl5,gO ?_,fun c hc=>?_⟩⟩⟩
     .have h1:=BH y;have h2:=hR.ok.lr;show 1+_<=_;rw[length_map];omega
     have I6:=(((I4.new (o:=.lst [V.aP]) hb).same s5).new (o:=.lst ([V.aP]++(aW y).map V.str)) hc);obtain⟨o,ho,hoe⟩:=IL (l:=aW y);refine⟨_,bC.of aB,_,ho,_,bU.of (I6.s _ _ ha0),_,C4,.inl ⟨dF ab3,.inr y.n,I6.u,rfl,iZ (by rw[dR];have:=I4.up.len;omega),fun ep=>?_⟩⟩;rw[iB];refine⟨⟨_,I6.N7 hlu npu (hnm y hyx).1 (fun e he=>.inl (hs4 e (hs3 e (hall y hyx e (hoe e he))))) ep,fun x hx=>dZ.mpr (.inl (hs4 x hx)),fun x hx=>?_⟩,_,rfl⟩;rw[take_snoc hy]at hx;rcases mem_append.mp hx with h|h
     .exact dZ.mpr (.inl (hn4 x h))
     .rw[mem_singleton.mp h];exact dZ.mpr (.inr rfl)
    .rintro σ H4 ⟨⟨ab3,I4,hs4,hn4⟩,v4,v5,v6,v7,v8,v9,rfl⟩;rw[<-hst.length,take_length]at hn4;dsimp only;have hh4:=I4.s _ _ heh;refine aK ⟨_,rfl,h,[],rfl,⟨eh,.inl hh4⟩,fun v hv=>⟨v,h,[],eh,rfl,aB,.inl (aF.upd hv _ _ hh4),sO (fun i σ H'=>qC H H' zs p lu kT ab3/\∃v4 v5 v6 v7 v8 v9,σ=[some (V.ref s),some (.ref h),some (.ref p),some (.ref lu),v4,v5,v6,v7,v8,v9]) ⟨I4.new hv,_,_,_,_,_,_,rfl⟩ (fun i σ H' _ ⟨I,_⟩=>.inl (I.s _ _ heh)) (fun i kv σ H' hkv=>by simp at hkv) ?_⟩⟩;rintro σ H5 ⟨I5,v4,v5,v6,v7,v8,v9,rfl⟩;dsimp only;have hh5:=I5.s _ _ heh;refine aK ⟨_,rfl,h,[],rfl,⟨eh,.inl hh5⟩,fun v hv=>⟨v,h,[],eh,rfl,aB,.inl (aF.upd hv _ _ hh5),oK (fun i σ H'=>qC H H' zs p lu kT ab3/\∃v4 v5 v6 v7 v8 v9,σ=[some (V.ref s),some (.ref h),some (.ref p),some (.ref lu),v4,v5,v6,v7,v8,v9]) ⟨I5.new hv,_,_,_,_,_,_,rfl⟩ (fun i σ H' _ ⟨I,_⟩=>.inl (I.s _ _ heh)) (fun i kv t σ H' hkv=>by simp at hkv) ?_⟩⟩;rintro σ H6 ⟨I6,v4,v5,v6,v7,v8,v9,rfl⟩;dsimp only;walk_at "vc0";exact q lu ab3 H6 I6.s hlu ⟨I6.u,I6.up⟩ hn4
theorem kH:aX ["_law_hand_here","_law_names_here","_law_order","_law_found","_law_up_here","_law_turn","_law_name_here"] ["_law_hand_here","_law_names_here"] (aD fJ):=⟨rfl,rfl,rfl,by decide+kernel,rfl,by decide+kernel,by decide+kernel⟩
set_option maxHeartbeats 4000000 in
theorem AL (T:Txt K mg fs fds tc u) (G_law_take:aZ P w K mg base dS 1 (fs 10) (fds 10) ["_law_hand_here","_law_many"] sN):aZ P w K mg base dS 2 (fs 21) (fds 21) ["_law_hand_here","_law_names_here"] NC:=by
 refine T.tV.F.ok kH (fun vs H Q E h=>?_) (fun cdv A outer s H vs Q E hr h=>?_)
 .obtain⟨p,l,zs,c,rfl,hp,hc,hN,npl,q⟩:=h;rfl
 .obtain⟨p,l,zs,c,rfl,hp,hc,hN,npl,q⟩:=h;refine⟨_,(aE (LG (i:=2) (j:=3) (l:=4) rfl kH.nd rfl rfl rfl (by decide) (by decide) (by decide) rfl rfl rfl (aA (eN (M4 K) (by rfl) T.pE CN (aA (pv 1) aC)) (aA (eG aC) (aA dQ aC))) rfl)
   (aE (cJ PassesOwn.never rfl (eR rfl T.eW (aA (aN (jU K) (by rfl) T.cH bT (aA (pv 1) aC)) aC)) (aO (i:=5) kH.nd rfl (Or.inl rfl)) (aE (aR (i:=6) kH.nd rfl (Or.inl rfl) (gB K plainAttrs_list slot_list_pop type_list_pop zW (pv 2) (aA (aU T.aQ G_law_take hr (by decide) rfl (aA (pv 0) (aA (aN (jU K) (by rfl) T.cH bT (aA (pv 2) aC)) aC))) aC)))
   (aE (dE (gD hr) (pv 4) (pv 6) (aS (lM K) (bD sH (pv 3) (OJ (PN (ew cK) BI)).h) (aU T.aQ G_law_take hr (by decide) rfl (aA (pv 0) (aA (bD fM (aN (jU K) (by rfl) T.cH bT (aA (pv 3) aC)) aI) aC))) (fun _ _=>rfl)) rfl)
   (aH (fX (gB K plainAttrs_list PySem.F.slot_list_append PySem.F.type_list_append eQ (pv 3) (aA (pv 6) aC)))))))
   (aH (aV (pv 4))))),?_⟩
  have hml:(zs.map V.str).length=zs.length:=length_map ..;have h8:=hN.le;refine aK ?_;walk_at "vc0"
  refine⟨_,.inl (bC.of hN.el),fun lo hlo=>⟨zero_le _,fun lf hlf1 lu hlu1=>?_⟩⟩;have nfo:lf≠lo:=fun e=>by rw[e,aB]at hlf1;cases hlf1
  have hlf:H lf=none:=by rw[aG nfo]at hlf1;exact hlf1
  have nuf:lu≠lf:=fun e=>by rw[e,aB]at hlu1;cases hlu1
  have hlu2:upd H lo (.lst (zs.map V.str)) lu=none:=by rw[aG nuf]at hlu1;exact hlu1
  have nuo:lu≠lo:=fun e=>by rw[e,aB]at hlu2;cases hlu2
  have hlu:H lu=none:=by rw[aG nuo]at hlu2;exact hlu2
  have hpo:=Box.ne hp hlo;have hpf:=Box.ne hp hlf;have hpu:=Box.ne hp hlu;have s0:aF H (upd (upd (upd H lo (.lst (zs.map V.str))) lf (.lst [])) lu (.dK [] 0)):=((aF.upd hlo).trans (aF.upd hlf1)).trans (aF.upd hlu1);refine aK ⟨_,rfl,l,zs.map V.str,rfl,bC.of (s0 _ _ hN.el),_,rfl,by omega,by omega,iG (fun i σ H'=>(∃ys fs ab,H' lo=some (.lst (ys.map V.str))/\H' lf=some (.lst (fs.map V.str))/\dA H' lu (dF ab)/\E7 zs ab/\ys.length+i=zs.length/\fs.length=i/\(∀y∈ys,y∈zs)/\(∀y∈fs,y∈ks ab)/\(∀z∈zs,z∈ys\/ z∈ks ab)/\Box (c+2*i) H' p/\bZ p H H')/\∃v5 v6,σ=[some (V.ref p),some (.ref l),some (.ref lo),some (.ref lf),some (.ref lu),v5,v6]) ⟨⟨zs,[],[],?_,?_,⟨0,aB⟩,E7.nil,rfl,rfl,fun _ h=>h,(fun _ h=>nomatch h),fun _ h=>.inl h,Box.same (p:=p) hp s0,bZ.of s0⟩,_,_,rfl⟩ ?_ ?_⟩
  .rw[aG nuo.symm,aG nfo.symm];exact aB
  .rw[aG nuf.symm];exact aB
  .rintro i σ H2 hi ⟨⟨ys,fs,ab,hlo2,hlf2,⟨eu,hlu2⟩,hup,hyl,hfl,hyz,hfk,hall,hp2,b2⟩,v5,v6,rfl⟩;have hi:i<zs.length:=by simpa using hi
   have hym:(ys.map V.str).length=ys.length:=length_map ..;have hfm:(fs.map V.str).length=fs.length:=length_map ..;walk_at "vc0";refine aK ?_;walk_at "vc0"
   refine⟨.inl ⟨_,bC.of hlo2⟩,_,bC.of hlo2,p,_,c+2*i,rfl,hp2,by omega,by omega,by omega,fun e H3 e0 e1 hp3 b3=>?_⟩;have hlo3:=b3 _ _ hlo2 hpo.symm;have hlf3:=b3 _ _ hlf2 hpf.symm;have hlu3:=b3 _ _ hlu2 hpu.symm;obtain⟨j,rfl⟩:∃j:Nat,e=(j:Int):=⟨e.toNat,by omega⟩;have hj:j<ys.length:=by omega
   refine⟨_,_,rfl,hlo3,by omega,by omega,j,CT (by omega),.str ys[j],by rw[getElem?_map,getElem?_eq_getElem hj];rfl,?_⟩;refine aK ?_;walk_at "vc1"
   have hem:(ys.map V.str).eraseIdx j=(ys.eraseIdx j).map V.str:=uN ys j;rw[hem];have e4o:upd H3 lo (HO.lst ((ys.eraseIdx j).map V.str)) lo=some (.lst ((ys.eraseIdx j).map V.str)):=aB;have e4f:upd H3 lo (HO.lst ((ys.eraseIdx j).map V.str)) lf=some (.lst (fs.map V.str)):=by rw[aG nfo];exact hlf3
   have e4u:upd H3 lo (HO.lst ((ys.eraseIdx j).map V.str)) lu=some (.dK (dF ab) eu):=by rw[aG nuo];exact hlu3
   have hp4:Box (c+2*i+1) (upd H3 lo (HO.lst ((ys.eraseIdx j).map V.str))) p:=by
    obtain⟨a,b,k,he,r⟩:=hp3;exact⟨a,b,k,by rw[aG hpo];exact he,r⟩
   have b4:bZ p H (upd H3 lo (HO.lst ((ys.eraseIdx j).map V.str))):=fun b o h n=>by rw[aG (aJ h hlo)];exact b3 b o (b2 b o h n) n
   generalize upd H3 lo (HO.lst ((ys.eraseIdx j).map V.str))=H4 at e4o e4f e4u hp4 b4⊢
   refine⟨gO (by decide),fun a1 ha1=>⟨fs.map V.str,aF.upd ha1 _ _ e4f,[.aP],aB,gO (by show _+1<=_;omega),fun a2 ha2=>?_⟩⟩;have s6:=(aF.upd (o:=.lst [V.aP]) ha1).trans (aF.upd (o:=.lst (fs.map V.str++[.aP])) ha2);have ha26:upd (upd H4 a1 (.lst [V.aP])) a2 (.lst (fs.map V.str++[.aP])) a2=some (.lst (fs.map V.str++[.aP])):=aB;have np2:a2≠p:=(Box.ne (Box.same (p:=p) hp4 (aF.upd (o:=.lst [V.aP]) ha1)) ha2).symm;generalize upd (upd H4 a1 (.lst [V.aP])) a2 (.lst (fs.map V.str++[.aP]))=H6 at s6 ha26⊢
   refine⟨_,bC.of (s6 _ _ e4f),p,_,c+2*i+1,rfl,Box.same (p:=p) hp4 s6,by omega,by omega,by omega,fun e' H7 f0 f1 hp7 b7=>?_⟩;obtain⟨v,hv,hat⟩:=dY (xs:=fs.map V.str++[V.aP]) f0 (by rw[length_append];show e'<((fs.map V.str).length+1:Nat);omega);obtain⟨o,rfl,ho⟩:∃o,v=oV o/\∀y,o=some y->y∈fs:=by
    rcases mem_append.mp hv with h|h
    .obtain⟨y,hy,rfl⟩:=mem_map.mp h;exact⟨some y,rfl,fun z e=>by cases e;exact hy⟩
    .rw[mem_singleton.mp h];exact⟨none,rfl,fun z e=>nomatch e⟩
   have hb7:=b4.trans ((bZ.of s6).trans b7);have e7o:=b7 _ _ (s6 _ _ e4o) hpo.symm;have e7f:=b7 _ _ (s6 _ _ e4f) hpf.symm;have e7u:=b7 _ _ (s6 _ _ e4u) hpu.symm;have hab8:=hup.len;refine⟨_,e',rfl,bC.of (b7 _ _ ha26 np2),_,hat,.inl ⟨dF ab,.inr ys[j],⟨eu,e7u⟩,rfl,iZ (by rw[dR];omega),fun ep=>?_⟩⟩;rw[iB];have hup8:=hup.put (x:=ys[j]) (o:=o) (hyz _ (getElem_mem hj)) fun y e=>.inl (hfk y (ho y e))
   walk_at "vc0";have g8:upd H7 lu (.dK (dF (gH ab ys[j] o)) ep) lf=some (.lst (fs.map V.str)):=by rw[aG nuf.symm];exact e7f
   refine⟨.inl ⟨_,bC.of g8⟩,_,g8,iZ (by omega),⟨ys.eraseIdx j,?_,fs++[ys[j]],?_,gH ab ys[j] o,⟨ep,?_⟩,hup8,?_,?_,?_,?_,?_,?_,?_⟩,_,rfl⟩
   .rw[aG nfo.symm,aG nuo.symm];exact e7o
   .rw[aB,map_append];rfl
   .rw[aG nuf];exact aB
   .rw[List.length_eraseIdx_of_lt hj];omega
   .rw[length_append];show fs.length+1=_;omega
   .exact fun y hy=>hyz y (List.mem_of_mem_eraseIdx hy)
   .intro y hy;rcases mem_append.mp hy with h|h
    .exact dZ.mpr (.inl (hfk y h))
    .exact dZ.mpr (.inr (mem_singleton.mp h))
   .intro z hz;rcases hall z hz with h|h
    .by_cases ez:z=ys[j]
     .exact .inr (dZ.mpr (.inr ez))
     .refine .inl ?_;obtain⟨k,hk,rfl⟩:=List.mem_iff_getElem.mp h;rw[List.mem_eraseIdx_iff_getElem];exact⟨k,hk,fun e=>ez (by subst e;rfl),rfl⟩
    .exact .inr (dZ.mpr (.inl h))
   .show zH _ (upd _ _ _ p);rw[aG hpf,aG hpu];exact hp7
   .exact fun b z h n=>by rw[aG (aJ h hlf),aG (aJ h hlu)];exact hb7 b z h n
  .rintro σ H2 ⟨⟨ys,fs,ab,hlo2,hlf2,hlu2,hup,hyl,hfl,hyz,hfk,hall,hp2,b2⟩,v5,v6,rfl⟩;rw[toNat_natCast,length_map]at hyl hp2;have ys0:ys=[]:=length_eq_zero_iff.mp (by omega);walk_at "vc0";exact q lu ab H2 hlu ⟨hlu2,hup⟩ (fun z hz=>(hall z hz).elim (fun h=>by rw[ys0]at h;exact nomatch h) id) (Box.up (p:=p) hp2 (by omega)) b2
theorem gE:aX ["_law_hand_here","_law_up_here","_law_names_here","_law_name_here","_law_beneath_here","_law_free"] ["_law_hand_here","_law_up_here"] (aD cY):=⟨rfl,rfl,rfl,by decide+kernel,rfl,by decide+kernel,by decide+kernel⟩
set_option maxHeartbeats 4000000 in
theorem vW (T:Txt K mg fs fds tc u) (G_law_beneath:aZ P w K mg base dS 1 (fs 22) (fds 22) ["_law_up_here","_law_name_here"] RJ) (G_law_take:aZ P w K mg base dS 1 (fs 10) (fds 10) ["_law_hand_here","_law_many"] sN):aZ P w K mg base dS 2 (fs 23) (fds 23) ["_law_hand_here","_law_up_here"] P4:=by
 refine T.pS.F.ok gE (fun vs H Q E h=>?_) (fun cdv A outer s H vs Q E hr h=>?_)
 .obtain⟨p,d,zs,ab,c,rfl,hp,hc,hU,hz,q⟩:=h;rfl
 .obtain⟨p,d,zs,ab,c,rfl,hp,hc,hU,hz,q⟩:=h;refine⟨_,(aE (aR (i:=2) gE.nd rfl (Or.inl rfl) (aN QQ (by rfl) T.gY oG (aA (pv 1) aC)))
   (aH (cA (aT (R4 K hr) (pv 2) (eG aC) (bG _)) (aE (aR (i:=3) gE.nd rfl (Or.inl rfl) (aS (lM K) (pv 2) (aU T.aQ G_law_take hr (by decide) rfl (aA (pv 0) (aA (aN (jU K) (by rfl) T.cH bT (aA (pv 2) aC)) aC))) (fun _ _=>rfl)))
   (aE (aR (i:=4) gE.nd rfl (Or.inr rfl) (aU T.mB G_law_beneath hr (by decide) rfl (aA (pv 1) (aA (pv 3) aC))))
   (aE (aR (i:=5) gE.nd rfl (Or.inl rfl) (bD sH (OJ (PN (ew cK) BI)).h (gK ["_law_one","_law_beneath_here"] 1 [4] ["_law_hand_here","_law_up_here","_law_names_here","_law_name_here","_law_beneath_here","_law_free"] (aD cY) rfl rfl rfl (oH K (pv 2)) (by decide+kernel) (fun _=>(aO (i:=0) (show(["_law_one","_law_beneath_here"]:List Str).Nodup by decide+kernel) rfl (Or.inl rfl))) (fun _=>(qB (aT (Mr.kE hr) (pv 0) (pv 1) (by rfl)))) (fun _=>(pv 0)))))
   (aH (dE (gD hr) (pv 1) (pv 3) (aS (lM K) (pv 5) (aU T.aQ G_law_take hr (by decide) rfl (aA (pv 0) (aA (aN (jU K) (by rfl) T.cH bT (aA (pv 5) aC)) aC))) (fun _ _=>rfl)) rfl))))) bI))),?_⟩
  obtain⟨⟨ep0,e0⟩,hup⟩:=hU;have hl8:=hup.len;have hkl:(ks ab).length=ab.length:=length_map ..;refine aK ?_;walk_at "vc0"
  refine⟨dF ab,⟨ep0,.inl e0⟩,ks ab,G0 ab,by omega,fun l out pm _ hl0=>⟨zero_le _,fun e he=>⟨_,bC.of (aF.upd he _ _ aB),[],bC.of aB,fun _=>⟨iC,rfl⟩,?_⟩⟩⟩;rw[rV];have hol:=pm.length_eq;have hml:(out.map V.str).length=out.length:=length_map ..;have s1:=(aF.upd (o:=.lst (out.map V.str)) hl0).trans (aF.upd (o:=.lst []) he);have npl:=Box.ne hp hl0;cases out with
  |nil=>
   show if(!true)=true then _ else _
   rw[if_neg (by decide)];exact(q ab _ ⟨⟨ep0,s1 _ _ e0⟩,hup⟩ rfl (Box.up (p:=p) (Box.same (p:=p) hp s1) (by omega)) fun b o h _ _=>s1 b o h)
  | cons x0 out0=>
   have hl1:=aF.upd (o:=.lst []) he _ _ (aB (H:=H) (a:=l) (o:=.lst ((x0::out0).map V.str)));rw[show((x0::out0).map V.str).isEmpty=false from rfl];refine cS ?_;have hop:0<(x0::out0).length:=Nat.succ_pos _;generalize x0::out0=out at*;generalize upd (upd H l (.lst (out.map V.str))) e (.lst [])=H1 at*;refine aK ?_;walk_at "vc0"
   have ndp:d≠p:=fun e=>by
    obtain⟨a,b,i,he,_⟩:=hp;rw[e,he]at e0;cases e0
   have hp1:=Box.same (p:=p) hp s1;refine⟨_,bC.of hl1,p,_,c,rfl,hp1,by omega,by omega,by omega,fun e1 H2 d0 d1 hp2 b2=>?_⟩;obtain⟨v,hv,hat⟩:=dY (xs:=out.map V.str) d0 d1;obtain⟨n,hn,rfl⟩:=mem_map.mp hv;have hl2:=b2 _ _ hl1 npl.symm;have e02:=b2 _ _ (s1 _ _ e0) ndp;have bb2:bZ p H H2:=(bZ.of s1).trans b2;refine⟨_,e1,rfl,bC.of hl2,_,hat,?_⟩;refine aK ?_;walk_at "vc0"
   refine⟨d,zs,ab,n,rfl,⟨⟨ep0,e02⟩,hup⟩,hz,fun f kvs H3 s3 hf ⟨ef,hk⟩=>?_⟩;refine aK ?_;walk_at "vc0"
   have hl3:=s3 _ _ hl2;have hp3:=Box.same (p:=p) hp2 s3;have bb3:=bb2.trans (bZ.of (p:=p) s3);have e03:=s3 _ _ e02;refine⟨gO (by decide),fun a1 ha1=>⟨_,rfl,l,rfl,⟨_,bC.of (aF.upd ha1 _ _ hl3)⟩,fun a2 ha2=>rQ ha2 (bC.of (aF.upd ha1 _ _ hl3)) (fun v=>match v with| .str z=>!(dX kvs (.inr z)).isSome|_=>false) (fun v=>v) (fun σ=>∃o,σ=[o,some (.ref f)]) ⟨_,rfl⟩ (iZ (by omega)) ?_ ?_⟩⟩
   .rintro x σ xs N hx hz' ⟨o,rfl⟩ hN;obtain⟨m,hm,rfl⟩:=mem_map.mp hx;unfold bK;walk_at "vc0";refine⟨f,kvs,.inr m,rfl,⟨ef,.inl (aF.upd ha2 _ _ (aF.upd ha1 _ _ hk))⟩,rfl,_,rfl,?_⟩;have h:=hN [some (.str m),some (.ref f)] ⟨_,rfl⟩;dsimp only at h;cases hc:(dX kvs (Sum.inr m)).isSome with
    |true=>
     rw[if_neg (by show¬((!(dX kvs (Sum.inr m)).isSome)=true);rw[hc];decide)]at h;rw[if_neg (by decide)];exact h
    |false=>
     rw[if_pos (by show(!(dX kvs (Sum.inr m)).isSome)=true;rw[hc];rfl)]at h;rw[if_pos (by decide)];refine⟨xs,aB,hz',?_⟩;rw[OO];exact h
   .rw[map_id'];generalize hF:(out.map V.str).filter _=F;have hFm:∀v∈F,v∈out.map V.str:=fun v hv=>by rw[<-hF]at hv;exact(mem_filter.mp hv).1
    have hFl:F.length<=out.length:=by rw[<-hF,<-hml];exact length_filter_le ..
    have ea1:=aF.upd (o:=.lst F) ha2 _ _ (aB (H:=H3) (a:=a1) (o:=.lst [V.aP]));refine⟨a2,rfl,_,ea1,_,aB,gO (by show 1+_<=_;omega),fun a3 ha3=>?_⟩;have s6:=((aF.upd (o:=.lst [V.aP]) ha1).trans (aF.upd (o:=.lst F) ha2)).trans (aF.upd (o:=.lst ([V.aP]++F)) ha3);have np3:=(Box.ne (Box.same (p:=p) hp3 ((aF.upd (o:=.lst [V.aP]) ha1).trans (aF.upd (o:=.lst F) ha2))) ha3).symm;have ea3:upd (upd (upd H3 a1 (.lst [V.aP])) a2 (.lst F)) a3 (.lst ([V.aP]++F)) a3=some (.lst ([V.aP]++F)):=aB;generalize upd (upd (upd H3 a1 (.lst [V.aP])) a2 (.lst F)) a3 (.lst ([V.aP]++F))=H6 at s6 ea3⊢
    walk_at "vc1";refine⟨_,bC.of ea3,p,_,c+1,rfl,Box.same (p:=p) hp3 s6,by omega,by show(0:Int)<((F.length+1:Nat):Int);omega,by show((F.length+1:Nat):Int)<_;omega,fun e' H7 f0 f1 hp7 b7=>?_⟩;obtain⟨v,hv,hat⟩:=dY f0 f1;obtain⟨o,rfl,ho⟩:∃o,v=oV o/\∀y,o=some y->y∈ks ab:=by
     rcases mem_append.mp hv with h|h
     .rw[mem_singleton.mp h];exact⟨none,rfl,fun z e=>nomatch e⟩
     .obtain⟨y,hy,rfl⟩:=mem_map.mp (hFm _ h);exact⟨some y,rfl,fun z e=>by cases e;exact pm.mem_iff.mp hy⟩
    have hnk:n∈ks ab:=pm.mem_iff.mp hn;have hup8:=hup.put (x:=n) (o:=o) (hup.sub n hnk) fun y e=>.inl (ho y e)
    refine⟨_,e',rfl,bC.of (b7 _ _ ea3 np3),_,hat,.inl ⟨dF ab,.inr n,⟨ep0,b7 _ _ (s6 _ _ e03) ndp⟩,rfl,iZ (by rw[dR];omega),fun ep=>?_⟩⟩;rw[iB];refine q _ _ ⟨⟨ep,aB⟩,hup8⟩ (by rw[oN,if_pos hnk]) ?_ fun b z h n1 n2=>?_
    .show zH _ (upd _ _ _ p);rw[aG ndp.symm];exact hp7
    .rw[aG n2];exact b7 b z (s6 b z (bb3 b z h n1)) n1
theorem rZ:aX ["_law_thing"] ["_law_thing"] (aD cG):=⟨rfl,rfl,rfl,by decide+kernel,rfl,by decide+kernel,by decide+kernel⟩
set_option maxHeartbeats 4000000 in
theorem tE (T:Txt K mg fs fds tc u) (G_law_is_name:aZ P w K mg base dS 1 (fs 25) (fds 25) ["_law_thing"] qE):aZ P w K mg base dS 2 (fs 26) (fds 26) ["_law_thing"] (QV markV 2):=by
 refine T.jI.F.ok rZ (fun vs H Q E h=>?_) (fun cdv A outer s H vs Q E hr h=>?_)
 .obtain⟨v,rfl,hA,q⟩:=h;rfl
 .obtain⟨v,rfl,hA,q⟩:=h;refine⟨_,(aE (cA (PW.pt (m9 (fA (fB (aN (EA K) (by rfl) T.cD eS (aA (pv 0) (aA (lN (v:=.ty "tuple") rfl T.eX fR rfl) aC))))) (m9 (aT rB (aN (LO K) (by rfl) T.cH bT (aA (pv 0) aC)) aI (bG _)) (mR (fA (fB (aU T.jE G_law_is_name hr (by decide) rfl (aA (aS (lP K) (pv 0) aI (fun _ _=>rfl)) aC)))))))) (aH (aV eK)) bI)
   (aH (aV (CM (cR wD (aS (lP K) (pv 0) aI (fun _ _=>rfl)) cK (bG _)) (kY (qY (aU T.jE G_law_is_name hr (by decide) rfl (aA (aS (lP K) (pv 0) aI (fun _ _=>rfl)) aC)) (kY (cR rB (aS (lP K) (pv 0) aI (fun _ _=>rfl)) (aS (lP K) (pv 0) aI (fun _ _=>rfl)) (bG _))))))))),?_⟩
  obtain⟨⟨k,hT⟩,hx⟩:=hA;refine aK ?_;walk_at "vc0"
  refine⟨_,hT.is.ty,_,vK k,?_⟩;rcases hT.tup with⟨rfl,a,xs,rfl,ha,et⟩|⟨n,et⟩
  .rw [decide_eq_true rfl];refine cO ?_;have hx:=hx xs et;walk_at "vc0";refine⟨_,bU.of ha,rfl,?_⟩
   by_cases h2:xs.length=2
   .match xs,h2 with
    | [c,e],_=>
     have eq:markV H (.ref a)=(eY c && (decide (e= .aP)||(eY e && !decide (e=c)))):=by unfold markV;rw[et];rfl
     rw[eq]at q;obtain⟨kc,tc'⟩:=(hx.2 c (by simp)).tg;obtain⟨ke,te'⟩:=(hx.2 e (by simp)).tg;rw[decide_eq_true (show(([c,e]:List V).length:Int)=2 from rfl)];refine cO ⟨_,bU.of ha,_,rfl,c,kc,rfl,tc',fun H1 s1=>⟨_,rfl,?_⟩⟩;cases e1:eY c with
     |false=>rw[e1]at q;exact cS (q H1 s1)
     | true=>
      rw[e1,Bool.true_and]at q;refine cO ⟨_,(bU.of ha).same s1,_,rfl,?_⟩;refine lX (fun en=>?_) (fun en=>?_)
      .rw[decide_eq_true en,Bool.true_or]at q;exact q H1 s1
      .rw[decide_eq_false en,Bool.false_or]at q;refine⟨_,(bU.of ha).same s1,_,rfl,e,ke,rfl,te'.same s1,fun H2 s2=>⟨_,rfl,?_⟩⟩;cases e2:eY e with
       |false=>rw[e2]at q;exact kL (q H2 (s1.trans s2))
       |true=>
        rw[e2,Bool.true_and]at q;obtain⟨u,rfl⟩:=iF e1;obtain⟨w,rfl⟩:=iF e2;refine o4 ⟨_,(bU.of ha).same (s1.trans s2),_,rfl,_,(bU.of ha).same (s1.trans s2),_,rfl,rfl,?_⟩;exact q H2 (s1.trans s2)
   .have eq:markV H (.ref a)=false:=by unfold markV;rw[et];exact qW h2
    rw[eq]at q;rw[decide_eq_false (show¬(xs.length:Int)=2 by omega)];exact cS (q H (aF.refl _))
  .have eq:markV H v=false:=by unfold markV;rw[et]
   rw[eq]at q;rw[decide_eq_false n];exact cS (q H (aF.refl _))
theorem j4:aX ["_law_hand_here","_law_names_here","_law_one","_law_other","_law_odd_here"] ["_law_hand_here","_law_names_here"] (aD fH):=⟨rfl,rfl,rfl,by decide+kernel,rfl,by decide+kernel,by decide+kernel⟩
set_option maxHeartbeats 4000000 in
theorem AI (T:Txt K mg fs fds tc u) (G_law_take:aZ P w K mg base dS 1 (fs 10) (fds 10) ["_law_hand_here","_law_many"] sN):aZ P w K mg base dS 2 (fs 28) (fds 28) ["_law_hand_here","_law_names_here"] MY:=by
 refine T.oY.F.ok j4 (fun vs H Q E h=>?_) (fun cdv A outer s H vs Q E hr h=>?_)
 .obtain⟨p,l,zs,c,rfl,hp,hc,hN,hz1,npl,q⟩:=h;rfl
 .obtain⟨p,l,zs,c,rfl,hp,hc,hN,hz1,npl,q⟩:=h;refine⟨_,(aE (rL (i:=2) (j:=3) rfl j4.nd rfl rfl (by decide) rfl rfl (aA (aS (lM K) (pv 1) (aU T.aQ G_law_take hr (by decide) rfl (aA (pv 0) (aA (aN (jU K) (by rfl) T.cH bT (aA (pv 1) aC)) aC))) (fun _ _=>rfl)) (aA (aS (lM K) (pv 1) (aU T.aQ G_law_take hr (by decide) rfl (aA (pv 0) (aA (aN (jU K) (by rfl) T.cH bT (aA (pv 1) aC)) aC))) (fun _ _=>rfl)) aC)) rfl)
   (aE (aR (i:=4) j4.nd rfl (Or.inl rfl) (eG (aA (bP (aA (pv 2) aC)) (aA (bP (aA (pv 2) (aA cK (aA cK aC)))) (aA (bP (aA (pv 2) (aA (pv 3) (aA (pv 3) aC)))) (aA (bP aC) (aA (eG (aA (pv 2) (aA (pv 3) aC))) (aA (bP (aA cK (aA (pv 2) aC))) (aA (bP (aA (pv 2) (aA g9 aC))) (aA (bP (aA g9 (aA (pv 2) aC))) aC))))))))))
   (aE (aR (i:=4) j4.nd rfl (Or.inl rfl) (bD sH (pv 4) (eG (aA (bP (aA (pv 2) (aA g9 aC))) (aA (bP (aA (pv 2) (aA eK aC))) (aA (bP (aA aI (aA (pv 3) aC))) (aA (bP (aA (pv 2) (aA (bP (aA (pv 3) aC)) aC))) (aA (bP (aA (bP (aA (pv 2) aC)) (aA (pv 3) aC))) (aA (pv 2) (aA cK (aA eK aC)))))))))))
   (aE (fX (gB K plainAttrs_list PySem.F.slot_list_append PySem.F.type_list_append eQ (pv 4) (aA (bP (aA (bD jV (pv 2) g9) (aA cK aC))) aC)))
   (aH (aV (aS (lM K) (pv 4) (aU T.aQ G_law_take hr (by decide) rfl (aA (pv 0) (aA (aN (jU K) (by rfl) T.cH bT (aA (pv 4) aC)) aC))) (fun _ _=>rfl)))))))),?_⟩
  have h8:=hN.le;have hml:(zs.map V.str).length=zs.length:=length_map ..;refine aK ?_;walk_at "vc0"
  refine⟨_,bC.of hN.el,p,_,c,rfl,hp,by omega,by omega,by omega,fun d1 H1 d10 d11 hp1 b1=>?_⟩;obtain⟨v,hv,hat⟩:=dY (xs:=zs.map V.str) d10 d11;obtain⟨x,hx,rfl⟩:=mem_map.mp hv;have e1:=b1 _ _ hN.el npl;refine⟨_,d1,rfl,bC.of e1,_,hat,_,bC.of e1,p,_,c+1,rfl,hp1,by omega,by omega,by omega,fun d2 H2 d20 d21 hp2 b2=>?_⟩;obtain⟨v,hv2,hat2⟩:=dY (xs:=zs.map V.str) d20 d21;obtain⟨y,hy,rfl⟩:=mem_map.mp hv2;have b02:=b1.trans b2;have e2:=b2 _ _ e1 npl;refine⟨_,d2,rfl,bC.of e2,_,hat2,?_⟩;have hxl:=(eO (hN.nm x hx)).2;have hyl:=(eO (hN.nm y hy)).2;clear b1 b2 e1 hat hat2 hp1 hv hv2;refine aK ?_;walk_at "vc0"
  have hsx:iV (V.str x):=by show x.length<=1000000;omega
  have hsy:iV (V.str y):=by show y.length<=1000000;omega
  have hse:iV (V.str (Str.ofString "")):=by show(Str.ofString "").length<=1000000;decide+kernel
  have hsA:iV (V.str (Str.ofString "A")):=by show(Str.ofString "A").length<=1000000;decide+kernel
  have A0:∀v∈([]:List V),Any H2 v:=fun _ h=>nomatch h
  have s0:aF H2 H2:=aF.refl _;refine⟨gO (by decide),fun a1 h1=>?_⟩;have A1:=gA (xs:=[V.str x]) A0 h1 ⟨.inr hsx,trivial⟩ (by simp);have s1:=s0.trans (aF.upd (o:=(.tup [V.str x])) h1);generalize upd H2 a1 (.tup [V.str x])=G1 at A1 s1⊢
  refine⟨gO (by decide),fun a2 h2=>?_⟩;have A2:=gA (xs:=[V.str x,V.aP,V.aP]) A1 h2 ⟨.inr hsx,.inr trivial,.inr trivial,trivial⟩ (by simp);have s2:=s1.trans (aF.upd (o:=(.tup [V.str x,V.aP,V.aP])) h2);generalize upd G1 a2 (.tup [V.str x,V.aP,V.aP])=G2 at A2 s2⊢
  clear A1 s1;refine⟨gO (by decide),fun a3 h3=>?_⟩;have A3:=gA (xs:=[V.str x,V.str y,V.str y]) A2 h3 ⟨.inr hsx,.inr hsy,.inr hsy,trivial⟩ (by simp);have s3:=s2.trans (aF.upd (o:=(.tup [V.str x,V.str y,V.str y])) h3);generalize upd G2 a3 (.tup [V.str x,V.str y,V.str y])=G3 at A3 s3⊢
  clear A2 s2;refine⟨gO (by decide),fun a4 h4=>?_⟩;have A4:=gA (xs:=[]) A3 h4 trivial (by simp);have s4:=s3.trans (aF.upd (o:=(.tup [])) h4);generalize upd G3 a4 (.tup [])=G4 at A4 s4⊢
  clear A3 s3;refine⟨gO (by decide),fun a5 h5=>?_⟩;have A5:=w4 (xs:=[V.str x,V.str y]) A4 h5;have s5:=s4.trans (aF.upd (o:=(.lst [V.str x,V.str y])) h5);generalize upd G4 a5 (.lst [V.str x,V.str y])=G5 at A5 s5⊢
  clear A4 s4;refine⟨gO (by decide),fun a6 h6=>?_⟩;have A6:=gA (xs:=[V.aP,V.str x]) A5 h6 ⟨.inr trivial,.inr hsx,trivial⟩ (by simp);have s6:=s5.trans (aF.upd (o:=(.tup [V.aP,V.str x])) h6);generalize upd G5 a6 (.tup [V.aP,V.str x])=G6 at A6 s6⊢
  clear A5 s5;refine⟨gO (by decide),fun a7 h7=>?_⟩;have A7:=gA (xs:=[V.str x,V.str (Str.ofString "")]) A6 h7 ⟨.inr hsx,.inr hse,trivial⟩ (by simp);have s7:=s6.trans (aF.upd (o:=(.tup [V.str x,V.str (Str.ofString "")])) h7);generalize upd G6 a7 (.tup [V.str x,V.str (Str.ofString "")])=G7 at A7 s7⊢
  clear A6 s6;refine⟨gO (by decide),fun a8 h8=>?_⟩;have A8:=gA (xs:=[V.str (Str.ofString ""),V.str x]) A7 h8 ⟨.inr hse,.inr hsx,trivial⟩ (by simp);have s8:=s7.trans (aF.upd (o:=(.tup [V.str (Str.ofString ""),V.str x])) h8);generalize upd G7 a8 (.tup [V.str (Str.ofString ""),V.str x])=G8 at A8 s8⊢
  clear A7 s7;refine⟨gO (by decide),fun a9 h9=>?_⟩;have A9:=w4 (xs:=[V.ref a1,V.ref a2,V.ref a3,V.ref a4,V.ref a5,V.ref a6,V.ref a7,V.ref a8]) A8 h9;have s9:=s8.trans (aF.upd (o:=(.lst [V.ref a1,V.ref a2,V.ref a3,V.ref a4,V.ref a5,V.ref a6,V.ref a7,V.ref a8])) h9);have el1:upd G8 a9 (.lst [V.ref a1,V.ref a2,V.ref a3,V.ref a4,V.ref a5,V.ref a6,V.ref a7,V.ref a8]) a9=some (.lst [V.ref a1,V.ref a2,V.ref a3,V.ref a4,V.ref a5,V.ref a6,V.ref a7,V.ref a8]):=aB;generalize upd G8 a9 (.lst [V.ref a1,V.ref a2,V.ref a3,V.ref a4,V.ref a5,V.ref a6,V.ref a7,V.ref a8])=G9 at A9 s9 el1⊢
  clear A8 s8;refine aK ?_;walk_at "vc0"
  refine⟨gO (by decide),fun a10 h10=>?_⟩;have A10:=gA (xs:=[V.str x,V.str (Str.ofString "A")]) A9 h10 ⟨.inr hsx,.inr hsA,trivial⟩ (by simp);have s10:=s9.trans (aF.upd (o:=(.tup [V.str x,V.str (Str.ofString "A")])) h10);replace el1:=aF.upd (o:=(.tup [V.str x,V.str (Str.ofString "A")])) h10 _ _ el1;generalize upd G9 a10 (.tup [V.str x,V.str (Str.ofString "A")])=G10 at A10 s10 el1⊢
  clear A9 s9;refine⟨gO (by decide),fun a11 h11=>?_⟩;have A11:=gA (xs:=[V.str x,V.bl true]) A10 h11 ⟨.inr hsx,.inr trivial,trivial⟩ (by simp);have s11:=s10.trans (aF.upd (o:=(.tup [V.str x,V.bl true])) h11);replace el1:=aF.upd (o:=(.tup [V.str x,V.bl true])) h11 _ _ el1;generalize upd G10 a11 (.tup [V.str x,V.bl true])=G11 at A11 s11 el1⊢
  clear A10 s10;refine⟨gO (by decide),fun a12 h12=>?_⟩;have A12:=gA (xs:=[V.int 0,V.str y]) A11 h12 ⟨.inr trivial,.inr hsy,trivial⟩ (by simp);have s12:=s11.trans (aF.upd (o:=(.tup [V.int 0,V.str y])) h12);replace el1:=aF.upd (o:=(.tup [V.int 0,V.str y])) h12 _ _ el1;generalize upd G11 a12 (.tup [V.int 0,V.str y])=G12 at A12 s12 el1⊢
  clear A11 s11;refine⟨gO (by decide),fun a13 h13=>?_⟩;have A13:=gA (xs:=[V.str y]) A12 h13 ⟨.inr hsy,trivial⟩ (by simp);have s13:=s12.trans (aF.upd (o:=(.tup [V.str y])) h13);replace el1:=aF.upd (o:=(.tup [V.str y])) h13 _ _ el1;generalize upd G12 a13 (.tup [V.str y])=G13 at A13 s13 el1⊢
  clear A12 s12;refine⟨gO (by decide),fun a14 h14=>?_⟩;have A14:=gA (xs:=[V.str x,V.ref a13]) A13 h14 ⟨.inr hsx,.inl (by simp),trivial⟩ (by simp);have s14:=s13.trans (aF.upd (o:=(.tup [V.str x,V.ref a13])) h14);replace el1:=aF.upd (o:=(.tup [V.str x,V.ref a13])) h14 _ _ el1;generalize upd G13 a14 (.tup [V.str x,V.ref a13])=G14 at A14 s14 el1⊢
  clear A13 s13;refine⟨gO (by decide),fun a15 h15=>?_⟩;have A15:=gA (xs:=[V.str x]) A14 h15 ⟨.inr hsx,trivial⟩ (by simp);have s15:=s14.trans (aF.upd (o:=(.tup [V.str x])) h15);replace el1:=aF.upd (o:=(.tup [V.str x])) h15 _ _ el1;generalize upd G14 a15 (.tup [V.str x])=G15 at A15 s15 el1⊢
  clear A14 s14;refine⟨gO (by decide),fun a16 h16=>?_⟩;have A16:=gA (xs:=[V.ref a15,V.str y]) A15 h16 ⟨.inl (by simp),.inr hsy,trivial⟩ (by simp);have s16:=s15.trans (aF.upd (o:=(.tup [V.ref a15,V.str y])) h16);replace el1:=aF.upd (o:=(.tup [V.ref a15,V.str y])) h16 _ _ el1;generalize upd G15 a16 (.tup [V.ref a15,V.str y])=G16 at A16 s16 el1⊢
  clear A15 s15;refine⟨gO (by decide),fun a17 h17=>?_⟩;have A17:=w4 (xs:=[V.ref a10,V.ref a11,V.ref a12,V.ref a14,V.ref a16,V.str x,V.aP,V.bl true]) A16 h17;have s17:=s16.trans (aF.upd (o:=(.lst [V.ref a10,V.ref a11,V.ref a12,V.ref a14,V.ref a16,V.str x,V.aP,V.bl true])) h17);replace el1:=aF.upd (o:=(.lst [V.ref a10,V.ref a11,V.ref a12,V.ref a14,V.ref a16,V.str x,V.aP,V.bl true])) h17 _ _ el1;have el2:upd G16 a17 (.lst [V.ref a10,V.ref a11,V.ref a12,V.ref a14,V.ref a16,V.str x,V.aP,V.bl true]) a17=some (.lst [V.ref a10,V.ref a11,V.ref a12,V.ref a14,V.ref a16,V.str x,V.aP,V.bl true]):=aB;generalize upd G16 a17 (.lst [V.ref a10,V.ref a11,V.ref a12,V.ref a14,V.ref a16,V.str x,V.aP,V.bl true])=G17 at A17 s17 el1 el2⊢
  clear A16 s16;refine⟨_,el1,_,el2,gO (by show 16<=16777216;decide),?_⟩;have s17':=s17;refine fun a18 h18=>?_
  have A18:=w4 (xs:=([V.ref a1,V.ref a2,V.ref a3,V.ref a4,V.ref a5,V.ref a6,V.ref a7,V.ref a8]++[V.ref a10,V.ref a11,V.ref a12,V.ref a14,V.ref a16,V.str x,V.aP,V.bl true])) A17 h18;have s18:=s17.trans (aF.upd (o:=(.lst ([V.ref a1,V.ref a2,V.ref a3,V.ref a4,V.ref a5,V.ref a6,V.ref a7,V.ref a8]++[V.ref a10,V.ref a11,V.ref a12,V.ref a14,V.ref a16,V.str x,V.aP,V.bl true]))) h18);replace el1:=aF.upd (o:=(.lst ([V.ref a1,V.ref a2,V.ref a3,V.ref a4,V.ref a5,V.ref a6,V.ref a7,V.ref a8]++[V.ref a10,V.ref a11,V.ref a12,V.ref a14,V.ref a16,V.str x,V.aP,V.bl true]))) h18 _ _ el1;replace el2:=aF.upd (o:=(.lst ([V.ref a1,V.ref a2,V.ref a3,V.ref a4,V.ref a5,V.ref a6,V.ref a7,V.ref a8]++[V.ref a10,V.ref a11,V.ref a12,V.ref a14,V.ref a16,V.str x,V.aP,V.bl true]))) h18 _ _ el2;have el3:upd G17 a18 (.lst ([V.ref a1,V.ref a2,V.ref a3,V.ref a4,V.ref a5,V.ref a6,V.ref a7,V.ref a8]++[V.ref a10,V.ref a11,V.ref a12,V.ref a14,V.ref a16,V.str x,V.aP,V.bl true])) a18=some (.lst ([V.ref a1,V.ref a2,V.ref a3,V.ref a4,V.ref a5,V.ref a6,V.ref a7,V.ref a8]++[V.ref a10,V.ref a11,V.ref a12,V.ref a14,V.ref a16,V.str x,V.aP,V.bl true])):=aB;generalize upd G17 a18 (.lst ([V.ref a1,V.ref a2,V.ref a3,V.ref a4,V.ref a5,V.ref a6,V.ref a7,V.ref a8]++[V.ref a10,V.ref a11,V.ref a12,V.ref a14,V.ref a16,V.str x,V.aP,V.bl true]))=G18 at A18 s18 el1 el2 el3⊢
  clear A17 s17;have h18n:H2 a18=none:=lO s17' h18;have nb:a18≠p:=fun e=>by
   have h2:=s18;obtain⟨i,j,k,ep,_⟩:=hp2;have h3:=s18 _ _ ep;rw[<-e,el3]at h3;cases h3
  refine aK ?_;walk_at "vc0"
  have hdl:(Str.ofString "-").length=1:=by decide+kernel
  have lx:(x++Str.ofString "-").length<=13:=by rw[HM,hdl];omega
  have hsd:iV (V.str (x++Str.ofString "-")):=by show(x++Str.ofString "-").length<=1000000;omega
  refine⟨.inl ⟨_,bC.of el3⟩,gO (by omega),gO (by decide),fun a19 h19=>⟨_,aF.upd h19 _ _ el3,iZ (by show 16<16777216;decide),_,bC.of aB,?_⟩⟩;have A19:=gA (xs:=[V.str (x++Str.ofString "-"),V.aP]) A18 h19 ⟨.inr hsd,.inr trivial,trivial⟩ (by simp);have e19:=aF.upd (o:=.tup [V.str (x++Str.ofString "-"),V.aP]) h19 _ _ el3;have s19:=s18.trans (aF.upd (o:=.tup [V.str (x++Str.ofString "-"),V.aP]) h19);generalize upd G18 a19 (.tup [V.str (x++Str.ofString "-"),V.aP])=G19 at A19 e19 s19⊢
  have kF:=Kp.lst (ys:=[V.ref a1,V.ref a2,V.ref a3,V.ref a4,V.ref a5,V.ref a6,V.ref a7,V.ref a8]++[V.ref a10,V.ref a11,V.ref a12,V.ref a14,V.ref a16,V.str x,V.aP,V.bl true]++[V.ref a19]) e19;have AF:∀v∈_,Any (upd G19 a18 (.lst ([V.ref a1,V.ref a2,V.ref a3,V.ref a4,V.ref a5,V.ref a6,V.ref a7,V.ref a8]++[V.ref a10,V.ref a11,V.ref a12,V.ref a14,V.ref a16,V.str x,V.aP,V.bl true]++[V.ref a19]))) v:=fun v hv=>(A19 v hv).kp kF
  have hpF:Box (c+1+1) (upd G19 a18 (.lst ([V.ref a1,V.ref a2,V.ref a3,V.ref a4,V.ref a5,V.ref a6,V.ref a7,V.ref a8]++[V.ref a10,V.ref a11,V.ref a12,V.ref a14,V.ref a16,V.str x,V.aP,V.bl true]++[V.ref a19]))) p:=by
   obtain⟨i,j,k,ep,r⟩:=hp2;exact⟨i,j,k,by rw[aG nb.symm];exact s19 _ _ ep,r⟩
  have bF:bZ p H (upd G19 a18 (.lst ([V.ref a1,V.ref a2,V.ref a3,V.ref a4,V.ref a5,V.ref a6,V.ref a7,V.ref a8]++[V.ref a10,V.ref a11,V.ref a12,V.ref a14,V.ref a16,V.str x,V.aP,V.bl true]++[V.ref a19]))):=fun b o h n=>by
   have h2:=b02 b o h n;rw[aG (aJ h2 h18n)];exact s19 _ _ h2
  have eF:upd G19 a18 (.lst ([V.ref a1,V.ref a2,V.ref a3,V.ref a4,V.ref a5,V.ref a6,V.ref a7,V.ref a8]++[V.ref a10,V.ref a11,V.ref a12,V.ref a14,V.ref a16,V.str x,V.aP,V.bl true]++[V.ref a19])) a18=some (.lst ([V.ref a1,V.ref a2,V.ref a3,V.ref a4,V.ref a5,V.ref a6,V.ref a7,V.ref a8]++[V.ref a10,V.ref a11,V.ref a12,V.ref a14,V.ref a16,V.str x,V.aP,V.bl true]++[V.ref a19])):=aB;generalize upd G19 a18 (.lst ([V.ref a1,V.ref a2,V.ref a3,V.ref a4,V.ref a5,V.ref a6,V.ref a7,V.ref a8]++[V.ref a10,V.ref a11,V.ref a12,V.ref a14,V.ref a16,V.str x,V.aP,V.bl true]++[V.ref a19]))=F at AF hpF bF eF⊢
  refine⟨p,_,c+1+1,rfl,hpF,by omega,by show(0:Int)<((17:Nat):Int);decide,by show((17:Nat):Int)<_;decide,fun d3 H9 d30 d31 hp9 b9=>?_⟩;obtain⟨v,hv,hat⟩:=dY d30 d31;have hAv:Any F v:=KC.all AF (xs:=[V.ref a1,V.ref a2,V.ref a3,V.ref a4,V.ref a5,V.ref a6,V.ref a7,V.ref a8]++[V.ref a10,V.ref a11,V.ref a12,V.ref a14,V.ref a16,V.str x,V.aP,V.bl true]++[V.ref a19]) ⟨.inl (by simp),.inl (by simp),.inl (by simp),.inl (by simp),.inl (by simp),.inl (by simp),.inl (by simp),.inl (by simp),.inl (by simp),.inl (by simp),.inl (by simp),.inl (by simp),.inl (by simp),.inr hsx,.inr trivial,.inr trivial,.inl (by simp),trivial⟩ v hv;exact⟨_,d3,rfl,bC.of (b9 _ _ eF nb),v,hat,q v H9 ((hAv.kp (oE hpF hp9 b9)) 2) (Box.up (p:=p) hp9 (by omega)) (bF.trans b9)⟩
theorem yY:aX ["_law_hand_here","_law_names_here"] ["_law_hand_here","_law_names_here"] (aD eE):=⟨rfl,rfl,rfl,by decide+kernel,rfl,by decide+kernel,by decide+kernel⟩
set_option maxHeartbeats 4000000 in
theorem xU (T:Txt K mg fs fds tc u) (G_law_take:aZ P w K mg base dS 1 (fs 10) (fds 10) ["_law_hand_here","_law_many"] sN):aZ P w K mg base dS 2 (fs 29) (fds 29) ["_law_hand_here","_law_names_here"] HE:=by
 refine T.mL.F.ok yY (fun vs H Q E h=>?_) (fun cdv A outer s H vs Q E hr h=>?_)
 .obtain⟨p,l,zs,c,rfl,hp,hc,hN,h1,q⟩:=h;rfl
 .obtain⟨p,l,zs,c,rfl,hp,hc,hN,h1,q⟩:=h;refine⟨_,(aH (aV (fS BK (bD jV (aS (lM K) (pv 1) (aU T.aQ G_law_take hr (by decide) rfl (aA (pv 0) (aA (aN (jU K) (by rfl) T.cH bT (aA (pv 1) aC)) aC))) (fun _ _=>rfl)) g9) gR (gP (bD fM aI (aU T.aQ G_law_take hr (by decide) rfl (aA (pv 0) (aA aI aC)))))))),?_⟩;walk_at "vc0";have npl:l≠p:=fun e=>by
   obtain⟨a,b,i,he,_⟩:=hp;rw[<-e,hN.el]at he
   match zs,h1,he with
   |z::zs,_,he=>exact absurd he (by simp)
  have hml:(zs.map V.str).length=zs.length:=length_map ..;have h8:=hN.le;refine⟨_,bC.of hN.el,p,_,c,rfl,hp,by omega,by omega,by omega,fun d H1 d0 d1 hp1 b1=>⟨zs.map V.str,d,rfl,bC.of (b1 _ _ hN.el npl),?_⟩⟩;obtain⟨y,hy,hat⟩:=dY d0 d1;obtain⟨z,hz,rfl⟩:=mem_map.mp hy;have zl:=(eO (hN.nm z hz)).2;have e13:(Str.ofString "abcdefghijklm").length=13:=by decide+kernel
  have el:(z++Str.ofString "abcdefghijklm").length<=25:=by rw[HM,e13];omega
  refine⟨_,hat,z,rfl,gO (by rw[e13];omega),p,2,c+1,rfl,hp1,by omega,by decide,by decide,fun e H2 e0 e1 hp2 b2=>⟨e,rfl,gO (by omega),q _ H2 (uP el) hp2 (b1.trans b2)⟩⟩
theorem zM:aX ["thing"] ["thing"] (aD dB):=⟨rfl,rfl,rfl,by decide+kernel,rfl,by decide+kernel,by decide+kernel⟩
set_option maxHeartbeats 4000000 in
theorem yI (T:Txt K mg fs fds tc u) (G_rises:aZ P w K mg base dS 1 (fs 4) (fds 4) ["things"] (xW K)) (G_has_ring:aZ P w K mg base dS 2 (fs 6) (fds 6) ["marks"] QN) (G_is_mark:aZ P w K mg base dS 2 (fs 5) (fds 5) ["thing"] (QV markV 2)):aZ P w K mg base dS 3 (fs 7) (fds 7) ["thing"] SF:=by
 refine T.tH.F.ok zM (fun vs H Q E h=>?_) (fun cdv A outer s H vs Q E hr h=>?_)
 .obtain⟨v,rfl,hv,q⟩:=h;rfl
 .obtain⟨v,rfl,hv,q⟩:=h;refine⟨_,(aE (cA (PW.pt (m9 (fA (fB (aN (EA K) (by rfl) T.cD eS (aA (pv 0) (aA (lN (v:=.ty "tuple") rfl T.eX fR rfl) aC))))) (mR (fA (fB (aN (qZ K rfl) (by rfl) T.iS iR (aA (gK ["part"] 1 [] ["thing"] (aD dB) rfl rfl rfl (gL K (pv 0)) (by decide+kernel) (fun _=>(aO (i:=0) (show(["part"]:List Str).Nodup by decide+kernel) rfl (Or.inl rfl))) (fun _=>dG) (fun _=>(aU T.uJ G_is_mark hr (by decide) rfl (aA (pv 0) aC)))) aC))))))) (aH (aV eK)) bI)
   (aH (aV (qY (aU T.CH G_rises hr (by decide) rfl (aA (gK ["name","elder"] 2 [] ["thing"] (aD dB) rfl rfl rfl (gL K (pv 0)) (by decide+kernel) (fun _=>(fW (n:=2) K rfl (bJ (aO (i:=0) (show(["name","elder"]:List Str).Nodup by decide+kernel) rfl (Or.inl rfl)) (bJ (aO (i:=1) (show(["name","elder"]:List Str).Nodup by decide+kernel) rfl (Or.inl rfl)) fY)))) (fun _=>dG) (fun _=>(pv 0))) aC)) (kY (OZ (aU T.sM G_has_ring hr (by decide) rfl (aA (pv 0) aC)))))))),?_⟩
  obtain⟨hA,h100⟩:=hv;obtain⟨⟨k,hT⟩,hx⟩:=hA;refine aK ?_;walk_at "vc0"
  refine⟨_,hT.is.ty,_,vK k,?_⟩;rcases hT.tup with⟨rfl,a,xs,rfl,ha,et⟩|⟨n,et⟩
  .rw [decide_eq_true rfl];refine cO ?_;have hx:=hx xs et;have hxl:=h100 xs et;have tgs:∀u∈xs,∃k,Tg H u k:=fun u hu=>(hx.2 u hu).tg
   refine⟨_,rfl,a,rfl,⟨_,bU.of ha⟩,fun l hl0=>iH (bU.of ha) (fun v=>.bl (markV H v)) (fun σ=>∃o,σ=[o]) ⟨_,rfl⟩ hl0 (iZ (by omega)) ?_ ?_⟩
   .rintro i x σ H1 ys N hxi ⟨o,rfl⟩ s1 e1 hz hN;have hk:=hx.2 x (mem_of_getElem? hxi);unfold bK;walk_at "vc2";refine⟨x,rfl,hk.kp (.of s1),fun H2 s2=>⟨ys,s2 _ _ e1,hz,?_⟩⟩;obtain⟨k2,t2⟩:=hk.tg;rw[rJ t2 (.of s1)];exact hN _ _ ⟨_,rfl⟩ (fun b o h n=>by rw[aG n];exact s2 b o h) aB
   .intro H1 s1 e1;refine⟨l,rfl,xs.map (markV H),bC.of (by rw[e1];unfold mN;rw[map_map];rfl),?_⟩;rw[show(xs.map (markV H)).all id=xs.all (markV H)from by rw[all_map];rfl];cases em:xs.all (markV H)with
    |false=>
     refine cS (q false H1 s1 ⟨(fun h=>nomatch h),fun⟨ab,⟨t,us,e,ht,hp⟩,hn,_⟩=>?_⟩);cases e;rw[ha]at ht;cases ht;rw[(iD tgs).mpr ⟨ab,hp,hn⟩]at em;cases em
    | true=>
     obtain⟨ab,hp,hn⟩:=(iD tgs).mp em;have hlv:=hp.length;have pv:p6 H (.ref a) ab:=⟨a,xs,rfl,ha,hp⟩;refine cO ⟨_,rfl,a,rfl,⟨_,bU.of (s1 _ _ ha)⟩,fun l2 hl2=>iH (bU.of (s1 _ _ ha)) (BQ H) (fun σ=>∃o1 o2,σ=[o1,o2]) ⟨_,_,rfl⟩ hl2 (iZ (by omega)) ?_ ?_⟩
     .rintro i x σ H2 ys N hxi ⟨o1,o2,rfl⟩ s2 e2 hz hN;obtain⟨z,_,hz'⟩:=L2.Paired.lY hp hxi;rw[IE hz']at hN;obtain⟨b,rfl,hb⟩:=hz';unfold bK;walk_at "vc2";exact⟨_,bU.of ((s1.trans s2) _ _ hb),rfl,_,_,rfl,_,_,rfl,rfl,ys,e2,hz,hN _ _ ⟨_,_,rfl⟩ bZ.upd aB⟩
     .intro H2 s2 e2;rw[CP hp]at e2;refine⟨l2,ks ab,rfl,e2,by rw[length_map,hlv];omega,fun H3 s3=>⟨_,rfl,?_⟩⟩;rw[DJ];have s13:=(s1.trans s2).trans s3;cases er:mY (ks ab)with
      |false=>exact kL (q false H3 s13 ⟨(fun h=>nomatch h),fun⟨ab',m⟩=>by have h:=m.2.2.1;rw[m.1.inj pv,er]at h;exact h⟩)
      | true=>
       refine o4 ⟨.ref a,ab,rfl,pv.kt s13.kt,vX er,by rw[hlv];omega,fun b H4 s4 hb=>⟨_,rfl,q (!b) H4 (s13.trans s4) ?_⟩⟩;constructor
       .intro h;refine⟨ab,pv,hn,er,fun x c=>?_⟩;rw[hb.mpr ⟨x,c⟩]at h;cases h
       .rintro⟨ab',m⟩;have e:=m.1.inj pv;subst e;cases b with
        |false=>rfl
        |true=>obtain⟨x,c⟩:=hb.mp rfl;exact absurd c (m.2.2.2 x)
  .rw[decide_eq_false n];refine cS (q false H (aF.refl _) ⟨(fun h=>nomatch h),fun⟨ab,⟨t,us,e,ht,hp⟩,_⟩=>?_⟩);subst e;rw[dN ht]at et;cases et
theorem j8:aX ["_law_hand_here","_law_many","_law_names_here","_law_turn"] ["_law_hand_here","_law_many"] (aD dI):=⟨rfl,rfl,rfl,by decide+kernel,rfl,by decide+kernel,by decide+kernel⟩
set_option maxHeartbeats 4000000 in
theorem vY (T:Txt K mg fs fds tc u) (G_law_name:aZ P w K mg base dS 2 (fs 11) (fds 11) ["_law_hand_here","_law_used"] PQ):aZ P w K mg base dS 3 (fs 12) (fds 12) ["_law_hand_here","_law_many"] RM:=by
 refine T.pV.F.ok j8 (fun vs H Q E h=>?_) (fun cdv A outer s H vs Q E hr h=>?_)
 .obtain⟨p,m,c,rfl,hp,hc,hm,q⟩:=h;rfl
 .obtain⟨p,m,c,rfl,hp,hc,hm,q⟩:=h;refine⟨_,(aE (aR (i:=2) j8.nd rfl (Or.inl rfl) (eG aC))
   (aE (cJ PassesOwn.never rfl (eR rfl T.eW (aA (pv 1) aC)) (aO (i:=3) j8.nd rfl (Or.inl rfl)) (aH (fX (gB K plainAttrs_list PySem.F.slot_list_append PySem.F.type_list_append eQ (pv 2) (aA (aU T.sP G_law_name hr (by decide) rfl (aA (pv 0) (aA (pv 2) aC))) aC)))))
   (aH (aV (pv 2))))),?_⟩
  refine aK ?_;walk_at "vc0"
  refine⟨zero_le _,fun l hl=>?_⟩;have npl:l≠p:=fun e=>by obtain⟨a,b,i,he,_⟩:=hp;rw[e,he]at hl;cases hl
  have s0:=aF.upd (o:=.lst []) hl;refine aK ⟨_,rfl,_,rfl,by omega,by omega,iG (fun i σ H'=>Box (c+14*i) H' p/\bZ p H H'/\(∃zs,xB H' l zs/\zs.length=i)/\∃v3,σ=[some (V.ref p),some (V.int m),some (V.ref l),v3]) ⟨?_,fun b o h _=>s0 b o h,⟨[],⟨aB,(fun _ h=>nomatch h),zero_le _⟩,rfl⟩,_,rfl⟩ ?_ ?_⟩
  .obtain⟨a,b,i,he,r⟩:=hp;exact⟨a,b,i,s0 _ _ he,r⟩
  .rintro i σ H2 hi ⟨hp2,b2,⟨zs,hN,hz⟩,v3,rfl⟩;have hi:i<m:=by simpa using hi
   walk_at "vc0";refine⟨.inl ⟨_,bC.of hN.el⟩,p,l,zs,c+14*i,rfl,hp2,by omega,hN,npl,fun x H3 hx hp3 b3=>?_⟩;refine⟨_,b3 _ _ hN.el npl,iZ (by rw[length_map];omega),?_,?_,⟨zs++[x],⟨by rw[aB,map_append];rfl,?_,by rw[length_append];show zs.length+1<=9;omega⟩,by rw[length_append];show zs.length+1=_;omega⟩,?_⟩
   .obtain⟨a,b,k,he,a0,b0,b1,k0,k1⟩:=hp3;exact⟨a,b,k,by rw[aG (fun e=>npl e.symm)];exact he,a0,b0,b1,k0,by omega⟩
   .exact fun b o h n=>by rw[aG (aJ h hl)];exact b3 b o (b2 b o h n) n
   .intro z hz;rcases mem_append.mp hz with h|h
    .exact hN.nm z h
    .rw[mem_singleton.mp h];exact hx
   .exact⟨_,rfl⟩
  .rintro σ H2 ⟨hp2,b2,⟨zs,hN,hz⟩,v3,rfl⟩;walk_at "vc0";exact q l zs H2 hl npl hN (by rw[hz];rfl) hp2 b2
theorem i4:aX ["_law_hand_here","_law_names_here","_law_found","_law_name_here","_law_turn"] ["_law_hand_here","_law_names_here"] (aD d9):=⟨rfl,rfl,rfl,by decide+kernel,rfl,by decide+kernel,by decide+kernel⟩
set_option maxHeartbeats 4000000 in
theorem xN (T:Txt K mg fs fds tc u) (G_law_take:aZ P w K mg base dS 1 (fs 10) (fds 10) ["_law_hand_here","_law_many"] sN) (G_law_letter:aZ P w K mg base dS 2 (fs 13) (fds 13) ["_law_hand_here","_law_name_here","_law_names_here"] IP):aZ P w K mg base dS 3 (fs 14) (fds 14) ["_law_hand_here","_law_names_here"] QW:=by
 refine T.rW.F.ok i4 (fun vs H Q E h=>?_) (fun cdv A outer s H vs Q E hr h=>?_)
 .obtain⟨p,l,zs,c,rfl,hp,hc,hN,hz1,npl,q⟩:=h;rfl
 .obtain⟨p,l,zs,c,rfl,hp,hc,hN,hz1,npl,q⟩:=h;refine⟨_,(aE (aR (i:=2) i4.nd rfl (Or.inl rfl) (LF w))
   (aE (cJ PassesOwn.never rfl (oH K (pv 1)) (aO (i:=3) i4.nd rfl (Or.inl rfl)) (aH (cJ PassesOwn.never rfl (eR rfl T.eW (aA (aS (lP K) (bP (aA aI (aA aI (aA aI (aA aI (aA aI (aA aI aC))))))) (aU T.aQ G_law_take hr (by decide) rfl (aA (pv 0) (aA aI aC))) (fun _ _=>rfl)) aC)) (aO (i:=4) i4.nd rfl (Or.inl rfl)) (aH (LI w hr (pv 2) (aU T.oF G_law_letter hr (by decide) rfl (aA (pv 0) (aA (pv 3) (aA (pv 1) aC)))) eK rfl)))))
   (aH (aV (eN (HZ K) (by rfl) T.eX fR (aA (aN (SI hr) (by rfl) T.gY oG (aA (pv 2) aC)) aC)))))),?_⟩
  have h8:=hN.le;have hml:(zs.map V.str).length=zs.length:=length_map ..;refine aK ?_;walk_at "vc0"
  refine .inr fun f hf=>?_
  have npf:=Box.ne hp hf;have s0:aF H (upd H f (DN w f [] 0)):=aF.upd hf;refine aK ⟨_,rfl,l,rfl,⟨_,bC.of (s0 _ _ hN.el)⟩,sT (K:=K) (a:=l) (xs:=zs.map V.str) (fun i σ H'=>(∃kvs ep xs,H' f=some (DN w f kvs ep)/\Paired (tI zs H') xs kvs/\xs.length<=2*i)/\Box (c+65*i) H' p/\bZ p H H'/\∃v3 v4,σ=[some (V.ref p),some (.ref l),some (.ref f),v3,v4]) ⟨⟨[],0,[],aB,.nil,zero_le _⟩,Box.same (p:=p) hp s0,bZ.of s0,_,_,rfl⟩ (fun i σ H' _ ⟨_,_,b,_⟩=>bC.of (b _ _ hN.el npl)) ?_ ?_⟩
  .rintro i x σ H2 hx ⟨⟨kvs,ep,xs,hf2,hpr,hxl⟩,hp2,b2,v3,v4,rfl⟩;obtain⟨n,hn,rfl⟩:=strAt hx;have hnz:=mem_of_getElem? hn;have hi:i<zs.length:=(List.getElem?_eq_some_iff.mp hn).1;walk_at "vc0";refine⟨by decide,fun t ht=>⟨_,rfl,p,6,c+65*i,rfl,Box.same (p:=p) hp2 (aF.upd ht),by omega,by decide,by decide,fun d H3 d0 d1 hp3 b3=>?_⟩⟩;have ntp:t≠p:=(Box.ne hp2 ht).symm;have et:=b3 _ _ (aB (o:=HO.tup [V.int 0,V.int 1,V.int 1,V.int 1,V.int 1,V.int 2]) (a:=t) (H:=H2)) ntp;obtain⟨v,hv,hat⟩:=dY (xs:=[V.int 0,V.int 1,V.int 1,V.int 1,V.int 1,V.int 2]) d0 d1;obtain⟨m,rfl,m2⟩:∃m:Nat,v= .int m/\m<=2:=by
    simp only[mem_cons,mem_nil_iff,or_false]at hv;rcases hv with h|h|h|h|h|h
    .exact⟨0,h,by decide⟩
    .exact⟨1,h,by decide⟩
    .exact⟨1,h,by decide⟩
    .exact⟨1,h,by decide⟩
    .exact⟨1,h,by decide⟩
    .exact⟨2,h,by decide⟩
   have s2t:aF H2 (upd H2 t (HO.tup [V.int 0,V.int 1,V.int 1,V.int 1,V.int 1,V.int 2])):=aF.upd ht;have bb3:=(b2.trans (bZ.of s2t)).trans b3;have hf3:=b3 _ _ (s2t _ _ hf2) npf.symm;have hpr3:Paired (tI zs H3) xs kvs:=L2.Paired.fN hpr fun _ _ h=>(h.kt s2t.kt).kt (Box.kt (d:=0) (Box.same (p:=p) hp2 s2t) b3)
   clear hpr hf2 b2 b3;refine⟨t,_,d,_,rfl,rfl,bU.of et,hat,_,rfl,by omega,by omega,iG (fun j σ H'=>(∃kvs ep xs,H' f=some (DN w f kvs ep)/\Paired (tI zs H') xs kvs/\xs.length<=2*i+j)/\Box (c+65*i+1+30*j) H' p/\bZ p H H'/\∃v4,σ=[some (V.ref p),some (.ref l),some (.ref f),some (.str n),v4]) ⟨⟨kvs,ep,xs,hf3,hpr3,hxl⟩,hp3,bb3,_,rfl⟩ ?_ ?_⟩
   .rintro j σ H4 hj ⟨⟨kvs,ep,xs,hf4,hpr4,hxl4⟩,hp4,b4,v4,rfl⟩;have hj:j<m:=by simpa using hj
    have hlk:=hpr4.length;walk_at "vc0";refine⟨p,l,zs,n,_,rfl,hp4,by omega,⟨b4 _ _ hN.el npl,hN.nm,hN.le⟩,hz1,npl,hN.nm n hnz,fun v x H5 hL en hrw hp5 b5=>?_⟩;obtain⟨a,r,rfl,ha,hr⟩:=hL.at';obtain⟨ks,eks,dks⟩:=JN x;have hf5:=b5 _ _ hf4 npf.symm;have hpr5:Paired (tI zs H5) xs kvs:=L2.Paired.fN hpr4 fun _ _ h=>h.kt (Box.kt (d:=0) hp4 b5)
    have pd:tI zs H5 x (ks,a,.bl true):=⟨hL,eks,by rw[en];exact hnz,hrw⟩;have hnk:=hL.tr.nk (zB x);rw[eks]at hnk;refine .inr ⟨kvs,ep,a,ks,hf5,tI.ks hpr5,rfl,hnk,dks,iZ (by omega),fun ep'=>?_⟩;obtain⟨xs',hx',hxl'⟩:=tI.put hpr5 pd;refine⟨⟨_,⟨ep',aB⟩,xs',L2.Paired.fN hx' fun _ _ h=>h.kt (iI.dn hf5),by omega⟩,?_,fun b o h n=>?_,_,rfl⟩
    .show zH _ (upd _ _ _ p);rw[aG npf];exact hp5
    .rw[aG (aJ h hf)];exact b5 b o (b4 b o h n) n
   .rintro σ H4 ⟨⟨kvs,ep,xs,hf4,hpr4,hxl4⟩,hp4,b4,v4,rfl⟩;rw[toNat_natCast]at hxl4 hp4;exact⟨⟨kvs,⟨ep,hf4⟩,xs,hpr4,by omega⟩,Box.up (p:=p) hp4 (by omega),b4,_,_,rfl⟩
  .rintro σ H2 ⟨⟨kvs,ep,xs,hf2,hpr,hxl⟩,hp2,b2,v3,v4,rfl⟩;walk_at "vc0";rw[hml]at hxl hp2;have hlk:=hpr.length;refine⟨kvs,⟨ep,hf2⟩,_,tI.UN hpr,by omega,fun x hx=>?_,GX xs,fun l2 zs2 ht2 hl2=>⟨_,bC.of aB,fun t ht=>?_⟩⟩
   .obtain⟨y,_,rfl⟩:=mem_map.mp hx;rfl
   .obtain⟨ys,py,ey⟩:=uH (Mr.fF 3 _);rw[ey]at ht2;have s2:=(aF.upd (o:=.lst zs2) hl2).trans (aF.upd (o:=.tup zs2) ht);have hmem:∀x∈ys,x.Ok/\x.n∈zs/\∀r∈x.row,r∈zs:=fun x hx=>GP hpr x (py.mem_iff.mp hx)
    have hyl:=py.length_eq;exact q _ ys _ ⟨t,zs2,rfl,aB,L2.Paired.fN (IU ht2 fun x hx=>(hmem x hx).1) fun _ _ h=>h.kp s2.kt,by omega⟩ (by omega) (fun x hx=>(hmem x hx).2) (Box.up (p:=p) (Box.same (p:=p) hp2 s2) (by omega)) (b2.trans (bZ.of s2))
theorem fE:aX ["_law_hand_here","_law_stand_here","_law_names_here","_law_kind","_law_moves","_law_up_here","_law_ring","_law_cut","_law_turn"] ["_law_hand_here","_law_stand_here","_law_names_here"] (aD eD):=⟨rfl,rfl,rfl,by decide+kernel,rfl,by decide+kernel,by decide+kernel⟩
set_option maxHeartbeats 4000000 in
theorem y6 (T:Txt K mg fs fds tc u) (G_law_shown:aZ P w K mg base dS 1 (fs 20) (fds 20) ["_law_stand_here","_law_up_here"] FZ) (G_law_take:aZ P w K mg base dS 1 (fs 10) (fds 10) ["_law_hand_here","_law_many"] sN) (G_law_any:aZ P w K mg base dS 2 (fs 21) (fds 21) ["_law_hand_here","_law_names_here"] NC) (G_law_up:aZ P w K mg base dS 2 (fs 17) (fds 17) ["_law_stand_here","_law_held"] M5) (G_law_rings:aZ P w K mg base dS 1 (fs 18) (fds 18) ["_law_up_here"] MV) (G_law_moved:aZ P w K mg base dS 2 (fs 23) (fds 23) ["_law_hand_here","_law_up_here"] P4) (G_law_weakest:aZ P w K mg base dS 1 (fs 19) (fds 19) ["_law_stand_here","_law_held","_law_ring"] Q3):aZ P w K mg base dS 3 (fs 24) (fds 24) ["_law_hand_here","_law_stand_here","_law_names_here"] SG:=by
 refine T.rY.F.ok fE (fun vs H Q E h=>?_) (fun cdv A outer s H vs Q E hr h=>?_)
 .obtain⟨p,s,l,zs,xs,c,rfl,hp,hc,hS,hN,npl,nps,q⟩:=h;rfl
 .obtain⟨p,s,l,zs,xs,c,rfl,hp,hc,hS,hN,npl,nps,q⟩:=h;refine⟨_,(aE (rL (i:=3) (j:=4) rfl fE.nd rfl rfl (by decide) rfl rfl (aA (aU T.aQ G_law_take hr (by decide) rfl (aA (pv 0) (aA aI aC))) (aA (aU T.aQ G_law_take hr (by decide) rfl (aA (pv 0) (aA aI aC))) aC)) rfl)
   (aE (cA (aT lJ (pv 3) aI (bG _)) (aH (aR (i:=5) fE.nd rfl (Or.inl rfl) (aU T.tV G_law_any hr (by decide) rfl (aA (pv 0) (aA (pv 2) aC))))) (aE (aR (i:=5) fE.nd rfl (Or.inl rfl) (aU T.x8 G_law_up hr (by decide) rfl (aA (pv 1) (aA dQ aC))))
   (aH (cJ PassesOwn.never rfl (oH K (aU T.pQ G_law_rings hr (by decide) rfl (aA (pv 5) aC))) (aO (i:=6) fE.nd rfl (Or.inl rfl)) (aE (aR (i:=7) fE.nd rfl (Or.inl rfl) (aS (lM K) (eG (aA (aU T.mE G_law_weakest hr (by decide) rfl (aA (pv 1) (aA dQ (aA (pv 6) aC)))) (aA (aS (lM K) (pv 6) (aU T.aQ G_law_take hr (by decide) rfl (aA (pv 0) (aA (aN (jU K) (by rfl) T.cH bT (aA (pv 6) aC)) aC))) (fun _ _=>rfl)) aC))) (eN uW (by rfl) T.uF JQ (aA (cR lJ (pv 3) aI (bG _)) aC)) (fun _ _=>rfl)))
   (aH (dE (gD hr) (pv 5) (pv 7) cK rfl)))))))
   (aE (cJ PassesOwn.never rfl (eR rfl T.eW (aA (pv 4) aC)) (aO (i:=8) fE.nd rfl (Or.inl rfl)) (aH (fX (aU T.pS G_law_moved hr (by decide) rfl (aA (pv 0) (aA (pv 5) aC))))))
   (aH (aV (aU T.pU G_law_shown hr (by decide) rfl (aA (pv 1) (aA (pv 5) aC)))))))),?_⟩
  have h8:=hN.le;refine aK ?_;walk_at "vc0"
  refine⟨p,4,c,rfl,hp,by omega,by decide,by decide,fun k1 H1 k0 k4 hp1 b1=>⟨p,4,c+1,rfl,hp1,by omega,by decide,by decide,fun m1 H2 m0 m4 hp2 b2=>?_⟩⟩;obtain⟨m,rfl⟩:∃m:Nat,m1=(m:Int):=⟨m1.toNat,by omega⟩;have b02:=b1.trans b2;have kt2:=Box.kt (d:=0) hp b02;have hS2:=hS.to kt2 fun o h=>b02 _ _ h nps
  have hl2:=b02 _ _ hN.el npl;obtain⟨⟨kvs,⟨es,hs2⟩,hst⟩,hnm,_,_⟩:=id hS2;refine aK ?_;dsimp only;walk_at "vc0";refine⟨rfl,lX (fun hk=>?_) (fun hk=>?_)⟩
  .refine⟨p,l,zs,c+1+1,rfl,hp2,by omega,⟨hl2,hN.nm,hN.le⟩,npl,fun d ab H3 hd hU hall hp3 b3=>?_⟩;exact wi_rest (K:=K) (hS2.to (Box.kt (d:=0) hp2 b3) fun o h=>b3 _ _ h nps) hc (by omega) (pH hp hp2 b02 hd) hU (fun x hx=>hall _ (hS.nm x hx).1) (Box.up (p:=p) hp3 (by omega)) (b02.trans b3) (aJ hs2 hd) nps q
  .refine aK ?_;walk_at "vc0"
   refine fun h0 hh0=>⟨s,h0,zs,xs,rfl,hS2.to (aF.upd hh0).kt fun o h=>aF.upd hh0 _ _ h,⟨0,aB⟩,fun d ab H3 s3 hd1 hU hin=>?_⟩
   have s23:=(aF.upd (o:=.dK [] 0) hh0).trans s3;have hd:=lO (aF.upd (o:=.dK [] 0) hh0) hd1;have hp3:=Box.same (p:=p) hp2 s23;have ndp:=RQ hp3 hU.el;have nsd:s≠d:=aJ hs2 hd;refine⟨_,rfl,d,zs,ab,rfl,hU,hS.le,fun lr us rs H4 s4 hlr0 hlr hrs hrl=>⟨lr,rfl,⟨_,bC.of hlr⟩,?_⟩⟩;have s24:=s23.trans s4;have hp4:=Box.same (p:=p) hp3 s4;have hU4:HX H4 d zs ab:=⟨gM hU.el s4,hU.up⟩;have b04:=b02.trans (bZ.of s24);have hS4:=hS2.to s24.kt fun o h=>s24 _ _ h
   have hd0:=pH hp hp2 b02 hd;have hrl':=hrs.length;refine sT (K:=K) (a:=lr) (xs:=us) (fun i σ H'=>(∃ab',HX H' d zs ab'/\ks ab'=ks ab)/\Box (c+2+i) H' p/\rS p d H4 H'/\∃v6 v7,σ=[some (.ref p),some (.ref s),some (.ref l),some (.int k1),some (.int m),some (.ref d),v6,v7,none]) ⟨⟨ab,hU4,rfl⟩,hp4,fun _ _ h _ _=>h,_,_,rfl⟩ (fun i σ H' _ ⟨_,_,b,_⟩=>bC.of (b _ _ hlr (Box.ne (p:=p) hp3 hlr0).symm (B1 hU.el hlr0).symm)) ?_ ?_
   .rintro i x σ H5 hx ⟨⟨ab',hU5,hk5⟩,hp5,b5,v6,v7,rfl⟩;obtain⟨r,_,b,rfl,hb0,hb,hrne,hr8,hrk⟩:=L2.Paired.lY hrs hx;have hi:i<us.length:=(List.getElem?_eq_some_iff.mp hx).1;have nbp:=(Box.ne (p:=p) hp3 hb0).symm;have nbd:=(B1 hU.el hb0).symm;have hb5:=b5 _ _ hb nbp nbd;have hS5:=hS4.to (b5.kt hp4 hU4.el) fun o h=>b5 _ _ h nps nsd
    have hrm:(r.map V.str).length=r.length:=length_map ..;have hr0:=length_pos_iff.mpr hrne;walk_at "vc0";refine aK ?_;walk_at "vc0"
    refine fun h1 hh1=>⟨s,h1,b,zs,xs,r,rfl,hS5.to (aF.upd hh1).kt fun o h=>aF.upd hh1 _ _ h,⟨0,aB⟩,aF.upd hh1 _ _ hb5,hrne,hr8,fun x1 H6 hx1 s6=>?_⟩
    have s56:=(aF.upd (o:=.dK [] 0) hh1).trans s6;have hp6:=Box.same (p:=p) hp5 s56;refine⟨_,bC.of (s56 _ _ hb5),p,_,c+2+i,rfl,hp6,by omega,by omega,by omega,fun e H7 e0 e1 hp7 b7=>?_⟩;obtain⟨v,hv,hat⟩:=dY (xs:=r.map V.str) e0 e1;obtain⟨x2,hx2,rfl⟩:=mem_map.mp hv;refine⟨_,e,rfl,bC.of (b7 _ _ (s56 _ _ hb5) nbp),_,hat,gO (by decide),fun b2 hb2=>⟨rfl,_,bC.of aB,?_⟩⟩;obtain⟨x3,hx3,hat3⟩:∃x3∈r,uR [V.str x1,V.str x2] (if decide (k1=1)=true then 1 else 0)=some (V.str x3):=by
     split
     .exact⟨x2,hx2,cQ (j:=1) rfl⟩
     .exact⟨x1,hx1,C4⟩
    refine⟨_,hat3,?_⟩;have hk7:x3∈ks ab':=by rw[hk5];exact hrk x3 hx3
    have hU7:=gM hU5.el s56;obtain⟨e7,hd7⟩:=hU7;have hd8:=(aF.upd (o:=.lst [V.str x1,V.str x2]) hb2) _ _ (b7 _ _ hd7 ndp);have hp8:=Box.same (p:=p) hp7 (aF.upd (o:=.lst [V.str x1,V.str x2]) hb2);have b58:bZ p H5 (upd H7 b2 (.lst [V.str x1,V.str x2])):=((bZ.of s56).trans b7).trans (bZ.of (aF.upd hb2));have hl9:=hU5.up.len;generalize upd H7 b2 (.lst [V.str x1,V.str x2])=H8 at hd8 hp8 b58⊢
    walk_at "vc1";refine .inl ⟨dF ab',.inr x3,⟨e7,hd8⟩,rfl,iZ (by rw[dR];have:=hS.le;omega),fun ep=>?_⟩;rw[show putK (dF ab') (Sum.inr x3) V.aP=dF (gH ab' x3 none)from iB ab' x3 none];refine⟨⟨gH ab' x3 none,⟨⟨ep,aB⟩,hU5.up.put (hU5.up.sub _ hk7) fun y h=>nomatch h⟩,by rw[oN,if_pos hk7];exact hk5⟩,?_,fun b o h n1 n2=>?_,_,rfl⟩
    .show zH _ (upd _ _ _ p);rw[aG ndp.symm];exact Box.up (p:=p) hp8 (by omega)
    .rw[aG n2];exact b58 b o (b5 b o h n1 n2) n1
   .rintro σ H5 ⟨⟨ab',hU5,hk5⟩,hp5,b5,v6,v7,rfl⟩;exact wi_rest (K:=K) (hS4.to (b5.kt hp4 hU4.el) fun o h=>b5 _ _ h nps nsd) hc (by omega) hd0 hU5 (fun x hx=>by rw[hk5];exact hin x hx) (Box.up (p:=p) hp5 (by omega)) (b5.fr b04 hd0) nsd nps q
theorem cW:aX ["_law_stand_here","_law_thing","_law_up_here","_law_reached","_law_name_here","_law_elder","_law_climb","_law_one"] ["_law_stand_here","_law_thing"] (aD bL):=⟨rfl,rfl,rfl,by decide+kernel,rfl,by decide+kernel,by decide+kernel⟩
set_option maxHeartbeats 4000000 in
theorem tR (T:Txt K mg fs fds tc u) (G_law_is_pair:aZ P w K mg base dS 2 (fs 26) (fds 26) ["_law_thing"] (QV markV 2)):aZ P w K mg base dS 3 (fs 27) (fds 27) ["_law_stand_here","_law_thing"] MH:=by
 refine T.j6.F.ok cW (fun vs H Q E h=>?_) (fun cdv A outer s H vs Q E hr h=>?_)
 .obtain⟨d,t,kvs,xs,rfl,hd,hp,hl,hT,q⟩:=h;rfl
 .obtain ⟨d,t,kvs,xs,rfl,hd,hp,hl,hT,q⟩:=h;refine⟨_,(aE (cA (PW.pt (m9 (fA (fB (aN (EA K) (by rfl) T.cD eS (aA (pv 1) (aA (lN (v:=.ty "tuple") rfl T.eX fR rfl) aC))))) (mR (fA (fB (aN (qZ K rfl) (by rfl) T.iS iR (aA (gK ["_law_pair"] 1 [] ["_law_stand_here","_law_thing","_law_up_here","_law_reached","_law_name_here","_law_elder","_law_climb","_law_one"] (aD bL) rfl rfl rfl (gL K (pv 1)) (by decide+kernel) (fun _=>(aO (i:=0) (show(["_law_pair"]:List Str).Nodup by decide+kernel) rfl (Or.inl rfl))) (fun _=>dG) (fun _=>(aU T.jI G_law_is_pair hr (by decide) rfl (aA (pv 0) aC)))) aC))))))) (aH (aV eK)) bI)
   (aE (cA (fA (fB (aN (qZ K rfl) (by rfl) T.iS iR (aA (gK ["_law_one","_law_other"] 2 [] ["_law_stand_here","_law_thing","_law_up_here","_law_reached","_law_name_here","_law_elder","_law_climb","_law_one"] (aD bL) rfl rfl rfl (N6 K rfl T.x4 (aA (pv 1) (aA (fS vG (pv 1) (gP aI) gR) aC))) (by decide+kernel) (fun _=>(fW (n:=2) K rfl (bJ (aO (i:=0) (show(["_law_one","_law_other"]:List Str).Nodup by decide+kernel) rfl (Or.inl rfl)) (bJ (aO (i:=1) (show(["_law_one","_law_other"]:List Str).Nodup by decide+kernel) rfl (Or.inl rfl)) fY)))) (fun _=>dG) (fun _=>(cR tW (aS (lP K) (pv 0) aI (fun _ _=>rfl)) (aS (lP K) (pv 1) aI (fun _ _=>rfl)) (bG _)))) aC)))) (aH (aV eK)) bI)
   (aE (kW (bP (aA dQ (aA dQ aC))) (fW (n:=2) K rfl (bJ (aO (i:=2) cW.nd rfl (Or.inr rfl)) (bJ (aO (i:=3) cW.nd rfl (Or.inl rfl)) fY))))
   (aE (cJ PassesOwn.never rfl (gL K (pv 1)) (fW (n:=2) K rfl (bJ (aO (i:=4) cW.nd rfl (Or.inl rfl)) (bJ (aO (i:=5) cW.nd rfl (Or.inl rfl)) fY))) (aH (dE (gD hr) (pv 2) (pv 4) (pv 5) rfl)))
   (aE (cA (PW.pt (m9 (fA (fB (aN (qZ K rfl) (by rfl) T.iS iR (aA (gK ["_law_elder","_law_up_here"] 1 [2] ["_law_stand_here","_law_thing","_law_up_here","_law_reached","_law_name_here","_law_elder","_law_climb","_law_one"] (aD bL) rfl rfl rfl (qK (oB (pv 2))) (by decide+kernel) (fun _=>(aO (i:=0) (show(["_law_elder","_law_up_here"]:List Str).Nodup by decide+kernel) rfl (Or.inl rfl))) (fun _=>dG) (fun _=>(CM (cR wD (pv 0) cK (bG _)) (kY (cR (O4 hr) (pv 0) (pv 1) (by rfl)))))) aC)))) (mR (fA (fB (aN (qZ K rfl) (by rfl) T.iS iR (aA (gK ["_law_name_here","_law_up_here"] 1 [2] ["_law_stand_here","_law_thing","_law_up_here","_law_reached","_law_name_here","_law_elder","_law_climb","_law_one"] (aD bL) rfl rfl rfl (lV (pv 0)) (by decide+kernel) (fun _=>(aO (i:=0) (show(["_law_name_here","_law_up_here"]:List Str).Nodup by decide+kernel) rfl (Or.inl rfl))) (fun _=>dG) (fun _=>(cR (Mr.inD hr) (pv 0) (pv 1) (by rfl)))) aC))))))) (aH (aV eK)) bI)
   (aE (cJ PassesOwn.never rfl (lV (pv 2)) (aO (i:=4) cW.nd rfl (Or.inl rfl)) (aE (aR (i:=6) cW.nd rfl (Or.inl rfl) (eG (aA (pv 4) aC)))
   (aE (lH PassesOwn.never (aT jY (aS (Mr.NJ hr) (pv 2) (aS (lM K) (pv 6) (y0 rX aI) (fun _ _=>rfl)) (fun _ _=>rfl)) cK (bG _)) (aE (fX (gB K plainAttrs_list PySem.F.slot_list_append PySem.F.type_list_append eQ (pv 6) (aA (aS (Mr.NJ hr) (pv 2) (aS (lM K) (pv 6) (y0 rX aI) (fun _ _=>rfl)) (fun _ _=>rfl)) aC)))
   (aH (cA (aT HS (aN (jU K) (by rfl) T.cH bT (aA (pv 6) aC)) (aN DA (by rfl) T.cH bT (aA (pv 2) aC)) (bG _)) (aH (aV eK)) bI))))
   (aH (cA (aT (Mr.inD hr) (pv 4) (pv 0) (by rfl)) (aH (cJ PassesOwn.never rfl (oH K (pv 6)) (aO (i:=7) cW.nd rfl (Or.inl rfl)) (aH (dE (gD hr) (pv 3) (pv 7) eK rfl)))) bI)))))
   (aH (aV (cR lJ (aN DA (by rfl) T.cH bT (aA (pv 3) aC)) (aN DA (by rfl) T.cH bT (aA (pv 2) aC)) (bG _)))))))))),?_⟩
  obtain⟨ed,hd⟩:=hd;obtain⟨hA,h100⟩:=hT;obtain⟨⟨k,hT⟩,hx⟩:=hA;have hnoT:∀{v:V},i6 H v=none->¬z9 H (xs.map (·.n)) v:=fun{v} et ⟨ab,⟨⟨t',us,e,ht',hp'⟩,_⟩,_⟩=>by
   subst e;rw[dN ht']at et;cases et
  refine aK ?_;walk_at "vc0"
  refine⟨_,hT.is.ty,_,vK k,?_⟩;rcases hT.tup with⟨rfl,a,us,rfl,ha,et⟩|⟨n,et⟩
  .rw [decide_eq_true rfl];refine cO ?_;have hx:=hx us et;have hxl:=h100 us et;have tgs:∀u∈us,∃k,Tg H u k:=fun u hu=>(hx.2 u hu).tg
   refine⟨_,rfl,a,rfl,⟨_,bU.of ha⟩,fun l hl0=>iH (bU.of ha) (fun v=>.bl (markV H v)) (fun σ=>∃o,σ=[o]) ⟨_,rfl⟩ hl0 (iZ (by omega)) ?_ ?_⟩
   .rintro i x σ H1 ys N hxi ⟨o,rfl⟩ s1 e1 hz hN;have hk:=hx.2 x (mem_of_getElem? hxi);unfold bK;walk_at "vc2";refine⟨x,rfl,hk.kp (.of s1),fun H2 s2=>⟨ys,s2 _ _ e1,hz,?_⟩⟩;obtain⟨k2,t2⟩:=hk.tg;rw[rJ t2 (.of s1)];exact hN _ _ ⟨_,rfl⟩ (fun b o h n=>by rw[aG n];exact s2 b o h) aB
   .intro H1 s1 e1;refine⟨l,rfl,us.map (markV H),bC.of (by rw[e1];unfold mN;rw[map_map];rfl),?_⟩;rw[show(us.map (markV H)).all id=us.all (markV H)from by rw[all_map];rfl];cases em:us.all (markV H)with
    |false=>
     refine cS (q false H1 s1 ⟨(fun h=>nomatch h),fun⟨ab,⟨⟨t,us',e,ht,hp⟩,hn,_⟩,_⟩=>?_⟩);cases e;rw[ha]at ht;cases ht;rw[(iD tgs).mpr ⟨ab,hp,hn⟩]at em;cases em
    | true=>
     obtain⟨ab,hpp,hn⟩:=(iD tgs).mp em;have hlv:=hpp.length;have pv:p6 H (.ref a) ab:=⟨a,us,rfl,ha,hpp⟩;have uniq:z9 H (xs.map (·.n)) (.ref a)->(mY (ks ab)=true/\(∀x,¬Rg.w6 (eJ ab) x)/\PJ (xs.map (·.n)) ab):=fun⟨ab',m,dp⟩=>by
      have e:=m.1.inj pv;subst e;exact⟨m.2.2.1,m.2.2.2,dp⟩
     refine cO (aK ?_);walk_at "vc0";have hA1:∀u∈us,jG 2 H1 u:=fun u hu=>(hx.2 u hu).kp (.of s1)
     have ha1:=s1 _ _ ha;have hp1:Paired (lR H1) ab us:=L2.Paired.fN hpp fun _ _ h=>h.kt s1.kt
     have hks:(ks ab).length=us.length:=by rw[length_map];exact hlv
     refine⟨_,rfl,_,rfl,1,rfl,a,us,rfl,ha1,fun b2 H2 s2 hb2=>?_⟩;rw[show(some (1:Int))=some ((1:Nat):Int)from rfl,vF]at hb2;have hdl:(us.drop 1).length=us.length - 1:=length_drop ..;refine⟨a,b2,us,_,rfl,bU.of (s2 _ _ ha1),bU.of hb2,fun l2 hl2=>DH (bU.of (s2 _ _ ha1)) (bU.of hb2) (by omega) (fun i=>.bl (CK (((ks ab)[i]?).getD default) (((ks ab)[i+1]?).getD default))) (fun σ=>∃o1 o2,σ=[o1,o2]) ⟨_,_,rfl⟩ hl2 (iZ (by omega)) ?_ ?_⟩
     .rintro i x y t σ H3 zs N hxi hyi ⟨o1,o2,rfl⟩ s3 ht0 htl hz tl hN;rw[List.getElem?_drop,Nat.add_comm]at hyi;have ks12:=(s1.trans s2).trans s3;obtain⟨z1,hz1,c1,rfl,hc1⟩:=L2.Paired.lY hpp hxi;obtain⟨z2,hz2,c2,rfl,hc2⟩:=L2.Paired.lY hpp hyi;have hk1:(ks ab)[i]? =some z1.1:=by rw[getElem?_map,hz1];rfl
      have hk2:(ks ab)[i+1]? =some z2.1:=by rw[getElem?_map,hz2];rfl
      have st:=aF.upd (o:=.tup [.ref c1,.ref c2]) ht0;unfold bK;walk_at "vc2";have h:=hN [some (.ref c1),some (.ref c2)] (upd (upd H3 t (.tup [.ref c1,.ref c2])) l2 (.lst (zs++[.bl (CK z1.1 z2.1)]))) ⟨_,_,rfl⟩ bZ.upd (by rw[aB,hk1,hk2];rfl);exact⟨_,bU.of aB,rfl,_,_,rfl,_,_,rfl,rfl,c1,rfl,_,bU.of (st _ _ (ks12 _ _ hc1)),_,C4,c2,rfl,_,bU.of (st _ _ (ks12 _ _ hc2)),_,C4,z1.1,rfl,z2.1,rfl,zs,htl,hz,h⟩
     .intro H3 s3 e3;refine⟨l2,rfl,(List.range (us.drop 1).length).map fun i=>CK (((ks ab)[i]?).getD default) (((ks ab)[i+1]?).getD default),bC.of (by rw[e3];unfold mN;rw[map_map];rfl),?_⟩;rw[K9 (by rw[hdl,hks])];have s03:=(s1.trans s2).trans s3;cases er:mY (ks ab)with
      |false=>exact cS (q false H3 s03 ⟨(fun h=>nomatch h),fun dd=>by have h:=(uniq dd).1;rw[er]at h;exact h⟩)
      | true=>
       have nd:=vX er;refine cO (aK ?_);have ha3:=s03 _ _ ha;have hk3:=s03;walk_at "vc0";refine fun du hdu dr hdr1=>⟨gO (by decide),fun pt hpt=>⟨_,bU.of aB,rfl,_,_,rfl,_,_,rfl,rfl,?_⟩⟩
       have nur:dr≠du:=fun e=>by rw[e,aB]at hdr1;cases hdr1
       have hdr:H3 dr=none:=by rw[aG nur]at hdr1;exact hdr1
       have s4:aF H3 (upd (upd (upd H3 du (.dK [] 0)) dr (.dK [] 0)) pt (.tup [.ref du,.ref dr])):=((aF.upd hdu).trans (aF.upd hdr1)).trans (aF.upd hpt);have gu:upd (upd (upd H3 du (.dK [] 0)) dr (.dK [] 0)) pt (.tup [.ref du,.ref dr]) du=some (.dK [] 0):=aF.upd hpt _ _ (aF.upd hdr1 _ _ aB);have gr:upd (upd (upd H3 du (.dK [] 0)) dr (.dK [] 0)) pt (.tup [.ref du,.ref dr]) dr=some (.dK [] 0):=aF.upd hpt _ _ aB;generalize upd (upd (upd H3 du (.dK [] 0)) dr (.dK [] 0)) pt (.tup [.ref du,.ref dr])=G at s4 gu gr⊢
       have ha4:=s4 _ _ ha3;have nau:a≠du:=aJ ha3 hdu;have hp4:Paired (lR G) ab us:=L2.Paired.fN hpp fun _ _ h=>(h.kt s03.kt).kt s4.kt
       have hduH:=lO s03 hdu;have hdrH:=lO s03 hdr;clear s1 e1 hA1 ha1 hp1 hks s2 hb2 s3 e3 hk3 hdr1 hpt hl0 hl2 hx hdl;refine aK ⟨_,rfl,a,rfl,⟨us,bU.of ha4⟩,qL (K:=K) (a:=a) (xs:=us) (fun i σ H'=>dA H' du (dF (ab.take i))/\bZ du G H'/\∃v4 v5,σ=[some (.ref d),some (.ref a),some (.ref du),some (.ref dr),v4,v5,none,none]) ⟨⟨0,gu⟩,bZ.refl,_,_,rfl⟩ (fun i σ H' _ ⟨_,b,_⟩=>bU.of (b _ _ ha4 nau)) ?_ ?_⟩
       .rintro i x σ H5 hxi ⟨⟨e5,h5⟩,b5,v4,v5,rfl⟩;obtain⟨z,hz,cz,rfl,hcz⟩:=L2.Paired.lY hp4 hxi;obtain⟨hnew,etk⟩:=LB nd hz;have hcz5:=b5 _ _ hcz fun e=>by rw[e,gu]at hcz;cases hcz
        walk_at "vc1";refine⟨_,bU.of hcz5,rfl,_,_,rfl,_,_,rfl,rfl,.inl ⟨_,.inr z.1,⟨e5,h5⟩,rfl,iZ (by rw[dR,length_take];omega),fun ep=>?_⟩⟩;rw[CQ hnew,<-etk];exact⟨⟨ep,aB⟩,b5.trans bZ.upd,_,rfl⟩
       .rintro σ H5 ⟨⟨eu,h5⟩,b5,v4,v5,rfl⟩;rw[<-hlv,take_length]at h5;have b05:aF H H5:=fun b o h=>b5 _ _ (s4 _ _ (s03 _ _ h)) (aJ h hduH)
        have gr5:=b5 _ _ gr nur;have hd5:=b05 _ _ hd;have hp5:Paired (mF H5) xs kvs:=L2.Paired.fN hp fun _ _ h=>h.same b05
        have hkx:kvs.map (·.1)=(xs.map (·.n)).map Sum.inr:=xR hp;have hxl5:=hp.length;dsimp only;refine aK ?_;refine xP (fun H'=>aF H5 H'/\¬(fV ab/\∀x∈xs,x.n∈ks ab)) (fun H'=>aF H5 H'/\fV ab/\∀x∈xs,x.n∈ks ab) (fun Q' hA hB=>?_) (fun H6 ⟨s6,hno⟩=>?_) (fun H6 ⟨s6,hcl,hin⟩=>?_)
        .walk_at "vc0";refine⟨_,rfl,du,dF ab,rfl,⟨eu,.inl h5⟩,fun v hv=>⟨v,du,dF ab,eu,rfl,aB,.inl (aF.upd hv _ _ h5),fun l3 hl3=>E4 (.inl (aF.upd hv _ _ h5)) (fun u=>.bl (MW ab u)) (fun σ=>∃o,σ=[o,some (.ref du)]) ⟨_,rfl⟩ hl3 (iZ (by rw[dR];omega)) ?_ ?_⟩⟩
         .rintro kv σ H6 ys N hk ⟨o,rfl⟩ s6 e6 hz hN;obtain⟨z,hz',rfl⟩:=mem_map.mp hk;have h:=hN [some (oV z.2),some (.ref du)] H6 ⟨_,rfl⟩ (aF.refl _);have h6:=s6 _ _ (aF.upd hv _ _ h5);unfold bK;walk_at "vc2";cases hz2:z.2 with
          |none=>
           rw[hz2]at h;exact HU rfl ⟨ys,e6,hz,h⟩
          |some y=>
           rw[hz2]at h;refine E9 (fun e=>nomatch e) ⟨du,dF ab,rfl,⟨eu,.inl h6⟩,.inl ⟨.inr y,rfl,ys,e6,hz,?_⟩⟩;rw[if_neg Bool.false_ne_true,lK];exact h
         .intro H6 s6 e6;refine⟨l3,rfl,(dF ab).map fun kv=>MW ab kv.2,bC.of (by rw[e6];unfold mN;rw[map_map];rfl),?_⟩;rw[KY];have s56:=(aF.upd (o:=AO v du) hv).trans s6;cases hc:P8 ab with
          |false=>exact cS (hA H6 ⟨s56,fun h=>by have:=(qJ nd).mpr h.1;rw[hc]at this;cases this⟩)
          | true=>
           have hcl:=(qJ nd).mp hc;refine cO ⟨_,rfl,d,kvs,ed,rfl,.inl (s56 _ _ hd5),fun l4 hl4=>uV (.inl (s56 _ _ hd5)) hkx (fun _=>true) (fun _ n v=>v= .bl (decide (n∈ks ab))) (fun σ=>∃o,σ=[o,some (.ref du)]) ⟨_,rfl⟩ hl4 (iZ (by rw[length_map];omega)) (fun _ _ _ _ _ r=>r) ?_ ?_⟩
           .rintro n σ H7 ys N hn ⟨o,rfl⟩ s7 e7 hz hN1 hN2;unfold bK;walk_at "vc2";refine⟨du,dF ab,.inr n,rfl,⟨eu,.inl (s7 _ _ (s56 _ _ h5))⟩,rfl,ys,e7,hz,?_⟩;rw[if_neg Bool.false_ne_true,lK];exact hN2 rfl _ _ _ ⟨_,rfl⟩ (aF.refl _) rfl
           .intro H7 ys s7 hpr e7;rw[Paired.GU hpr,filter_eq_self.mpr fun _ _=>rfl]at e7;refine⟨l4,rfl,(xs.map (·.n)).map fun n=>decide (n∈ks ab),bC.of (by rw[e7];unfold mN;rw[map_map (f:=fun n=>decide (n∈ks ab))];rfl),?_⟩;cases hs:((xs.map (·.n)).map fun n=>decide (n∈ks ab)).all id with
            | false=>
             refine hA H7 ⟨s56.trans s7,fun h=>?_⟩;have:((xs.map (·.n)).map fun n=>decide (n∈ks ab)).all id=true:=by
              rw[all_eq_true];intro b hb;obtain⟨n,hn,rfl⟩:=mem_map.mp hb;obtain⟨x,hx,rfl⟩:=mem_map.mp hn;exact decide_eq_true (h.2 x hx)
             rw[hs]at this;cases this
            |true=>exact hB H7 ⟨s56.trans s7,hcl,fun x hx=>of_decide_eq_true (all_eq_true.mp hs _ (mem_map.mpr ⟨x.n,mem_map.mpr ⟨x,hx,rfl⟩,rfl⟩))⟩
        .walk_at "vc0";exact q false H6 (b05.trans s6) ⟨(fun h=>nomatch h),fun dd=>absurd ⟨(uniq dd).2.2.1,fun x hx=>(uniq dd).2.2.2.1 x.n (mem_map.mpr ⟨x,hx,rfl⟩)⟩ hno⟩
        .walk_at "vc0";have h6:=s6 _ _ h5;have gr6:=s6 _ _ gr5;have s06:=b05.trans s6;refine aK ⟨_,rfl,du,dF ab,eu,rfl,.inl h6,nM (fun i σ H'=>(∃R,dA H' dr (iU R)/\R.Nodup/\(∀x∈R,x∈ks ab)/\(∀x,x∈R↔∃n∈(ks ab).take i,n∈xs.map (·.n)/\∃k,Rg.jP (eJ ab) k n=some x))/\(∀x∈(ks ab).take i,¬Rg.w6 (eJ ab) x)/\bZ dr H6 H'/\∃v4 v6 v7,σ=[some (V.ref d),some (.ref a),some (.ref du),some (.ref dr),v4,v5,v6,v7]) ⟨⟨[],⟨0,gr6⟩,nodup_nil,(fun _ h=>nomatch h),fun x=>⟨(fun h=>nomatch h),fun⟨_,h,_⟩=>nomatch h⟩⟩,(fun _ h=>nomatch h),bZ.refl,_,_,_,rfl⟩ (fun i σ H' _ ⟨_,_,b,_⟩=>.inl (b _ _ h6 nur.symm)) ?_ ?_⟩
         .rintro i kv σ H7 hkv ⟨⟨R,⟨er7,hR⟩,ndR,subR,memR⟩,hnc,b7,v4,v6,v7,rfl⟩;obtain⟨st,hst0,e1,_⟩:=nE hkv;rw[e1];have hstk:st∈ks ab:=mem_of_getElem? hst0;have htk:=take_snoc hst0;walk_at "vc0";refine aK ?_;walk_at "vc0"
          refine⟨gO (by decide),fun c hc=>?_⟩;have s07:aF H H7:=fun b o h=>b7 _ _ (s06 b o h) (aJ h hdrH)
          have h7:=b7 _ _ h6 nur.symm;have ncu:du≠c:=aJ h7 hc;have ncr:dr≠c:=aJ hR hc;have s8:aF H7 (upd H7 c (.lst [.str st])):=aF.upd hc;have keep:∀{H9:Hp},bZ c (upd H7 c (.lst [.str st])) H9->aF H7 H9:=fun b9 b o h=>b9 _ _ (s8 _ _ h) (aJ h hc)
          refine aK (DK (K:=K) (s8 _ _ h7) hcl (by omega) hstk aB ncu (fun l w H9 hll b9 hc9 hlast=>?_) (fun H9 b9 hcyc=>q false H9 (s07.trans (keep b9)) ⟨(fun h=>nomatch h),fun dd=>let⟨z,hz⟩:=hcyc;absurd hz ((uniq dd).2.1 z)⟩));have s79:=keep b9;have b69:bZ dr H6 H9:=fun b o h n=>s79 _ _ (b7 b o h n)
          have hnc':∀x∈(ks ab).take (i+1),¬Rg.w6 (eJ ab) x:=fun x hx=>by
           rw[htk]at hx;rcases mem_append.mp hx with h|h
           .exact hnc x h
           .rw[mem_singleton.mp h];exact P5 w.last hlast
          have hlm:∀x,x∈l↔∃k,Rg.jP (eJ ab) k st=some x:=fun x=>⟨w.mem,fun⟨k,e⟩=>w.all hlast e⟩
          have hR9:=s79 _ _ hR;walk_at "vc0";refine⟨d,kvs,.inr st,rfl,⟨ed,.inl ((s07.trans s79) _ _ hd)⟩,rfl,_,rfl,?_⟩;rw[if_neg Bool.false_ne_true];rcases mF.val (n:=st) hp with⟨hv,hno⟩|⟨y,hy,en,u,hv,_⟩
          .rw[hv];refine kL ⟨⟨R,⟨er7,hR9⟩,ndR,subR,fun x=>?_⟩,hnc',b69,_,rfl⟩;rw[memR,htk];constructor
           .rintro⟨n,h1,h2⟩;exact⟨n,mem_append_left _ h1,h2⟩
           .rintro⟨n,h1,h2,h3⟩;rcases mem_append.mp h1 with h|h
            .exact⟨n,h,h2,h3⟩
            .rw[mem_singleton.mp h]at h2;obtain⟨z,hz,ez⟩:=mem_map.mp h2;exact absurd ez (hno z hz)
          .rw[hv];refine o4 ⟨_,rfl,c,rfl,⟨_,bC.of hc9⟩,sT (K:=K) (a:=c) (xs:=l.map V.str) (fun j σ H'=>(∃R',dA H' dr (iU R')/\R'.Nodup/\(∀x∈R',x∈ks ab)/\∀x,x∈R'↔x∈R\/ x∈l.take j)/\bZ dr H9 H'/\∃v7,σ=[some (V.ref d),some (.ref a),some (.ref du),some (.ref dr),some (.str st),v5,some (.ref c),v7]) ⟨⟨R,⟨er7,hR9⟩,ndR,subR,fun x=>by simp⟩,bZ.refl,_,rfl⟩ (fun j σ H' _ ⟨_,b,_⟩=>bC.of (b _ _ hc9 ncr.symm)) ?_ ?_⟩
           .rintro j x σ H10 hxj ⟨⟨R',⟨er,hR'⟩,nd',sub',mem'⟩,b10,v7',rfl⟩;obtain⟨m,hm,rfl⟩:=strAt hxj;have hml:=mem_of_getElem? hm;have hR'l:=fU nd' sub';rw[length_map]at hR'l;walk_at "vc1";refine .inl ⟨iU R',.inr m,⟨er,hR'⟩,rfl,iZ (by rw[jW];omega),fun ep=>⟨⟨kJ R' m,⟨ep,by rw[aB,nQ]⟩,qN nd',fun x hx=>(eL.mp hx).elim (sub' x) fun e=>by rw[e];exact w.keys hcl hstk m hml,fun x=>?_⟩,b10.trans bZ.upd,_,rfl⟩⟩;rw[eL,mem',take_snoc hm,mem_append,mem_singleton,or_assoc]
           .rintro σ H10 ⟨⟨R',⟨er,hR'⟩,nd',sub',mem'⟩,b10,v7',rfl⟩;rw[length_map,take_length]at mem';refine⟨⟨R',⟨er,hR'⟩,nd',sub',fun x=>?_⟩,hnc',b69.trans b10,_,_,_,rfl⟩;rw[mem',memR,htk,hlm];constructor
            .rintro(⟨n,h1,h2⟩|h)
             .exact⟨n,mem_append_left _ h1,h2⟩
             .exact⟨st,mem_append_right _ (by simp),mem_map.mpr ⟨y,hy,en⟩,h⟩
            .rintro⟨n,h1,h2,h3⟩;rcases mem_append.mp h1 with h|h
             .exact .inl ⟨n,h,h2,h3⟩
             .rw[mem_singleton.mp h]at h3;exact .inr h3
         .rintro σ H7 ⟨⟨R,⟨er7,hR⟩,ndR,subR,memR⟩,hnc,b7,v4,v6,v7,rfl⟩;rw[dR,show ab.length=(ks ab).length from(length_map ..).symm,take_length]at memR hnc;walk_at "vc0";have s07:aF H H7:=fun b o h=>b7 _ _ (s06 b o h) (aJ h hdrH)
          refine⟨dr,iU R,rfl,⟨er7,.inl hR⟩,du,dF ab,rfl,⟨eu,.inl (b7 _ _ h6 nur.symm)⟩,rfl,?_⟩;rw[jW,dR];have hS:∀x,x∈R↔BY ab (xs.map (·.n)) x:=fun x=>by
           rw[memR];constructor
           .rintro⟨n,_,h2,h3⟩;exact⟨n,h2,h3⟩
           .rintro⟨n,h2,h3⟩;obtain⟨y,hy,rfl⟩:=mem_map.mp h2;exact⟨y.n,hin y hy,h2,h3⟩
          have key:=yJ ndR subR nd hS;refine q _ H7 s07 ⟨fun h=>?_,fun dd=>?_⟩
          .have h2:R.length=ab.length:=by
            have:=V.int.inj (of_decide_eq_true h);omega
           exact⟨ab,⟨pv,hn,er,fun x c=>hnc x (CI c) c⟩,hcl,(fun n hn=>by obtain⟨y,hy,rfl⟩:=mem_map.mp hn;exact hin y hy),key.mp h2⟩
          .have h2:=key.mpr (uniq dd).2.2.2.2;exact decide_eq_true (by rw[h2])
  .rw[decide_eq_false n];exact cS (q false H (aF.refl _) ⟨(fun h=>nomatch h),fun d=>absurd d (hnoT et)⟩)
theorem sI:aX ["pack","thing","above"] ["pack","thing"] (aD dH):=⟨rfl,rfl,rfl,by decide+kernel,rfl,by decide+kernel,by decide+kernel⟩
set_option maxHeartbeats 4000000 in
theorem BS (T:Txt K mg fs fds tc u) (G_is_marks:aZ P w K mg base dS 3 (fs 7) (fds 7) ["thing"] SF) (G_shown:aZ P w K mg base dS 2 (fs 2) (fds 2) ["pack","above"] RW) (G_standing:aZ P w K mg base dS 1 (fs 0) (fds 0) ["pack"] vJ):aZ P w K mg base dS 4 (fs 8) (fds 8) ["pack","thing"] Q8:=by
 refine T.oQ.F.ok sI (fun vs H Q E h=>?_) (fun cdv A outer s H vs Q E hr h=>?_)
 .obtain⟨v,t,xs,rfl,hP,hT,q⟩:=h;rfl
 .obtain ⟨v,t,xs,rfl,hP,hT,q⟩:=h;refine⟨_,(aE (cA (fA (fB (aU T.tH G_is_marks hr (by decide) rfl (aA (pv 1) aC)))) (aH (aV eK)) bI)
   (aE (aR (i:=2) sI.nd rfl (Or.inr rfl) (MM ["name","elder"] 2 [] ["pack","thing","above"] (aD dH) rfl rfl rfl (gL K (pv 1)) (by decide+kernel) (fun _=>(fW (n:=2) K rfl (bJ (aO (i:=0) (show(["name","elder"]:List Str).Nodup by decide+kernel) rfl (Or.inl rfl)) (bJ (aO (i:=1) (show(["name","elder"]:List Str).Nodup by decide+kernel) rfl (Or.inl rfl)) fY)))) (fun _=>dG) (fun _=>(pv 0)) (fun _=>(pv 1))))
   (aE (cA (fA (fB (aN (qZ K rfl) (by rfl) T.iS iR (aA (gK ["name","elder","above"] 2 [2] ["pack","thing","above"] (aD dH) rfl rfl rfl (gL K (pv 1)) (by decide+kernel) (fun _=>(fW (n:=2) K rfl (bJ (aO (i:=0) (show(["name","elder","above"]:List Str).Nodup by decide+kernel) rfl (Or.inl rfl)) (bJ (aO (i:=1) (show(["name","elder","above"]:List Str).Nodup by decide+kernel) rfl (Or.inl rfl)) fY)))) (fun _=>dG) (fun _=>(CM (cR wD (pv 1) cK (bG _)) (kY (cR (O4 hr) (pv 1) (pv 2) (by rfl)))))) aC)))) (aH (aV eK)) bI)
   (aE (cA (fA (fB (aN (qZ K rfl) (by rfl) T.iS iR (aA (gK ["letter","above"] 1 [2] ["pack","thing","above"] (aD dH) rfl rfl rfl (gL K (aU T.mT G_standing hr (by decide) rfl (aA (pv 0) aC))) (by decide+kernel) (fun _=>(aO (i:=0) (show(["letter","above"]:List Str).Nodup by decide+kernel) rfl (Or.inl rfl))) (fun _=>dG) (fun _=>(cR (Mr.inD hr) (aS (lP K) (pv 0) aI (fun _ _=>rfl)) (pv 1) (by rfl)))) aC)))) (aH (aV eK)) bI)
   (aH (aV (cR lJ (aN DA (by rfl) T.cH bT (aA (aU T.CG G_shown hr (by decide) rfl (aA (pv 0) (aA (pv 2) aC))) aC)) (aN DA (by rfl) T.cH bT (aA (pv 2) aC)) (bG _)))))))),?_⟩
  have hA:=hT.1;refine aK ?_;walk_at "vc0"
  refine⟨t,rfl,hT,fun b1 H1 s1 h1=>⟨_,rfl,?_⟩⟩;cases b1 with
  |false=>exact cS (q false H1 s1 ⟨(fun h=>nomatch h),fun⟨ab,hm,_⟩=>h1.mpr ⟨ab,hm⟩⟩)
  | true=>
   obtain⟨ab,hm⟩:=h1.mp rfl;obtain⟨⟨ta,us,rfl,hta,hp⟩,hnm,hr,hnc⟩:=id hm;have nd:=vX hr;have hlu:=hp.length;have hu100:=hT.2 us (dN hta);have ht1:=s1 _ _ hta;have hp1:Paired (lR H1) ab us:=L2.Paired.fN hp fun _ _ h=>h.kt s1.kt
   have uniq:∀{ns:List Str},z9 H ns (.ref ta)->PJ ns ab:=fun⟨ab',m,dp⟩=>by rw[<-m.1.inj hm.1];exact dp
   refine cO (aK ⟨_,rfl,ta,rfl,⟨us,bU.of ht1⟩,fun l hl0=>HV (bU.of ht1) hp1 nd (iZ (by omega)) hl0 (fun σ=>∃o1 o2,σ=[o1,o2]) ⟨_,_,rfl⟩ ?_ ?_⟩)
   .rintro z u σ H2 kvs N ⟨o1,o2,rfl⟩ ⟨b,rfl,hb⟩ hk hkl hN;unfold FL;walk_at "vc2";exact⟨_,bU.of hb,rfl,_,_,rfl,_,_,rfl,rfl,kvs,hk,.inr z.1,rfl,hkl,fun ep=>hN _ ep ⟨_,_,rfl⟩⟩
   .intro ep;have s2:aF H (upd H1 l (.dK (dF ab) ep)):=s1.trans (aF.upd hl0);have e2:upd H1 l (.dK (dF ab) ep) l=some (.dK (dF ab) ep):=aB;generalize upd H1 l (.dK (dF ab) ep)=H2 at s2 e2⊢
    have ht2:=s2 _ _ hta;have hp2:Paired (lR H2) ab us:=L2.Paired.fN hp fun _ _ h=>h.kt s2.kt
    walk_at "vc0";refine aK ?_;walk_at "vc0";refine⟨_,rfl,ta,rfl,⟨_,bU.of ht2⟩,fun l2 hl2=>iH (bU.of ht2) (fun u=>.bl (MW ab (PF H2 u))) (fun σ=>∃o1 o2,σ=[o1,o2,some (.ref l)]) ⟨_,_,rfl⟩ hl2 (iZ (by omega)) ?_ ?_⟩
    .rintro i u σ H3 ys N hxi ⟨o1,o2,rfl⟩ s3 e3 hz hN;obtain⟨z,_,hz'⟩:=L2.Paired.lY hp2 hxi;rw[HL hz']at hN;obtain⟨b,rfl,hb⟩:=hz';unfold bK;walk_at "vc2";refine⟨_,bU.of (s3 _ _ hb),rfl,_,_,rfl,_,_,rfl,rfl,?_⟩;have h:=hN [some (.str z.1),some (oV z.2),some (.ref l)] _ ⟨_,_,rfl⟩ bZ.upd aB;cases hz2:z.2 with
     |none=>
      rw[hz2]at h;exact HU rfl ⟨ys,e3,hz,h⟩
     |some y=>
      rw[hz2]at h;refine E9 (fun e=>nomatch e) ⟨l,dF ab,rfl,⟨ep,.inl (s3 _ _ e2)⟩,.inl ⟨.inr y,rfl,ys,e3,hz,?_⟩⟩;rw[if_neg Bool.false_ne_true,lK];exact h
    .intro H3 s3 e3;rw[C7 (g:=fun z=>.bl (MW ab (oV z.2))) (fun z u h=>by rw[HL h]) hp2]at e3;refine⟨l2,rfl,ab.map fun z=>MW ab (oV z.2),bC.of (by rw[e3];unfold mN;rw[map_map];rfl),?_⟩;rw[show(ab.map fun z=>MW ab (oV z.2)).all id=P8 ab from by rw[all_map];rfl];have s03:=s2.trans s3;cases hc:P8 ab with
     |false=>exact cS (q false H3 s03 ⟨(fun h=>nomatch h),fun d=>by rw[<-hc];exact(qJ nd).mpr (uniq d).1⟩)
     | true=>
      have hcl:=(qJ nd).mp hc;have e23:=s3 _ _ e2;refine cO (aK ?_);walk_at "vc0";refine⟨_,rfl,v,xs,rfl,hP.kt s03.kt,fun c ws H4 s4 hcw hws=>⟨c,rfl,⟨ws,bU.of hcw⟩,fun l3 hl3=>iH (bU.of hcw) (fun u=>.bl (TB ab (BQ H4 u))) (fun σ=>∃o,σ=[o,some (.ref l)]) ⟨_,rfl⟩ hl3 (iZ ?_) ?_ ?_⟩⟩
      .have:=hws.length;have:=kD xs;obtain⟨_,_,_,_,_,h1000⟩:=hP;omega
      .rintro i u σ H5 ys N hxi ⟨o,rfl⟩ s5 e5 hz hN;obtain⟨x,_,hx⟩:=L2.Paired.lY hws hxi;rw[JR hx]at hN;obtain⟨a,r,rfl,ha,_⟩:=hx.at';unfold bK;walk_at "vc2";have h:=hN [some (.ref a),some (.ref l)] _ ⟨_,rfl⟩ bZ.upd aB;refine⟨_,bU.of (s5 _ _ ha),_,C4,l,dF ab,.inr x.n,rfl,⟨ep,.inl ((s4.trans s5) _ _ e23)⟩,rfl,ys,e5,hz,?_⟩;rw[if_neg Bool.false_ne_true,lK];exact h
      .intro H5 s5 e5;rw[CU (g:=fun x=>.bl (TB ab (.str x.n))) (fun x u h=>by rw[JR h]) hws]at e5;refine⟨l3,rfl,(bV xs).map fun x=>TB ab (.str x.n),bC.of (by rw[e5];unfold mN;rw[map_map];rfl),?_⟩;have s05:=(s03.trans s4).trans s5;cases hs:((bV xs).map fun x=>TB ab (.str x.n)).all id with
       |false=>
        refine cS (q false H5 s05 ⟨(fun h=>nomatch h),fun d=>?_⟩);rw[<-hs,all_eq_true];intro b hb;obtain⟨x,hx,rfl⟩:=mem_map.mp hb;exact decide_eq_true ((uniq d).2.1 x.n (mem_map.mpr ⟨x,hx,rfl⟩))
       | true=>
        have hin:∀x∈bV xs,x.n∈ks ab:=fun x hx=>of_decide_eq_true (all_eq_true.mp hs _ (mem_map.mpr ⟨x,hx,rfl⟩))
        have e25:=(s4.trans s5) _ _ e23;refine cO ?_;refine⟨v,l,xs,ab,rfl,hP.kt s05.kt,⟨ep,e25⟩,nd,hcl,by omega,hin,fun f S H6 s6 hf ⟨ef,hfS⟩ ndS hS=>?_⟩;refine⟨f,iU S,rfl,⟨ef,.inl hfS⟩,l,dF ab,rfl,⟨ep,.inl (s6 _ _ e25)⟩,rfl,?_⟩;rw[jW,dR];have hkey:∀x∈S,x∈ks ab:=fun x hx=>by
         obtain⟨n,hn,k,e⟩:=(hS x).mp hx;obtain⟨y,hy,rfl⟩:=mem_map.mp hn;exact Rg.m7.walk (T:=fun y=>y∈ks ab) (fun a b _ e=>hcl a b e) k (hin y hy) e
        have key:=yJ ndS hkey nd hS;refine q _ H6 (s05.trans s6) ⟨fun h=>?_,fun d=>?_⟩
        .have h2:S.length=ab.length:=by
          have:=of_decide_eq_true h;have:=V.int.inj this;omega
         exact⟨ab,hm,hcl,(fun n hn=>by obtain⟨y,hy,rfl⟩:=mem_map.mp hn;exact hin y hy),key.mp h2⟩
        .have h2:=key.mpr (uniq d).2.2;exact decide_eq_true (by rw[h2])
theorem bX:aX ["_law_hand_here","_law_wish_here","_law_names_here","_law_kind","_law_some","_law_at","_law_one","_law_other","_law_name_here","_law_elder"] ["_law_hand_here","_law_wish_here","_law_names_here"] (aD cP):=⟨rfl,rfl,rfl,by decide+kernel,rfl,by decide+kernel,by decide+kernel⟩
set_option maxHeartbeats 4000000 in
theorem tM (T:Txt K mg fs fds tc u) (G_law_take:aZ P w K mg base dS 1 (fs 10) (fds 10) ["_law_hand_here","_law_many"] sN) (G_law_first:aZ P w K mg base dS 1 (fs 30) (fds 30) ["_law_pair"] NA) (G_law_odd:aZ P w K mg base dS 2 (fs 28) (fds 28) ["_law_hand_here","_law_names_here"] MY) (G_law_long:aZ P w K mg base dS 2 (fs 29) (fds 29) ["_law_hand_here","_law_names_here"] HE):aZ P w K mg base dS 4 (fs 31) (fds 31) ["_law_hand_here","_law_wish_here","_law_names_here"] M7:=by
 refine T.gJ.F.ok bX (fun vs H Q E h=>?_) (fun cdv A outer s H vs Q E hr h=>?_)
 .obtain⟨p,l,v,zs,c,m,rfl,hp,hc,hW,hm,hN,hz1,npl,q⟩:=h;rfl
 .obtain⟨p,l,v,zs,c,m,rfl,hp,hc,hW,hm,hN,hz1,npl,q⟩:=h;refine⟨_,(aE (aR (i:=3) bX.nd rfl (Or.inl rfl) (aU T.aQ G_law_take hr (by decide) rfl (aA (pv 0) (aA aI aC))))
   (aE (aR (i:=4) bX.nd rfl (Or.inl rfl) (eN (M4 K) (by rfl) T.pE CN (aA (pv 1) aC)))
   (aE (rL (i:=5) (j:=6) rfl bX.nd rfl rfl (by decide) rfl rfl (aA (aU T.aQ G_law_take hr (by decide) rfl (aA (pv 0) (aA (bD fM (aN (jU K) (by rfl) T.cH bT (aA (pv 4) aC)) aI) aC))) (aA (aS (lM K) (pv 2) (aU T.aQ G_law_take hr (by decide) rfl (aA (pv 0) (aA (aN (jU K) (by rfl) T.cH bT (aA (pv 2) aC)) aC))) (fun _ _=>rfl)) aC)) rfl)
   (aE (aR (i:=7) bX.nd rfl (Or.inl rfl) (aS (lM K) (pv 2) (aU T.aQ G_law_take hr (by decide) rfl (aA (pv 0) (aA (aN (jU K) (by rfl) T.cH bT (aA (pv 2) aC)) aC))) (fun _ _=>rfl)))
   (aE (cA (PW.pt (m9 (aT NL (pv 3) aI (bG _)) (mR (aT (U6 K hr) (pv 4) (eG aC) (bG _))))) (aE (fX (gB K plainAttrs_list PySem.F.slot_list_insert PySem.F.type_list_insert uQ (pv 4) (aA (pv 5) (aA (aS (lM K) (eG (aA (bP (aA (pv 6) (aA (pv 7) aC))) (aA (bP (aA (pv 6) (aA cK aC))) (aA (aU T.oY G_law_odd hr (by decide) rfl (aA (pv 0) (aA (pv 2) aC))) (aA (bP (aA (aU T.mL G_law_long hr (by decide) rfl (aA (pv 0) (aA (pv 2) aC))) (aA cK aC))) aC))))) (bD iL (pv 3) aI) (fun _ _=>rfl)) aC))))
   (aE (cA (aT (TR K) (bD iL (pv 3) aI) (bP (aA aI (aA aI aC))) (by rfl)) (aH (aR (i:=4) bX.nd rfl (Or.inl rfl) (AR K G_law_first hr (by decide) T.kR.b rfl rfl T.kR.m rfl T.gY (pv 4)))) bI)
   (aH (aV (eN (HZ K) (by rfl) T.eX fR (aA (pv 4) aC)))))) bI)
   (aE (aR (i:=5) bX.nd rfl (Or.inl rfl) (bD iL (pv 5) (aN (jU K) (by rfl) T.cH bT (aA (pv 4) aC))))
   (aE (kW (aS (lM K) (pv 4) (pv 5) (fun _ _=>rfl)) (fW (n:=2) K rfl (bJ (aO (i:=8) bX.nd rfl (Or.inl rfl)) (bJ (aO (i:=9) bX.nd rfl (Or.inl rfl)) fY))))
   (aE (cA (aT lJ (pv 3) aI (bG _)) (aH (fX (gB K plainAttrs_list slot_list_pop type_list_pop zW (pv 4) (aA (pv 5) aC)))) (aH (cA (aT lJ (pv 3) aI (bG _)) (aH (fX (gB K plainAttrs_list PySem.F.slot_list_insert PySem.F.type_list_insert uQ (pv 4) (aA (pv 5) (aA (aS (lM K) (pv 4) (pv 5) (fun _ _=>rfl)) aC))))) (aH (cA (aT lJ (pv 3) aI (bG _)) (aH (aR (i:=4) bX.nd rfl (Or.inl rfl) (bD sH (fS (SX K) (pv 4) (gP (pv 5)) gR) (fS (SX K) (pv 4) gR (gP (pv 5)))))) (aH (cA (aT lJ (pv 3) aI (bG _)) (aH (kW (aU T.oY G_law_odd hr (by decide) rfl (aA (pv 0) (aA (pv 2) aC))) (pA (pv 4) (pv 5) set_list))) (aH (cA (aT lJ (pv 3) aI (bG _)) (aH (kW (bP (aA (pv 8) (aA (aU T.mL G_law_long hr (by decide) rfl (aA (pv 0) (aA (pv 2) aC))) aC))) (pA (pv 4) (pv 5) set_list))) (aH (cA (aT lJ (pv 3) aI (bG _)) (aH (kW (bP (aA (pv 8) (aA (pv 8) aC))) (pA (pv 4) (pv 5) set_list))) (aH (kW (bP (aA (pv 8) (aA (aS (lM K) (eG (aA (pv 6) (aA cK aC))) (bD wY (pv 3) aI) (fun _ _=>rfl)) aC))) (pA (pv 4) (pv 5) set_list))))))))))))))
   (aH (aV (eN (HZ K) (by rfl) T.eX fR (aA (pv 4) aC)))))))))))),?_⟩
  obtain⟨ab,⟨t,us,rfl,ht,hpr⟩,habm,hshort⟩:=hW;have hlu:=hpr.length;have h8:=hN.le;have hzm:(zs.map V.str).length=zs.length:=length_map ..;refine aK ?_;walk_at "vc0"
  refine⟨p,12,c,rfl,hp,by omega,by decide,by decide,fun k H1 k0 k12 hp1 b1=>?_⟩;have kt1:=Box.kt (d:=0) hp b1;have ht1:=kt1 _ _ ht;refine aK ?_;walk_at "vc0"
  refine⟨us,.inr (bU.of ht1),fun b hb=>?_⟩;have s1:aF H1 (upd H1 b (.lst us)):=aF.upd hb;have nbp:=(Box.ne (p:=p) hp1 hb).symm;have hbH:=pH hp hp1 b1 hb;have hp1':=Box.same (p:=p) hp1 s1;have eb1:upd H1 b (.lst us) b=some (.lst us):=aB;have b1':=b1.trans (bZ.of s1);have hpr1:Paired (lR (upd H1 b (.lst us))) ab us:=L2.Paired.fN hpr fun _ _ h=>(h.kt kt1).kt s1.kt
  generalize upd H1 b (.lst us)=H2 at s1 hp1' eb1 b1' hpr1⊢
  refine aK ?_;walk_at "vc0"
  refine⟨_,bC.of eb1,p,_,c+1,rfl,hp1',by omega,by omega,by omega,fun d1 H3 d10 d11 hp3 b3=>?_⟩;have el2:=b1' _ _ hN.el npl;have el3:=b3 _ _ el2 npl;refine⟨_,bC.of el3,p,_,c+1+1,rfl,hp3,by omega,by omega,by omega,fun d2 H4 d20 d21 hp4 b4=>?_⟩;have el4:=b4 _ _ el3 npl;obtain⟨v,hv,hat⟩:=dY (xs:=zs.map V.str) d20 d21;obtain⟨x,hx,rfl⟩:=mem_map.mp hv;refine⟨_,d2,rfl,bC.of el4,_,hat,?_⟩;have b24:=b3.trans b4;have eb4:=b24 _ _ eb1 nbp;refine aK ?_;walk_at "vc0"
  refine⟨_,bC.of el4,p,_,c+1+1+1,rfl,hp4,by omega,by omega,by omega,fun d3 H5 d30 d31 hp5 b5=>?_⟩;obtain⟨v,hv3,hat3⟩:=dY (xs:=zs.map V.str) d30 d31;obtain⟨y,hy,rfl⟩:=mem_map.mp hv3;have el5:=b5 _ _ el4 npl;refine⟨_,d3,rfl,bC.of el5,_,hat3,?_⟩;have b25:=b24.trans b5;have bb:=b1'.trans b25;have eb5:=b5 _ _ eb4 nbp;have hpr5:Paired (lR H5) ab us:=L2.Paired.fN hpr1 fun _ _ h=>h.kt (Box.kt (d:=0) hp1' b25)
  have hxl:=(eO (hN.nm x hx)).2;have hyl:=(eO (hN.nm y hy)).2;clear b1 b1' b3 b4 b5 b24 b25 el2 el3 el4 eb1 eb4 hp1 hp1' hp3 hp4 hpr1 hat hat3 hv hv3 ht1 kt1 s1 hb;have endR:∀σ' H' (b':Addr) (xs:List V),σ'[4]? =some (some (.ref b'))->H' b'=some (.lst xs)->xs.length<=m+1->(∀u∈xs,jG 2 H' u)->Box (c+20) H' p->bZ p H H'->(w5 (J5 (uD K) (eV (bS 4) jZ))) {nx:=fun x H'=>Q V.aP H',rt:=Q} σ' H':=fun σ' H' b' xs e4 eb hxl hA hp' bb'=>by
   walk_at "vc0";exact⟨_,e4,b',rfl,_,bC.of eb,fun l' hl'=>q _ _ ⟨l',xs,rfl,aB,hxl,fun u hu=>(hA u hu).kp (.of (aF.upd hl'))⟩ (Box.same (p:=p) hp' (aF.upd hl')) (bb'.trans (bZ.of (aF.upd hl')))⟩
  have hany:∀{G:Hp},Kp H5 G->∀u∈us,Any G u:=fun kp u hu=>(qH (P:=Any H5) (fun z u h k=>GL h k) hpr5 hshort u hu).kp kp
  refine aK ?_;refine xP (fun H'=>aF H5 H') (fun H'=>aF H5 H'/\¬k<4/\us≠[]) (fun Q' hA hB=>?_) (fun H6 s6=>?_) (fun H6 ⟨s6,hk4,hne⟩=>?_)
  .walk_at "vc0";refine lX (fun _=>hA _ (aF.refl _)) (fun hk=>⟨zero_le _,fun e he=>⟨us,bC.of (aF.upd he _ _ eb5),[],bC.of aB,fun hn=>⟨by rw[length_eq_zero_iff.mp hn];rfl,rfl⟩,?_⟩⟩);rw[rV];cases us with
   |nil=>exact hA _ (aF.upd he)
   |cons u us=>exact hB _ ⟨aF.upd he,hk,by simp⟩
  .have eb6:=s6 _ _ eb5;have hp6:=Box.same (p:=p) hp5 s6;have hN6:xB H6 l zs:=⟨s6 _ _ el5,hN.nm,hN.le⟩;refine aK ?_;walk_at "vc0"
   refine⟨.inl ⟨_,bC.of eb6⟩,gO (by decide),fun t1 ht1=>⟨gO (by decide),fun t2 ht2=>?_⟩⟩;have s7:=(aF.upd (o:=.tup [.str x,.str y]) ht1).trans (aF.upd (o:=.tup [.str x,.aP]) ht2);have e1:=(aF.upd (o:=.tup [.str x,.aP]) ht2) _ _ (aB (H:=H6) (a:=t1) (o:=.tup [.str x,.str y]));have e2:=aB (H:=upd H6 t1 (.tup [.str x,.str y])) (a:=t2) (o:=.tup [.str x,.aP]);generalize upd (upd H6 t1 (.tup [.str x,.str y])) t2 (.tup [.str x,.aP])=H7 at s7 e1 e2⊢
   have hp7:=Box.same (p:=p) hp6 s7;refine⟨p,l,zs,c+4,rfl,Box.up (p:=p) hp7 (by omega),by omega,⟨s7 _ _ hN6.el,hN.nm,hN.le⟩,hz1,npl,fun ov H8 hov hp8 b8=>?_⟩;refine⟨p,l,zs,c+4+3,rfl,hp8,by omega,⟨b8 _ _ (s7 _ _ hN6.el) npl,hN.nm,hN.le⟩,hz1,fun lg H9 hlg hp9 b9=>?_⟩;have b79:=b8.trans b9;have kt79:=Box.kt (d:=0) hp7 b79;have hov9:=hov.kp (oE hp8 hp9 b9);refine⟨gO (by decide),fun t4 ht4=>⟨gO (by decide),fun t5 ht5=>⟨by decide,_,bC.of aB,?_⟩⟩⟩;have s10:=(aF.upd (o:=.tup [.str lg,.aP]) ht4).trans (aF.upd (o:=.lst [.ref t1,.ref t2,ov,.ref t4]) ht5);have e4:=(aF.upd (o:=.lst [.ref t1,.ref t2,ov,.ref t4]) ht5) _ _ (aB (H:=H9) (a:=t4) (o:=.tup [.str lg,.aP]));have f1:=s10 _ _ (kt79 _ _ e1);have f2:=s10 _ _ (kt79 _ _ e2);have hov10:=hov9.kp (.of s10);have eb10:=s10 _ _ (b79 _ _ (s7 _ _ eb6) nbp);have hp10:=Box.same (p:=p) hp9 s10;have b610:=((bZ.of (p:=p) s7).trans b79).trans (bZ.of s10);generalize upd (upd H9 t4 (.tup [.str lg,.aP])) t5 (.lst [.ref t1,.ref t2,ov,.ref t4])=H10 at e4 f1 f2 hov10 eb10 hp10 b610⊢
   have any2:∀{a:Addr} {z:Str} {v:V},H10 a=some (.tup [.str z,v])->z.length<=100->iV v->jG 2 H10 (.ref a):=fun e hz hv=>lW e (by simp) (fun w hw=>by
    simp only[mem_cons,mem_nil_iff,or_false]at hw;rcases hw with rfl|rfl
    .exact wQ (by omega)
    .exact pC hv) 2
   obtain⟨v,hv,hvA,hvF⟩:∃v,uR [V.ref t1,V.ref t2,ov,V.ref t4] (k % 4)=some v/\jG 2 H10 v/\(k % 4=0\/ k % 4=3->yU H10 v):=by
    have hk4:k % 4=0\/ k % 4=1\/ k % 4=2\/ k % 4=3:=by omega
    rcases hk4 with e|e|e|e<;>rw[e]
    .exact⟨_,C4,any2 f1 (by omega) (by show y.length<=1000000;omega),fun _=>⟨t1,x,_,rfl,f1⟩⟩
    .exact⟨_,cQ (j:=1) rfl,any2 f2 (by omega) trivial,fun h=>absurd h (by decide)⟩
    .exact⟨_,cQ (j:=2) rfl,hov10,fun h=>absurd h (by decide)⟩
    .exact⟨_,cQ (j:=3) rfl,any2 e4 (by omega) trivial,fun _=>⟨t4,lg,_,rfl,e4⟩⟩
   refine⟨v,hv,b,us,d1,v,rfl,rfl,eb10,d10,by omega,by omega,?_⟩;have kt11:=iI.upd (ys:=fQ us d1.toNat v) eb10;have kp11:=Kp.lst (ys:=fQ us d1.toNat v) eb10;have b611:bZ p H (upd H10 b (.lst (fQ us d1.toNat v))):=fun a o h n=>by
    rw[aG (aJ h hbH)];exact b610 _ _ (s6 _ _ (bb a o h n)) n
   have eb11:upd H10 b (.lst (fQ us d1.toNat v)) b=some (.lst (fQ us d1.toNat v)):=aB;have hp11:Box (c+20) (upd H10 b (.lst (fQ us d1.toNat v))) p:=by
    show zH _ (upd _ _ _ p);rw[aG nbp.symm];exact Box.up (p:=p) hp10 (by omega)
   have k610:=oE hp6 hp10 b610;have hI:∀u∈fQ us d1.toNat v,jG 2 (upd H10 b (.lst (fQ us d1.toNat v))) u:=fun u hu=>(oX hu).elim (fun h=>(hany (((Kp.of s6).trans k610).trans kp11) u h) 2) fun e=>by rw[e];exact hvA.kp kp11
   have hF:(k % 4=0\/ k % 4=3)->∀u∈fQ us d1.toNat v,yU (upd H10 b (.lst (fQ us d1.toNat v))) u:=fun hk u hu=>(oX hu).elim (fun h=>(qH (ok:=fun _=>True) (P:=yU H5) (fun z u h _=>OL h) hpr5 (fun _ _=>trivial) u h).kt ((s6.kt.trans (Box.kt (d:=0) hp6 b610)).trans kt11)) fun e=>by rw[e];exact(hvF hk).kt kt11
   have hil:(fQ us d1.toNat v).length<=m+1:=by rw[uL];omega
   generalize fQ us d1.toNat v=ws at eb11 hp11 hI hF hil b611⊢
   generalize upd H10 b (.lst ws)=H11 at eb11 hp11 hI hF b611⊢
   refine oP (fun σ' H'=>∃b' xs,σ'[4]? =some (some (.ref b'))/\H' b'=some (.lst xs)/\xs.length<=m+1/\(∀u∈xs,jG 2 H' u)/\Box (c+20) H' p/\bZ p H H') (fun n hn=>?_) (fun σ' H' ⟨b',xs,g1,g2,g3,g4,g5,g6⟩=>endR σ' H' b' xs g1 g2 g3 g4 g5 g6);walk_at "vc0";refine⟨by decide,by decide,fun t6 ht6=>⟨_,.inr (bU.of aB),rfl,rfl,?_⟩⟩;have s12:=aF.upd (o:=.tup [.int 0,.int 3]) ht6;have eb12:=s12 _ _ eb11;cases hi:FG (.int (k % 4)) [.int 0,.int 3]with
   |false=>exact kL (hn _ _ ⟨b,ws,rfl,eb12,hil,fun u hu=>(hI u hu).kp (.of s12),Box.same (p:=p) hp11 s12,b611.trans (bZ.of s12)⟩)
   |true=>
    obtain⟨kys,hkl,hkk⟩:=zJ (H:=upd H11 t6 (.tup [.int 0,.int 3])) fun u hu=>(hF (TN hi) u hu).kt s12.kt
    refine o4 ⟨ws,bC.of eb12,kys,hkl,by omega,fun i v k h1 h2=>?_,fun b' ys hb' hys=>hn _ _ ⟨b',ys,rfl,aB,by rw[hys.length_eq];exact hil,fun u hu=>((hI u (hys.mem_iff.mp hu)).kp (.of s12)).kp (.of (aF.upd hb')),Box.same (p:=p) (Box.same (p:=p) hp11 s12) (aF.upd hb'),(b611.trans (bZ.of s12)).trans (bZ.of (aF.upd hb'))⟩⟩;obtain⟨a,rr,rfl,ha⟩:=hkk i v k h1 h2;exact⟨a,.str k,rr,rfl,ha,rfl,rfl⟩
  .have eb6:=s6 _ _ eb5;have hp6:=Box.same (p:=p) hp5 s6;have hN6:xB H6 l zs:=⟨s6 _ _ el5,hN.nm,hN.le⟩;have b6:bZ p H H6:=bb.trans (bZ.of s6);have hul:0<us.length:=length_pos_iff.mpr hne;have hpr6:Paired (lR H6) ab us:=L2.Paired.fN hpr5 fun _ _ h=>h.kt s6.kt
   have hA6:=hany (.of s6);clear hpr5 hany;walk_at "vc0";refine aK ?_;walk_at "vc0"
   refine⟨_,bC.of eb6,by omega,?_⟩;refine aK ?_;walk_at "vc0"
   obtain⟨j,ej,hj⟩:∃j:Nat,d1 % (us.length:Int)=(j:Int)/\j<us.length:=⟨(d1 % (us.length:Int)).toNat,by have:=emod_nonneg d1 (b:=(us.length:Int)) (by omega);omega,by have:=emod_nonneg d1 (b:=(us.length:Int)) (by omega);have:=emod_lt_of_pos d1 (b:=(us.length:Int)) (by omega);omega⟩;rw[ej];have huj:us[j]? =some us[j]:=getElem?_eq_getElem hj;obtain⟨z,hz,a,ea,ha⟩:=L2.Paired.lY hpr6 huj;have hzs:=hshort z (mem_of_getElem? hz);have hsz:iV (.str z.1):=by have:=hzs.1;show z.1.length<=1000000;omega
   have hatj:uR us (j:Int)=some us[j]:=cQ huj;refine⟨_,bC.of eb6,_,hatj,a,ea,_,bU.of ha,rfl,_,_,rfl,_,_,rfl,rfl,?_⟩;have fin:∀(H':Hp) (xs:List V) (n:St->Hp->Prop) (σ':St),(∀σ' H',(∃b' xs,σ'[4]? =some (some (.ref b'))/\H' b'=some (.lst xs)/\xs.length<=m+1/\(∀u∈xs,jG 2 H' u)/\Box (c+20) H' p/\bZ p H H')->n σ' H')->σ'[4]? =some (some (.ref b))->H' b=some (.lst us)->xs.length<=m+1->(∀u∈xs,jG 2 H' u)->Box (c+20) H' p->bZ p H H'->n σ' (upd H' b (.lst xs)):=fun H' xs n σ' hn e4 eb hl hA hp' b'=>
    hn _ _ ⟨b,xs,e4,aB,hl,fun u hu=>(hA u hu).kp (Kp.lst eb),by show zH _ (upd _ _ _ p);rw[aG nbp.symm];exact hp',fun a o h n=>by rw[aG (aJ h hbH)];exact b' a o h n⟩
   refine oP (fun σ' H'=>∃b' xs,σ'[4]? =some (some (.ref b'))/\H' b'=some (.lst xs)/\xs.length<=m+1/\(∀u∈xs,jG 2 H' u)/\Box (c+20) H' p/\bZ p H H') (fun n hn=>?_) (fun σ' H' ⟨b',xs,g1,g2,g3,g4,g5,g6⟩=>endR σ' H' b' xs g1 g2 g3 g4 g5 g6);clear endR;have hp20:=Box.up (p:=p) (d:=c+20) hp6 (by omega);walk_at "vc0";refine⟨rfl,lX (fun _=>?_) (fun k4=>⟨rfl,lX (fun _=>?_) (fun k5=>⟨rfl,lX (fun _=>?_) (fun k6=>⟨rfl,lX (fun _=>?_) (fun k7=>⟨rfl,lX (fun _=>?_) (fun k8=>⟨rfl,lX (fun _=>?_) (fun k9=>?_)⟩)⟩)⟩)⟩)⟩)⟩
   .exact⟨.inl ⟨_,bC.of eb6⟩,us,eb6,by omega,by omega,j,CT hj,⟨_,huj⟩,fin H6 _ n _ hn rfl eb6 (by rw[List.length_eraseIdx_of_lt hj];omega) (fun u hu=>hA6 u (List.mem_of_mem_eraseIdx hu) 2) hp20 b6⟩
   .exact⟨.inl ⟨_,bC.of eb6⟩,us,bC.of eb6,_,hatj,b,us,j,_,rfl,rfl,eb6,by omega,by omega,by omega,fin H6 _ n _ hn rfl eb6 (by rw[uL];omega) (fun u hu=>(oX hu).elim (fun h=>hA6 u h 2) fun e=>by rw[e];exact hA6 _ (getElem_mem hj) 2) hp20 b6⟩
   .refine⟨us,bC.of eb6,fun c1 hc1=>⟨us,bC.of (aF.upd hc1 _ _ eb6),fun c2 hc2=>⟨_,aF.upd hc2 _ _ aB,_,aB,gO (by have:=CL hj;omega),fun c3 hc3=>?_⟩⟩⟩;have s9:=((aF.upd (o:=.lst (hJ us (some (j:Int)) none)) hc1).trans (aF.upd (o:=.lst (hJ us none (some (j:Int)))) hc2)).trans (aF.upd (o:=.lst (hJ us (some (j:Int)) none++hJ us none (some (j:Int)))) hc3);exact hn _ _ ⟨c3,_,rfl,aB,by rw[length_append];have:=CL hj;omega,fun u hu=>(hA6 u ((mem_append.mp hu).elim yR yR)).kp (.of s9) 2,Box.same (p:=p) hp20 s9,b6.trans (bZ.of s9)⟩
   .refine⟨p,l,zs,c+4,rfl,Box.up (p:=p) hp6 (by omega),by omega,hN6,hz1,npl,fun ov H7 hov hp7 b7=>⟨us,b7 _ _ eb6 nbp,j,nY hj,fin H7 _ n _ hn rfl (b7 _ _ eb6 nbp) (by rw[length_set];omega) (fun u hu=>?_) (Box.up (p:=p) hp7 (by omega)) (b6.trans b7)⟩⟩;rcases List.mem_or_eq_of_mem_set hu with h|h
    .exact((hA6 u h).kp (oE hp6 hp7 b7)) 2
    .rw[h];exact hov
   .refine⟨p,l,zs,c+4,rfl,Box.up (p:=p) hp6 (by omega),by omega,hN6,hz1,fun lg H7 hlg hp7 b7=>⟨gO (by decide),fun t7 ht7=>?_⟩⟩;have s8:=aF.upd (o:=.tup [.str z.1,.str lg]) ht7;have eb8:=s8 _ _ (b7 _ _ eb6 nbp);refine⟨us,eb8,j,nY hj,fin _ _ n _ hn rfl eb8 (by rw[length_set];omega) (fun u hu=>?_) (Box.up (p:=p) (Box.same (p:=p) hp7 s8) (by omega)) (b6.trans (b7.trans (bZ.of s8)))⟩;rcases List.mem_or_eq_of_mem_set hu with h|h
    .exact(((hA6 u h).kp (oE hp6 hp7 b7)).kp (.of s8)) 2
    .rw[h];exact lW aB (by simp) (KC.all (acc:=[]) (xs:=[.str z.1,.str lg]) (fun _ h=>nomatch h) ⟨.inr hsz,.inr (by show lg.length<=1000000;omega),trivial⟩) 2
   .refine⟨gO (by decide),fun t7 ht7=>?_⟩;have s8:=aF.upd (o:=.tup [.str z.1,.str z.1]) ht7;have eb8:=s8 _ _ eb6;refine⟨us,eb8,j,nY hj,fin _ _ n _ hn rfl eb8 (by rw[length_set];omega) (fun u hu=>?_) (Box.same (p:=p) hp20 s8) (b6.trans (bZ.of s8))⟩;rcases List.mem_or_eq_of_mem_set hu with h|h
    .exact((hA6 u h).kp (.of s8)) 2
    .rw[h];exact lW aB (by simp) (KC.all (acc:=[]) (xs:=[.str z.1,.str z.1]) (fun _ h=>nomatch h) ⟨.inr hsz,.inr hsz,trivial⟩) 2
   .refine⟨gO (by decide),fun c7 hc7=>⟨_,bC.of aB,?_⟩⟩;have s7:=aF.upd (o:=.lst [.str x,.aP]) hc7;obtain⟨v,hv,hvs⟩:∃v,uR [V.str x,V.aP] (k - 10)=some v/\iV v:=by
     have ne:∀{i:Int},¬V.int k=V.int i->k≠i:=fun h e=>h (by rw[e])
     have hk2:k - 10=0\/ k - 10=1:=by omega
     rcases hk2 with e|e<;>rw[e]
     .exact⟨_,C4,by show x.length<=1000000;omega⟩
     .exact⟨_,cQ (j:=1) rfl,trivial⟩
    refine⟨v,hv,gO (by decide),fun t7 ht7=>?_⟩;have s8:=s7.trans (aF.upd (o:=.tup [.str z.1,v]) ht7);have eb8:=s8 _ _ eb6;refine⟨us,eb8,j,nY hj,fin _ _ n _ hn rfl eb8 (by rw[length_set];omega) (fun u hu=>?_) (Box.same (p:=p) hp20 s8) (b6.trans (bZ.of s8))⟩;rcases List.mem_or_eq_of_mem_set hu with h|h
    .exact((hA6 u h).kp (.of s8)) 2
    .rw[h];exact lW aB (by simp) (KC.all (acc:=[]) (xs:=[.str z.1,v]) (fun _ h=>nomatch h) ⟨.inr hsz,.inr hvs,trivial⟩) 2
theorem cT:aX ["_law_hand_here","_law_names_here","_law_pack_here","_law_stand_here","_law_wish_here","_law_less","_law_twice","_law_thing"] ["_law_hand_here"] (aD cX):=⟨rfl,rfl,rfl,by decide+kernel,rfl,by decide+kernel,by decide+kernel⟩
set_option maxHeartbeats 4000000 in
theorem wC (T:Txt K mg fs fds tc u) (G_law_names:aZ P w K mg base dS 3 (fs 12) (fds 12) ["_law_hand_here","_law_many"] RM) (G_law_pack:aZ P w K mg base dS 3 (fs 14) (fds 14) ["_law_hand_here","_law_names_here"] QW) (G_law_stand:aZ P w K mg base dS 1 (fs 15) (fds 15) ["_law_pack_here"] zA) (G_law_wish:aZ P w K mg base dS 3 (fs 24) (fds 24) ["_law_hand_here","_law_stand_here","_law_names_here"] SG) (G_law_spoilt:aZ P w K mg base dS 4 (fs 31) (fds 31) ["_law_hand_here","_law_wish_here","_law_names_here"] M7) (G_law_take:aZ P w K mg base dS 1 (fs 10) (fds 10) ["_law_hand_here","_law_many"] sN) (G_law_is_pair:aZ P w K mg base dS 2 (fs 26) (fds 26) ["_law_thing"] (QV markV 2)) (G_is_wish:aZ P w K mg base dS 4 (fs 8) (fds 8) ["pack","thing"] Q8) (G_law_is_due:aZ P w K mg base dS 3 (fs 27) (fds 27) ["_law_stand_here","_law_thing"] MH):aZ P w K mg base dS 5 (fs 32) (fds 32) ["_law_hand_here"] vL:=by
 refine T.pY.F.ok cT (fun vs H Q E h=>?_) (fun cdv A outer s H vs Q E hr h=>?_)
 .obtain⟨p,c,rfl,hp,hc,q⟩:=h;rfl
 .obtain⟨p,c,rfl,hp,hc,q⟩:=h;refine⟨_,(aE (aR (i:=1) cT.nd rfl (Or.inl rfl) (aU T.pV G_law_names hr (by decide) rfl (aA (pv 0) (aA (bD fM aI (aU T.aQ G_law_take hr (by decide) rfl (aA (pv 0) (aA aI aC)))) aC))))
   (aE (aR (i:=2) cT.nd rfl (Or.inl rfl) (aU T.rW G_law_pack hr (by decide) rfl (aA (pv 0) (aA (pv 1) aC))))
   (aE (aR (i:=3) cT.nd rfl (Or.inl rfl) (aU T.lD G_law_stand hr (by decide) rfl (aA (pv 2) aC)))
   (aE (aR (i:=4) cT.nd rfl (Or.inl rfl) (aU T.rY G_law_wish hr (by decide) rfl (aA (pv 0) (aA (pv 3) (aA (pv 1) aC)))))
   (aE (aR (i:=5) cT.nd rfl (Or.inl rfl) (fS vG (pv 2) gR (gP (aU T.aQ G_law_take hr (by decide) rfl (aA (pv 0) (aA (bD fM (aN (LO K) (by rfl) T.cH bT (aA (pv 2) aC)) aI) aC))))))
   (aE (aR (i:=6) cT.nd rfl (Or.inl rfl) (aU T.gJ G_law_spoilt hr (by decide) rfl (aA (pv 0) (aA (pv 4) (aA (pv 1) aC)))))
   (aE (cA (fB (aN (qZ K rfl) (by rfl) T.iS iR (aA (gK ["_law_pair"] 1 [] ["_law_hand_here","_law_names_here","_law_pack_here","_law_stand_here","_law_wish_here","_law_less","_law_twice","_law_thing"] (aD cX) rfl rfl rfl (gL K (pv 6)) (by decide+kernel) (fun _=>(aO (i:=0) (show(["_law_pair"]:List Str).Nodup by decide+kernel) rfl (Or.inl rfl))) (fun _=>dG) (fun _=>(aU T.jI G_law_is_pair hr (by decide) rfl (aA (pv 0) aC)))) aC))) (aH (aR (i:=6) cT.nd rfl (Or.inl rfl) (aU T.gJ G_law_spoilt hr (by decide) rfl (aA (pv 0) (aA (pv 6) (aA (pv 1) aC)))))) bI)
   (aE (cJ PassesOwn.never rfl (gL K (bP (aA (pv 4) (aA (aU T.gJ G_law_spoilt hr (by decide) rfl (aA (pv 0) (aA (pv 4) (aA (pv 1) aC)))) (aA (aU T.gJ G_law_spoilt hr (by decide) rfl (aA (pv 0) (aA (pv 4) (aA (pv 1) aC)))) (aA (pv 6) aC)))))) (aO (i:=7) cT.nd rfl (Or.inl rfl)) (aE (cA (aT rB (aN j7 (by rfl) T.kM qM (aA (aU T.oQ G_is_wish hr (by decide) rfl (aA (pv 2) (aA (pv 7) aC))) aC)) (aN j7 (by rfl) T.kM qM (aA (aU T.j6 G_law_is_due hr (by decide) rfl (aA (pv 3) (aA (pv 7) aC))) aC)) (bG _)) (aH (aV eK)) bI)
   (aH (cA (aT rB (aN j7 (by rfl) T.kM qM (aA (aU T.oQ G_is_wish hr (by decide) rfl (aA (pv 5) (aA (pv 7) aC))) aC)) (aN j7 (by rfl) T.kM qM (aA (aU T.j6 G_law_is_due hr (by decide) rfl (aA (aU T.lD G_law_stand hr (by decide) rfl (aA (pv 5) aC)) (aA (pv 7) aC))) aC)) (bG _)) (aH (aV eK)) bI))))
   (aH (aV eK)))))))))),?_⟩
  refine aK ?_;walk_at "vc0"
  refine⟨p,8,c,rfl,hp,by omega,by decide,by decide,fun n0 H1 n00 n08 hp1 b1=>?_⟩;obtain⟨m0,rfl⟩:∃k:Nat,n0=(k:Int):=⟨n0.toNat,by omega⟩;refine⟨_,rfl,p,1+m0,c+1,by rw[Int.natCast_add];rfl,hp1,by omega,by omega,fun l zs H2 hl npl hN hzl hp2 b2=>?_⟩;refine aK ?_;walk_at "vc0"
  refine⟨p,l,zs,_,rfl,hp2,by omega,hN,by omega,npl,fun pk xs H3 hPk hxl hmem hp3 b3=>?_⟩;refine aK ?_;walk_at "vc0"
  refine⟨pk,xs,rfl,hPk,fun d kvs ep H4 s4 hd hkd hst=>?_⟩;have hp4:=Box.same (p:=p) hp3 s4;have ndp:d≠p:=(Box.ne (p:=p) hp3 hd).symm;have hN4:xB H4 l zs:=⟨s4 _ _ (b3 _ _ hN.el npl),hN.nm,hN.le⟩;have hS4:K1 H4 d zs (bV xs):=⟨⟨kvs,⟨ep,hkd⟩,hst⟩,fun x hx=>hmem x (AK xs x hx),DE xs,hN.le⟩;have h8:=hN.le;refine aK ?_;walk_at "vc0"
  refine⟨p,d,l,zs,bV xs,_,rfl,hp4,by omega,hS4,hN4,npl,ndp,fun wv H5 ⟨ab,hW⟩ hp5 b5=>?_⟩;obtain⟨hPr,hnames,hab8⟩:p6 H5 wv ab/\(∀z∈ab,z.1∈zs/\∀y,z.2=some y->y∈zs)/\ab.length<=9:=let⟨t,us,e,ht,hp,h1,h2⟩:=hW;⟨⟨t,us,e,ht,hp⟩,h1,h2⟩
  have kt5:=Box.kt (d:=0) hp4 b5;have hPk5:=(hPk.kt s4.kt).kt kt5;obtain⟨pa,pus,rfl,hpa,hpp,hp1000⟩:=id hPk5;have hkd5:=b5 _ _ hkd ndp;have hst5:Paired (mF H5) (bV xs) kvs:=L2.Paired.fN hst fun _ _ h=>⟨h.1,h.2.kp kt5⟩
  have hN5:xB H5 l zs:=⟨b5 _ _ hN4.el npl,hN.nm,hN.le⟩;have hplen:=hpp.length;have shz:∀z∈zs,z.length<=100:=fun z hz=>by have:=(eO (hN.nm z hz)).2;omega
  have hWs:NI 9 H5 wv:=⟨ab,hPr,hab8,fun z hz=>⟨shz _ (hnames z hz).1,fun y e=>shz _ ((hnames z hz).2 y e)⟩⟩;have b05:=(((b1.trans b2).trans b3).trans (bZ.of (p:=p) s4)).trans b5;clear hPk hst hkd hS4 hN4 hW b1 b2 b3 b5 s4 hp1 hp2 hp3 hp4 hd kt5;refine aK ?_;walk_at "vc0"
  refine⟨pus,bU.of hpa,p,_,_,rfl,hp5,by omega,by omega,by omega,fun e H6 e0 e1 hp6 b6=>?_⟩;obtain⟨j,rfl⟩:∃j:Nat,e=(j:Int):=⟨e.toNat,by omega⟩;have kt6:=Box.kt (d:=0) hp5 b6;refine⟨_,rfl,pus,kt6 _ _ hpa,fun ls H7 s7 hls=>?_⟩;rw[FP]at hls;have kt57:=kt6.trans s7.kt;have hp7:=Box.same (p:=p) hp6 s7;have hWs7:=hWs.kt kt57;have hN7:xB H7 l zs:=⟨s7 _ _ (b6 _ _ hN5.el npl),hN.nm,hN.le⟩;have hPk7:mD H7 (.ref pa) xs:=hPk5.kt kt57;have hLs7:mD H7 (.ref ls) (xs.take j):=⟨ls,_,rfl,hls,pN j (L2.Paired.fN hpp fun _ _ h=>h.kp kt57),by rw[length_take];omega⟩;have hkd7:=s7 _ _ (b6 _ _ hkd5 ndp);have hst7:Paired (mF H7) (bV xs) kvs:=L2.Paired.fN hst5 fun _ _ h=>⟨h.1,h.2.kp kt57⟩
  have b07:=(b05.trans b6).trans (bZ.of (p:=p) s7);clear hN5 hPk5 hpa hpp hkd5 hst5 hWs hPr hls kt57 kt6 b6 s7 hp5 hp6;refine aK ?_;walk_at "vc0"
  refine⟨p,l,wv,zs,_,9,rfl,hp7,by omega,hWs7,by decide,hN7,by omega,npl,fun v6 H8 hT8 hp8 b8=>?_⟩;have kt8:=Box.kt (d:=0) hp7 b8;have hN8:xB H8 l zs:=⟨b8 _ _ hN7.el npl,hN.nm,hN.le⟩;refine oP (fun σ' H'=>∃v6',σ'=[some (V.ref p),some (.ref l),some (.ref pa),some (.ref d),some wv,some (.ref ls),some v6',none]/\IC 11 H' v6'/\Box (c+900) H' p/\bZ p H7 H') (fun n hn=>?_) (fun σ' H9 ⟨v6',e9,hT9,hp9,b9⟩=>?_)
  .obtain⟨t6,us6,rfl,ht6,hl6,hA6⟩:=id hT8;walk_at "vc0";refine⟨_,rfl,t6,rfl,⟨_,bU.of ht6⟩,fun lc hlc=>iH (bU.of ht6) (fun v=>.bl (markV H8 v)) (fun σ=>∃o,σ=[o]) ⟨_,rfl⟩ hlc (iZ (by omega)) ?_ ?_⟩
   .rintro i x σ H1 ys N hxi ⟨o,rfl⟩ s1 e1 hz hN;have hk:=hA6 x (mem_of_getElem? hxi);unfold bK;walk_at "vc2";refine⟨x,rfl,hk.kp (.of s1),fun H2 s2=>⟨ys,s2 _ _ e1,hz,?_⟩⟩;obtain⟨k2,t2⟩:=hk.tg;rw[rJ t2 (.of s1)];exact hN _ _ ⟨_,rfl⟩ (fun b o h n=>by rw[aG n];exact s2 b o h) aB
   .intro H9 s9 e9;have hp9:=Box.same (p:=p) hp8 s9;refine⟨lc,rfl,us6.map (markV H8),bC.of (by rw[e9];unfold mN;rw[map_map];rfl),?_⟩;rw[show(us6.map (markV H8)).all id=us6.all (markV H8)from by rw[all_map];rfl];cases em:us6.all (markV H8)with
    |false=>exact kL (hn _ _ ⟨_,rfl,(hT8.kp (.of s9)).up (by decide),Box.up (p:=p) hp9 (by omega),b8.trans (bZ.of s9)⟩)
    |true=>
     obtain⟨ab6,hp6,hn6⟩:=(iD fun u hu=>(hA6 u hu).tg).mp em;have hW6:NI 10 H9 (.ref t6):=⟨ab6,⟨t6,us6,rfl,s9 _ _ ht6,L2.Paired.fN hp6 fun _ _ h=>h.kt s9.kt⟩,by rw[hp6.length];exact hl6,fun z hz=>⟨by have:=(eO (hn6 z hz).1).2;omega,fun y e=>by have:=(eO ((hn6 z hz).2 y e).1).2;omega⟩⟩;exact o4 ⟨p,l,.ref t6,zs,_,10,rfl,hp9,by omega,hW6,by decide,⟨s9 _ _ hN8.el,hN.nm,hN.le⟩,by omega,npl,fun v' H10 hT10 hp10 b10=>hn _ _ ⟨v',rfl,hT10,Box.up (p:=p) hp10 (by omega),(b8.trans (bZ.of s9)).trans b10⟩⟩
  subst e9;have kt9:=Box.kt (d:=0) hp7 b9;refine aK ?_;walk_at "vc0";have hN9:xB H9 l zs:=⟨b9 _ _ hN7.el npl,hN.nm,hN.le⟩;refine⟨_,rfl,_,rfl,_,rfl,_,rfl,p,l,wv,zs,c+900,9,rfl,hp9,by omega,hWs7.kt kt9,by decide,hN9,by omega,npl,fun va H10 hTa hp10 b10=>?_⟩;have kt10:=Box.kt (d:=0) hp9 b10;refine⟨_,rfl,_,rfl,_,rfl,p,l,wv,zs,_,9,rfl,hp10,by omega,(hWs7.kt kt9).kt kt10,by decide,⟨b10 _ _ hN9.el npl,hN.nm,hN.le⟩,by omega,npl,fun vb H11 hTb hp11 b11=>?_⟩;have kt11:=Box.kt (d:=0) hp10 b11;refine⟨_,rfl,gO (by show 4<=16777216;decide),fun tp htp=>⟨tp,rfl,⟨_,bU.of aB⟩,?_⟩⟩;have s12:=aF.upd (o:=.tup [wv,va,vb,v6']) htp;have etp:upd H11 tp (.tup [wv,va,vb,v6']) tp=some (.tup [wv,va,vb,v6']):=aB;have kt712:=((kt9.trans kt10).trans kt11).trans s12.kt;have hTh:∀v∈[wv,va,vb,v6'],KJ (upd H11 tp (.tup [wv,va,vb,v6'])) v:=fun v hv=>by
   simp only[mem_cons,mem_nil_iff,or_false]at hv;rcases hv with rfl|rfl|rfl|rfl
   .exact((hWs7.kt kt712).ts).th (by decide)
   .exact((hTa.kp (oE hp10 hp11 b11)).kp (.of s12)).th (by decide)
   .exact(hTb.kp (.of s12)).th (by decide)
   .exact(((hT9.kp (oE hp9 hp10 b10)).kp (oE hp10 hp11 b11)).kp (.of s12)).th (by decide)
  have hkd12:=s12 _ _ (b11 _ _ (b10 _ _ (b9 _ _ hkd7 ndp) ndp) ndp);have hst12:Paired (mF (upd H11 tp (.tup [wv,va,vb,v6']))) (bV xs) kvs:=L2.Paired.fN hst7 fun _ _ h=>⟨h.1,h.2.kp kt712⟩
  have hPk12:=hPk7.kt kt712;have hLs12:=hLs7.kt kt712;have hsl:=kD xs;have hsl2:=kD (xs.take j);have htl:(xs.take j).length<=18:=by rw[length_take];omega
  have b012:=(((b07.trans b9).trans b10).trans b11).trans (bZ.of (p:=p) s12);generalize upd H11 tp (.tup [wv,va,vb,v6'])=H12 at etp hTh hkd12 hst12 hPk12 hLs12 b012⊢
  clear hTa hTb hT9 hT8 hWs7 hPk7 hLs7 hkd7 hst7 kt712 s12 kt11 kt10 kt9 kt8 htp;refine qL (K:=K) (a:=tp) (xs:=[wv,va,vb,v6']) (fun i σ H'=>aF H12 H'/\∃v7,σ=[some (V.ref p),some (.ref l),some (.ref pa),some (.ref d),some wv,some (.ref ls),some v6',v7]) ⟨aF.refl _,_,rfl⟩ (fun i σ H' _ ⟨s',_⟩=>(bU.of etp).same s') ?_ ?_
  .rintro i x σ H13 hxi ⟨s13,v7,rfl⟩;have hth:=(hTh x (mem_of_getElem? hxi)).kp (.of s13);walk_at "vc0";refine aK ?_;walk_at "vc0"
   refine⟨.ref pa,x,xs,rfl,hPk12.kt s13.kt,hth,fun q1 H14 s14 hq1=>⟨q1,rfl,d,x,kvs,bV xs,rfl,⟨ep,(s13.trans s14) _ _ hkd12⟩,L2.Paired.fN hst12 fun _ _ h=>h.same (s13.trans s14),by omega,hth.kp (.of s14),fun q2 H15 s15 hq2=>⟨q2,rfl,?_⟩⟩⟩;have s145:=s14.trans s15;have hth15:=hth.kp (.of s145);refine⟨rfl,?_⟩;rw[yM (zN hq1 (hq2.trans (y3 s14 hth)))];refine kL ⟨.ref ls,x,xs.take j,rfl,hLs12.kt (s13.trans s145).kt,hth15,fun q3 H16 s16 hq3=>⟨q3,rfl,.ref ls,xs.take j,rfl,hLs12.kt ((s13.trans s145).trans s16).kt,fun d2 kvs2 ep2 H17 s17 hd2 hk2 hst2=>⟨d2,x,kvs2,bV (xs.take j),rfl,⟨ep2,hk2⟩,hst2,by omega,hth15.kp (.of (s16.trans s17)),fun q4 H18 s18 hq4=>⟨q4,rfl,rfl,?_⟩⟩⟩⟩;rw[yM (zN hq3 (hq4.trans (y3 (s16.trans s17) hth15)))];exact kL ⟨(((s13.trans s145).trans s16).trans s17).trans s18,_,rfl⟩
  .rintro σ H13 ⟨s13,v7,rfl⟩;exact q H13 (b012.trans (bZ.of s13))
theorem IV:aX ["_law_script","_law_k"] ["_law_script"] (aD iM):=⟨rfl,rfl,rfl,by decide+kernel,rfl,by decide+kernel,by decide+kernel⟩
set_option maxHeartbeats 4000000 in
theorem OR (T:Txt K mg fs fds tc u) (G_law_right:aZ P w K mg base dS 5 (fs 32) (fds 32) ["_law_hand_here"] vL) (G_law_hand:aZ P w K mg base dS 1 (fs 9) (fds 9) ["_law_script","_law_k"] (QS K)):aZ P w K mg base dS 6 (fs 33) (fds 33) ["_law_script"] (CY K):=by
 refine T.Q0.F.ok IV (fun vs H Q E h=>?_) (fun cdv A outer s H vs Q E hr h=>?_)
 .obtain⟨a,ns,rfl,hS,hl,q⟩:=h;rfl
 .obtain⟨a,ns,rfl,hS,hl,q⟩:=h;refine⟨_,(aE (cJ PassesOwn.never rfl (eR rfl T.eW (aA (aN (DS rfl) (by rfl) T.yB O1 (aA aI (aA (aN (DT rfl) (by rfl) T.qR AJ (aA aI (aA (aN (jU K) (by rfl) T.cH bT (aA (pv 0) aC)) aC))) aC))) aC)) (aO (i:=1) IV.nd rfl (Or.inl rfl)) (aH (cA (fA (fB (aU T.pY G_law_right hr (by decide) rfl (aA (aU T.tD G_law_hand hr (by decide) rfl (aA (pv 0) (aA (pv 1) aC))) aC)))) (aH (aV eK)) bI)))
   (aH (aV eK))),?_⟩
  refine aK ?_;have hm:=turns (L:=((ns.map V.int).length:Int)) (c:=5) (by decide);refine⟨_,rfl,a,_,rfl,hS,_,_,rfl,_,_,rfl,_,rfl,by omega,by omega,iG (fun i σ H'=>aF H H'/\∃v1,σ=[some (V.ref a),v1]) ⟨aF.refl _,_,rfl⟩ ?_ ?_⟩
  .rintro i σ H1 hi ⟨s1,v1,rfl⟩;have hi':(i:Int)<60:=by omega
   walk_at "vc0";refine⟨a,ns,_,rfl,hS.same s1,by omega,by omega,fun p H2 hp hp2 s2=>⟨p,0,rfl,hp2,by decide,fun H3 b3=>⟨true,rfl,cO ⟨fun b o h=>b3 _ _ (s2 _ _ (s1 _ _ h)) (aJ (s1 _ _ h) hp),_,rfl⟩⟩⟩⟩
  .rintro σ H1 ⟨s1,v1,rfl⟩;walk_at "vc0";exact q H1
end
theorem all_mk {l:W.OpenLaw} {w:World} {h:Heap} {mg:Str->Option Value} {fa f0 f1 f2 f3 f4 f5 f6 f7 f8 f9 f10 f11 f12 f13 f14 f15 f16 f17 f18 f19 f20 f21 f22 f23 f24 f25 f26 f27 f28 f29 f30 f31 f32 f33:Addr} (X:K.In h) (G:h.Ns mainGlobals mg) (hfa:mg "law"=some (.ref fa))
  {od0 an0 od1 an1 od2 an2 od3 an3 od4 an4 od5 an5 od6 an6 od7 an7 od8 an8 od9 an9 od10 an10 od11 an11 od12 an12 od13 an13 od14 an14 od15 an15 od16 an16 od17 an17 od18 an18 od19 an19 od20 an20 od21 an21 od22 an22 od23 an23 od24 an24 od25 an25 od26 an26 od27 an27 od28 an28 od29 an29 od30 an30 od31 an31 od32 an32 od33 an33:Option Addr} {sl0 sl1 sl2 sl3 sl4 sl5 sl6 sl7 sl8 sl9 sl10 sl11 sl12 sl13 sl14 sl15 sl16 sl17 sl18 sl19 sl20 sl21 sl22 sl23 sl24 sl25 sl26 sl27 sl28 sl29 sl30 sl31 sl32 sl33:Array (Option Value)} {oc0 kV0 dc0 pm0 cd0 ct0 oc1 kV1 dc1 pm1 cd1 ct1 oc2 kV2 dc2 pm2 cd2 ct2 oc3 kV3 dc3 pm3 cd3 ct3 oc4 kV4 dc4 pm4 cd4 ct4 oc5 kV5 dc5 pm5 cd5 ct5 oc6 kV6 dc6 pm6 cd6 ct6 oc7 kV7 dc7 pm7 cd7 ct7 oc8 kV8 dc8 pm8 cd8 ct8 oc9 kV9 dc9 pm9 cd9 ct9 oc10 kV10 dc10 pm10 cd10 ct10 oc11 kV11 dc11 pm11 cd11 ct11 oc12 kV12 dc12 pm12 cd12 ct12 oc13 kV13 dc13 pm13 cd13 ct13 oc14 kV14 dc14 pm14 cd14 ct14 oc15 kV15 dc15 pm15 cd15 ct15 oc16 kV16 dc16 pm16 cd16 ct16 oc17 kV17 dc17 pm17 cd17 ct17 oc18 kV18 dc18 pm18 cd18 ct18 oc19 kV19 dc19 pm19 cd19 ct19 oc20 kV20 dc20 pm20 cd20 ct20 oc21 kV21 dc21 pm21 cd21 ct21 oc22 kV22 dc22 pm22 cd22 ct22 oc23 kV23 dc23 pm23 cd23 ct23 oc24 kV24 dc24 pm24 cd24 ct24 oc25 kV25 dc25 pm25 cd25 ct25 oc26 kV26 dc26 pm26 cd26 ct26 oc27 kV27 dc27 pm27 cd27 ct27 oc28 kV28 dc28 pm28 cd28 ct28 oc29 kV29 dc29 pm29 cd29 ct29 oc30 kV30 dc30 pm30 cd30 ct30 oc31 kV31 dc31 pm31 cd31 ct31 oc32 kV32 dc32 pm32 cd32 ct32 oc33 kV33 dc33 pm33 cd33 ct33:Value} {tk0 tk1:Tok}
  (a0:nsIn K mainGlobals "standing"=some (some (.ref f0))) (l0:K.lookup f0=some ⟨oc0,od0,.func (fnOf "standing" "standing" (aM eI) (aL eI) (aD eI) .none kV0 dc0 pm0 an0 cd0 ct0),sl0⟩) (c0:codeIn K cd0 "standing"=true) (k0:keepIn K (.ref f0)=true)
  (a1:nsIn K mainGlobals "rings_in"=some (some (.ref f1))) (l1:K.lookup f1=some ⟨oc1,od1,.func (fnOf "rings_in" "rings_in" (aM d7) (aL d7) (aD d7) .none kV1 dc1 pm1 an1 cd1 ct1),sl1⟩) (c1:codeIn K cd1 "rings_in"=true) (k1:keepIn K (.ref f1)=true)
  (a2:nsIn K mainGlobals "shown"=some (some (.ref f2))) (l2:K.lookup f2=some ⟨oc2,od2,.func (fnOf "shown" "shown" (aM hV) (aL hV) (aD hV) .none kV2 dc2 pm2 an2 cd2 ct2),sl2⟩) (c2:codeIn K cd2 "shown"=true) (k2:keepIn K (.ref f2)=true)
  (a3:nsIn K mainGlobals "is_name"=some (some (.ref f3))) (l3:K.lookup f3=some ⟨oc3,od3,.func (fnOf "is_name" "is_name" (aM eM) (aL eM) (aD eM) .none kV3 dc3 pm3 an3 cd3 ct3),sl3⟩) (c3:codeIn K cd3 "is_name"=true) (k3:keepIn K (.ref f3)=true)
  (a4:nsIn K mainGlobals "rises"=some (some (.ref f4))) (l4:K.lookup f4=some ⟨oc4,od4,.func (fnOf "rises" "rises" (aM gQ) (aL gQ) (aD gQ) .none kV4 dc4 pm4 an4 cd4 ct4),sl4⟩) (c4:codeIn K cd4 "rises"=true) (k4:keepIn K (.ref f4)=true)
  (a5:nsIn K mainGlobals "is_mark"=some (some (.ref f5))) (l5:K.lookup f5=some ⟨oc5,od5,.func (fnOf "is_mark" "is_mark" (aM fG) (aL fG) (aD fG) .none kV5 dc5 pm5 an5 cd5 ct5),sl5⟩) (c5:codeIn K cd5 "is_mark"=true) (k5:keepIn K (.ref f5)=true)
  (a6:nsIn K mainGlobals "has_ring"=some (some (.ref f6))) (l6:K.lookup f6=some ⟨oc6,od6,.func (fnOf "has_ring" "has_ring" (aM dU) (aL dU) (aD dU) .none kV6 dc6 pm6 an6 cd6 ct6),sl6⟩) (c6:codeIn K cd6 "has_ring"=true) (k6:keepIn K (.ref f6)=true)
  (a7:nsIn K mainGlobals "is_marks"=some (some (.ref f7))) (l7:K.lookup f7=some ⟨oc7,od7,.func (fnOf "is_marks" "is_marks" (aM dB) (aL dB) (aD dB) .none kV7 dc7 pm7 an7 cd7 ct7),sl7⟩) (c7:codeIn K cd7 "is_marks"=true) (k7:keepIn K (.ref f7)=true)
  (a8:nsIn K mainGlobals "is_wish"=some (some (.ref f8))) (l8:K.lookup f8=some ⟨oc8,od8,.func (fnOf "is_wish" "is_wish" (aM dH) (aL dH) (aD dH) .none kV8 dc8 pm8 an8 cd8 ct8),sl8⟩) (c8:codeIn K cd8 "is_wish"=true) (k8:keepIn K (.ref f8)=true)
  (a9:nsIn K mainGlobals "_law_hand"=some (some (.ref f9))) (l9:K.lookup f9=some ⟨oc9,od9,.func (fnOf "_law_hand" "_law_hand" (aM eA) (aL eA) (aD eA) .none kV9 dc9 pm9 an9 cd9 ct9),sl9⟩) (c9:codeIn K cd9 "_law_hand"=true) (k9:keepIn K (.ref f9)=true)
  (a10:nsIn K mainGlobals "_law_take"=some (some (.ref f10))) (l10:K.lookup f10=some ⟨oc10,od10,.func (fnOf "_law_take" "_law_take" (aM eC) (aL eC) (aD eC) .none kV10 dc10 pm10 an10 cd10 ct10),sl10⟩) (c10:codeIn K cd10 "_law_take"=true) (k10:keepIn K (.ref f10)=true)
  (a11:nsIn K mainGlobals "_law_name"=some (some (.ref f11))) (l11:K.lookup f11=some ⟨oc11,od11,.func (fnOf "_law_name" "_law_name" (aM dD) (aL dD) (aD dD) .none kV11 dc11 pm11 an11 cd11 ct11),sl11⟩) (c11:codeIn K cd11 "_law_name"=true) (k11:keepIn K (.ref f11)=true)
  (a12:nsIn K mainGlobals "_law_names"=some (some (.ref f12))) (l12:K.lookup f12=some ⟨oc12,od12,.func (fnOf "_law_names" "_law_names" (aM dI) (aL dI) (aD dI) .none kV12 dc12 pm12 an12 cd12 ct12),sl12⟩) (c12:codeIn K cd12 "_law_names"=true) (k12:keepIn K (.ref f12)=true)
  (a13:nsIn K mainGlobals "_law_letter"=some (some (.ref f13))) (l13:K.lookup f13=some ⟨oc13,od13,.func (fnOf "_law_letter" "_law_letter" (aM cE) (aL cE) (aD cE) .none kV13 dc13 pm13 an13 cd13 ct13),sl13⟩) (c13:codeIn K cd13 "_law_letter"=true) (k13:keepIn K (.ref f13)=true)
  (a14:nsIn K mainGlobals "_law_pack"=some (some (.ref f14))) (l14:K.lookup f14=some ⟨oc14,od14,.func (fnOf "_law_pack" "_law_pack" (aM d9) (aL d9) (aD d9) .none kV14 dc14 pm14 an14 cd14 ct14),sl14⟩) (c14:codeIn K cd14 "_law_pack"=true) (k14:keepIn K (.ref f14)=true)
  (a15:nsIn K mainGlobals "_law_stand"=some (some (.ref f15))) (l15:K.lookup f15=some ⟨oc15,od15,.func (fnOf "_law_stand" "_law_stand" (aM dO) (aL dO) (aD dO) .none kV15 dc15 pm15 an15 cd15 ct15),sl15⟩) (c15:codeIn K cd15 "_law_stand"=true) (k15:keepIn K (.ref f15)=true)
  (a16:nsIn K mainGlobals "_law_elders"=some (some (.ref f16))) (l16:K.lookup f16=some ⟨oc16,od16,.func (fnOf "_law_elders" "_law_elders" (aM cC) (aL cC) (aD cC) .none kV16 dc16 pm16 an16 cd16 ct16),sl16⟩) (c16:codeIn K cd16 "_law_elders"=true) (k16:keepIn K (.ref f16)=true)
  (a17:nsIn K mainGlobals "_law_up"=some (some (.ref f17))) (l17:K.lookup f17=some ⟨oc17,od17,.func (fnOf "_law_up" "_law_up" (aM gG) (aL gG) (aD gG) .none kV17 dc17 pm17 an17 cd17 ct17),sl17⟩) (c17:codeIn K cd17 "_law_up"=true) (k17:keepIn K (.ref f17)=true)
  (a18:nsIn K mainGlobals "_law_rings"=some (some (.ref f18))) (l18:K.lookup f18=some ⟨oc18,od18,.func (fnOf "_law_rings" "_law_rings" (aM dJ) (aL dJ) (aD dJ) .none kV18 dc18 pm18 an18 cd18 ct18),sl18⟩) (c18:codeIn K cd18 "_law_rings"=true) (k18:keepIn K (.ref f18)=true)
  (a19:nsIn K mainGlobals "_law_weakest"=some (some (.ref f19))) (l19:K.lookup f19=some ⟨oc19,od19,.func (fnOf "_law_weakest" "_law_weakest" (aM bQ) (aL bQ) (aD bQ) .none kV19 dc19 pm19 an19 cd19 ct19),sl19⟩) (c19:codeIn K cd19 "_law_weakest"=true) (k19:keepIn K (.ref f19)=true)
  (a20:nsIn K mainGlobals "_law_shown"=some (some (.ref f20))) (l20:K.lookup f20=some ⟨oc20,od20,.func (fnOf "_law_shown" "_law_shown" (aM cV) (aL cV) (aD cV) .none kV20 dc20 pm20 an20 cd20 ct20),sl20⟩) (c20:codeIn K cd20 "_law_shown"=true) (k20:keepIn K (.ref f20)=true)
  (a21:nsIn K mainGlobals "_law_any"=some (some (.ref f21))) (l21:K.lookup f21=some ⟨oc21,od21,.func (fnOf "_law_any" "_law_any" (aM fJ) (aL fJ) (aD fJ) .none kV21 dc21 pm21 an21 cd21 ct21),sl21⟩) (c21:codeIn K cd21 "_law_any"=true) (k21:keepIn K (.ref f21)=true)
  (a22:nsIn K mainGlobals "_law_beneath"=some (some (.ref f22))) (l22:K.lookup f22=some ⟨oc22,od22,.func (fnOf "_law_beneath" "_law_beneath" (aM cF) (aL cF) (aD cF) .none kV22 dc22 pm22 an22 cd22 ct22),sl22⟩) (c22:codeIn K cd22 "_law_beneath"=true) (k22:keepIn K (.ref f22)=true)
  (a23:nsIn K mainGlobals "_law_moved"=some (some (.ref f23))) (l23:K.lookup f23=some ⟨oc23,od23,.func (fnOf "_law_moved" "_law_moved" (aM cY) (aL cY) (aD cY) .none kV23 dc23 pm23 an23 cd23 ct23),sl23⟩) (c23:codeIn K cd23 "_law_moved"=true) (k23:keepIn K (.ref f23)=true)
  (a24:nsIn K mainGlobals "_law_wish"=some (some (.ref f24))) (l24:K.lookup f24=some ⟨oc24,od24,.func (fnOf "_law_wish" "_law_wish" (aM eD) (aL eD) (aD eD) .none kV24 dc24 pm24 an24 cd24 ct24),sl24⟩) (c24:codeIn K cd24 "_law_wish"=true) (k24:keepIn K (.ref f24)=true)
  (a25:nsIn K mainGlobals "_law_is_name"=some (some (.ref f25))) (l25:K.lookup f25=some ⟨oc25,od25,.func (fnOf "_law_is_name" "_law_is_name" (aM bW) (aL bW) (aD bW) .none kV25 dc25 pm25 an25 cd25 ct25),sl25⟩) (c25:codeIn K cd25 "_law_is_name"=true) (k25:keepIn K (.ref f25)=true)
  (a26:nsIn K mainGlobals "_law_is_pair"=some (some (.ref f26))) (l26:K.lookup f26=some ⟨oc26,od26,.func (fnOf "_law_is_pair" "_law_is_pair" (aM cG) (aL cG) (aD cG) .none kV26 dc26 pm26 an26 cd26 ct26),sl26⟩) (c26:codeIn K cd26 "_law_is_pair"=true) (k26:keepIn K (.ref f26)=true)
  (a27:nsIn K mainGlobals "_law_is_due"=some (some (.ref f27))) (l27:K.lookup f27=some ⟨oc27,od27,.func (fnOf "_law_is_due" "_law_is_due" (aM bL) (aL bL) (aD bL) .none kV27 dc27 pm27 an27 cd27 ct27),sl27⟩) (c27:codeIn K cd27 "_law_is_due"=true) (k27:keepIn K (.ref f27)=true)
  (a28:nsIn K mainGlobals "_law_odd"=some (some (.ref f28))) (l28:K.lookup f28=some ⟨oc28,od28,.func (fnOf "_law_odd" "_law_odd" (aM fH) (aL fH) (aD fH) .none kV28 dc28 pm28 an28 cd28 ct28),sl28⟩) (c28:codeIn K cd28 "_law_odd"=true) (k28:keepIn K (.ref f28)=true)
  (a29:nsIn K mainGlobals "_law_long"=some (some (.ref f29))) (l29:K.lookup f29=some ⟨oc29,od29,.func (fnOf "_law_long" "_law_long" (aM eE) (aL eE) (aD eE) .none kV29 dc29 pm29 an29 cd29 ct29),sl29⟩) (c29:codeIn K cd29 "_law_long"=true) (k29:keepIn K (.ref f29)=true)
  (a30:nsIn K mainGlobals "_law_first"=some (some (.ref f30))) (l30:K.lookup f30=some ⟨oc30,od30,.func (fnOf "_law_first" "_law_first" (aM dM) (aL dM) (aD dM) .none kV30 dc30 pm30 an30 cd30 ct30),sl30⟩) (c30:codeIn K cd30 "_law_first"=true) (k30:keepIn K (.ref f30)=true)
  (a31:nsIn K mainGlobals "_law_spoilt"=some (some (.ref f31))) (l31:K.lookup f31=some ⟨oc31,od31,.func (fnOf "_law_spoilt" "_law_spoilt" (aM cP) (aL cP) (aD cP) .none kV31 dc31 pm31 an31 cd31 ct31),sl31⟩) (c31:codeIn K cd31 "_law_spoilt"=true) (k31:keepIn K (.ref f31)=true)
  (a32:nsIn K mainGlobals "_law_right"=some (some (.ref f32))) (l32:K.lookup f32=some ⟨oc32,od32,.func (fnOf "_law_right" "_law_right" (aM cX) (aL cX) (aD cX) .none kV32 dc32 pm32 an32 cd32 ct32),sl32⟩) (c32:codeIn K cd32 "_law_right"=true) (k32:keepIn K (.ref f32)=true)
  (a33:nsIn K mainGlobals "law"=some (some (.ref f33))) (l33:K.lookup f33=some ⟨oc33,od33,.func (fnOf "law" "law" (aM iM) (aL iM) (aD iM) .none kV33 dc33 pm33 an33 cd33 ct33),sl33⟩) (c33:codeIn K cd33 "law"=true) (k33:keepIn K (.ref f33)=true)
  (eX:nsIn K mainGlobals "tuple"=some none)
  (cH:nsIn K mainGlobals "len"=some none)
  (cD:nsIn K mainGlobals "isinstance"=some none)
  (uT:nsIn K mainGlobals "str"=some none)
  (iS:nsIn K mainGlobals "all"=some none)
  (eW:nsIn K mainGlobals "range"=some none)
  (uF:nsIn K mainGlobals "int"=some none)
  (qR:nsIn K mainGlobals "min"=some none)
  (gY:nsIn K mainGlobals "sorted"=some none)
  (g0:nsIn K mainGlobals "enumerate"=some none)
  (pE:nsIn K mainGlobals "list"=some none)
  (x4:nsIn K mainGlobals "zip"=some none)
  (kM:nsIn K mainGlobals "repr"=some none)
  (yB:nsIn K mainGlobals "max"=some none)
  (e_NAME_SIGNS:nsIn K mainGlobals "NAME_SIGNS"=some (some (.str (Str.ofString "abcdefghijklmnopqrstuvwxyz0123456789") tk0)))
  (e_LONGEST_NAME:nsIn K mainGlobals "LONGEST_NAME"=some (some (.int 12 tk1)))
  :∃fd:FuncData,(∀(s:Shared) (v:Value),BindsTo s fd ⟨[v],[]⟩ [("_law_script",v)])/\∀base:Heap,K.In base->base.Ns mainGlobals mg->aZ l.prog w K mg base dS 6 fa fd ["_law_script"] (CY K):=by
 have e:=hfa.symm.trans (mg_of X G a33);cases e;have F0:=bN (st:=eI) l0 c0 k0;have b0:=F0.binds (ps:=["pack"]) fun _ _ _ _ _ _ us hl=>match us,hl with|[_],_=>rfl
 have F1:=bN (st:=d7) l1 c1 k1;have b1:=F1.binds (ps:=["above"]) fun _ _ _ _ _ _ us hl=>match us,hl with|[_],_=>rfl
 have F2:=bN (st:=hV) l2 c2 k2;have b2:=F2.binds (ps:=["pack","above"]) fun _ _ _ _ _ _ us hl=>match us,hl with|[_,_],_=>rfl
 have F3:=bN (st:=eM) l3 c3 k3;have b3:=F3.binds (ps:=["thing"]) fun _ _ _ _ _ _ us hl=>match us,hl with|[_],_=>rfl
 have F4:=bN (st:=gQ) l4 c4 k4;have b4:=F4.binds (ps:=["things"]) fun _ _ _ _ _ _ us hl=>match us,hl with|[_],_=>rfl
 have F5:=bN (st:=fG) l5 c5 k5;have b5:=F5.binds (ps:=["thing"]) fun _ _ _ _ _ _ us hl=>match us,hl with|[_],_=>rfl
 have F6:=bN (st:=dU) l6 c6 k6;have b6:=F6.binds (ps:=["marks"]) fun _ _ _ _ _ _ us hl=>match us,hl with|[_],_=>rfl
 have F7:=bN (st:=dB) l7 c7 k7;have b7:=F7.binds (ps:=["thing"]) fun _ _ _ _ _ _ us hl=>match us,hl with|[_],_=>rfl
 have F8:=bN (st:=dH) l8 c8 k8;have b8:=F8.binds (ps:=["pack","thing"]) fun _ _ _ _ _ _ us hl=>match us,hl with|[_,_],_=>rfl
 have F9:=bN (st:=eA) l9 c9 k9;have b9:=F9.binds (ps:=["_law_script","_law_k"]) fun _ _ _ _ _ _ us hl=>match us,hl with|[_,_],_=>rfl
 have F10:=bN (st:=eC) l10 c10 k10;have b10:=F10.binds (ps:=["_law_hand_here","_law_many"]) fun _ _ _ _ _ _ us hl=>match us,hl with|[_,_],_=>rfl
 have F11:=bN (st:=dD) l11 c11 k11;have b11:=F11.binds (ps:=["_law_hand_here","_law_used"]) fun _ _ _ _ _ _ us hl=>match us,hl with|[_,_],_=>rfl
 have F12:=bN (st:=dI) l12 c12 k12;have b12:=F12.binds (ps:=["_law_hand_here","_law_many"]) fun _ _ _ _ _ _ us hl=>match us,hl with|[_,_],_=>rfl
 have F13:=bN (st:=cE) l13 c13 k13;have b13:=F13.binds (ps:=["_law_hand_here","_law_name_here","_law_names_here"]) fun _ _ _ _ _ _ us hl=>match us,hl with|[_,_,_],_=>rfl
 have F14:=bN (st:=d9) l14 c14 k14;have b14:=F14.binds (ps:=["_law_hand_here","_law_names_here"]) fun _ _ _ _ _ _ us hl=>match us,hl with|[_,_],_=>rfl
 have F15:=bN (st:=dO) l15 c15 k15;have b15:=F15.binds (ps:=["_law_pack_here"]) fun _ _ _ _ _ _ us hl=>match us,hl with|[_],_=>rfl
 have F16:=bN (st:=cC) l16 c16 k16;have b16:=F16.binds (ps:=["_law_letter_here"]) fun _ _ _ _ _ _ us hl=>match us,hl with|[_],_=>rfl
 have F17:=bN (st:=gG) l17 c17 k17;have b17:=F17.binds (ps:=["_law_stand_here","_law_held"]) fun _ _ _ _ _ _ us hl=>match us,hl with|[_,_],_=>rfl
 have F18:=bN (st:=dJ) l18 c18 k18;have b18:=F18.binds (ps:=["_law_up_here"]) fun _ _ _ _ _ _ us hl=>match us,hl with|[_],_=>rfl
 have F19:=bN (st:=bQ) l19 c19 k19;have b19:=F19.binds (ps:=["_law_stand_here","_law_held","_law_ring"]) fun _ _ _ _ _ _ us hl=>match us,hl with|[_,_,_],_=>rfl
 have F20:=bN (st:=cV) l20 c20 k20;have b20:=F20.binds (ps:=["_law_stand_here","_law_up_here"]) fun _ _ _ _ _ _ us hl=>match us,hl with|[_,_],_=>rfl
 have F21:=bN (st:=fJ) l21 c21 k21;have b21:=F21.binds (ps:=["_law_hand_here","_law_names_here"]) fun _ _ _ _ _ _ us hl=>match us,hl with|[_,_],_=>rfl
 have F22:=bN (st:=cF) l22 c22 k22;have b22:=F22.binds (ps:=["_law_up_here","_law_name_here"]) fun _ _ _ _ _ _ us hl=>match us,hl with|[_,_],_=>rfl
 have F23:=bN (st:=cY) l23 c23 k23;have b23:=F23.binds (ps:=["_law_hand_here","_law_up_here"]) fun _ _ _ _ _ _ us hl=>match us,hl with|[_,_],_=>rfl
 have F24:=bN (st:=eD) l24 c24 k24;have b24:=F24.binds (ps:=["_law_hand_here","_law_stand_here","_law_names_here"]) fun _ _ _ _ _ _ us hl=>match us,hl with|[_,_,_],_=>rfl
 have F25:=bN (st:=bW) l25 c25 k25;have b25:=F25.binds (ps:=["_law_thing"]) fun _ _ _ _ _ _ us hl=>match us,hl with|[_],_=>rfl
 have F26:=bN (st:=cG) l26 c26 k26;have b26:=F26.binds (ps:=["_law_thing"]) fun _ _ _ _ _ _ us hl=>match us,hl with|[_],_=>rfl
 have F27:=bN (st:=bL) l27 c27 k27;have b27:=F27.binds (ps:=["_law_stand_here","_law_thing"]) fun _ _ _ _ _ _ us hl=>match us,hl with|[_,_],_=>rfl
 have F28:=bN (st:=fH) l28 c28 k28;have b28:=F28.binds (ps:=["_law_hand_here","_law_names_here"]) fun _ _ _ _ _ _ us hl=>match us,hl with|[_,_],_=>rfl
 have F29:=bN (st:=eE) l29 c29 k29;have b29:=F29.binds (ps:=["_law_hand_here","_law_names_here"]) fun _ _ _ _ _ _ us hl=>match us,hl with|[_,_],_=>rfl
 have F30:=bN (st:=dM) l30 c30 k30;have b30:=F30.binds (ps:=["_law_pair"]) fun _ _ _ _ _ _ us hl=>match us,hl with|[_],_=>rfl
 have F31:=bN (st:=cP) l31 c31 k31;have b31:=F31.binds (ps:=["_law_hand_here","_law_wish_here","_law_names_here"]) fun _ _ _ _ _ _ us hl=>match us,hl with|[_,_,_],_=>rfl
 have F32:=bN (st:=cX) l32 c32 k32;have b32:=F32.binds (ps:=["_law_hand_here"]) fun _ _ _ _ _ _ us hl=>match us,hl with|[_],_=>rfl
 have F33:=bN (st:=iM) l33 c33 k33;have b33:=F33.binds (ps:=["_law_script"]) fun _ _ _ _ _ _ us hl=>match us,hl with|[_],_=>rfl
 have T:Txt K mg (fun i=>([f0,f1,f2,f3,f4,f5,f6,f7,f8,f9,f10,f11,f12,f13,f14,f15,f16,f17,f18,f19,f20,f21,f22,f23,f24,f25,f26,f27,f28,f29,f30,f31,f32,fa]:List Addr).getD i 0) (fun i=>([fnOf "standing" "standing" (aM eI) (aL eI) (aD eI) .none kV0 dc0 pm0 an0 cd0 ct0,fnOf "rings_in" "rings_in" (aM d7) (aL d7) (aD d7) .none kV1 dc1 pm1 an1 cd1 ct1,fnOf "shown" "shown" (aM hV) (aL hV) (aD hV) .none kV2 dc2 pm2 an2 cd2 ct2,fnOf "is_name" "is_name" (aM eM) (aL eM) (aD eM) .none kV3 dc3 pm3 an3 cd3 ct3,fnOf "rises" "rises" (aM gQ) (aL gQ) (aD gQ) .none kV4 dc4 pm4 an4 cd4 ct4,fnOf "is_mark" "is_mark" (aM fG) (aL fG) (aD fG) .none kV5 dc5 pm5 an5 cd5 ct5,fnOf "has_ring" "has_ring" (aM dU) (aL dU) (aD dU) .none kV6 dc6 pm6 an6 cd6 ct6,fnOf "is_marks" "is_marks" (aM dB) (aL dB) (aD dB) .none kV7 dc7 pm7 an7 cd7 ct7,fnOf "is_wish" "is_wish" (aM dH) (aL dH) (aD dH) .none kV8 dc8 pm8 an8 cd8 ct8,fnOf "_law_hand" "_law_hand" (aM eA) (aL eA) (aD eA) .none kV9 dc9 pm9 an9 cd9 ct9,fnOf "_law_take" "_law_take" (aM eC) (aL eC) (aD eC) .none kV10 dc10 pm10 an10 cd10 ct10,fnOf "_law_name" "_law_name" (aM dD) (aL dD) (aD dD) .none kV11 dc11 pm11 an11 cd11 ct11,fnOf "_law_names" "_law_names" (aM dI) (aL dI) (aD dI) .none kV12 dc12 pm12 an12 cd12 ct12,fnOf "_law_letter" "_law_letter" (aM cE) (aL cE) (aD cE) .none kV13 dc13 pm13 an13 cd13 ct13,fnOf "_law_pack" "_law_pack" (aM d9) (aL d9) (aD d9) .none kV14 dc14 pm14 an14 cd14 ct14,fnOf "_law_stand" "_law_stand" (aM dO) (aL dO) (aD dO) .none kV15 dc15 pm15 an15 cd15 ct15,fnOf "_law_elders" "_law_elders" (aM cC) (aL cC) (aD cC) .none kV16 dc16 pm16 an16 cd16 ct16,fnOf "_law_up" "_law_up" (aM gG) (aL gG) (aD gG) .none kV17 dc17 pm17 an17 cd17 ct17,fnOf "_law_rings" "_law_rings" (aM dJ) (aL dJ) (aD dJ) .none kV18 dc18 pm18 an18 cd18 ct18,fnOf "_law_weakest" "_law_weakest" (aM bQ) (aL bQ) (aD bQ) .none kV19 dc19 pm19 an19 cd19 ct19,fnOf "_law_shown" "_law_shown" (aM cV) (aL cV) (aD cV) .none kV20 dc20 pm20 an20 cd20 ct20,fnOf "_law_any" "_law_any" (aM fJ) (aL fJ) (aD fJ) .none kV21 dc21 pm21 an21 cd21 ct21,fnOf "_law_beneath" "_law_beneath" (aM cF) (aL cF) (aD cF) .none kV22 dc22 pm22 an22 cd22 ct22,fnOf "_law_moved" "_law_moved" (aM cY) (aL cY) (aD cY) .none kV23 dc23 pm23 an23 cd23 ct23,fnOf "_law_wish" "_law_wish" (aM eD) (aL eD) (aD eD) .none kV24 dc24 pm24 an24 cd24 ct24,fnOf "_law_is_name" "_law_is_name" (aM bW) (aL bW) (aD bW) .none kV25 dc25 pm25 an25 cd25 ct25,fnOf "_law_is_pair" "_law_is_pair" (aM cG) (aL cG) (aD cG) .none kV26 dc26 pm26 an26 cd26 ct26,fnOf "_law_is_due" "_law_is_due" (aM bL) (aL bL) (aD bL) .none kV27 dc27 pm27 an27 cd27 ct27,fnOf "_law_odd" "_law_odd" (aM fH) (aL fH) (aD fH) .none kV28 dc28 pm28 an28 cd28 ct28,fnOf "_law_long" "_law_long" (aM eE) (aL eE) (aD eE) .none kV29 dc29 pm29 an29 cd29 ct29,fnOf "_law_first" "_law_first" (aM dM) (aL dM) (aD dM) .none kV30 dc30 pm30 an30 cd30 ct30,fnOf "_law_spoilt" "_law_spoilt" (aM cP) (aL cP) (aD cP) .none kV31 dc31 pm31 an31 cd31 ct31,fnOf "_law_right" "_law_right" (aM cX) (aL cX) (aD cX) .none kV32 dc32 pm32 an32 cd32 ct32,fnOf "law" "law" (aM iM) (aL iM) (aD iM) .none kV33 dc33 pm33 an33 cd33 ct33]:List FuncData).getD i (fnOf "law" "law" (aM iM) (aL iM) (aD iM) .none kV33 dc33 pm33 an33 cd33 ct33)) (fun i=>([0,0]:List Addr).getD i 0) (fun i=>([.str (Str.ofString "abcdefghijklmnopqrstuvwxyz0123456789") tk0,.int 12 tk1]:List Value).getD i .none):=⟨⟨F0,mg_of X G a0,b0⟩,⟨F1,mg_of X G a1,b1⟩,⟨F2,mg_of X G a2,b2⟩,⟨F3,mg_of X G a3,b3⟩,⟨F4,mg_of X G a4,b4⟩,⟨F5,mg_of X G a5,b5⟩,⟨F6,mg_of X G a6,b6⟩,⟨F7,mg_of X G a7,b7⟩,⟨F8,mg_of X G a8,b8⟩,⟨F9,mg_of X G a9,b9⟩,⟨F10,mg_of X G a10,b10⟩,⟨F11,mg_of X G a11,b11⟩,⟨F12,mg_of X G a12,b12⟩,⟨F13,mg_of X G a13,b13⟩,⟨F14,mg_of X G a14,b14⟩,⟨F15,mg_of X G a15,b15⟩,⟨F16,mg_of X G a16,b16⟩,⟨F17,mg_of X G a17,b17⟩,⟨F18,mg_of X G a18,b18⟩,⟨F19,mg_of X G a19,b19⟩,⟨F20,mg_of X G a20,b20⟩,⟨F21,mg_of X G a21,b21⟩,⟨F22,mg_of X G a22,b22⟩,⟨F23,mg_of X G a23,b23⟩,⟨F24,mg_of X G a24,b24⟩,⟨F25,mg_of X G a25,b25⟩,⟨F26,mg_of X G a26,b26⟩,⟨F27,mg_of X G a27,b27⟩,⟨F28,mg_of X G a28,b28⟩,⟨F29,mg_of X G a29,b29⟩,⟨F30,mg_of X G a30,b30⟩,⟨F31,mg_of X G a31,b31⟩,⟨F32,mg_of X G a32,b32⟩,⟨F33,mg_of X G a33,b33⟩,mg_none_of X G eX,mg_none_of X G cH,mg_none_of X G cD,mg_none_of X G uT,mg_none_of X G iS,mg_none_of X G eW,mg_none_of X G uF,mg_none_of X G qR,mg_none_of X G gY,mg_none_of X G g0,mg_none_of X G pE,mg_none_of X G x4,mg_none_of X G kM,mg_none_of X G yB,mg_of X G e_NAME_SIGNS,⟨_,rfl⟩,mg_of X G e_LONGEST_NAME,⟨_,rfl⟩⟩;refine⟨fnOf "law" "law" (aM iM) (aL iM) (aD iM) .none kV33 dc33 pm33 an33 cd33 ct33,fun s v=>.of_eq rfl,fun base _ _=>?_⟩;have G_standing:=zI (P:=l.prog) (w:=w) (base:=base) T;have G_rings_in:=yG (P:=l.prog) (w:=w) (base:=base) T;have G_is_name:=BE (P:=l.prog) (w:=w) (base:=base) T;have G_rises:=ID (P:=l.prog) (w:=w) (base:=base) T;have G_law_hand:=xX (P:=l.prog) (w:=w) (base:=base) T;have G_law_take:=yE (P:=l.prog) (w:=w) (base:=base) T;have G_law_stand:=wB (P:=l.prog) (w:=w) (base:=base) T;have G_law_elders:=tO (P:=l.prog) (w:=w) (base:=base) T;have G_law_rings:=wJ (P:=l.prog) (w:=w) (base:=base) T;have G_law_weakest:=q0 (P:=l.prog) (w:=w) (base:=base) T;have G_law_shown:=vU (P:=l.prog) (w:=w) (base:=base) T;have G_law_beneath:=sX (P:=l.prog) (w:=w) (base:=base) T;have G_law_is_name:=qX (P:=l.prog) (w:=w) (base:=base) T;have G_law_first:=wW (P:=l.prog) (w:=w) (base:=base) T;have G_shown:=GG (P:=l.prog) (w:=w) (base:=base) T G_standing;have G_is_mark:=AA (P:=l.prog) (w:=w) (base:=base) T G_is_name;have G_has_ring:=yD (P:=l.prog) (w:=w) (base:=base) T G_rings_in;have G_law_name:=x6 (P:=l.prog) (w:=w) (base:=base) T G_law_take;have G_law_letter:=tN (P:=l.prog) (w:=w) (base:=base) T G_law_take;have G_law_up:=D2 (P:=l.prog) (w:=w) (base:=base) T G_law_elders;have G_law_any:=AL (P:=l.prog) (w:=w) (base:=base) T G_law_take;have G_law_moved:=vW (P:=l.prog) (w:=w) (base:=base) T G_law_beneath G_law_take;have G_law_is_pair:=tE (P:=l.prog) (w:=w) (base:=base) T G_law_is_name;have G_law_odd:=AI (P:=l.prog) (w:=w) (base:=base) T G_law_take;have G_law_long:=xU (P:=l.prog) (w:=w) (base:=base) T G_law_take;have G_is_marks:=yI (P:=l.prog) (w:=w) (base:=base) T G_rises G_has_ring G_is_mark;have G_law_names:=vY (P:=l.prog) (w:=w) (base:=base) T G_law_name;have G_law_pack:=xN (P:=l.prog) (w:=w) (base:=base) T G_law_take G_law_letter;have G_law_wish:=y6 (P:=l.prog) (w:=w) (base:=base) T G_law_shown G_law_take G_law_any G_law_up G_law_rings G_law_moved G_law_weakest;have G_law_is_due:=tR (P:=l.prog) (w:=w) (base:=base) T G_law_is_pair;have G_is_wish:=BS (P:=l.prog) (w:=w) (base:=base) T G_is_marks G_shown G_standing;have G_law_spoilt:=tM (P:=l.prog) (w:=w) (base:=base) T G_law_take G_law_first G_law_odd G_law_long;have G_law_right:=wC (P:=l.prog) (w:=w) (base:=base) T G_law_names G_law_pack G_law_stand G_law_wish G_law_spoilt G_law_take G_law_is_pair G_is_wish G_law_is_due;exact OR T G_law_right G_law_hand
theorem walk {l:PySem.W.OpenLaw} {q:Program} {loose:List Str} {XP:(Str->Option Value)->Heap->Prop} {YP:World->Heap->Prop} {d:DefRec} {K:Params->Frag} (hn:l.most=some 63) (hdf:d.params.defaults=[])
  (hY:∀(w:World) (h:Heap),YP w h->(K w.params).In h)
  (F:∀(w:World) (mg:Str->Option Value) (fa:Addr) (h:Heap),(K w.params).In h->h.Ns mainGlobals mg->mg d.name=some (.ref fa)->
   ∃fd:FuncData,(∀(s:Shared) (u:Value),BindsTo s fd ⟨[u],[]⟩ [("_law_script",u)])/\∀base:Heap,(K w.params).In base->base.Ns mainGlobals mg->aZ l.prog w (K w.params) mg base dS 6 fa fd ["_law_script"] (CY (K w.params))):
  PySem.W.WalkO q loose XP YP l.row.toRowW d [] (fun f vs=>PySem.call f vs):=
 L2.K5 (n:=63) (k:=6) (x:="_law_script") (CX:=fun _=>dS) (sp:=fun w=>CY (K w.params)) hn (by decide) hdf ⟨rfl,by decide,by decide,rfl⟩ hY F (fun _ _ a ns hl _ hS=>⟨a,ns,rfl,hS,hl,fun _=>rfl⟩) fun _ _ _ _ _ z=>z
end My
open PySem PySem.W PyProof.Rows
set_option maxRecDepth 100000 in
set_option maxHeartbeats 0 in
theorem PySem.Challenge.cw_answertrees_k57_wishes_known_holds : PySem.Challenge.rw_answertrees_k57_wishes_known.Holds := by
 refine PySem.W.holds_law My.UZ fun said=>PySem.W.holds_open (q:=My.SV) (loose:=[]) (XP:=PySem.W.XL My.SV []) (YP:=PySem.W.InK My.UO) (N:=My.UQ) My.U9 (PySem.W.InK.of fun _=>by kernel_rfl) PySem.W.InK.keeps (fun s e=>xl_of s (Bool.and_eq_true_iff.mp e).1) PySem.W.XL.keeps (by rfl) (by rfl) (by rfl) (fun s e=>PySem.W.recFacts_of (Bool.and_eq_true_iff.mp e).2) rfl said (by decide+kernel) ⟨rfl,rfl,rfl,rfl,rfl,by decide+kernel⟩ ?hw ?hc
 case hw=>w_witness2
 k_fill
 refine My.walk (l:=PySem.Challenge.rw_answertrees_k57_wishes_known) rfl rfl (fun w h Y=>Y) ?F
 case F=>
  intro w mg fa h KX G hmg
  refine' My.all_mk KX G hmg ?a0 ?l0 ?c0 ?k0 ?a1 ?l1 ?c1 ?k1 ?a2 ?l2 ?c2 ?k2 ?a3 ?l3 ?c3 ?k3 ?a4 ?l4 ?c4 ?k4 ?a5 ?l5 ?c5 ?k5 ?a6 ?l6 ?c6 ?k6 ?a7 ?l7 ?c7 ?k7 ?a8 ?l8 ?c8 ?k8 ?a9 ?l9 ?c9 ?k9 ?a10 ?l10 ?c10 ?k10 ?a11 ?l11 ?c11 ?k11 ?a12 ?l12 ?c12 ?k12 ?a13 ?l13 ?c13 ?k13 ?a14 ?l14 ?c14 ?k14 ?a15 ?l15 ?c15 ?k15 ?a16 ?l16 ?c16 ?k16 ?a17 ?l17 ?c17 ?k17 ?a18 ?l18 ?c18 ?k18 ?a19 ?l19 ?c19 ?k19 ?a20 ?l20 ?c20 ?k20 ?a21 ?l21 ?c21 ?k21 ?a22 ?l22 ?c22 ?k22 ?a23 ?l23 ?c23 ?k23 ?a24 ?l24 ?c24 ?k24 ?a25 ?l25 ?c25 ?k25 ?a26 ?l26 ?c26 ?k26 ?a27 ?l27 ?c27 ?k27 ?a28 ?l28 ?c28 ?k28 ?a29 ?l29 ?c29 ?k29 ?a30 ?l30 ?c30 ?k30 ?a31 ?l31 ?c31 ?k31 ?a32 ?l32 ?c32 ?k32 ?a33 ?l33 ?c33 ?k33 ?eX ?cH ?cD ?uT ?iS ?eW ?uF ?qR ?gY ?g0 ?pE ?x4 ?kM ?yB ?e_NAME_SIGNS ?e_LONGEST_NAME
  (case a0=>k_is)
  (case l0=>k_is)
  (case c0=>k_is)
  (case k0=>k_is)
  (case a1=>k_is)
  (case l1=>k_is)
  (case c1=>k_is)
  (case k1=>k_is)
  (case a2=>k_is)
  (case l2=>k_is)
  (case c2=>k_is)
  (case k2=>k_is)
  (case a3=>k_is)
  (case l3=>k_is)
  (case c3=>k_is)
  (case k3=>k_is)
  (case a4=>k_is)
  (case l4=>k_is)
  (case c4=>k_is)
  (case k4=>k_is)
  (case a5=>k_is)
  (case l5=>k_is)
  (case c5=>k_is)
  (case k5=>k_is)
  (case a6=>k_is)
  (case l6=>k_is)
  (case c6=>k_is)
  (case k6=>k_is)
  (case a7=>k_is)
  (case l7=>k_is)
  (case c7=>k_is)
  (case k7=>k_is)
  (case a8=>k_is)
  (case l8=>k_is)
  (case c8=>k_is)
  (case k8=>k_is)
  (case a9=>k_is)
  (case l9=>k_is)
  (case c9=>k_is)
  (case k9=>k_is)
  (case a10=>k_is)
  (case l10=>k_is)
  (case c10=>k_is)
  (case k10=>k_is)
  (case a11=>k_is)
  (case l11=>k_is)
  (case c11=>k_is)
  (case k11=>k_is)
  (case a12=>k_is)
  (case l12=>k_is)
  (case c12=>k_is)
  (case k12=>k_is)
  (case a13=>k_is)
  (case l13=>k_is)
  (case c13=>k_is)
  (case k13=>k_is)
  (case a14=>k_is)
  (case l14=>k_is)
  (case c14=>k_is)
  (case k14=>k_is)
  (case a15=>k_is)
  (case l15=>k_is)
  (case c15=>k_is)
  (case k15=>k_is)
  (case a16=>k_is)
  (case l16=>k_is)
  (case c16=>k_is)
  (case k16=>k_is)
  (case a17=>k_is)
  (case l17=>k_is)
  (case c17=>k_is)
  (case k17=>k_is)
  (case a18=>k_is)
  (case l18=>k_is)
  (case c18=>k_is)
  (case k18=>k_is)
  (case a19=>k_is)
  (case l19=>k_is)
  (case c19=>k_is)
  (case k19=>k_is)
  (case a20=>k_is)
  (case l20=>k_is)
  (case c20=>k_is)
  (case k20=>k_is)
  (case a21=>k_is)
  (case l21=>k_is)
  (case c21=>k_is)
  (case k21=>k_is)
  (case a22=>k_is)
  (case l22=>k_is)
  (case c22=>k_is)
  (case k22=>k_is)
  (case a23=>k_is)
  (case l23=>k_is)
  (case c23=>k_is)
  (case k23=>k_is)
  (case a24=>k_is)
  (case l24=>k_is)
  (case c24=>k_is)
  (case k24=>k_is)
  (case a25=>k_is)
  (case l25=>k_is)
  (case c25=>k_is)
  (case k25=>k_is)
  (case a26=>k_is)
  (case l26=>k_is)
  (case c26=>k_is)
  (case k26=>k_is)
  (case a27=>k_is)
  (case l27=>k_is)
  (case c27=>k_is)
  (case k27=>k_is)
  (case a28=>k_is)
  (case l28=>k_is)
  (case c28=>k_is)
  (case k28=>k_is)
  (case a29=>k_is)
  (case l29=>k_is)
  (case c29=>k_is)
  (case k29=>k_is)
  (case a30=>k_is)
  (case l30=>k_is)
  (case c30=>k_is)
  (case k30=>k_is)
  (case a31=>k_is)
  (case l31=>k_is)
  (case c31=>k_is)
  (case k31=>k_is)
  (case a32=>k_is)
  (case l32=>k_is)
  (case c32=>k_is)
  (case k32=>k_is)
  (case a33=>k_is)
  (case l33=>k_is)
  (case c33=>k_is)
  (case k33=>k_is)
  (case eX=>k_is)
  (case cH=>k_is)
  (case cD=>k_is)
  (case uT=>k_is)
  (case iS=>k_is)
  (case eW=>k_is)
  (case uF=>k_is)
  (case qR=>k_is)
  (case gY=>k_is)
  (case g0=>k_is)
  (case pE=>k_is)
  (case x4=>k_is)
  (case kM=>k_is)
  (case yB=>k_is)
  (case e_NAME_SIGNS=>k_is)
  (case e_LONGEST_NAME=>k_is)
#print axioms PySem.Challenge.cw_answertrees_k57_wishes_known_holds
