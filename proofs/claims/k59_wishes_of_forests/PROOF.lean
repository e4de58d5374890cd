import PyProof.Rows.All
import Wide.All
import OpenK.AllK
import Wide.FinOn
import Lean
import PyProof.EqAt
import PyProof.EqKinds
import PyProof.TupleCall
import PySem.Challenge.RW_answertrees_k59_wishes_of_forests
import KE.KSortKey
open List (mem_filter mem_range mem_cons_self mem_cons_of_mem mem_cons mem_append mem_append_left mem_append_right size_toArray append_nil nodup_cons of_mem_zip length_take getElem?_map take_sublist mem_of_getElem? length_append length_map length_replicate length_drop all_cons any_cons map_nil map_cons lookup_cons length_cons range_succ_eq_map all_map all_eq_true getElem_mem sum_cons length_filter_le map_append take_length mem_map length_range take_of_length_le drop_of_length_le cons_append append_assoc foldl_cons filter_eq_self map_map drop_zero find?_cons length_nil nodup_nil ext_getElem getElem?_eq_getElem getD_eq_getElem?_getD not_lt pairwise_cons mem_singleton mem_of_mem_take getElem?_of_mem length_pos_of_mem nodup_append map_congr_left take_succ map_take length_zip map_fst_zip getElem_zip map_drop nil_append getElem?_cons_zero getElem?_cons_succ set_cons_zero set_cons_succ mem_nil_iff)
open Nat (lt_of_lt_of_le lt_irrefl ne_of_lt le_trans le_of_lt ne_of_gt le_refl zero_le lt_of_le_of_lt le_succ lt_succ_self lt_succ_of_lt sub_zero lt_trans le_succ_of_le min_self succ_mul zero_add)
open Bool (and_eq_true false_eq_true not_eq_true')
open Option (isSome_iff_exists getD_none map_some isSome_map)
open Array (length_toList getElem?_eq_none toList_append getElem?_toList)
open Int (toNat_natCast emod_nonneg)
open PySem.Heap (get?_push_size lt_size get?_push_of_some get?_update_self get?_update_other size_push)
open PySem.W (fnOf Frag view LeftO xlAt recOk methodObj keepIn codeIn nsIn mg_of mg_none_of xl_of)
open PySem.F (slot_dict_get entry_dict_get plainAttrs_dict type_dict_get slot_list_index plainAttrs_list plainAttrs_str slot_str_join type_str_join slot_str_startswith type_str_startswith)
set_option compiler.extract_closed false
set_option Elab.async false
set_option linter.all false
set_option maxRecDepth 100000
namespace L2
open PySem PySem.Spec PyProof.Rows
noncomputable def aK (s:Stmt):Arguments:=match s with
 | .FunctionDef _ a _ _ _ _ _ _ _ _=>a
 |_=>{posonlyargs:=[],args:=[],vararg:=none,kwonlyargs:=[],kw_defaults:=[],kwarg:=none,defaults:=[]}
noncomputable def aJ (s:Stmt):List Stmt:=match s with
 | .FunctionDef _ _ b _ _ _ _ _ _ _=>b
 |_=>[]
noncomputable def aB (s:Stmt):Scope:=match s with
 | .FunctionDef _ _ _ _ _ _ sc _ _ _=>sc
 |_=>{kind:=.function,names:=[],isGenerator:=false,isCoroutine:=false}
end L2
namespace My
set_option maxHeartbeats 0
open PySem PySem.W L2
abbrev R3:Program:=PySem.Challenge.pw_answertrees_k59_wishes_of_forests
noncomputable abbrev J6 (i:Nat):Stmt:=R3.main.body.getD i (.Pass ⟨0,0,0,0⟩)
noncomputable abbrev jO (i:Nat) (n m:Str) (t:Tok) (c:Addr):Obj:=⟨.type "function",none,.func (fnOf n n (aK (J6 i)) (aJ (J6 i)) (aB (J6 i)) .none .none .none (.str m t) none (.ref c) .none), #[]⟩
noncomputable abbrev gP (P:Params) (n:Str) (t:Tok) (v:Value):DictEntry:=⟨PyData.keyHash P n,.str n t,v⟩
noncomputable def SH:Params->Frag:=fun P=>
 (nat_lit 3,⟨(.type "dict"),none,.dict #[gP P "__name__" 165 (.str "law_answertrees_k59_wishes_of_forests" 478),gP P "__doc__" 166 .none,gP P "__package__" 167 .none,gP P "__loader__" 168 (.builtin "__main__.__loader__#opaque"),gP P "__spec__" 169 .none,gP P "__annotations__" 170 (.ref 6),gP P "__builtins__" 171 (.ref 4),gP P "__file__" 173 (.str "/claim/cut.py" 172),gP P "__cached__" 174 .none,gP P "elders" 194 (.ref 19),gP P "standing" 203 (.ref 26),gP P "days_of" 209 (.ref 31),gP P "rings_in" 223 (.ref 38),gP P "elders_in" 229 (.ref 43),gP P "ties_in" 235 (.ref 48),gP P "roots_in" 248 (.ref 55),gP P "plain" 256 (.ref 60),gP P "FIGURES" 260 (.str "0123456789" 259),gP P "is_count" 266 (.ref 65),gP P "without_ahead" 277 (.ref 72),gP P "without_label" 286 (.ref 79),gP P "without_behind" 295 (.ref 86),gP P "taken_off" 306 (.ref 93),gP P "next_step" 317 (.ref 100),gP P "peeled" 327 (.ref 107),gP P "bare" 336 (.ref 114),gP P "is_answer" 342 (.ref 119),gP P "rows_of" 350 (.ref 124),gP P "claims_of" 361 (.ref 131),gP P "choice" 375 (.ref 138),gP P "choices" 381 (.ref 143),gP P "places" 395 (.ref 150),gP P "cut_one" 401 (.ref 155),gP P "begun_with" 410 (.ref 162),gP P "cut_rings" 416 (.ref 167),gP P "by_names" 422 (.ref 172),gP P "voices" 430 (.ref 177),gP P "alike_trees" 438 (.ref 182),gP P "ties_by_heads" 452 (.ref 189),gP P "shown" 463 (.ref 196),gP P "forest" 469 (.ref 201),gP P "wish_of" 477 (.ref 206),gP P "_law_hand" 489 (.ref 213),gP P "_law_take" 499 (.ref 220),gP P "_law_name" 505 (.ref 225),gP P "_law_names" 515 (.ref 232),gP P "_law_letter" 521 (.ref 237),gP P "_law_pack" 532 (.ref 244),gP P "_law_marks" 542 (.ref 251),gP P "_law_right" 548 (.ref 256),gP P "law" 556 (.ref 263)] 51, #[]⟩)::
 (nat_lit 18,⟨(.type "code"),none,.fields #[.str "elders" 189,.str "elders" 190,.str "/claim/cut.py" 191,.int 2 0,.int 1 0,.int 0 0,.int 0 0,.int 3 0,.ref 15,.bool true,.int 181 0,.ref 16,.none,.none,.none,.ref 17,.int 192 0,.int 2 0,.str "/claim/cut.py" 193], #[]⟩)::
 (nat_lit 19,jO 1 "elders" "answertrees.elders" 187 18)::
 (nat_lit 25,⟨(.type "code"),none,.fields #[.str "standing" 195,.str "standing" 196,.str "/claim/cut.py" 197,.int 6 0,.int 1 0,.int 0 0,.int 0 0,.int 3 0,.ref 20,.bool true,.int 181 0,.ref 21,.none,.ref 22,.ref 23,.ref 24,.int 201 0,.int 6 0,.str "/claim/cut.py" 202], #[]⟩)::
 (nat_lit 26,jO 2 "standing" "answertrees.elders" 187 25)::
 (nat_lit 30,⟨(.type "code"),none,.fields #[.str "days_of" 204,.str "days_of" 205,.str "/claim/cut.py" 206,.int 12 0,.int 1 0,.int 0 0,.int 0 0,.int 3 0,.ref 27,.bool true,.int 181 0,.ref 28,.none,.none,.none,.ref 29,.int 207 0,.int 12 0,.str "/claim/cut.py" 208], #[]⟩)::
 (nat_lit 31,jO 3 "days_of" "answertrees.elders" 187 30)::
 (nat_lit 37,⟨(.type "code"),none,.fields #[.str "rings_in" 212,.str "rings_in" 213,.str "/claim/cut.py" 214,.int 15 0,.int 1 0,.int 0 0,.int 0 0,.int 3 0,.ref 32,.bool true,.int 181 0,.ref 33,.none,.ref 34,.ref 35,.ref 36,.int 221 0,.int 15 0,.str "/claim/cut.py" 222], #[]⟩)::
 (nat_lit 38,jO 5 "rings_in" "answertrees.climbs" 210 37)::
 (nat_lit 42,⟨(.type "code"),none,.fields #[.str "elders_in" 224,.str "elders_in" 225,.str "/claim/cut.py" 226,.int 28 0,.int 1 0,.int 0 0,.int 0 0,.int 3 0,.ref 39,.bool true,.int 181 0,.ref 40,.none,.none,.none,.ref 41,.int 227 0,.int 28 0,.str "/claim/cut.py" 228], #[]⟩)::
 (nat_lit 43,jO 6 "elders_in" "answertrees.climbs" 210 42)::
 (nat_lit 47,⟨(.type "code"),none,.fields #[.str "ties_in" 230,.str "ties_in" 231,.str "/claim/cut.py" 232,.int 30 0,.int 1 0,.int 0 0,.int 0 0,.int 3 0,.ref 44,.bool true,.int 181 0,.ref 45,.none,.none,.none,.ref 46,.int 233 0,.int 30 0,.str "/claim/cut.py" 234], #[]⟩)::
 (nat_lit 48,jO 7 "ties_in" "answertrees.climbs" 210 47)::
 (nat_lit 54,⟨(.type "code"),none,.fields #[.str "roots_in" 236,.str "roots_in" 237,.str "/claim/cut.py" 238,.int 32 0,.int 1 0,.int 0 0,.int 0 0,.int 3 0,.ref 49,.bool true,.int 181 0,.ref 50,.none,.ref 51,.ref 52,.ref 53,.int 246 0,.int 32 0,.str "/claim/cut.py" 247], #[]⟩)::
 (nat_lit 55,jO 8 "roots_in" "answertrees.climbs" 210 54)::
 (nat_lit 59,⟨(.type "code"),none,.fields #[.str "plain" 251,.str "plain" 252,.str "/claim/cut.py" 253,.int 46 0,.int 1 0,.int 0 0,.int 0 0,.int 3 0,.ref 56,.bool true,.int 181 0,.ref 57,.none,.none,.none,.ref 58,.int 254 0,.int 46 0,.str "/claim/cut.py" 255], #[]⟩)::
 (nat_lit 60,jO 10 "plain" "answertrees.heads" 249 59)::
 (nat_lit 64,⟨(.type "code"),none,.fields #[.str "is_count" 261,.str "is_count" 262,.str "/claim/cut.py" 263,.int 51 0,.int 1 0,.int 0 0,.int 0 0,.int 3 0,.ref 61,.bool true,.int 181 0,.ref 62,.none,.none,.none,.ref 63,.int 264 0,.int 51 0,.str "/claim/cut.py" 265], #[]⟩)::
 (nat_lit 65,jO 13 "is_count" "answertrees.peeling" 257 64)::
 (nat_lit 71,⟨(.type "code"),none,.fields #[.str "without_ahead" 267,.str "without_ahead" 268,.str "/claim/cut.py" 269,.int 53 0,.int 2 0,.int 0 0,.int 0 0,.int 3 0,.ref 66,.bool true,.int 181 0,.ref 67,.none,.ref 68,.ref 69,.ref 70,.int 275 0,.int 53 0,.str "/claim/cut.py" 276], #[]⟩)::
 (nat_lit 72,jO 14 "without_ahead" "answertrees.peeling" 257 71)::
 (nat_lit 78,⟨(.type "code"),none,.fields #[.str "without_label" 278,.str "without_label" 279,.str "/claim/cut.py" 280,.int 62 0,.int 2 0,.int 0 0,.int 0 0,.int 3 0,.ref 73,.bool true,.int 181 0,.ref 74,.none,.ref 75,.ref 76,.ref 77,.int 284 0,.int 62 0,.str "/claim/cut.py" 285], #[]⟩)::
 (nat_lit 79,jO 15 "without_label" "answertrees.peeling" 257 78)::
 (nat_lit 85,⟨(.type "code"),none,.fields #[.str "without_behind" 287,.str "without_behind" 288,.str "/claim/cut.py" 289,.int 65 0,.int 2 0,.int 0 0,.int 0 0,.int 3 0,.ref 80,.bool true,.int 181 0,.ref 81,.none,.ref 82,.ref 83,.ref 84,.int 293 0,.int 65 0,.str "/claim/cut.py" 294], #[]⟩)::
 (nat_lit 86,jO 16 "without_behind" "answertrees.peeling" 257 85)::
 (nat_lit 92,⟨(.type "code"),none,.fields #[.str "taken_off" 296,.str "taken_off" 297,.str "/claim/cut.py" 298,.int 68 0,.int 2 0,.int 0 0,.int 0 0,.int 3 0,.ref 87,.bool true,.int 181 0,.ref 88,.none,.ref 89,.ref 90,.ref 91,.int 304 0,.int 68 0,.str "/claim/cut.py" 305], #[]⟩)::
 (nat_lit 93,jO 17 "taken_off" "answertrees.peeling" 257 92)::
 (nat_lit 99,⟨(.type "code"),none,.fields #[.str "next_step" 307,.str "next_step" 308,.str "/claim/cut.py" 309,.int 77 0,.int 2 0,.int 0 0,.int 0 0,.int 3 0,.ref 94,.bool true,.int 181 0,.ref 95,.none,.ref 96,.ref 97,.ref 98,.int 315 0,.int 77 0,.str "/claim/cut.py" 316], #[]⟩)::
 (nat_lit 100,jO 18 "next_step" "answertrees.peeling" 257 99)::
 (nat_lit 106,⟨(.type "code"),none,.fields #[.str "peeled" 318,.str "peeled" 319,.str "/claim/cut.py" 320,.int 83 0,.int 2 0,.int 0 0,.int 0 0,.int 3 0,.ref 101,.bool true,.int 181 0,.ref 102,.none,.ref 103,.ref 104,.ref 105,.int 325 0,.int 83 0,.str "/claim/cut.py" 326], #[]⟩)::
 (nat_lit 107,jO 19 "peeled" "answertrees.peeling" 257 106)::
 (nat_lit 113,⟨(.type "code"),none,.fields #[.str "bare" 328,.str "bare" 329,.str "/claim/cut.py" 330,.int 90 0,.int 2 0,.int 0 0,.int 0 0,.int 3 0,.ref 108,.bool true,.int 181 0,.ref 109,.none,.ref 110,.ref 111,.ref 112,.int 334 0,.int 90 0,.str "/claim/cut.py" 335], #[]⟩)::
 (nat_lit 114,jO 20 "bare" "answertrees.peeling" 257 113)::
 (nat_lit 118,⟨(.type "code"),none,.fields #[.str "is_answer" 337,.str "is_answer" 338,.str "/claim/cut.py" 339,.int 93 0,.int 2 0,.int 0 0,.int 0 0,.int 3 0,.ref 115,.bool true,.int 181 0,.ref 116,.none,.none,.none,.ref 117,.int 340 0,.int 93 0,.str "/claim/cut.py" 341], #[]⟩)::
 (nat_lit 119,jO 21 "is_answer" "answertrees.peeling" 257 118)::
 (nat_lit 123,⟨(.type "code"),none,.fields #[.str "rows_of" 345,.str "rows_of" 346,.str "/claim/cut.py" 347,.int 96 0,.int 1 0,.int 0 0,.int 0 0,.int 3 0,.ref 120,.bool true,.int 181 0,.ref 121,.none,.none,.none,.ref 122,.int 348 0,.int 96 0,.str "/claim/cut.py" 349], #[]⟩)::
 (nat_lit 124,jO 23 "rows_of" "answertrees.claims" 343 123)::
 (nat_lit 130,⟨(.type "code"),none,.fields #[.str "claims_of" 351,.str "claims_of" 352,.str "/claim/cut.py" 353,.int 98 0,.int 1 0,.int 0 0,.int 0 0,.int 3 0,.ref 125,.bool true,.int 181 0,.ref 126,.none,.ref 127,.ref 128,.ref 129,.int 359 0,.int 98 0,.str "/claim/cut.py" 360], #[]⟩)::
 (nat_lit 131,jO 24 "claims_of" "answertrees.claims" 343 130)::
 (nat_lit 137,⟨(.type "code"),none,.fields #[.str "choice" 362,.str "choice" 363,.str "/claim/cut.py" 364,.int 105 0,.int 4 0,.int 0 0,.int 0 0,.int 3 0,.ref 132,.bool true,.int 181 0,.ref 133,.none,.ref 134,.ref 135,.ref 136,.int 373 0,.int 105 0,.str "/claim/cut.py" 374], #[]⟩)::
 (nat_lit 138,jO 25 "choice" "answertrees.claims" 343 137)::
 (nat_lit 142,⟨(.type "code"),none,.fields #[.str "choices" 376,.str "choices" 377,.str "/claim/cut.py" 378,.int 115 0,.int 3 0,.int 0 0,.int 0 0,.int 3 0,.ref 139,.bool true,.int 181 0,.ref 140,.none,.none,.none,.ref 141,.int 379 0,.int 115 0,.str "/claim/cut.py" 380], #[]⟩)::
 (nat_lit 143,jO 26 "choices" "answertrees.claims" 343 142)::
 (nat_lit 149,⟨(.type "code"),none,.fields #[.str "places" 384,.str "places" 385,.str "/claim/cut.py" 386,.int 121 0,.int 2 0,.int 0 0,.int 0 0,.int 3 0,.ref 144,.bool true,.int 181 0,.ref 145,.none,.ref 146,.ref 147,.ref 148,.int 393 0,.int 121 0,.str "/claim/cut.py" 394], #[]⟩)::
 (nat_lit 150,jO 28 "places" "answertrees.rings" 382 149)::
 (nat_lit 154,⟨(.type "code"),none,.fields #[.str "cut_one" 396,.str "cut_one" 397,.str "/claim/cut.py" 398,.int 132 0,.int 3 0,.int 0 0,.int 0 0,.int 3 0,.ref 151,.bool true,.int 181 0,.ref 152,.none,.none,.none,.ref 153,.int 399 0,.int 132 0,.str "/claim/cut.py" 400], #[]⟩)::
 (nat_lit 155,jO 29 "cut_one" "answertrees.rings" 382 154)::
 (nat_lit 161,⟨(.type "code"),none,.fields #[.str "begun_with" 402,.str "begun_with" 403,.str "/claim/cut.py" 404,.int 138 0,.int 2 0,.int 0 0,.int 0 0,.int 3 0,.ref 156,.bool true,.int 181 0,.ref 157,.none,.ref 158,.ref 159,.ref 160,.int 408 0,.int 138 0,.str "/claim/cut.py" 409], #[]⟩)::
 (nat_lit 162,jO 30 "begun_with" "answertrees.rings" 382 161)::
 (nat_lit 166,⟨(.type "code"),none,.fields #[.str "cut_rings" 411,.str "cut_rings" 412,.str "/claim/cut.py" 413,.int 141 0,.int 3 0,.int 0 0,.int 0 0,.int 3 0,.ref 163,.bool true,.int 181 0,.ref 164,.none,.none,.none,.ref 165,.int 414 0,.int 141 0,.str "/claim/cut.py" 415], #[]⟩)::
 (nat_lit 167,jO 31 "cut_rings" "answertrees.rings" 382 166)::
 (nat_lit 171,⟨(.type "code"),none,.fields #[.str "by_names" 417,.str "by_names" 418,.str "/claim/cut.py" 419,.int 146 0,.int 2 0,.int 0 0,.int 0 0,.int 3 0,.ref 168,.bool true,.int 181 0,.ref 169,.none,.none,.none,.ref 170,.int 420 0,.int 146 0,.str "/claim/cut.py" 421], #[]⟩)::
 (nat_lit 172,jO 32 "by_names" "answertrees.rings" 382 171)::
 (nat_lit 176,⟨(.type "code"),none,.fields #[.str "voices" 425,.str "voices" 426,.str "/claim/cut.py" 427,.int 153 0,.int 2 0,.int 0 0,.int 0 0,.int 3 0,.ref 173,.bool true,.int 181 0,.ref 174,.none,.none,.none,.ref 175,.int 428 0,.int 153 0,.str "/claim/cut.py" 429], #[]⟩)::
 (nat_lit 177,jO 34 "voices" "answertrees.voices" 423 176)::
 (nat_lit 181,⟨(.type "code"),none,.fields #[.str "alike_trees" 433,.str "alike_trees" 434,.str "/claim/cut.py" 435,.int 163 0,.int 3 0,.int 0 0,.int 0 0,.int 3 0,.ref 178,.bool true,.int 181 0,.ref 179,.none,.none,.none,.ref 180,.int 436 0,.int 163 0,.str "/claim/cut.py" 437], #[]⟩)::
 (nat_lit 182,jO 36 "alike_trees" "answertrees.forests" 431 181)::
 (nat_lit 188,⟨(.type "code"),none,.fields #[.str "ties_by_heads" 439,.str "ties_by_heads" 440,.str "/claim/cut.py" 441,.int 173 0,.int 3 0,.int 0 0,.int 0 0,.int 3 0,.ref 183,.bool true,.int 181 0,.ref 184,.none,.ref 185,.ref 186,.ref 187,.int 450 0,.int 173 0,.str "/claim/cut.py" 451], #[]⟩)::
 (nat_lit 189,jO 37 "ties_by_heads" "answertrees.forests" 431 188)::
 (nat_lit 195,⟨(.type "code"),none,.fields #[.str "shown" 453,.str "shown" 454,.str "/claim/cut.py" 455,.int 181 0,.int 2 0,.int 0 0,.int 0 0,.int 3 0,.ref 190,.bool true,.int 181 0,.ref 191,.none,.ref 192,.ref 193,.ref 194,.int 461 0,.int 181 0,.str "/claim/cut.py" 462], #[]⟩)::
 (nat_lit 196,jO 38 "shown" "answertrees.forests" 431 195)::
 (nat_lit 200,⟨(.type "code"),none,.fields #[.str "forest" 464,.str "forest" 465,.str "/claim/cut.py" 466,.int 189 0,.int 3 0,.int 0 0,.int 0 0,.int 3 0,.ref 197,.bool true,.int 181 0,.ref 198,.none,.none,.none,.ref 199,.int 467 0,.int 189 0,.str "/claim/cut.py" 468], #[]⟩)::
 (nat_lit 201,jO 39 "forest" "answertrees.forests" 431 200)::
 (nat_lit 205,⟨(.type "code"),none,.fields #[.str "wish_of" 472,.str "wish_of" 473,.str "/claim/cut.py" 474,.int 196 0,.int 1 0,.int 0 0,.int 0 0,.int 3 0,.ref 202,.bool true,.int 181 0,.ref 203,.none,.none,.none,.ref 204,.int 475 0,.int 196 0,.str "/claim/cut.py" 476], #[]⟩)::
 (nat_lit 206,jO 41 "wish_of" "answertrees.wishes" 470 205)::
 (nat_lit 212,⟨(.type "code"),none,.fields #[.str "_law_hand" 480,.str "_law_hand" 481,.str "/claim/cut.py" 482,.int 199 0,.int 2 0,.int 0 0,.int 0 0,.int 3 0,.ref 207,.bool true,.int 181 0,.ref 208,.none,.ref 209,.ref 210,.ref 211,.int 487 0,.int 199 0,.str "/claim/cut.py" 488], #[]⟩)::
 (nat_lit 213,jO 43 "_law_hand" "law_answertrees_k59_wishes_of_forests" 478 212)::
 (nat_lit 219,⟨(.type "code"),none,.fields #[.str "_law_take" 490,.str "_law_take" 491,.str "/claim/cut.py" 492,.int 205 0,.int 2 0,.int 0 0,.int 0 0,.int 3 0,.ref 214,.bool true,.int 181 0,.ref 215,.none,.ref 216,.ref 217,.ref 218,.int 497 0,.int 205 0,.str "/claim/cut.py" 498], #[]⟩)::
 (nat_lit 220,jO 44 "_law_take" "law_answertrees_k59_wishes_of_forests" 478 219)::
 (nat_lit 224,⟨(.type "code"),none,.fields #[.str "_law_name" 500,.str "_law_name" 501,.str "/claim/cut.py" 502,.int 215 0,.int 2 0,.int 0 0,.int 0 0,.int 3 0,.ref 221,.bool true,.int 181 0,.ref 222,.none,.none,.none,.ref 223,.int 503 0,.int 215 0,.str "/claim/cut.py" 504], #[]⟩)::
 (nat_lit 225,jO 45 "_law_name" "law_answertrees_k59_wishes_of_forests" 478 224)::
 (nat_lit 231,⟨(.type "code"),none,.fields #[.str "_law_names" 506,.str "_law_names" 507,.str "/claim/cut.py" 508,.int 222 0,.int 2 0,.int 0 0,.int 0 0,.int 3 0,.ref 226,.bool true,.int 181 0,.ref 227,.none,.ref 228,.ref 229,.ref 230,.int 513 0,.int 222 0,.str "/claim/cut.py" 514], #[]⟩)::
 (nat_lit 232,jO 46 "_law_names" "law_answertrees_k59_wishes_of_forests" 478 231)::
 (nat_lit 236,⟨(.type "code"),none,.fields #[.str "_law_letter" 516,.str "_law_letter" 517,.str "/claim/cut.py" 518,.int 227 0,.int 3 0,.int 0 0,.int 0 0,.int 3 0,.ref 233,.bool true,.int 181 0,.ref 234,.none,.none,.none,.ref 235,.int 519 0,.int 227 0,.str "/claim/cut.py" 520], #[]⟩)::
 (nat_lit 237,jO 47 "_law_letter" "law_answertrees_k59_wishes_of_forests" 478 236)::
 (nat_lit 243,⟨(.type "code"),none,.fields #[.str "_law_pack" 522,.str "_law_pack" 523,.str "/claim/cut.py" 524,.int 231 0,.int 2 0,.int 0 0,.int 0 0,.int 3 0,.ref 238,.bool true,.int 181 0,.ref 239,.none,.ref 240,.ref 241,.ref 242,.int 530 0,.int 231 0,.str "/claim/cut.py" 531], #[]⟩)::
 (nat_lit 244,jO 48 "_law_pack" "law_answertrees_k59_wishes_of_forests" 478 243)::
 (nat_lit 250,⟨(.type "code"),none,.fields #[.str "_law_marks" 533,.str "_law_marks" 534,.str "/claim/cut.py" 535,.int 237 0,.int 2 0,.int 0 0,.int 0 0,.int 3 0,.ref 245,.bool true,.int 181 0,.ref 246,.none,.ref 247,.ref 248,.ref 249,.int 540 0,.int 237 0,.str "/claim/cut.py" 541], #[]⟩)::
 (nat_lit 251,jO 49 "_law_marks" "law_answertrees_k59_wishes_of_forests" 478 250)::
 (nat_lit 255,⟨(.type "code"),none,.fields #[.str "_law_right" 543,.str "_law_right" 544,.str "/claim/cut.py" 545,.int 241 0,.int 1 0,.int 0 0,.int 0 0,.int 3 0,.ref 252,.bool true,.int 181 0,.ref 253,.none,.none,.none,.ref 254,.int 546 0,.int 241 0,.str "/claim/cut.py" 547], #[]⟩)::
 (nat_lit 256,jO 50 "_law_right" "law_answertrees_k59_wishes_of_forests" 478 255)::
 (nat_lit 262,⟨(.type "code"),none,.fields #[.str "law" 549,.str "law" 550,.str "/claim/cut.py" 551,.int 249 0,.int 1 0,.int 0 0,.int 0 0,.int 3 0,.ref 257,.bool true,.int 181 0,.ref 258,.none,.ref 259,.ref 260,.ref 261,.int 554 0,.int 249 0,.str "/claim/cut.py" 555], #[]⟩)::
 (nat_lit 263,jO 51 "law" "law_answertrees_k59_wishes_of_forests" 478 262)::[]
noncomputable abbrev SM:List Addr:=[3,18,19,25,26,30,31,37,38,42,43,47,48,54,55,59,60,64,65,71,72,78,79,85,86,92,93,99,100,106,107,113,114,118,119,123,124,130,131,137,138,142,143,149,150,154,155,161,162,166,167,171,172,176,177,181,182,188,189,195,196,200,201,205,206,212,213,219,220,224,225,231,232,236,237,243,244,250,251,255,256,262,263]
noncomputable def Q4:Program:=view R3 [1,2,3,5,6,7,8,10,12,13,14,15,16,17,18,19,20,21,23,24,25,26,28,29,30,31,32,34,36,37,38,39,41,43,44,45,46,47,48,49,50,51]
noncomputable abbrev SD:Nat:=2748
theorem SN:LeftO R3 Q4 [] (fun s=>xlAt Q4 [] s && recOk [] s) (fun s=>SM.map s.heap.get?) (fun w=>(SH w.params).map fun p=>some p.2) SD:=by
 intro w;rw[PySem.W.Fast.te4187177175401517315,PySem.W.Fast.te5923862056798008813,PySem.W.Fast.te14364793385576792824]
 kernel_rfl
theorem SO:PySem.Challenge.rw_answertrees_k59_wishes_of_forests.wellSaid=true:=by
 rw[PySem.W.Fast.te9446332074065402090]
 kernel_rfl
end My
namespace L2
open PySem PySem.Spec PyProof.Rows
variable {a b it:Addr} {A:Around} {g':Array GenState} {op:CmpOp} {X:Cx} {CX:DK} {d':Drawn} {D:Ends} {c e l tg:Expr} {base h:Heap} {H:Hp} {lo:Int} {g:Int->Int->Int} {pins:List (Addr×Obj)} {ch fp:List Addr} {es:List Expr} {body:List Stmt} {N ps:List Str} {xs:List V} {us:List Value} {M:Model} {i j k n t':Nat} {o:Obj} {pos:Pos} {K:Frag} {r:R2} {scope:Scope} {s:Shared} {σ:St} {qual x:Str} {kindOf:Str->Option NameKind} {mg:Str->Option Value} {ta:TA} {t te tl:TE} {tb:TS} {tc:TT} {α κ:Type} {y:V} {u v:Value} {E Q:Value->Shared->Prop} {f:Value->Value->Sem Value} {w:World}
abbrev Key:=Sum Int Str
noncomputable def gU:Key->Value->Bool
 | .inl k,v=>Value.isInt k v
 | .inr x,v=>Value.isStrOf x v
noncomputable def PL (w:World):Key->Int
 | .inl k=>hashInt k
 | .inr x=>hashStr w x
theorem bL:∀{k:Key} {v:Value},gU k v=true->(∃i t,k=Sum.inl i/\v=Value.int i t)\/ (∃x t,k=Sum.inr x/\v=Value.str x t)
 | .inl i,v,h=>by
  obtain⟨t,e⟩:=Value.isInt_shape (k:=i) (v:=v) h;exact .inl ⟨i,t,rfl,e⟩
 | .inr x,v,h=>by
  obtain⟨t,e⟩:=Value.isStrOf_shape (x:=x) (v:=v) h;exact .inr ⟨x,t,rfl,e⟩
theorem DG (i:Int) (t:Tok):gU (.inl i) (.int i t)=true:=by simp[gU,Value.isInt]
theorem CV (x:Str) (t:Tok):gU (.inr x) (.str x t)=true:=by simp[gU,Value.isStrOf]
theorem MX (a b:Int):decide ((Sum.inl a:Key)=Sum.inl b)=(a==b):=by
 by_cases e:a=b
 .subst e;simp
 .have h:¬(Sum.inl a:Key)=Sum.inl b:=fun q=>e (Sum.inl.inj q)
  rw[decide_eq_false h];exact(beq_eq_false_iff_ne.mpr e).symm
theorem MC (a b:Str):decide ((Sum.inr a:Key)=Sum.inr b)=decide (a=b):=by
 by_cases e:a=b
 .subst e;simp
 .have h:¬(Sum.inr a:Key)=Sum.inr b:=fun q=>e (Sum.inr.inj q)
  rw[decide_eq_false h,decide_eq_false e]
theorem OD (a:Int) (b:Str):decide ((Sum.inl a:Key)=Sum.inr b)=false:=decide_eq_false (fun q=>nomatch q)
theorem OC (a:Str) (b:Int):decide ((Sum.inr a:Key)=Sum.inl b)=false:=decide_eq_false (fun q=>nomatch q)
noncomputable def bH (prog:Program) (w:World):PySem.KeyKind prog w Key where
 is:=gU
 hash:=PL w
 inj:=fun v a b ha hb=>by
  rcases bL ha with⟨i,t,rfl,rfl⟩|⟨x,t,rfl,rfl⟩
  .rcases bL hb with⟨j,u,rfl,e⟩|⟨y,u,rfl,e⟩
   .injection e with e1 _;rw[e1]
   .exact nomatch e
  .rcases bL hb with⟨j,u,rfl,e⟩|⟨y,u,rfl,e⟩
   .exact nomatch e
   .injection e with e1 _;rw[e1]
 byValue:=fun k v h=>by
  rcases bL h with⟨i,t,rfl,rfl⟩|⟨x,t,rfl,rfl⟩<;>rfl
 pyHash:=fun hv h=>by
  rcases bL hv with⟨i,t,rfl,rfl⟩|⟨x,t,rfl,rfl⟩
  .exact wpAny_pyHash_int h
  .exact wpAny_pyHash_str h
 eqBool:=fun hu hv h=>by
  rcases bL hu with⟨i,t,rfl,rfl⟩|⟨x,t,rfl,rfl⟩
  .rcases bL hv with⟨j,u,rfl,rfl⟩|⟨y,u,rfl,rfl⟩
   .rw[MX]at h;exact wpAny_eqBool_int h
   .rw[OD]at h;exact SeqAt.EqAt.int_str i t y u _ _ _ _ h
  .rcases bL hv with⟨j,u,rfl,rfl⟩|⟨y,u,rfl,rfl⟩
   .rw[OC]at h;exact SeqAt.EqAt.str_int x t j u _ _ _ _ h
   .rw[MC]at h;exact wpAny_eqBool_str h
 «strs»:=fun k x t v h=>by
  rcases bL h with⟨i,u,rfl,e⟩|⟨y,u,rfl,e⟩
  .exact nomatch e
  .injection e with e1 _
   subst e1;cases v<;>rfl
theorem xA (prog:Program) (w:World) (i:Int) (t:Tok):(bH prog w).is (.inl i) (.int i t)=true:=DG i t
theorem xB (prog:Program) (w:World) (x:Str) (t:Tok):(bH prog w).is (.inr x) (.str x t)=true:=CV x t
inductive V where
 |aZ|bl (b:Bool)|int (i:Int)|str (x:Str)|CO (b:Array UInt8)|RZ (b:UInt64)|ref (a:Addr)|ty (n:String)
 deriving DecidableEq
def RelV:V->Value->Prop
 | .aZ,u=>u=Value.none
 | .bl b,u=>u=Value.bool b
 | .int i,u=>∃t,u=Value.int i t
 | .str x,u=>∃t,u=Value.str x t
 | .CO b,u=>∃t,u=Value.bytes b t
 | .RZ b,u=>∃t,u=Value.float b t
 | .ref a,u=>u=Value.ref a
 | .ty n,u=>u=Value.type n
abbrev Vals:List V->List Value->Prop:=Paired RelV
theorem Vals.length (r:Vals xs us):xs.length=us.length:=Paired.length r
theorem Vals.get:∀{xs:List V} {us:List Value} {i:Nat} {x:V},Vals xs us->xs[i]? =some x->∃u,us[i]? =some u/\RelV x u
 |_,_,_,_,.nil,e=>by simp at e
 |_,_,0,_,.cons r _,e=>by simp at e;subst e;exact⟨_,rfl,r⟩
 |_,_,i+1,x,.cons _ t,e=>by
  obtain⟨u,h1,h2⟩:=Vals.get (i:=i) (x:=x) t (by simpa using e);exact⟨u,by simpa using h1,h2⟩
theorem Vals.set {x:V} (r:RelV x u):∀{xs:List V} {us:List Value} (i:Nat),Vals xs us->Vals (xs.set i x) (us.set i u)
 |_,_,_,.nil=>.nil
 |_,_,0,.cons _ t=>.cons r t
 |_,_,i+1,.cons q t=>.cons q (Vals.set r i t)
theorem Vals.append:∀{xs ys:List V} {us ws:List Value},Vals xs us->Vals ys ws->Vals (xs++ys) (us++ws)
 |_,_,_,_,.nil,s=>s
 |_,_,_,_,.cons r t,s=>.cons r (Vals.append t s)
theorem Vals.take:∀{xs:List V} {us:List Value} (n:Nat),Vals xs us->Vals (xs.take n) (us.take n)
 |_,_,0,_=>.nil
 |_,_,_+1,.nil=>.nil
 |_,_,n+1,.cons r t=>.cons r (Vals.take n t)
theorem Vals.drop:∀{xs:List V} {us:List Value} (n:Nat),Vals xs us->Vals (xs.drop n) (us.drop n)
 |_,_,0,r=>r
 |_,_,_+1,.nil=>.nil
 |_,_,n+1,.cons _ t=>Vals.drop n t
def oJ:Option V->Option Value->Prop
 |some v,some u=>RelV v u
 |none,none=>True
 |_,_=>False
def KV:List (κ×V)->List (κ×Value)->Prop:=Paired fun(p:κ×V) (q:κ×Value)=>p.1=q.1/\RelV p.2 q.2
noncomputable def kV:Key->V
 | .inl i=>.int i
 | .inr x=>.str x
inductive HO where
 |lst (xs:List V)
 |tup (xs:List V)
 |dK (kvs:List (Key×V)) (ep:Nat)|dT (kvs:List (List Key×V))
 |set (S:Int->Bool) (n:Nat)
 |ins (C dx:Addr) (fs:List (Str×V))
 |own (x:Addr)
 |xd (fs:List (Str×V))
 |met (f x:Addr)
 |R4 (lo hi:Int)
 |IB (o:Obj) (u:HO)
 |M9 (ps:Array Value)
 |ext (φ:Heap->Prop)
abbrev Hp:=Addr->Option HO
noncomputable def upd (H:Hp) (a:Addr) (o:HO):Hp:=fun b=>if b=a then some o else H b
theorem aC {o:HO}:upd H a o a=some o:=by unfold upd;rw[if_pos rfl]
theorem aM {o:HO} (h:b≠a):upd H a o b=H b:=by unfold upd;rw[if_neg h]
theorem wC {o u:HO}:upd (upd H a o) a u=upd H a u:=by
 funext b;unfold upd;split<;>rfl
theorem y4 {o u:HO} (h:H a=some o) (h':H b=some u) (d:o≠u):a≠b:=by
 intro e;subst e;rw[h]at h';exact d (Option.some.inj h')
theorem aG {o:HO} (h:H a=some o) (h':H b=none):a≠b:=by
 intro e;subst e;rw[h]at h';cases h'
def oI (h:Heap) (a:Addr) (items:Array Value):Prop:=IsTup h a items/\∀o,h.get? a=some o->o.dict=none
theorem oI.new (h:Heap) (items:Array Value):oI (h.push {cls:=.type "tuple",data:=.seq items}) h.objs.size items:=⟨IsTup.new _ _,fun o e=>by rw[get?_push_size _ rfl]at e;cases e;rfl⟩
theorem oI.of {items:Array Value} {sl:Array (Option Value)} (e:h.get? a=some {cls:=.type "tuple",dict:=none,data:=.seq items n,slots:=sl}):oI h a items:=⟨⟨_,e,rfl,_,rfl⟩,fun o q=>by rw[e]at q;cases q;rfl⟩
section
variable (P:Program) (w:World)
def dN (H:Hp) (h:Heap) (a:Addr):HO->Prop
 | .lst xs=>xs.length<=sizeLine/\∃(its:List Value) (n:Nat),Vals xs its/\h.get? a=some {cls:=.type "list",data:=.seq its.toArray n}
 | .tup xs=>xs.length<=sizeLine/\∃its:List Value,Vals xs its/\oI h a its.toArray
 | .dK kvs ep=>kvs.length<=sizeLine/\(a==sysModules)=false/\∃vs,KV kvs vs/\h.DictAt (bH P w) a vs ep
 | .dT kvs=>kvs.length<=sizeLine/\(a==sysModules)=false/\∃xs:List (List Key×Addr×Value),
   Paired (fun(p:List Key×V) (q:List Key×Addr×Value)=>p.1=q.1/\H q.2.1=some (.tup (p.1.map kV))/\RelV p.2 q.2.2) kvs xs/\
   ∃o es ep,h.get? a=some o/\o.ExactDict/\o.data= .dict es ep/\es.toList=xs.map (entryOfKey (tupleKind (bH P w)))/\(xs.map (·.1)).Nodup
 | .set S n=>h.SetOf (intKind P w) a S n
 | .ins C dx fs=>H dx=some (.own a)/\fs.length<=1000/\dx≠a/\h.get? a=some (PySem.W.instObj C dx)/\
   ∃mA,h.Ns1 dx mA/\(∀f,oJ (fs.lookup f) (mA f))/\PySem.Within mA (fs.map (·.1))
 | .own _=>∃o,h.get? a=some o
 | .xd fs=>∃mA,h.Ns1 a mA/\∀f,oJ (fs.lookup f) (mA f)
 | .R4 lo hi=>∃t u v,h.get? a=some {cls:=.type "range",data:=.fields #[.int lo t,.int hi u,.int 1 v]}
 | .IB o u=>h.get? a=some o/\dN H h a u
 | .M9 ps=>h.get? a=some {cls:=.none,data:=.fields ps}
 | .met f x=>h.get? a=some (methodObj (.ref f) (.ref x))
 | .ext φ=>φ h/\(∃o,h.get? a=some o)/\∀h1 h2:Heap,φ h1->(∀o,h1.get? a=some o->h2.get? a=some o)->φ h2
def kC (H:Hp) (h:Heap):Prop:=∀a o,H a=some o->dN P w H h a o
end
section
variable {P:Program} {w:World} {H H':Hp} {h h':Heap} {a:Addr} {o:HO}
theorem dN.lt (x:dN P w H h a o):a<h.objs.size:=by
 cases o with
 |lst xs=>obtain⟨_,_,_,_,e⟩:=x;exact lt_size e
 |tup xs=>obtain⟨_,_,_,p⟩:=x;exact p.1.lt
 |dK kvs ep=>obtain⟨_,_,_,_,o,_,e,_⟩:=x;exact lt_size e
 |dT kvs=>obtain⟨_,_,_,_,o,_,_,e,_⟩:=x;exact lt_size e
 |set S n=>obtain⟨o,_,_,_,e,_⟩:=x;exact lt_size e
 |ins C dx fs=>obtain⟨_,_,_,e,_⟩:=x;exact lt_size e
 |own y=>obtain⟨_,e⟩:=x;exact lt_size e
 |xd fs=>obtain⟨_,⟨_,_,_,e,_⟩,_⟩:=x;exact lt_size e
 |R4 lo hi=>obtain⟨_,_,_,e⟩:=x;exact lt_size e
 |IB ob u=>obtain⟨e,_⟩:=x;exact lt_size e
 |M9 ps=>exact lt_size (show h.get? a=some _ from x)
 |met f y=>exact lt_size (show h.get? a=some _ from x)
 |ext φ=>obtain⟨_,⟨_,e⟩,_⟩:=x;exact lt_size e
theorem Paired.cH {β:Type} {F G:α->β->Prop}:∀{l₁:List α} {l₂:List β},Paired F l₁ l₂->(∀a b,F a b->G a b)->Paired G l₁ l₂
 |_,_,.nil,_=>.nil
 |_,_,.cons r t,f=>.cons (f _ _ r) (Paired.cH t f)
theorem dN.yB (x:dN P w H h a o) (k:∀b u,(b=a\/ H b=some (.own a))->h.get? b=some u->h'.get? b=some u)
  (ho:∀b,H b=some (.own a)->H' b=some (.own a)) (ht:∀b xs,H b=some (.tup xs)->H' b=some (.tup xs)):dN P w H' h' a o:=by
 induction o with
 |lst xs=>obtain⟨z,its,n,r,e⟩:=x;exact⟨z,its,n,r,k _ _ (.inl rfl) e⟩
 |tup xs=>obtain⟨z,its,r,⟨ob,e,c⟩,nd⟩:=x;exact⟨z,its,r,⟨ob,k _ _ (.inl rfl) e,c⟩,fun o' e'=>by rw[k _ _ (.inl rfl) e]at e';cases e';exact nd _ e⟩
 |dK kvs ep=>obtain⟨z,y,vs,r,ob,es,e,c⟩:=x;exact⟨z,y,vs,r,ob,es,k _ _ (.inl rfl) e,c⟩
 |dT kvs=>
  obtain⟨z,y,xs,r,ob,es,ep,e,c⟩:=x;exact⟨z,y,xs,Paired.cH r fun p q z=>⟨z.1,ht _ _ z.2.1,z.2.2⟩,ob,es,ep,k _ _ (.inl rfl) e,c⟩
 |set S n=>obtain⟨ob,es,ep,t,e,c⟩:=x;exact⟨ob,es,ep,t,k _ _ (.inl rfl) e,c⟩
 |ins C dx fs=>
  obtain⟨d,z,ne,e,mA,⟨od,es,ep,e2,c⟩,r⟩:=x;exact⟨ho _ d,z,ne,k _ _ (.inl rfl) e,mA,⟨od,es,ep,k _ _ (.inr d) e2,c⟩,r⟩
 |own y=>obtain⟨ob,e⟩:=x;exact⟨ob,k _ _ (.inl rfl) e⟩
 |xd fs=>obtain⟨mA,⟨od,es,ep,e,c⟩,r⟩:=x;exact⟨mA,⟨od,es,ep,k _ _ (.inl rfl) e,c⟩,r⟩
 |R4 lo hi=>obtain⟨t,u,v,e⟩:=x;exact⟨t,u,v,k _ _ (.inl rfl) e⟩
 |IB ob u ih=>obtain⟨e,q⟩:=x;exact⟨k _ _ (.inl rfl) e,ih q⟩
 |M9 ps=>
  have e:h.get? a=some {cls:=.none,data:=.fields ps}:=x;show h'.get? a=some {cls:=.none,data:=.fields ps};exact k a _ (.inl rfl) e
 |met f y=>
  have e:h.get? a=some (methodObj (.ref f) (.ref y)):=x;show h'.get? a=some (methodObj (.ref f) (.ref y));exact k a _ (.inl rfl) e
 |ext φ=>obtain⟨p,⟨o,e⟩,st⟩:=x;exact⟨st _ _ p fun o q=>k _ _ (.inl rfl) q,⟨o,k _ _ (.inl rfl) e⟩,st⟩
theorem kC.lt (x:kC P w H h) (e:H a=some o):a<h.objs.size:=(x a o e).lt
theorem kC.fresh (x:kC P w H h) (e:h.objs.size<=a):H a=none:=by
 cases q:H a with
 |none=>rfl
 |some u=>exact absurd (lt_of_lt_of_le (x.lt q) e) (lt_irrefl _)
theorem kC.kept (x:kC P w H h) (k:∀b u,h.get? b=some u->h'.get? b=some u):kC P w H h':=fun a o e=>
 (x a o e).yB (fun b u _ q=>k b u q) (fun _ q=>q) fun _ _ q=>q
theorem kC.laid (x:kC P w H h) (k:∀b u,h.get? b=some u->h'.get? b=some u) (hp:h.objs.size<=a) (new:dN P w (upd H a o) h' a o):kC P w (upd H a o) h':=fun b u e=>by
 have hn:=x.fresh hp
 by_cases hb:b=a
 .subst hb;rw[aC]at e;cases e;exact new
 .rw[aM hb]at e;exact(x b u e).yB (fun c v _ q=>k c v q) (fun c q=>by rw[aM (aG q hn)];exact q) fun c xs q=>by rw[aM (aG q hn)];exact q
end
def Rd (H:Hp) (a:Addr) (u:HO):Prop:=H a=some u\/ ∃o,H a=some (.IB o u)
theorem Rd.ok {P:Program} {a:Addr} {u:HO} (r:Rd H a u) (x:kC P w H h):dN P w H h a u:=by
 rcases r with r|⟨o,r⟩
 .exact x a u r
 .obtain⟨_,q⟩:=x a _ r;exact q
def OG:Option HO->Prop
 |some (.lst _)=>True
 |some (.dK _ _)=>True
 |some (.dT _)=>True
 |some (.set _ _)=>True
 |some (.ins _ _ _)=>True
 |some (.ext _)=>True
 |_=>False
section
variable {P:Program} {w:World} {H:Hp} {h h':Heap} {x e:Addr} {o':HO}
theorem kC.write (ok:kC P w H h) (mu:OG (H x)) (he:e=x\/ H e=some (.own x)) (k:∀b u,b≠e->h.get? b=some u->h'.get? b=some u) (heo:∃u,h'.get? e=some u)
  (new:dN P w (upd H x o') h' x o'):kC P w (upd H x o') h':=fun b u q=>by
 have nown:∀c y,H c=some (.own y)->c≠x:=fun c y r z=>by subst z;rw[r]at mu;exact mu
 have ntup:∀c xs,H c=some (.tup xs)->c≠x:=fun c xs r z=>by subst z;rw[r]at mu;exact mu
 by_cases hb:b=x
 .subst hb;rw[aC]at q;cases q;exact new
 .rw[aM hb]at q
  by_cases hbe:b=e
  .have q':H b=some (.own x):=by
    rcases he with z|z
    .exact absurd (hbe.trans z) hb
    .rw[hbe];exact z
   rw[q]at q';cases q'
   obtain⟨v,hv⟩:=heo;exact⟨v,by rw[hbe];exact hv⟩
  .refine(ok b u q).yB (fun c v hc r=>k c v ?_ r) (fun c r=>by rw[aM (nown c b r)];exact r) fun c xs r=>by rw[aM (ntup c xs r)];exact r
   rcases hc with rfl|hc
   .exact hbe
   .rintro rfl;rcases he with z|z
    .exact nown c b hc z
    .rw[hc]at z;cases z;exact hb rfl
end
structure Un (fs ex:List Addr) (H H':Hp) (h h':Heap):Prop where
 keep:∀b o,h.get? b=some o->H b=none->b∉fs->b∉ex->h'.get? b=some o
 slot:∀b o,h.get? b=some o->H b=none->b∈fs->b∉ex->∃sl,h'.get? b=some {o with slots:=sl}
 free:∀b o,h.get? b=some o->H b=none->b∉ex->H' b=none
 there:∀b o,h.get? b=some o->b∉ex->∃o',h'.get? b=some o'
 sQ:∀b xs,H b=some (.tup xs)->H' b=some (.tup xs)
 r6:∀b o u,H b=some (.IB o u)->H' b=some (.IB o u)
 sM:∀b ps,H b=some (.M9 ps)->∃more,H' b=some (.M9 (ps++more))
section
variable {fs fs' ex ex':List Addr} {H H1 H2:Hp} {h h1 h2 h':Heap} {a x e:Addr} {o:HO}
theorem Un.any (u:Un fs ex H H1 h h1) {ob:Obj} (q:h.get? b=some ob) (n:H b=none) (hx:b∉ex):∃sl,h1.get? b=some {ob with slots:=sl}:=by
 by_cases hb:b∈fs
 .exact u.slot b ob q n hb hx
 .exact⟨ob.slots,u.keep b ob q n hb hx⟩
theorem Un.kept (k:∀b u,h.get? b=some u->h'.get? b=some u):Un fs ex H H h h':=
 ⟨fun b ob q _ _ _=>k b ob q,fun b ob q _ _ _=>⟨ob.slots,k b ob q⟩,fun _ _ _ n _=>n,fun b ob q _=>⟨ob,k b ob q⟩,fun _ _ q=>q,fun _ _ _ q=>q,fun _ ps q=>⟨#[],by rw[q];simp⟩⟩
theorem Un.refl:Un fs ex H H h h:=Un.kept fun _ _ q=>q
theorem Un.laid (k:∀b u,h.get? b=some u->h'.get? b=some u) (hp:h.objs.size<=a) (hn:H a=none):Un fs ex H (upd H a o) h h' where
 keep:=fun b u q _ _ _=>k b u q
 slot:=fun b u q _ _ _=>⟨u.slots,k b u q⟩
 free:=fun b u q n _=>by rw[aM (ne_of_lt (lt_of_lt_of_le (lt_size q) hp))];exact n
 there:=fun b u q _=>⟨u,k b u q⟩
 sQ:=fun b xs q=>by rw[aM (aG q hn)];exact q
 r6:=fun b u xs q=>by rw[aM (aG q hn)];exact q
 sM:=fun b ps q=>⟨#[],by rw[aM (aG q hn),q];simp⟩
theorem Un.write (mu:OG (H x)) (he:e=x\/ H e=some (.own x)) (k:∀b u,b≠e->h.get? b=some u->h'.get? b=some u) (heo:∃u,h'.get? e=some u):Un fs ex H (upd H x o) h h':=by
 have hx:∀b,H b=none->b≠x:=fun b n z=>by subst z;rw[n]at mu;exact mu
 have hb:∀b,H b=none->b≠e:=fun b n z=>by
  subst z;rcases he with r|r
  .exact hx b n r
  .rw[n]at r;cases r
 have hm:∀b u,H b=some u->¬OG (some u)->b≠x:=fun b u q nm z=>by subst z;rw[q]at mu;exact nm mu
 refine⟨fun b u q n _ _=>k b u (hb b n) q,fun b u q n _ _=>⟨u.slots,k b u (hb b n) q⟩,fun b u q n _=>by rw[aM (hx b n)];exact n,fun b u q _=>?_,
  fun b xs q=>by rw[aM (hm b _ q fun z=>z)];exact q,fun b u xs q=>by rw[aM (hm b _ q fun z=>z)];exact q,fun b ps q=>⟨#[],by rw[aM (hm b _ q fun z=>z),q];simp⟩⟩
 by_cases hbe:b=e
 .subst hbe;exact heo
 .exact⟨u,k b u hbe q⟩
end
noncomputable def Q3 (h:Heap) (H:Hp):List Addr:=(List.range h.objs.size).filter fun a=>(H a).isSome
noncomputable def vV (h:Heap) (H:Hp):Heap:=PySem.W.hideAll h (Q3 h H)
theorem DX (h:Heap) (H:Hp):(vV h H).objs.size=h.objs.size:=PySem.W.hideAll_size _ _
theorem GK (e:h.get? b=some o) (n:H b=none):(vV h H).get? b=some o:=
 PySem.W.hideAll_get _ e fun hm=>by
  have q:(H b).isSome=true:=(mem_filter.mp hm).2;rw[n]at q;simp at q
theorem J9 {H:Hp} {b:Addr} (e:(vV h H).get? b=some o):h.get? b=some o/\H b=none:=by
 have e':h.get? b=some o:=PySem.W.of_hideAll (Q3 h H) e;refine⟨e',?_⟩;cases q:H b with
 |none=>rfl
 |some x=>
  have hm:b∈Q3 h H:=mem_filter.mpr ⟨mem_range.mpr (lt_size e'),by simp[q]⟩;have z:(vV h H).get? b=none:=PySem.W.hideAll_none (Q3 h H) hm;rw[z]at e;cases e
structure Mod (K:Frag) (mg:Str->Option Value) (base:Heap):Prop where
 RK:K.In base
 glob:base.Ns mainGlobals mg
 blt:∃mb,base.Ns builtinsNs mb/\∀x:Str,x≠"__name__"->mb x=bootBuiltins x
 nolimit:base.NoLimit
structure Cx where
 prog:Program
 w:World
 K:Frag
 mg:Str->Option Value
 base:Heap
 A:Around
 N:List Str
 iJ:Shared
 FA:Hp
 env:Env
 outer:List Env
 stack:List Env
 ex:List Addr
 fn:Str->Bool
 calm:Bool
 pn:List (Addr×Obj)
 xe:Value->Shared->Prop
noncomputable def D5 (l:List Env):List Addr:=l.filterMap (·.frame)
noncomputable abbrev Cx.fs (X:Cx):List Addr:=D5 X.outer
def RG (sc:Scope) (x:Str):Prop:=sc.names.lookup x=some .local\/ sc.names.lookup x=some .cell\/ sc.names.lookup x=some .free
def Loc (sc:Scope) (x:Str):Prop:=sc.names.lookup x=some .local\/ sc.names.lookup x=some .cell
def Look (env:Env) (h:Heap) (m:Str->Option Value) (x:Str) (u:Value):Prop:=
 (env.kindOf x=some .local/\m x=some u)\/ ((env.kindOf x=some .cell\/ env.kindOf x=some .free)/\∃c,env.cells.lookup x=some c/\h.IsCell c (some u))
structure Cx.Ok (X:Cx):Prop where
 mod:Mod X.K X.mg X.base
 kind:X.env.scope.kind= .function
 glob:X.env.globals=mainGlobals
 blt:X.env.builtins=builtinsNs
 above:X.iJ.heap.objs.size<=X.env.locals
 inj:∀x y c,X.env.cells.lookup x=some c->X.env.cells.lookup y=some c->x=y
 has:∀x,(X.env.kindOf x=some .cell\/ X.env.kindOf x=some .free)->∃c,X.env.cells.lookup x=some c
 OL:∀x c,X.fn x=true->X.env.cells.lookup x=some c->X.iJ.heap.objs.size<=c
 hd:X.calm=true->X.A.handled=none
 frames:X.A.frames=some X.stack
 OX:X.stack=X.outer\/ (X.stack=X.env::X.outer/\X.env.frame=some X.env.locals)
 RT:∀b∈X.ex,b≠X.env.locals/\∀x c,X.env.cells.lookup x=some c->c≠b
 bs:∀b o,X.base.get? b=some o->X.iJ.heap.get? b=some o/\X.FA b=none
 KC:X.base.objs.size<=X.iJ.heap.objs.size
 D4:∀b o,X.base.get? b=some o->b∉X.ex
 wV:∀b∈X.ex,b∉X.fs
 qJ:X.iJ.heap.FunFrames X.base X.outer
 MP:∀b∈X.fs,X.FA b=none
structure Inv (X:Cx) (pins:List (Addr×Obj)) (σ:List (Option V)) (H:Hp) (s:Shared):Prop where
 ok:X.Ok
 os:s.os=X.iJ.os
 bare:AllBare s.gens
 base:Un X.fs X.ex X.FA H X.iJ.heap s.heap
 loc:∃m,s.heap.Ns X.env.locals m/\∀(i:Nat) (x:Str) (v:V),X.N[i]? =some x->σ[i]? =some (some v)->RG X.env.scope x->∃u,RelV v u/\Look X.env s.heap m x u
 cell:∀x c,X.env.cells.lookup x=some c->∃v,s.heap.IsCell c v
 free:H X.env.locals=none
 kQ:∀x c,X.env.cells.lookup x=some c->H c=none
 pin:∀p∈X.pn++pins,s.heap.get? p.1=some p.2/\H p.1=none/\p.1≠X.env.locals/\p.1∉X.fs/\∀v,p.2.data≠ .cell v
 bA:kC X.prog X.w H s.heap
 len:σ.length=X.N.length
section
variable {X:Cx} {pins:List (Addr×Obj)} {σ:List (Option V)} {H H':Hp} {s:Shared} {h':Heap}
theorem Cx.Ok.R1 (ok:X.Ok) (e:X.base.get? b=some o):b∉X.fs:=fun hb=>by
 have:=(ok.qJ.mem hb).1;rw[e]at this;cases this
theorem Inv.bs (I:Inv X pins σ H s):∀b o,X.base.get? b=some o->s.heap.get? b=some o/\H b=none:=fun b o e=>
 ⟨I.base.keep b o (I.ok.bs b o e).1 (I.ok.bs b o e).2 (I.ok.R1 e) (I.ok.D4 b o e),I.base.free b o (I.ok.bs b o e).1 (I.ok.bs b o e).2 (I.ok.D4 b o e)⟩
theorem Inv.bk (I:Inv X pins σ H s):∀b o,X.base.get? b=some o->s.heap.get? b=some o:=fun b o e=>(I.bs b o e).1
theorem Inv.mod (I:Inv X pins σ H s):Mod X.K X.mg X.base:=I.ok.mod
theorem Inv.OH (I:Inv X pins σ H s):X.K.In s.heap:=I.ok.mod.RK.keeps I.bk
theorem Inv.lt (I:Inv X pins σ H s):X.env.locals<s.heap.objs.size:=let⟨_,hn,_⟩:=I.loc;hn.lt
theorem Inv.sz (I:Inv X pins σ H s):X.iJ.heap.objs.size<=s.heap.objs.size:=le_trans I.ok.above (le_of_lt I.lt)
theorem Inv.OE (I:Inv X pins σ H s) (h:s.heap.objs.size<=a):a∉X.fs:=fun hb=>by
 obtain⟨_,o,ho,_⟩:=I.ok.qJ.mem hb;exact absurd (lt_of_lt_of_le (lt_size ho) (le_trans I.sz h)) (lt_irrefl _)
theorem Inv.NV (I:Inv X pins σ H s):∀x c,X.env.cells.lookup x=some c->c≠X.env.locals:=fun x c e z=>by
 obtain⟨v,o,ho,hd⟩:=I.cell x c e;obtain⟨m,⟨o',es,ep,ho',hd',_⟩,_⟩:=I.loc;rw[z,ho']at ho;cases ho;rw[hd']at hd;cases hd
theorem Inv.qJ (I:Inv X pins σ H s):s.heap.FunFrames X.base X.outer:=by
 have all:∀(l:List Env),(∀b∈D5 l,b∈X.fs)->X.iJ.heap.FunFrames X.base l->s.heap.FunFrames X.base l:=by
  intro l
  induction l with
  |nil=>intro _ _;trivial
  |cons env r ih=>
   intro hs hl;obtain⟨hk,⟨L,o,hf,hn,ho,hd⟩,hr⟩:=hl;have hL:L∈X.fs:=hs L (by unfold D5;rw[List.filterMap_cons,hf];exact mem_cons_self);obtain⟨sl,e⟩:=I.base.slot L o ho (I.ok.MP L hL) hL fun z=>I.ok.wV L z hL
   exact⟨hk,⟨L,_,hf,hn,e,hd⟩,ih (fun b hb=>hs b (by unfold D5;rw[List.filterMap_cons,hf];exact mem_cons_of_mem _ hb)) hr⟩
 exact all X.outer (fun _ hb=>hb) I.ok.qJ
theorem Inv.stack (I:Inv X pins σ H s):s.heap.FunFrames X.base X.stack:=by
 rcases I.ok.OX with e|⟨e,hf⟩
 .rw[e];exact I.qJ
 .rw[e];obtain⟨m,hn,_⟩:=I.loc;refine .cons (by rw[I.ok.kind];decide) hf hn ?_ I.qJ;exact Heap.get?_none_of_le (le_trans I.ok.KC I.ok.above)
theorem Inv.zQ (I:Inv X pins σ H s):∀b∈D5 X.stack,b∈X.env.locals::X.fs:=fun b hb=>by
 rcases I.ok.OX with e|⟨e,hf⟩
 .rw[e]at hb;exact mem_cons_of_mem _ hb
 .rw[e]at hb;unfold D5 at hb;rw[List.filterMap_cons,hf]at hb;exact hb
theorem Inv.CB (I:Inv X pins σ H s):∀b∈D5 X.stack,H b=none:=fun b hb=>by
 rcases mem_cons.mp (I.zQ b hb)with e|hb
 .rw[e];exact I.free
 .obtain⟨_,o,ho,_⟩:=I.ok.qJ.mem hb;exact I.base.free b o ho (I.ok.MP b hb) fun z=>I.ok.wV b z hb
theorem Inv.step (I:Inv X pins σ H s)
  (hch:∀b∈ch,(b∈X.ex\/ X.iJ.heap.objs.size<=b)/\b≠X.env.locals/\(∀x c,X.env.cells.lookup x=some c->c≠b)/\∀p∈X.pn++pins,p.1≠b)
  (keep:∀b o,b≠X.env.locals->b∉X.fs->b∉ch->s.heap.get? b=some o->H b=none->h'.get? b=some o)
  (slot:∀b o,b≠X.env.locals->b∈X.fs->b∉ch->s.heap.get? b=some o->H b=none->∃sl,h'.get? b=some {o with slots:=sl}) (free:∀b o,b∉ch->s.heap.get? b=some o->H b=none->H' b=none)
  (there:∀b o,b∉ch->s.heap.get? b=some o->∃o',h'.get? b=some o')
  (sQ:∀b xs,H b=some (.tup xs)->H' b=some (.tup xs)) (r6:∀b o u,H b=some (.IB o u)->H' b=some (.IB o u)) (sM:∀b ps,H b=some (.M9 ps)->∃more,H' b=some (.M9 (ps++more)))
  (ns:∀m,s.heap.Ns X.env.locals m->h'.Ns X.env.locals m) (bA:kC X.prog X.w H' h') (hg:AllBare g'):
  Inv X pins σ H' {s with heap:=h',gens:=g',drawn:=d',toks:=t'}:=by
 have neL:∀b o,X.iJ.heap.get? b=some o->b≠X.env.locals:=fun b o e=>ne_of_lt (lt_of_lt_of_le (lt_size e) I.ok.above)
 have neC:∀b o,X.iJ.heap.get? b=some o->b∉X.ex->b∉ch:=fun b o e hx hb=>by
  rcases(hch b hb).1 with z|z
  .exact hx z
  .exact absurd (lt_of_lt_of_le (lt_size e) z) (lt_irrefl _)
 have cellK:∀x c,X.env.cells.lookup x=some c->∀v,s.heap.IsCell c v->h'.IsCell c v:=fun x c e v ⟨o,ho,hd⟩=>by
  have nch:c∉ch:=fun z=>(hch c z).2.2.1 x c e rfl
  by_cases hc:c∈X.fs
  .obtain⟨sl,q⟩:=slot c o (I.NV x c e) hc nch ho (I.kQ x c e);exact⟨_,q,hd⟩
  .exact⟨o,keep c o (I.NV x c e) hc nch ho (I.kQ x c e),hd⟩
 refine⟨I.ok,I.os,hg,⟨fun b o e n hb hx=>?_,fun b o e n hb hx=>?_,fun b o e n hx=>?_,fun b o e hx=>?_,fun b xs e=>sQ b xs (I.base.sQ b xs e),fun b o xs e=>r6 b o xs (I.base.r6 b o xs e),fun b ps e=>?_⟩,?_,fun x c e=>?_,?_,fun x c e=>?_,fun p hp=>?_,bA,I.len⟩
 .exact keep b o (neL b o e) hb (neC b o e hx) (I.base.keep b o e n hb hx) (I.base.free b o e n hx)
 .obtain⟨sl,e1⟩:=I.base.slot b o e n hb hx;obtain⟨sl',e2⟩:=slot b _ (neL b o e) hb (neC b o e hx) e1 (I.base.free b o e n hx);exact⟨sl',e2⟩
 .obtain⟨o',e1⟩:=I.base.there b o e hx;exact free b o' (neC b o e hx) e1 (I.base.free b o e n hx)
 .obtain⟨o',e1⟩:=I.base.there b o e hx;exact there b o' (neC b o e hx) e1
 .obtain⟨m1,e1⟩:=I.base.sM b ps e;obtain⟨m2,e2⟩:=sM b _ e1;exact⟨m1++m2,by rw[e2,Array.append_assoc]⟩
 .obtain⟨m,hn,hl⟩:=I.loc;refine⟨m,ns m hn,fun i x v e1 e2 e3=>?_⟩;obtain⟨u,r,l⟩:=hl i x v e1 e2 e3;refine⟨u,r,?_⟩;rcases l with l|⟨k,c,e,z⟩
  .exact .inl l
  .exact .inr ⟨k,c,e,cellK x c e _ z⟩
 .obtain⟨v,z⟩:=I.cell x c e;exact⟨v,cellK x c e v z⟩
 .obtain⟨m,⟨o,_,_,ho,_⟩,_⟩:=I.loc;exact free _ o (fun z=>(hch _ z).2.1 rfl) ho I.free
 .obtain⟨v,o,ho,hd⟩:=I.cell x c e;exact free c o (fun z=>(hch c z).2.2.1 x c e rfl) ho (I.kQ x c e)
 .obtain⟨e,n,ne,nf,d⟩:=I.pin p hp;have nch:p.1∉ch:=fun z=>(hch p.1 z).2.2.2 p hp rfl
  exact⟨keep p.1 p.2 ne nf nch e n,free p.1 p.2 nch e n,ne,nf,d⟩
theorem Inv.un (I:Inv X pins σ H s) (u:Un X.fs [] H H' s.heap h') (bA:kC X.prog X.w H' h'):Inv X pins σ H' {s with heap:=h',toks:=t'}:=by
 obtain⟨m,⟨o,es,ep,ho,r⟩,_⟩:=id I.loc;obtain⟨sl,hL⟩:=u.any ho I.free (by simp);exact I.step (g':=s.gens) (d':=s.drawn) (ch:=[]) (fun _ z=>nomatch z) (fun b o _ hb _ e n=>u.keep b o e n hb (by simp)) (fun b o _ hb _ e n=>u.slot b o e n hb (by simp)) (fun b o _ e n=>u.free b o e n (by simp)) (fun b o _ e=>u.there b o e (by simp)) u.sQ u.r6 u.sM (fun m' hm=>by
  obtain⟨o',es',ep',ho',r'⟩:=hm;rw[ho]at ho';cases ho'
  exact⟨_,es',ep',hL,r'⟩) bA I.bare
theorem Inv.call (I:Inv X pins σ H s) (u:Un (D5 X.stack) ch H H' s.heap h') (bA:kC X.prog X.w H' h') (hg:AllBare g')
  (hch:∀b∈ch,(b∈X.ex\/ X.iJ.heap.objs.size<=b)/\b≠X.env.locals/\(∀x c,X.env.cells.lookup x=some c->c≠b)/\∀p∈X.pn++pins,p.1≠b):
  Inv X pins σ H' {s with heap:=h',gens:=g',drawn:=d',toks:=t'}:=by
 obtain⟨m,⟨o,es,ep,ho,r⟩,_⟩:=id I.loc;obtain⟨sl,hL⟩:=u.any ho I.free fun z=>(hch _ z).2.1 rfl
 exact I.step (ch:=ch) hch (fun b o hL hb hc e n=>u.keep b o e n (fun z=>(mem_cons.mp (I.zQ b z)).elim hL hb) hc) (fun b o _ _ hc e n=>u.any e n hc) (fun b o hc e n=>u.free b o e n hc) (fun b o hc e=>u.there b o e hc) u.sQ u.r6 u.sM (fun m' hm=>by
  obtain⟨o',es',ep',ho',r'⟩:=hm;rw[ho]at ho';cases ho'
  exact⟨_,es',ep',hL,r'⟩) bA hg
theorem Inv.turned (I:Inv X pins σ H s) (k:∀b o,b≠it->s.heap.get? b=some o->h'.get? b=some o) (hn:H it=none) (hL:it≠X.env.locals)
  (h1:it∈X.ex\/ X.iJ.heap.objs.size<=it) (h2:∀x c,X.env.cells.lookup x=some c->c≠it) (h3:∀p∈X.pn++pins,p.1≠it):Inv X pins σ H {s with heap:=h',toks:=t'}:=by
 have nit:∀b u,H b=some u->b≠it:=fun b u e z=>by rw[z,hn]at e;cases e
 refine I.step (g':=s.gens) (d':=s.drawn) (ch:=[it]) (fun b hb=>?_) (fun b o _ _ hc e _=>k b o (fun z=>hc (by simp[z])) e) (fun b o _ _ hc e _=>⟨o.slots,k b o (fun z=>hc (by simp[z])) e⟩) (fun _ _ _ _ n=>n)
  (fun b o hc e=>⟨o,k b o (fun z=>hc (by simp[z])) e⟩) (fun _ _ e=>e) (fun _ _ _ e=>e) (fun b ps e=>⟨#[],by rw[e];simp⟩) (fun m hm=>?_) (fun b u e=>?_) I.bare
 .have e:b=it:=by simpa using hb
  subst e;exact⟨h1,hL,h2,h3⟩
 .obtain⟨o,es,ep,ho,r⟩:=hm;exact⟨o,es,ep,k _ o (Ne.symm hL) ho,r⟩
 .refine(I.bA b u e).yB (fun c v hc q=>k c v ?_ q) (fun _ q=>q) fun _ _ q=>q
  rcases hc with z|z
  .rw[z];exact nit b u e
  .exact nit c _ z
theorem Inv.tok (I:Inv X pins σ H s) (t:Nat):Inv X pins σ H {s with toks:=t}:=I.un (h':=s.heap) (t':=t) Un.refl I.bA
theorem Inv.kept (I:Inv X pins σ H s) (k:∀b u,s.heap.get? b=some u->h'.get? b=some u):Inv X pins σ H {s with heap:=h',toks:=t'}:=I.un (Un.kept k) (I.bA.kept k)
theorem Inv.laid {o:HO} (I:Inv X pins σ H s) (k:∀b u,s.heap.get? b=some u->h'.get? b=some u) (hp:s.heap.objs.size<=a) (new:dN X.prog X.w (upd H a o) h' a o):
  Inv X pins σ (upd H a o) {s with heap:=h',toks:=t'}:=I.un (Un.laid k hp (I.bA.fresh hp)) (I.bA.laid k hp new)
theorem Inv.write {x e:Addr} {o:HO} (I:Inv X pins σ H s) (mu:OG (H x)) (he:e=x\/ H e=some (.own x)) (k:∀b u,b≠e->s.heap.get? b=some u->h'.get? b=some u) (heo:∃u,h'.get? e=some u)
  (new:dN X.prog X.w (upd H x o) h' x o):Inv X pins σ (upd H x o) {s with heap:=h',toks:=t'}:=I.un (Un.write mu he k heo) (I.bA.write mu he k heo new)
theorem Inv.lY {pins':List (Addr×Obj)} (I:Inv X pins σ H s) (h:∀p∈pins',s.heap.get? p.1=some p.2/\H p.1=none/\p.1≠X.env.locals/\p.1∉X.fs/\∀v,p.2.data≠ .cell v):Inv X pins' σ H s:=
 ⟨I.ok,I.os,I.bare,I.base,I.loc,I.cell,I.free,I.kQ,fun p hp=>(mem_append.mp hp).elim (fun z=>I.pin p (mem_append_left _ z)) (h p),I.bA,I.len⟩
theorem xS (hN:N.Nodup) (a:N[i]? =some x) (b:N[j]? =some x):i=j:=by
 obtain⟨h1,e1⟩:=List.getElem?_eq_some_iff.mp a;obtain⟨h2,e2⟩:=List.getElem?_eq_some_iff.mp b;exact(List.getElem_inj hN).mp (e1.trans e2.symm)
theorem CG {x:Str} {v:V} {Q:Unit->Shared->Prop} (I:Inv X pins σ H s) (hN:X.N.Nodup) (hi:X.N[i]? =some x) (hx:Loc X.env.scope x) (r:RelV v u)
  (h:∀s',Inv X pins (σ.set i (some v)) H s'->(∃a,Heap.SameBut a s.heap s'.heap/\(a=X.env.locals\/ X.env.cells.lookup x=some a))->Q () s') (hf:X.fn x=true\/ X.env.scope.names.lookup x=some .local:=by first|exact .inl rfl|exact .inr rfl|assumption):wpAny M A (storeName X.env x u) Q E s:=by
 obtain⟨m,hn,hl⟩:=id I.loc;have hcls:(X.env.scope.kind== .class||(X.env.scope.kind== .module && X.env.locals !=X.env.globals))=false:=by rw[I.ok.kind];rfl
 have hiσ:i<σ.length:=by rw[I.len];exact(List.getElem?_eq_some_iff.mp hi).1
 have NV:=I.NV;have tracked:∀{a:Addr} {h':Heap},(∃o,s.heap.get? a=some o/\H a=none)->Heap.SameBut a s.heap h'->kC X.prog X.w H h':=fun{a h'} ha hs b ob e=>by
  obtain⟨_,_,hfree⟩:=ha;refine(I.bA b ob e).yB (fun c w' hc q=>(hs.2 c ?_).trans q) (fun _ q=>q) fun _ _ q=>q
  rintro rfl;rcases hc with rfl|hc
  .rw[hfree]at e;cases e
  .rw[hfree]at hc;cases hc
 rcases hx with hk|hk
 .refine wpAny_storeName_local hk hn (fun h' hn' hs=>?_) hcls;obtain⟨oL,_,_,hoL,_⟩:=id hn;refine h _ ⟨I.ok,I.os,I.bare,⟨fun b o e n hb hx=>?_,fun b o e n hb hx=>?_,I.base.free,fun b o e hx=>?_,I.base.sQ,I.base.r6,I.base.sM⟩,⟨_,hn',fun j y v' e1 e2 e3=>?_⟩,fun y c e=>?_,I.free,I.kQ,fun p hp=>?_,tracked ⟨oL,hoL,I.free⟩ hs,by simpa using I.len⟩ ⟨_,hs,.inl rfl⟩
  .exact(hs.2 b (ne_of_lt (lt_of_lt_of_le (lt_size e) I.ok.above))).trans (I.base.keep b o e n hb hx)
  .obtain⟨sl,e1⟩:=I.base.slot b o e n hb hx;exact⟨sl,(hs.2 b (ne_of_lt (lt_of_lt_of_le (lt_size e) I.ok.above))).trans e1⟩
  .obtain⟨o',e1⟩:=I.base.there b o e hx;exact⟨o',(hs.2 b (ne_of_lt (lt_of_lt_of_le (lt_size e) I.ok.above))).trans e1⟩
  .by_cases hj:j=i
   .subst hj;rw[hi]at e1;cases e1
    rw[List.getElem?_set_self hiσ]at e2;cases e2;exact⟨u,r,.inl ⟨hk,by simp⟩⟩
   .rw[List.getElem?_set_ne (Ne.symm hj)]at e2;obtain⟨u',r',q⟩:=hl j y v' e1 e2 e3;refine⟨u',r',?_⟩;rcases q with⟨k,e⟩|⟨k,c,e,z⟩
    .refine .inl ⟨k,?_⟩;have:y≠x:=fun e=>hj (xS hN e1 (e▸hi))
     simp[this,e]
    .exact .inr ⟨k,c,e,z.sameBut hs (NV y c e)⟩
  .obtain⟨w',z⟩:=I.cell y c e;exact⟨w',z.sameBut hs (NV y c e)⟩
  .obtain⟨e,n,ne,nf,d⟩:=I.pin p hp;exact⟨(hs.2 p.1 ne).trans e,n,ne,nf,d⟩
 .have hfn:X.fn x=true:=by
   rcases hf with z|z
   .exact z
   .rw[z]at hk;cases hk
  obtain⟨c,hc⟩:=I.ok.has x (.inl hk);obtain⟨w',z⟩:=I.cell x c hc;refine wpAny_storeName_cell I.ok.kind hk hc z (fun h' hc' hs=>?_);obtain⟨oc,hoc,hocd⟩:=id z;refine h {s with heap:=h'} ⟨I.ok,I.os,I.bare,⟨fun b o e n hb hx=>?_,fun b o e n hb hx=>?_,I.base.free,fun b o e hx=>?_,I.base.sQ,I.base.r6,I.base.sM⟩,⟨m,hn.sameBut hs (Ne.symm (NV x c hc)),fun j y v' e1 e2 e3=>?_⟩,fun y c' e=>?_,I.free,I.kQ,fun p hp=>?_,tracked ⟨oc,hoc,I.kQ x c hc⟩ hs,by simpa using I.len⟩ ⟨c,hs,.inr hc⟩
  .exact(hs.2 b (ne_of_lt (lt_of_lt_of_le (lt_size e) (I.ok.OL x c hfn hc)))).trans (I.base.keep b o e n hb hx)
  .obtain⟨sl,e1⟩:=I.base.slot b o e n hb hx;exact⟨sl,(hs.2 b (ne_of_lt (lt_of_lt_of_le (lt_size e) (I.ok.OL x c hfn hc)))).trans e1⟩
  .obtain⟨o',e1⟩:=I.base.there b o e hx;exact⟨o',(hs.2 b (ne_of_lt (lt_of_lt_of_le (lt_size e) (I.ok.OL x c hfn hc)))).trans e1⟩
  .by_cases hj:j=i
   .subst hj;rw[hi]at e1;cases e1
    rw[List.getElem?_set_self hiσ]at e2;cases e2;exact⟨u,r,.inr ⟨.inl hk,c,hc,hc'⟩⟩
   .rw[List.getElem?_set_ne (Ne.symm hj)]at e2;obtain⟨u',r',q⟩:=hl j y v' e1 e2 e3;refine⟨u',r',?_⟩;rcases q with q|⟨k,c',e,z'⟩
    .exact .inl q
    .refine .inr ⟨k,c',e,z'.sameBut hs ?_⟩;rintro rfl;exact hj (xS hN e1 (I.ok.inj _ _ _ e hc▸hi))
  .by_cases hcc:c'=c
   .subst hcc;exact⟨_,hc'⟩
   .obtain⟨w2,z2⟩:=I.cell y c' e;exact⟨w2,z2.sameBut hs hcc⟩
  .obtain⟨e,n,ne,nf,d⟩:=I.pin p hp;refine⟨(hs.2 p.1 ?_).trans e,n,ne,nf,d⟩;intro q;rw[q,hoc]at e;have q':oc=p.2:=Option.some.inj e;exact d w' (by rw[<-q'];exact hocd)
theorem jH {v:V} {Q:Unit->Shared->Prop} (I:Inv X pins σ H s) (hN:X.N.Nodup) (hi:X.N[i]? =some x) (hx:Loc X.env.scope x) (r:RelV v u)
  (h:∀s',Inv X pins (σ.set i (some v)) H s'->Q () s') (hf:X.fn x=true\/ X.env.scope.names.lookup x=some .local:=by first|exact .inl rfl|exact .inr rfl|assumption):wpAny M A (storeName X.env x u) Q E s:=
 CG I hN hi hx r (fun s' I' _=>h s' I') hf
theorem Inv.A6 {s':Shared} (I:Inv X pins σ H s) (ho:s'.os=s.os) (u:Un (D5 X.stack) ch H H' s.heap s'.heap) (bA:kC X.prog X.w H' s'.heap) (hg:AllBare s'.gens)
  (hch:∀b∈ch,(b∈X.ex\/ X.iJ.heap.objs.size<=b)/\b≠X.env.locals/\(∀x c,X.env.cells.lookup x=some c->c≠b)/\∀p∈X.pn++pins,p.1≠b):Inv X pins σ H' s':=by
 obtain⟨h',g',d',t',o'⟩:=s';have e:o'=s.os:=ho;subst e;exact I.call (g':=g') (t':=t') (d':=d') u bA hg hch
end
abbrev XK:=Value->Option Addr->Hp->Prop
abbrev St:=List (Option V)
abbrev VK:=V->Hp->Prop
abbrev TE:=St->Hp->VK->Prop
abbrev TT:=St->Hp->(Bool->Hp->Prop)->Prop
abbrev TA:=St->Hp->(List V->Hp->Prop)->Prop
structure Ends where
 nx:St->Hp->Prop
 rt:VK
 bk:St->Hp->Prop:=fun _ _=>False
 ct:St->Hp->Prop:=fun _ _=>False
abbrev TS:=Ends->St->Hp->Prop
def EP (X:Cx) (pins:List (Addr×Obj)) (σ:St) (Q:VK) (u:Value) (s':Shared):Prop:=∃v H',Inv X pins σ H' s'/\RelV v u/\Q v H'
def TP (X:Cx) (pins:List (Addr×Obj)) (σ:St) (Q:Bool->Hp->Prop) (b:Bool) (s':Shared):Prop:=∃H',Inv X pins σ H' s'/\Q b H'
def AP (X:Cx) (pins:List (Addr×Obj)) (σ:St) (Q:List V->Hp->Prop) (us:List Value) (s':Shared):Prop:=∃vs H',Inv X pins σ H' s'/\Vals vs us/\Q vs H'
def SP (X:Cx) (pins:List (Addr×Obj)) (D:Ends) (f:Flow) (s':Shared):Prop:=
 match f with
 | .next=>∃σ' H',Inv X pins σ' H' s'/\D.nx σ' H'
 | .brk=>∃σ' H',Inv X pins σ' H' s'/\D.bk σ' H'
 | .cont=>∃σ' H',Inv X pins σ' H' s'/\D.ct σ' H'
 | .ret u=>∃v σ' H',Inv X pins σ' H' s'/\RelV v u/\D.rt v H'
def PE (X:Cx) (e:Expr) (t:TE):Prop:=
 ∀(pins:List (Addr×Obj)) (s:Shared) (σ:St) (H:Hp) (Q:VK),Inv X pins σ H s->t σ H Q->wpAny (model X.prog X.w) X.A (eval e X.env) (EP X pins σ Q) X.xe s
def PT (X:Cx) (e:Expr) (t:TT):Prop:=
 ∀(pins:List (Addr×Obj)) (s:Shared) (σ:St) (H:Hp) (Q:Bool->Hp->Prop),Inv X pins σ H s->t σ H Q->wpAny (model X.prog X.w) X.A (isTrue e X.env (eval e X.env)) (TP X pins σ Q) X.xe s
def PW (X:Cx) (e:Expr) (t:TT):Prop:=
 ∀(whole:Sem Value) (pins:List (Addr×Obj)) (s:Shared) (σ:St) (H:Hp) (Q:Bool->Hp->Prop),Inv X pins σ H s->t σ H Q->wpAny (model X.prog X.w) X.A (isTrue e X.env whole) (TP X pins σ Q) X.xe s
theorem PW.pt {t:TT} (h:PW X e t):PT X e t:=h _
def PA (X:Cx) (es:List Expr) (t:TA):Prop:=
 ∀(pos:Pos) (pins:List (Addr×Obj)) (s:Shared) (σ:St) (H:Hp) (Q:List V->Hp->Prop),Inv X pins σ H s->t σ H Q->wpAny (model X.prog X.w) X.A (spliced (backTo pos (starEach es X.env))) (AP X pins σ Q) X.xe s
def PS (X:Cx) (st:Stmt) (t:TS):Prop:=
 ∀(pins:List (Addr×Obj)) (s:Shared) (σ:St) (H:Hp) (D:Ends),Inv X pins σ H s->t D σ H->wpAny (model X.prog X.w) X.A (exec st X.env) (SP X pins D) X.xe s
def DE (X:Cx) (st:List Stmt) (t:TS):Prop:=
 ∀(pins:List (Addr×Obj)) (s:Shared) (σ:St) (H:Hp) (D:Ends),Inv X pins σ H s->t D σ H->wpAny (model X.prog X.w) X.A (execs st X.env) (SP X pins D) X.xe s
theorem cE {t:Sem α} {Q Q':α->Shared->Prop} (h:wpAny M A t Q E s) (hQ:∀a s,Q a s->Q' a s):wpAny M A t Q' E s:=wpAny_mono h hQ fun _ _ x=>x
section
variable {X:Cx}
def eG (i:Nat):TE:=fun σ H Q=>∃v,σ[i]? =some (some v)/\Q v H
def tC (v:V):TE:=fun _ H Q=>Q v H
theorem MY {i:Nat} {x:Str} (hN:X.N[i]? =some x) (hv:RG X.env.scope x) (hd:(x==("__debug__":Str))=false:=by decide) (hcd:(x==("__classdict__":Str))=false:=by decide):PE X (.Name x pos) (eG i):=by
 intro pins s σ H Q I h;obtain⟨v,e,h⟩:=h;obtain⟨m,hn,hl⟩:=I.loc;obtain⟨u,r,l⟩:=hl i x v hN e hv;have fin:EP X pins σ Q u s:=⟨v,H,I,r,h⟩;rcases l with⟨hk,hm⟩|⟨hk,c,hc,hcell⟩
 .exact wpAny_Name (wpAny_loadName_local I.ok.kind hk hn hm fin) hd
 .rcases hk with hk|hk
  .exact wpAny_Name (wpAny_loadName_cell I.ok.kind hk hc hcell fin) hd
  .exact wpAny_Name (wpAny_loadName_free I.ok.kind hk hc hcell fin hcd) hd
theorem aH {i j pos}:PE X (.Constant (.int i) j pos) (tC (.int i)):=fun _ _ _ H _ I h=>wpAny_Constant_int ⟨.int i,H,I.tok _,⟨_,rfl⟩,h⟩
theorem mL {b j pos}:PE X (.Constant (.bool b) j pos) (tC (.bl b)):=fun _ _ _ H _ I h=>Constant_bool ⟨.bl b,H,I,rfl,h⟩
theorem d9 {j pos}:PE X (.Constant .none j pos) (tC .aZ):=fun _ _ _ H _ I h=>Constant_none ⟨.aZ,H,I,rfl,h⟩
theorem bP {x j pos}:PE X (.Constant (.str x) j pos) (tC (.str x)):=fun _ _ _ H _ I h=>Calls.Constant_str ⟨.str x,H,I.tok _,⟨_,rfl⟩,h⟩
def Gl (X:Cx) (x:Str):Prop:=X.env.kindOf x=some .globalImplicit
theorem BO (I:Inv X pins σ H s) (hg:Gl X x) (hm:X.mg x=some u) (h:Q u s)
  (hd:(x==("__debug__":Str))=false:=by decide):wpAny (model X.prog X.w) X.A (eval (.Name x pos) X.env) Q E s:=
 Calls.Name_function_global I.ok.kind hg (Calls.loadGlobal_global (by rw[I.ok.glob];exact I.mod.glob.keeps I.bk) hm h) hd
theorem vL (I:Inv X pins σ H s) (hg:Gl X x) (hm:X.mg x=none) (hv:bootBuiltins x=some u) (h:Q u s)
  (hn:x≠"__name__":=by decide) (hd:(x==("__debug__":Str))=false:=by decide):wpAny (model X.prog X.w) X.A (eval (.Name x pos) X.env) Q E s:=by
 obtain⟨mb,h1,h2⟩:=I.mod.blt;exact Calls.Name_function_global I.ok.kind hg (Calls.loadGlobal_builtin (by rw[I.ok.glob];exact I.mod.glob.keeps I.bk) hm (by rw[I.ok.blt];exact h1.keeps I.bk) ((h2 x hn).trans hv) h) hd
theorem IL {v:V} (hg:Gl X x) (hm:X.mg x=some u) (r:RelV v u) (hd:(x==("__debug__":Str))=false:=by decide):PE X (.Name x pos) (tC v):=
 fun _ _ _ H _ I h=>BO I hg hm ⟨v,H,I,r,h⟩ hd
variable {a b:Expr} {ta tb:TE} {pos:Pos}
def tB (t:TE):TT:=fun σ H Q=>t σ H fun x H1=>∃c,x= .bl c/\Q c H1
theorem GB (h:PE X e t) (he:∀whole,isTrue e X.env whole=(do let v<-whole;standAt e.pos;holding [v] (truthy v)):=by intro _;rfl):PT X e (tB t):=by
 intro pins s σ H Q I hw;refine isTrue_plain (cE (h pins s σ H _ I hw) fun v s1 ⟨x,H1,I1,r1,q1⟩=>?_) (he _);obtain⟨d,rfl,q⟩:=q1;cases r1;exact wpAny_truthy_bool ⟨H1,I1,q⟩
variable {tA tB':TT} {rest:List Expr}
def sL (t u:TT):TT:=fun σ H Q=>t σ H fun c H1=>if c=true then u σ H1 Q else Q false H1
def KL (t u:TT):TT:=fun σ H Q=>t σ H fun c H1=>if c=true then Q true H1 else u σ H1 Q
def zA (t:TT):TT:=fun σ H Q=>t σ H fun c H1=>Q (!c) H1
theorem j9 (ha:PT X a tA):PW X (.BoolOp .And [a] pos) tA:=by
 intro wh pins s σ H Q I h;refine isTrue_and (cE (ha pins s σ H Q I h) fun c s1 e=>?_);cases c with
 |true=>exact isTrue_and_nil e
 |false=>exact e
theorem NR (ha:PT X a tA):PW X (.BoolOp .Or [a] pos) tA:=by
 intro wh pins s σ H Q I h;refine isTrue_or (cE (ha pins s σ H Q I h) fun c s1 e=>?_);cases c with
 |false=>exact isTrue_or_nil e
 |true=>exact e
theorem m3 (ha:PT X a tA) (hb:PW X (.BoolOp .And (b::rest) pos) tB'):PW X (.BoolOp .And (a::b::rest) pos) (sL tA tB'):=by
 intro wh pins s σ H Q I h;refine isTrue_and (cE (ha pins s σ H _ I h) fun c s1 ⟨H1,I1,q1⟩=>?_);cases c with
 |true=>exact hb wh pins s1 σ H1 Q I1 q1
 |false=>exact⟨H1,I1,q1⟩
theorem QA (ha:PT X a tA) (hb:PW X (.BoolOp .Or (b::rest) pos) tB'):PW X (.BoolOp .Or (a::b::rest) pos) (KL tA tB'):=by
 intro wh pins s σ H Q I h;refine isTrue_or (cE (ha pins s σ H _ I h) fun c s1 ⟨H1,I1,q1⟩=>?_);cases c with
 |true=>exact⟨H1,I1,q1⟩
 |false=>exact hb wh pins s1 σ H1 Q I1 q1
theorem z7 (ha:PT X a tA):PT X (.UnaryOp .Not a pos) (zA tA):=by
 intro pins s σ H Q I h;exact isTrue_not (ha pins s σ H (fun c H1=>Q (!c) H1) I h)
def p8 (ta tb:TE):TE:=fun σ H Q=>ta σ H fun x H1=>∃c,x= .bl c/\if c=true then tb σ H1 Q else Q (.bl false) H1
theorem L9 {op} (h:PE X a t):PE X (.BoolOp op [a] pos) t:=fun pins s σ H Q I hw=>BoolOp_one (h pins s σ H Q I hw)
theorem NA (ha:PE X a ta) (hb:PE X (.BoolOp .And (b::rest) pos) tb):PE X (.BoolOp .And (a::b::rest) pos) (p8 ta tb):=by
 intro pins s σ H Q I h;refine BoolOp_and (cE (ha pins s σ H _ I h) fun v s1 ⟨x,H1,I1,r1,q1⟩=>?_);obtain⟨c,rfl,q1⟩:=q1;cases r1;refine wpAny_truthy_bool ?_;cases c with
 |true=>exact hb pins s1 σ H1 Q I1 q1
 |false=>exact⟨.bl false,H1,I1,rfl,q1⟩
def KQ (t:TT) (ta tb:TE):TE:=fun σ H Q=>t σ H fun c H1=>if c=true then ta σ H1 Q else tb σ H1 Q
theorem kY (hc:PT X c tA) (ha:PE X a ta) (hb:PE X b tb):PE X (.IfExp c a b pos) (KQ tA ta tb):=by
 intro pins s σ H Q I h;refine wpAny_IfExp (cE (hc pins s σ H _ I h) fun d s1 ⟨H1,I1,q1⟩=>?_);cases d with
 |true=>exact ha pins s1 σ H1 Q I1 q1
 |false=>exact hb pins s1 σ H1 Q I1 q1
end
def bJ (K:Frag) (H:Hp) (a:Addr) (xs:List V):Prop:=
 Rd H a (.lst xs)\/
  ∃(o:Obj) (its:Array Value) (n:Nat),K.lookup a=some o/\o.cls= .type "list"/\o.dict=none/\o.data= .seq its n/\its.size<=sizeLine/\Vals xs its.toList
def bG (K:Frag) (H:Hp) (a:Addr) (xs:List V):Prop:=
 Rd H a (.tup xs)\/
  ∃(o:Obj) (its:Array Value) (n:Nat),K.lookup a=some o/\o.cls= .type "tuple"/\o.data= .seq its n/\its.size<=sizeLine/\Vals xs its.toList
noncomputable def RW:Value->Option V
 | .none=>some .aZ
 | .bool b=>some (.bl b)
 | .int i _=>some (.int i)
 | .str x _=>some (.str x)
 | .bytes b _=>some (.CO b)
 | .float b _=>some (.RZ b)
 | .ref a=>some (.ref a)
 | .type n=>some (.ty n)
 |_=>none
theorem RelV.abs {x:V} (r:RelV x u):RW u=some x:=by
 cases x with
 |aZ=>cases r;rfl
 |bl _=>cases r;rfl
 |int _=>obtain⟨t,rfl⟩:=r;rfl
 |str _=>obtain⟨t,rfl⟩:=r;rfl
 |CO _=>obtain⟨t,rfl⟩:=r;rfl
 |RZ _=>obtain⟨t,rfl⟩:=r;rfl
 |ref _=>cases r;rfl
 |ty _=>cases r;rfl
theorem RelV.inj {x:V} (r:RelV x u) (q:RelV y u):x=y:=Option.some.inj (r.abs.symm.trans q.abs)
theorem Vals.inj:∀{xs ys:List V} {us:List Value},Vals xs us->Vals ys us->xs=ys
 |_,_,_,.nil,.nil=>rfl
 |_,_,_,.cons r t,.cons r' t'=>by rw[r.inj r',Vals.inj t t']
section
variable {X:Cx} {pins:List (Addr×Obj)} {σ:St} {H:Hp} {s:Shared} {a:Addr} {xs ys:List V}
theorem bJ.of (h:H a=some (.lst xs)):bJ K H a xs:=.inl (.inl h)
theorem bG.of (h:H a=some (.tup xs)):bG K H a xs:=.inl (.inl h)
theorem Inv.list (I:Inv X pins σ H s) (h:bJ X.K H a xs):∃its:List Value,Vals xs its/\PlainL s.heap a its.toArray/\xs.length<=sizeLine:=by
 rcases h with h|⟨o,its,n,hk,hc,hd,hs,hz,r⟩
 .obtain⟨z,its,n,r,e⟩:=h.ok I.bA;exact⟨its,r,⟨_,n,e,rfl,rfl,rfl⟩,z⟩
 .refine⟨its.toList,r,⟨o,n,I.OH a o hk,hc,hd,by simpa using hs⟩,?_⟩;have e:=r.length;simp only[length_toList]at e;omega
theorem Inv.tuple (I:Inv X pins σ H s) (h:bG X.K H a xs):∃its:List Value,Vals xs its/\IsTup s.heap a its.toArray/\xs.length<=sizeLine:=by
 rcases h with h|⟨o,its,n,hk,hc,hs,hz,r⟩
 .obtain⟨z,its,r,p⟩:=h.ok I.bA;exact⟨its,r,p.1,z⟩
 .refine⟨its.toList,r,⟨o,I.OH a o hk,hc,n,by simpa using hs⟩,?_⟩;have e:=r.length;simp only[length_toList]at e;omega
theorem Inv.xI (I:Inv X pins σ H s) (h:bJ X.K H a xs) (h':bJ X.K H a ys):xs=ys:=by
 obtain⟨its,r,⟨o,n,e,_,_,d⟩,_⟩:=I.list h;obtain⟨its',r',⟨o',n',e',_,_,d'⟩,_⟩:=I.list h';rw[e]at e';cases e'
 rw[d]at d';injection d' with d1 _
 have:its=its':=by simpa using congrArg Array.toList d1
 subst this;exact r.inj r'
theorem Inv.sY (I:Inv X pins σ H s) (h:bG X.K H a xs) (h':bG X.K H a ys):xs=ys:=by
 obtain⟨its,r,⟨o,e,_,n,d⟩,_⟩:=I.tuple h;obtain⟨its',r',⟨o',e',_,n',d'⟩,_⟩:=I.tuple h';rw[e]at e';cases e'
 rw[d]at d';injection d' with d1 _
 have:its=its':=by simpa using congrArg Array.toList d1
 subst this;exact r.inj r'
end
noncomputable abbrev Cx.sO (X:Cx) (E:Value->Shared->Prop):Cx:={X with xe:=E}
noncomputable abbrev Cx.Q6 (X:Cx):Cx:=X.sO fun _ _=>False
theorem Cx.Ok.sO (ok:X.Ok) (E:Value->Shared->Prop):(X.sO E).Ok:=
 ⟨ok.mod,ok.kind,ok.glob,ok.blt,ok.above,ok.inj,ok.has,ok.OL,ok.hd,ok.frames,ok.OX,ok.RT,ok.bs,ok.KC,ok.D4,ok.wV,ok.qJ,ok.MP⟩
theorem Cx.Ok.kO (ok:(X.sO E).Ok):X.Ok:=
 ⟨ok.mod,ok.kind,ok.glob,ok.blt,ok.above,ok.inj,ok.has,ok.OL,ok.hd,ok.frames,ok.OX,ok.RT,ok.bs,ok.KC,ok.D4,ok.wV,ok.qJ,ok.MP⟩
section
variable {X:Cx} {pins:List (Addr×Obj)} {σ:St} {H:Hp} {s:Shared} {E:Value->Shared->Prop}
theorem Inv.sO (I:Inv X pins σ H s) (E:Value->Shared->Prop):Inv (X.sO E) pins σ H s:=⟨I.ok.sO E,I.os,I.bare,I.base,I.loc,I.cell,I.free,I.kQ,I.pin,I.bA,I.len⟩
theorem Inv.kO (I:Inv (X.sO E) pins σ H s):Inv X pins σ H s:=⟨I.ok.kO,I.os,I.bare,I.base,I.loc,I.cell,I.free,I.kQ,I.pin,I.bA,I.len⟩
theorem SP.kO {f:Flow} {s':Shared} (h:SP (X.sO E) pins D f s'):SP X pins D f s':=by
 cases f with
 |next=>obtain⟨σ',H',I,q⟩:=h;exact⟨σ',H',I.kO,q⟩
 |brk=>obtain⟨σ',H',I,q⟩:=h;exact⟨σ',H',I.kO,q⟩
 |cont=>obtain⟨σ',H',I,q⟩:=h;exact⟨σ',H',I.kO,q⟩
 |ret u=>obtain⟨v,σ',H',I,r,q⟩:=h;exact⟨v,σ',H',I.kO,r,q⟩
theorem DE.Q6 {st:List Stmt} {t:TS} (h:DE X.Q6 st t):DE X st t:=fun pins s σ H D I hw=>
 wpAny_mono (h pins s σ H D (I.sO _) hw) (fun _ _ q=>q.kO) fun _ _ z=>False.elim z
end
section
variable {X:Cx} {st:Stmt} {rest:List Stmt} {t u:TS} {e:Expr} {te:TE} {pos:Pos}
def nP:TS:=fun D σ H=>D.nx σ H
def CI (t u:TS):TS:=fun D σ H=>t {D with nx:=u D} σ H
theorem cU:DE X [] nP:=fun _ _ σ H _ I h=>wpAny_execs_nil ⟨σ,H,I,h⟩
theorem aE (h1:PS X st t) (h2:DE X rest u):DE X (st::rest) (CI t u):=by
 intro pins s σ H D I h;refine wpAny_execs_cons (cE (h1 pins s σ H {D with nx:=u D} I h) fun f s1 q=>?_);cases f with
 |next=>
  obtain⟨σ',H',I',q⟩:=q;exact h2 pins s1 σ' H' D I' q
 |ret v=>exact q
 |brk=>exact q
 |cont=>exact q
theorem aN (h1:PS X st t):DE X [st] t:=by
 intro pins s σ H D I h;refine wpAny_execs_cons (cE (h1 pins s σ H D I h) fun f s1 q=>?_);cases f with
 |next=>exact wpAny_execs_nil q
 |ret v=>exact q
 |brk=>exact q
 |cont=>exact q
theorem Inv.quiet (I:Inv X pins σ H s):interactive X.env=false:=by simp[interactive,I.ok.kind]
def oB (te:TE):TS:=fun D σ H=>te σ H fun _ H1=>D.nx σ H1
theorem iV (he:PE X e te) (hs:swapsWith e none pos.line X.env=pure false:=by rfl):PS X (.Expr e pos) (oB te):=by
 intro pins s σ H D I h;exact wpAny_Expr_any (cE (he pins s σ H _ I h) fun v s1 ⟨x,H1,I1,r1,q1⟩=>⟨σ,H1,I1,q1⟩) I.quiet hs
def vX (te:TE):TS:=fun D σ H=>te σ H D.rt
theorem aY (he:PE X e te):PS X (.Return (some e) pos) (vX te):=by
 intro pins s σ H D I h;exact wpAny_Return_some (cE (he pins s σ H _ I h) fun v s1 ⟨x,H1,I1,r1,q1⟩=>⟨x,σ,H1,I1,r1,q1⟩)
def vN (c:TT) (t u:TS):TS:=fun D σ H=>c σ H fun b H1=>if b=true then t D σ H1 else u D σ H1
theorem fR {a b:List Stmt} (hc:PT X c tc) (ha:DE X a t) (hb:DE X b u):PS X (.If c a b pos) (vN tc t u):=by
 intro pins s σ H D I h;refine wpAny_If (cE (hc pins s σ H _ I h) fun d s1 ⟨H1,I1,q1⟩=>?_);cases d with
 |true=>exact ha pins s1 σ H1 D I1 q1
 |false=>exact hb pins s1 σ H1 D I1 q1
end
abbrev TG:=V->St->Hp->(St->Hp->Prop)->Prop
abbrev KY:=List V->St->Hp->(St->Hp->Prop)->Prop
def PG (X:Cx) (target:Expr) (t:TG):Prop:=
 ∀(pins:List (Addr×Obj)) (s:Shared) (σ:St) (H:Hp) (v:V) (u:Value) (Q:St->Hp->Prop),Inv X pins σ H s->RelV v u->t v σ H Q->
  wpAny (model X.prog X.w) X.A (assign target X.env u) (fun _ s'=>∃σ' H',Inv X pins σ' H' s'/\Q σ' H') X.xe s
def PN (X:Cx) (ts:List Expr) (t:KY):Prop:=
 ∀(pins:List (Addr×Obj)) (s:Shared) (σ:St) (H:Hp) (vs:List V) (us:List Value) (Q:St->Hp->Prop),Inv X pins σ H s->Vals vs us->t vs σ H Q->
  wpAny (model X.prog X.w) X.A (assignInOrder ((assignEach ts X.env).map (·.2)) us) (fun _ s'=>∃σ' H',Inv X pins σ' H' s'/\Q σ' H') X.xe s
abbrev L1:=V->V->V->Hp->(Hp->Prop)->Prop
def P5 (X:Cx) (t:L1):Prop:=
 ∀(pins:List (Addr×Obj)) (s:Shared) (σ:St) (H:Hp) (o i v:V) (ov iv u:Value) (Q:Hp->Prop),Inv X pins σ H s->RelV o ov->RelV i iv->RelV v u->t o i v H Q->
  wpAny (model X.prog X.w) X.A (setItem ov iv u) (fun _ s'=>∃H',Inv X pins σ H' s'/\Q H') X.xe s
section
variable {X:Cx} {pos:Pos}
def gN (i:Nat):TG:=fun v σ H Q=>Q (σ.set i (some v)) H
theorem aO (hN:X.N.Nodup) (hi:X.N[i]? =some x) (hx:Loc X.env.scope x) (hf:X.fn x=true\/ X.env.scope.names.lookup x=some .local:=by first|exact .inl rfl|exact .inr rfl|assumption):PG X (.Name x pos) (gN i):=by
 intro pins s σ H v u Q I r h;exact wpAny_assign_Name (jH I hN hi hx r (fun s' I'=>⟨_,H,I',h⟩) hf)
def zH:KY:=fun vs σ H Q=>vs=[]/\Q σ H
def pV (t:TG) (u:KY):KY:=fun vs σ H Q=>∃v r,vs=v::r/\t v σ H fun σ' H'=>u r σ' H' Q
theorem dD:PN X [] zH:=by
 intro pins s σ H vs us Q I r h;obtain⟨e,h⟩:=h;subst e;cases r;exact assignInOrder_nil ⟨σ,H,I,h⟩
theorem aS {t:TG} {u:KY} (h1:PG X e t) (h2:PN X es u)
  (hs:(assignEach (e::es) X.env).map (·.2)=assign e X.env::(assignEach es X.env).map (·.2):=by rfl):PN X (e::es) (pV t u):=by
 intro pins s σ H vs us Q I r h;obtain⟨v,vr,e1,h⟩:=h;subst e1;cases r with
 |cons r rr=>
  rw[hs];refine assignInOrder_cons (cE (h1 pins s σ H _ _ _ I r h) fun _ s1 ⟨σ1,H1,I1,q1⟩=>?_);exact h2 pins s1 σ1 H1 _ _ Q I1 rr q1
def vG (K:Frag) (n:Nat) (t:KY):TG:=fun v σ H Q=>∃a xs,v= .ref a/\bG K H a xs/\xs.length=n/\t xs σ H Q
theorem ND {t:KY} (hc:X.calm=true) (h:PN X es t)
  (hn:(assignEach es X.env).length=n:=by rfl) (hst:(assignEach es X.env).findIdx? (·.1)=none:=by rfl):PG X (.Tuple es k pos) (vG X.K n t):=by
 intro pins s σ H v u Q I r hw;obtain⟨a,xs,e1,hq,hl,hw⟩:=hw;subst e1;cases r;obtain⟨its,rv,ht,hz⟩:=I.tuple hq;refine assign_Tuple_tuple (I.ok.hd hc) ht (by simp[hn,<-hl,rv.length]) hst fun h' hx=>?_
 have I1:Inv X pins σ H {s with heap:=h'}:=I.kept (t':=s.toks) fun b o e=>hx b o (ne_of_lt (lt_size e)) e
 exact h pins _ σ H xs _ Q I1 (by simpa using rv) hw
def xP (to ti:TE) (t:L1):TG:=fun v σ H Q=>to σ H fun o H1=>ti σ H1 fun i H2=>t o i v H2 fun H3=>Q σ H3
theorem FT {o i:Expr} {to ti:TE} {t:L1} (ho:PE X o to) (hi:PE X i ti) (hs:P5 X t)
  (ha:∀v,assign (.Subscript o i pos) X.env v=(do
   let ov<-holding [v] (eval o X.env)
   let iv<-holding [v,ov] (eval i X.env)
   standAt pos
   holding [v,ov,iv] (setItem ov iv v)
   release [v,ov,iv] []):=by intro _;rfl):PG X (.Subscript o i pos) (xP to ti t):=by
 intro pins s σ H v u Q I r h;rw[ha];refine wpAny_bind (wpAny_holding (cE (ho pins s σ H _ I h) fun ov s1 ⟨x,H1,I1,r1,q1⟩=>?_));refine wpAny_bind (wpAny_holding (cE (hi pins s1 σ H1 _ I1 q1) fun iv s2 ⟨y,H2,I2,r2,q2⟩=>?_));refine wpAny_bind (wpAny_standAt (wpAny_bind (wpAny_holding (cE (hs pins s2 σ H2 x y v ov iv u _ I2 r1 r2 r q2) fun _ s3 ⟨H3,I3,q3⟩=>?_))));exact wpAny_release ⟨σ,H3,I3,q3⟩
def mD (te:TE) (g:TG):TS:=fun D σ H=>te σ H fun x H1=>g x σ H1 D.nx
theorem oE {g:TG} (he:PE X e te) (hg:PG X tg g) (hs:swapsWithSole [tg] e pos.line X.env=pure false:=by rfl) (hw:swappedStores [tg] e X.env=pure none:=by rfl)
  (h1:(assignEach [tg] X.env).map (·.2)=[assign tg X.env]:=by rfl):PS X (.Assign [tg] e pos) (mD te g):=by
 intro pins s σ H D I h;refine wpAny_Assign_stores (cE (he pins s σ H _ I h) fun v s1 ⟨x,H1,I1,r1,q1⟩=>?_) hs hw;rw[h1];exact cE (hg pins s1 σ H1 x v _ I1 r1 q1) fun _ s2 q=>q
theorem aP {pos':Pos} (hN:X.N.Nodup) (hi:X.N[i]? =some x) (hx:Loc X.env.scope x) (he:PE X e te) (hs:swapsWith e (some (.Name x pos')) pos.line X.env=pure false:=by rfl) (hf:X.fn x=true\/ X.env.scope.names.lookup x=some .local:=by first|exact .inl rfl|exact .inr rfl|assumption):
  PS X (.Assign [.Name x pos'] e pos) (mD te (gN i)):=by
 intro pins s σ H D I h;refine wpAny_Assign_Name (cE (he pins s σ H _ I h) fun v s1 ⟨y,H1,I1,r1,q1⟩=>?_) hs;exact jH I1 hN hi hx r1 (fun s2 I2=>⟨_,H1,I2,q1⟩) hf
def xY (i j:Nat) (ta:TA):TS:=fun D σ H=>ta σ H fun vs H1=>∃v w,vs=[v,w]/\D.nx ((σ.set i (some v)).set j (some w)) H1
theorem L7 {y:Str} {a b:Expr} {px py pt:Pos} {kt k2 pt2} (hc:X.calm=true) (hN:X.N.Nodup) (hi:X.N[i]? =some x) (hj:X.N[j]? =some y) (hij:i≠j)
  (hx:X.env.scope.names.lookup x=some .local) (hy:X.env.scope.names.lookup y=some .local) (ha:PA X [a,b] ta)
  (hw:swappedStores [.Tuple [.Name x px,.Name y py] kt pt] (.Tuple [a,b] k2 pt2) X.env=pure (some [x,y]))
  (hs:swapsWithSole [.Tuple [.Name x px,.Name y py] kt pt] (.Tuple [a,b] k2 pt2) pos.line X.env=pure false:=by rfl):
  PS X (.Assign [.Tuple [.Name x px,.Name y py] kt pt] (.Tuple [a,b] k2 pt2) pos) (xY i j ta):=by
 intro pins s σ H D I h;rw[exec_Assign_arm];refine wpAny_bind (wpAny_standAt ?_);rw[hs];refine wpAny_bind (wpAny_pure ?_);rw[if_neg (by decide)];refine wpAny_bind (Tuple_ (cE (ha _ pins s σ H _ I h) fun us s1 ⟨vs,H1,I1,r1,q1⟩=>?_));obtain⟨v,w,e1,q1⟩:=q1;subst e1;obtain⟨u1,u2,rfl,rv,w9⟩:∃u1 u2,us=[u1,u2]/\RelV v u1/\RelV w u2:=by
  cases r1 with
  | cons p q=>
   cases q with
   |cons p' q'=>
    cases q';exact⟨_,_,rfl,p,p'⟩
 refine wpAny_newObj_type ?_ (by show 2<=sizeLine;decide);have I2:Inv X pins σ H1 {s1 with heap:=s1.heap.push {cls:=.type "tuple",data:=.seq [u1,u2].toArray}}:=I1.kept (t':=s1.toks) fun b o e=>get?_push_of_some _ e
 rw[hw];refine wpAny_bind (wpAny_pure ?_);show wpAny (model X.prog X.w) X.A (do rule "assign.swapped-stores";let items<-unpackItems (.ref s1.heap.objs.size) 2 none;assignInOrder [fun v=>bindName X.env y v,fun v=>bindName X.env x v] items.reverse;pure Flow.next) _ _ _;refine wpAny_bind (wpAny_rule (wpAny_bind (unpackItems_tuple (items:= #[u1,u2]) (I.ok.hd hc) (IsTup.new s1.heap _) fun h' hx'=>?_)));have I3:=I2.kept (h':=h') (t':=s1.toks) fun b o e=>hx' b o (ne_of_lt (lt_size e)) e
 show wpAny _ _ (assignInOrder [fun v=>bindName X.env y v,fun v=>bindName X.env x v] [u2,u1]>>=fun _=>pure Flow.next) _ _ _;refine wpAny_bind (assignInOrder_cons (wpAny_bindName (jH I3 hN hj (.inl hy) w9 (fun s2 I4=>?_) (.inr hy))));refine assignInOrder_cons (wpAny_bindName (jH I4 hN hi (.inl hx) rv (fun s3 I5=>assignInOrder_nil (wpAny_pure ?_)) (.inr hx)));rw[List.set_comm _ _ (Ne.symm hij)]at I5;exact⟨_,H1,I5,q1⟩
end
section
variable {X:Cx} {pos:Pos}
def wO (c:TT) (tb:TS):TS:=fun D σ H=>∃W:Nat->St->Hp->Prop,(∃m,W m σ H)/\∀m σ H,W m σ H->
 c σ H fun b H1=>if b=true then∃N:St->Hp->Prop,(∀σ' H',N σ' H'->∃m',m'<m/\W m' σ' H')/\tb {D with nx:=N,ct:=N,bk:=D.nx} σ H1 else D.nx σ H1
theorem nJ (hp:PassesOwn (model X.prog X.w) X.A X.env X.xe) (hc:PT X c tc) (hb:DE X body tb):PS X (.While c body [] pos) (wO tc tb):=by
 intro pins s σ H D I h;obtain⟨W,⟨m0,w0⟩,turn⟩:=h;refine wpAny_While (codeAny_whileLoop (fun n s'=>∃σ' H',Inv X pins σ' H' s'/\W n σ' H') ?_ m0 ⟨σ,H,I,w0⟩);rintro n s1 ⟨σ1,H1,I1,w1⟩;refine wpAny_passesOwn hp (cE (hc pins s1 σ1 H1 _ I1 (turn n σ1 H1 w1)) fun b s2 ⟨H2,I2,q2⟩=>?_);cases b with
 | true=>
  obtain⟨N,hN,q2⟩:=q2;rw[if_pos rfl];refine wpAny_passesOwn hp (cE (hb pins s2 σ1 H2 _ I2 q2) fun f s3 q3=>?_);cases f with
  |next=>
   obtain⟨σ3,H3,I3,n3⟩:=q3;obtain⟨m',hm,w3⟩:=hN σ3 H3 n3;exact⟨m',hm,σ3,H3,I3,w3⟩
  |cont=>
   obtain⟨σ3,H3,I3,n3⟩:=q3;obtain⟨m',hm,w3⟩:=hN σ3 H3 n3;exact⟨m',hm,σ3,H3,I3,w3⟩
  |brk=>exact q3
  |ret v=>exact q3
 |false=>
  rw[if_neg Bool.false_ne_true];exact wpAny_execs_nil ⟨σ1,H2,I2,q2⟩
end
structure It where
 go:Nat->Hp->Prop
 AY:Nat->Hp->V->Hp->Prop
 stop:Nat->Hp->Prop
def mQ (X:Cx) (pins:List (Addr×Obj)) (H:Hp) (b:Addr):Prop:=
 H b=none/\b≠X.env.locals/\b∉X.fs/\(b∈X.ex\/ X.iJ.heap.objs.size<=b)/\(∀x c,X.env.cells.lookup x=some c->c≠b)/\∀p∈X.pn++pins,p.1≠b
theorem Inv.oG {H':Hp} (I:Inv X pins σ H s) (hb:s.heap.objs.size<=b) (hn:H' b=none):mQ X pins H' b:=by
 refine⟨hn,ne_of_gt (lt_of_lt_of_le I.lt hb),I.OE hb,.inr (le_trans I.sz hb),fun x c e z=>?_,fun p hp z=>?_⟩
 .obtain⟨v,q⟩:=I.cell x c e;exact absurd (lt_of_lt_of_le q.lt (by rw[z];exact hb)) (lt_irrefl _)
 .exact absurd (lt_of_lt_of_le (lt_size (I.pin p hp).1) (by rw[z];exact hb)) (lt_irrefl _)
structure Turn (P:Program) (w:World) (K:Frag) (tg:Expr) (J:It) (fp:List Addr) (it:Addr) (tn:Nat->Heap->Prop):Prop where
 mem:it∈fp
 obj:∀i h,tn i h->∀b∈fp,∃o,h.get? b=some o/\∀v,o.data≠ .cell v
 keep:∀i h h',tn i h->(∀b∈fp,∀o,h.get? b=some o->h'.get? b=some o)->tn i h'
 item:∀(X:Cx),X.prog=P->X.w=w->X.K=K->X.calm=true->∀(i:Nat) (pins:List (Addr×Obj)) (s:Shared) (σ:St) (H:Hp) (E:Value->Shared->Prop),Inv X pins σ H s->(∀b∈fp,mQ X pins H b)->tn i s.heap->J.go i H->
  wpAny (model P w) X.A (pyNext (.ref it)) (fun r s1=>∃u,r=some u/\
   wpAny (model P w) X.A (letOwnedTupleGo tg (.ref it) u) (fun _ s2=>∃x H',Inv X pins σ H' s2/\RelV x u/\J.AY i H x H'/\tn (i+1) s2.heap/\∀b∈fp,H' b=none) E s1) E s
 done:∀(X:Cx),X.prog=P->X.w=w->X.K=K->X.calm=true->∀(i:Nat) (pins:List (Addr×Obj)) (s:Shared) (σ:St) (H:Hp) (E:Value->Shared->Prop),Inv X pins σ H s->(∀b∈fp,mQ X pins H b)->tn i s.heap->J.stop i H->
  wpAny (model P w) X.A (pyNext (.ref it)) (fun r s1=>r=none/\Inv X pins σ H s1) E s
 self:∀(A:Around) (i:Nat) (s:Shared) (Q:Value->Shared->Prop) (E:Value->Shared->Prop),tn i s.heap->Q (.ref it) s->wpAny (model P w) A (pyIter (.ref it)) Q E s
abbrev TI:=St->Hp->(It->Hp->Prop)->Prop
def SF (X:Cx) (pins:List (Addr×Obj)) (σ:St) (tg:Expr) (R:It->Hp->Prop) (itv:Value) (s2:Shared):Prop:=
 ∃(it:Addr) (fp:List Addr) (tn:Nat->Heap->Prop) (J:It) (H':Hp),itv= .ref it/\Inv X pins σ H' s2/\Turn X.prog X.w X.K tg J fp it tn/\tn 0 s2.heap/\(∀b∈fp,mQ X pins H' b)/\R J H'
def PI (X:Cx) (tg iter:Expr) (wi:TI):Prop:=
 ∀(pins:List (Addr×Obj)) (s:Shared) (σ:St) (H:Hp) (R:It->Hp->Prop),Inv X pins σ H s->wi σ H R->
  wpAny (model X.prog X.w) X.A (eval iter X.env) (fun v s1=>wpAny (model X.prog X.w) X.A (pyIter v) (SF X pins σ tg R) X.xe s1) X.xe s
theorem t6 {tg:Expr} {u:Value} {n:String} {vs:Array Value} {Q:Unit->Shared->Prop} (ho:s.heap.get? it=some o) (hc:o.cls= .type n) (hd:o.data= .fields vs)
    (hn:["enumerate","zip","dict_itemiterator","dict_reverseitemiterator","odict_iterator","itertools.zip_longest","itertools.pairwise"].contains n=false) (hQ:Q () s):wpAny M A (letOwnedTupleGo tg (.ref it) u) Q E s:=by
  unfold letOwnedTupleGo;cases tg<;>first
    |exact wpAny_pure hQ
    |(cases u<;>first
        |exact wpAny_pure hQ
        | (refine wpAny_bind (wpAny_load ho ?_)
           rw[hc,hd];show wpAny M A (if(["enumerate","zip","dict_itemiterator","dict_reverseitemiterator","odict_iterator","itertools.zip_longest","itertools.pairwise"].contains n && vs[0]? ==some (rawInt _))=true then _ else _) Q E s;rw[if_neg (by intro h;rw[hn,Bool.false_and]at h;cases h)];exact wpAny_pure hQ))
noncomputable def IF (K:Frag) (a:Addr):It:=
 ⟨fun i H=>∃xs x,bJ K H a xs/\xs[i]? =some x,fun i H x H'=>H'=H/\∀xs,bJ K H a xs->xs[i]? =some x,fun i H=>∃xs,bJ K H a xs/\xs.length<=i⟩
noncomputable def DY (K:Frag) (a:Addr):It:=
 ⟨fun i H=>∃xs x,bG K H a xs/\xs[i]? =some x,fun i H x H'=>H'=H/\∀xs,bG K H a xs->xs[i]? =some x,fun i H=>∃xs,bG K H a xs/\xs.length<=i⟩
noncomputable def J2 (lo:Int) (n:Nat):It:=⟨fun i _=>i<n,fun i H x H'=>H'=H/\x= .int (lo+i),fun i _=>n<=i⟩
theorem DM {P:Program} (a it:Addr):Turn P w K tg (IF K a) [it] it (fun i h=>h.IsListIter it a i)where
 mem:=by simp
 obj:=fun i h st b hb=>by
  have e:b=it:=by simpa using hb
  subst e;obtain⟨o,e,c,d⟩:=st;exact⟨o,e,fun v z=>by rw[d]at z;cases z⟩
 keep:=fun i h h' st k=>st.at fun o e=>k it (by simp) o e
 item:=by
  intro X hP hw hK hc i pins s σ H E I hf st hg;subst hP hw hK;obtain⟨xs,x,hq,hx⟩:=hg;obtain⟨its,rv,p,hz⟩:=I.list hq;obtain⟨u,hu,ru⟩:=rv.get hx;obtain⟨f0,f1,f2,f3,f4,f5⟩:=hf it (by simp);refine wpAny_pyNext_list_item st p.isList (x:=u) (by simpa using hu) fun h' st' sb=>?_
  have I1:Inv X pins σ H {s with heap:=h'}:=I.turned (t':=s.toks) (fun b o hb e=>(sb.2 b hb).trans e) f0 f1 f3 f4 f5;obtain⟨o,e,c,d⟩:=id st';exact⟨u,rfl,t6 (s:={s with heap:=h'}) e c d (by decide) ⟨x,H,I1,ru,⟨rfl,fun ys hy=>by rw[I.xI hy hq];exact hx⟩,st',fun b hb=>(hf b hb).1⟩⟩
 done:=by
  intro X hP hw hK hc i pins s σ H E I hf st hg;subst hP hw hK;obtain⟨xs,hq,hx⟩:=hg;obtain⟨its,rv,p,hz⟩:=I.list hq;obtain⟨f0,f1,f2,f3,f4,f5⟩:=hf it (by simp);have hl:=rv.length;exact wpAny_pyNext_list_end (I.ok.hd hc) st p.isList (by simp;omega) fun h' eb=>⟨rfl,I.turned (t':=s.toks) (fun b o hb e=>eb b o hb e) f0 f1 f3 f4 f5⟩
 self:=fun _ _ _ _ _ st h=>wpAny_pyIter_listiter st h
theorem AE {P:Program} (a it:Addr):Turn P w K tg (DY K a) [it] it (fun i h=>h.IsTupleIter it a i)where
 mem:=by simp
 obj:=fun i h st b hb=>by
  have e:b=it:=by simpa using hb
  subst e;obtain⟨o,e,c,d⟩:=st;exact⟨o,e,fun v z=>by rw[d]at z;cases z⟩
 keep:=fun i h h' st k=>st.at fun o e=>k it (by simp) o e
 item:=by
  intro X hP hw hK hc i pins s σ H E I hf st hg;subst hP hw hK;obtain⟨xs,x,hq,hx⟩:=hg;obtain⟨its,rv,p,hz⟩:=I.tuple hq;obtain⟨u,hu,ru⟩:=rv.get hx;obtain⟨f0,f1,f2,f3,f4,f5⟩:=hf it (by simp);refine wpAny_pyNext_tuple_item st (show s.heap.IsTuple a its.toArray from p) (x:=u) (by simpa using hu) fun h' st' sb=>?_
  have I1:Inv X pins σ H {s with heap:=h'}:=I.turned (t':=s.toks) (fun b o hb e=>(sb.2 b hb).trans e) f0 f1 f3 f4 f5;obtain⟨o,e,c,d⟩:=id st';exact⟨u,rfl,t6 (s:={s with heap:=h'}) e c d (by decide) ⟨x,H,I1,ru,⟨rfl,fun ys hy=>by rw[I.sY hy hq];exact hx⟩,st',fun b hb=>(hf b hb).1⟩⟩
 done:=by
  intro X hP hw hK hc i pins s σ H E I hf st hg;subst hP hw hK;obtain⟨xs,hq,hx⟩:=hg;obtain⟨its,rv,p,hz⟩:=I.tuple hq;obtain⟨f0,f1,f2,f3,f4,f5⟩:=hf it (by simp);have hl:=rv.length;exact wpAny_pyNext_tuple_end (I.ok.hd hc) st (show s.heap.IsTuple a its.toArray from p) (by simp;omega) fun h' eb=>⟨rfl,I.turned (t':=s.toks) (fun b o hb e=>eb b o hb e) f0 f1 f3 f4 f5⟩
 self:=fun _ _ _ _ _ st h=>wpAny_pyIter_tupleiter st h
theorem zY {P:Program} (it:Addr) (lo:Int) (n:Nat):Turn P w K tg (J2 lo n) [it] it (fun i h=>IsRangeIter h it (lo+(i:Nat)*1) ((n:Int) - (i:Nat)) 1)where
 mem:=by simp
 obj:=fun i h st b hb=>by
  have e:b=it:=by simpa using hb
  subst e;exact⟨_,st,fun v z=>by
   have z':Data.fields _=Data.cell v:=z;cases z'⟩
 keep:=fun i h h' st k=>k it (by simp) _ st
 item:=by
  intro X hP hw hK hc i pins s σ H E I hf st hg;subst hP hw hK;obtain⟨f0,f1,f2,f3,f4,f5⟩:=hf it (by simp);have W:=Walks.range (prog:=X.prog) (w:=X.w) (I.ok.hd hc) it lo 1 n;refine W.item i s _ _ hg st fun v h' tk hv st' kk=>?_
  obtain⟨t,rfl⟩:=hv;have I1:Inv X pins σ H {s with heap:=h',toks:=tk}:=I.turned (fun b o hb e=>kk b o (by simpa using hb) e) f0 f1 f3 f4 f5;refine⟨_,rfl,t6 (s:={s with heap:=h',toks:=tk}) (n:="range_iterator") st' rfl rfl (by decide) ⟨.int (lo+i),H,I1,⟨t,?_⟩,⟨rfl,rfl⟩,st',fun b hb=>(hf b hb).1⟩⟩;rw[Int.mul_one]
 done:=by
  intro X hP hw hK hc i pins s σ H E I hf st hg;subst hP hw hK;obtain⟨f0,f1,f2,f3,f4,f5⟩:=hf it (by simp);exact wpAny_pyNext_range_end (I.ok.hd hc) st (by have:n<=i:=hg;omega) fun h' eb=>⟨rfl,I.turned (t':=s.toks) (fun b o hb e=>eb b o hb e) f0 f1 f3 f4 f5⟩
 self:=fun _ _ _ _ _ st h=>wpAny_pyIter_rangeiter st h
section
variable {X:Cx} {tg:Expr}
def K9 (K:Frag) (tl:TE):TI:=fun σ H R=>tl σ H fun x H1=>∃a,x= .ref a/\(∃xs,bJ K H1 a xs)/\R (IF K a) H1
def IK (K:Frag) (tl:TE):TI:=fun σ H R=>tl σ H fun x H1=>∃a,x= .ref a/\(∃xs,bG K H1 a xs)/\R (DY K a) H1
theorem JM (hl:PE X l tl):PI X tg l (K9 X.K tl):=by
 intro pins s σ H R I h;refine cE (hl pins s σ H _ I h) fun v s1 ⟨x,H1,I1,r1,q1⟩=>?_
 obtain⟨a,e,⟨xs,hq⟩,q⟩:=q1;subst e;cases r1;obtain⟨its,rv,p,hz⟩:=I1.list hq;refine wpAny_pyIter_list p.isList ?_;refine⟨s1.heap.objs.size,[s1.heap.objs.size],_,_,H1,rfl,I1.kept (t':=s1.toks) fun b o e=>get?_push_of_some _ e,DM a _,⟨_,get?_push_size _ rfl,rfl,rfl⟩,fun b hb=>?_,q⟩;have e:b=s1.heap.objs.size:=by simpa using hb
 subst e;exact I1.oG (le_refl _) (I1.bA.fresh (le_refl _))
theorem L5 (hl:PE X l tl):PI X tg l (IK X.K tl):=by
 intro pins s σ H R I h;refine cE (hl pins s σ H _ I h) fun v s1 ⟨x,H1,I1,r1,q1⟩=>?_
 obtain⟨a,e,⟨xs,hq⟩,q⟩:=q1;subst e;cases r1;obtain⟨its,rv,p,hz⟩:=I1.tuple hq;refine wpAny_pyIter_tuple (show s1.heap.IsTuple a its.toArray from p) ?_;refine⟨s1.heap.objs.size,[s1.heap.objs.size],_,_,H1,rfl,I1.kept (t':=s1.toks) fun b o e=>get?_push_of_some _ e,AE a _,⟨_,get?_push_size _ rfl,rfl,rfl⟩,fun b hb=>?_,q⟩;have e:b=s1.heap.objs.size:=by simpa using hb
 subst e;exact I1.oG (le_refl _) (I1.bA.fresh (le_refl _))
theorem FI {R:It->Hp->Prop} {hi:Int} {t u v:Tok} {tk:Nat} (I:Inv X pins σ H s) (h1: -(2^62)<=lo) (h2:lo<2^62) (h3: -(2^62)<=hi) (h4:hi<2^62)
  (q:R (J2 lo (hi - lo).toNat) H):wpAny (model X.prog X.w) X.A (pyIter (.ref s.heap.objs.size)) (SF X pins σ tg R) E {s with heap:=s.heap.push {cls:=.type "range",data:=.fields #[.int lo t,.int hi u,.int 1 v]},toks:=tk}:=by
 refine wpAny_pyIter_range (IsRange.new ..) (small_one h1 h2 h3 h4) ?_;have I1:Inv X pins σ H {s with heap:=s.heap.push {cls:=.type "range",data:=.fields #[.int lo t,.int hi u,.int 1 v]},toks:=tk}:=I.kept fun b o e=>get?_push_of_some _ e
 refine⟨(s.heap.push {cls:=.type "range",data:=.fields #[.int lo t,.int hi u,.int 1 v]}).objs.size,[(s.heap.push {cls:=.type "range",data:=.fields #[.int lo t,.int hi u,.int 1 v]}).objs.size],_,_,H,rfl,
  I1.kept (t':=tk) fun b o e=>get?_push_of_some _ e,zY _ lo (hi - lo).toNat,?_,fun b hb=>?_,q⟩
 .have e1:lo+((0:Nat):Int)*1=lo:=by simp
  have e2:(((hi - lo).toNat:Nat):Int) - ((0:Nat):Int)=Builtin.Range.rangeSize lo hi 1:=by rw[rangeSize_one];split<;>omega
  show IsRangeIter _ _ (lo+((0:Nat):Int)*1) ((((hi - lo).toNat:Nat):Int) - ((0:Nat):Int)) 1;rw[e1,e2];exact get?_push_size _ rfl
 .have e:b=(s.heap.push {cls:=.type "range",data:=.fields #[.int lo t,.int hi u,.int 1 v]}).objs.size:=by simpa using hb
  subst e;exact I1.oG (le_refl _) (I1.bA.fresh (le_refl _))
def QN (ta:TA):TI:=fun σ H R=>ta σ H fun vs H1=>∃j:Int,vs=[.int j]/\ -(2^62)<=j/\j<2^62/\R (J2 0 j.toNat) H1
theorem jF {a:Expr} {p:Pos} (hg:Gl X "range") (hm:X.mg "range"=none) (ha:PA X [a] ta) (hs:starEach [a] X.env=[(false,eval a X.env)]:=by rfl):PI X tg (.Call (.Name "range" p) [a] [] pos) (QN ta):=by
 intro pins s σ H R I h;refine Call_ (vL I hg hm boot_range (PyProof.Rows.callWith_type1 (cE (ha pos pins s σ H _ I h) fun us s1 ⟨vs,H1,I1,r1,q1⟩=>?_) hs rfl));obtain⟨j,e,q1,q2,q⟩:=q1;subst e;cases r1 with
 |cons r rr=>
  cases rr;obtain⟨t,rfl⟩:=r;exact call_range_1 (FI I1 (by omega) (by omega) q1 q2 (by simpa using q))
def PY (wi:TI) (g:TG) (tb:TS):TS:=fun D σ H=>wi σ H fun J H1=>∃W:Nat->Nat->St->Hp->Prop,(∃m,W 0 m σ H1)/\∀i m σ H,W i m σ H->
 (J.stop i H/\D.nx σ H)\/ (J.go i H/\∃N:St->Hp->Prop,(∀σ' H',N σ' H'->∃m',m'<m/\W (i+1) m' σ' H')/\∀x H',J.AY i H x H'->g x σ H' fun σ2 H2=>tb {D with nx:=N,ct:=N,bk:=D.nx} σ2 H2)
noncomputable def lL (fp:List Addr) (h:Heap):List (Addr×Obj):=fp.filterMap fun b=>(h.get? b).map fun o=>(b,o)
theorem dJ (hb:b∈fp) (e:h.get? b=some o):(b,o)∈lL fp h:=List.mem_filterMap.mpr ⟨b,hb,by rw[e];rfl⟩
theorem D0 {h:Heap} {p:Addr×Obj} (hp:p∈lL fp h):p.1∈fp/\h.get? p.1=some p.2:=by
 obtain⟨b,hb,e⟩:=List.mem_filterMap.mp hp;cases q:h.get? b with
 |none=>rw[q]at e;cases e
 |some o=>
  rw[q]at e;have e':(b,o)=p:=Option.some.inj e;subst e';exact⟨hb,q⟩
theorem Inv.pinned (I:Inv X pins σ H s) (hf:∀b∈fp,mQ X pins H b) (ho:∀b∈fp,∃o,s.heap.get? b=some o/\∀v,o.data≠ .cell v):Inv X (pins++lL fp s.heap) σ H s:=
 I.lY fun p hp=>(mem_append.mp hp).elim (fun z=>I.pin p (mem_append_right _ z)) fun z=>by
  obtain⟨hb,e⟩:=D0 z;obtain⟨f0,f1,f2,_⟩:=hf p.1 hb;obtain⟨o,e',d⟩:=ho p.1 hb;rw[e]at e';cases e'
  exact⟨e,f0,f1,f2,d⟩
theorem Inv.iM {pl:List (Addr×Obj)} (I:Inv X (pins++pl) σ H s):Inv X pins σ H s:=I.lY fun p hp=>I.pin p (mem_append_right _ (mem_append_left _ hp))
theorem dP {iter:Expr} {wi:TI} {g:TG} (hp:PassesOwn (model X.prog X.w) X.A X.env X.xe) (hc:X.calm=true) (hi:PI X tg iter wi) (hg:PG X tg g) (hb:DE X body tb)
  (hs:∀x,foldedSetIterable iter X.env x=pure x:=by intro _;rfl):PS X (.For tg iter body [] pos) (PY wi g tb):=by
 intro pins s σ H D I h;refine wpAny_For (cE (hi pins s σ H _ I h) fun v s1 h1=>cE h1 fun itv s2 h2=>?_) hs;obtain⟨it,fp,tn,J,H2,e,I2,T,st2,f2,W,⟨m0,w0⟩,turn⟩:=h2;subst e;have stat:∀{H':Hp},(∀b∈fp,H' b=none)->∀b∈fp,mQ X pins H' b:=fun hn b hb=>⟨hn b hb,(f2 b hb).2⟩
 refine codeAny_forLoop_any (fun n s'=>∃i σ' H',Inv X pins σ' H' s'/\tn i s'.heap/\(∀b∈fp,H' b=none)/\W i n σ' H') ?_ m0 ⟨0,σ,H2,I2,st2,fun b hb=>(f2 b hb).1,w0⟩;rintro n s3 ⟨i,σ3,H3,I3,st3,fr3,w3⟩;rcases turn i n σ3 H3 w3 with⟨stop,qn⟩|⟨go,N,hN,step⟩
 .refine wpAny_passesOwn hp (cE (T.done X rfl rfl rfl hc i pins s3 σ3 H3 X.xe I3 (stat fr3) st3 stop) fun r s4 ⟨hr,I4⟩=>?_);subst hr;exact wpAny_execs_nil ⟨σ3,H3,I4,qn⟩
 .refine wpAny_passesOwn hp (cE (T.item X rfl rfl rfl hc i pins s3 σ3 H3 X.xe I3 (stat fr3) st3 go) fun r s4 ⟨u,hr,h4⟩=>?_);subst hr;refine wpAny_passesOwn hp (cE h4 fun _ s5 ⟨x,H5,I5,r5,y5,st5,fr5⟩=>?_);have I5':=I5.pinned (stat fr5) (T.obj _ _ st5);refine wpAny_passesOwn hp (cE (hg _ s5 σ3 H5 x u _ I5' r5 (step x H5 y5)) fun _ s6 ⟨σ6,H6,I6,q6⟩=>?_);refine wpAny_passesOwn hp (cE (hb _ s6 σ6 H6 _ I6 q6) fun f s7 q7=>?_);have again:∀{σ7:St} {H7:Hp},Inv X (pins++lL fp s5.heap) σ7 H7 s7->N σ7 H7->∃m,m<n/\∃i σ' H',Inv X pins σ' H' s7/\tn i s7.heap/\(∀b∈fp,H' b=none)/\W i m σ' H':=fun{σ7 H7} I7 n7=>by
   obtain⟨m',hm,w7⟩:=hN σ7 H7 n7;refine⟨m',hm,i+1,σ7,H7,I7.iM,T.keep _ _ _ st5 fun b hb o e=>(I7.pin (b,o) (mem_append_right _ (mem_append_right _ (dJ hb e)))).1,fun b hb=>?_,w7⟩;obtain⟨o,e,d⟩:=T.obj _ _ st5 b hb;exact(I7.pin (b,o) (mem_append_right _ (mem_append_right _ (dJ hb e)))).2.1
  cases f with
  |next=>obtain⟨σ7,H7,I7,n7⟩:=q7;exact again I7 n7
  |cont=>obtain⟨σ7,H7,I7,n7⟩:=q7;exact again I7 n7
  |brk=>obtain⟨σ7,H7,I7,q7⟩:=q7;exact⟨σ7,H7,I7.iM,q7⟩
  |ret v=>obtain⟨x7,σ7,H7,I7,r7,q7⟩:=q7;exact⟨x7,σ7,H7,I7.iM,r7,q7⟩
end
theorem q5 {g:TG} {σ:St} {H:Hp} (Pv:Nat->St->Hp->Prop) (h0:Pv 0 σ H) (hl:∀i σ H,i<=xs.length->Pv i σ H->bJ K H a xs)
  (hs:∀i x σ H,xs[i]? =some x->Pv i σ H->g x σ H fun σ2 H2=>tb {D with nx:=Pv (i+1),ct:=Pv (i+1),bk:=D.nx} σ2 H2) (hd:∀σ H,Pv xs.length σ H->D.nx σ H):
  ∃W:Nat->Nat->St->Hp->Prop,(∃m,W 0 m σ H)/\∀i m σ H,W i m σ H->
   ((IF K a).stop i H/\D.nx σ H)\/ ((IF K a).go i H/\∃N:St->Hp->Prop,(∀σ' H',N σ' H'->∃m',m'<m/\W (i+1) m' σ' H')/\∀x H',(IF K a).AY i H x H'->g x σ H' fun σ2 H2=>tb {D with nx:=N,ct:=N,bk:=D.nx} σ2 H2):=by
 refine⟨fun i m σ H=>m=xs.length - i/\i<=xs.length/\Pv i σ H,⟨xs.length,by simp,zero_le _,h0⟩,?_⟩;rintro i m σ H ⟨rfl,hi,p⟩;have q:=hl i σ H hi p
 by_cases hlt:i<xs.length
 .refine .inr ⟨⟨xs,xs[i],q,by simp[hlt]⟩,Pv (i+1),fun σ' H' p'=>⟨xs.length - (i+1),by omega,rfl,hlt,p'⟩,fun x H' y=>?_⟩;obtain⟨e,y⟩:=y;subst e;exact hs i x σ _ (y xs q) p
 .have e:i=xs.length:=by omega
  subst e;exact .inl ⟨⟨xs,q,le_refl _⟩,hd σ H p⟩
theorem gZ {g:TG} {σ:St} {H:Hp} (Pv:Nat->St->Hp->Prop) (h0:Pv 0 σ H) (hl:∀i σ H,i<=xs.length->Pv i σ H->bG K H a xs)
  (hs:∀i x σ H,xs[i]? =some x->Pv i σ H->g x σ H fun σ2 H2=>tb {D with nx:=Pv (i+1),ct:=Pv (i+1),bk:=D.nx} σ2 H2) (hd:∀σ H,Pv xs.length σ H->D.nx σ H):
  ∃W:Nat->Nat->St->Hp->Prop,(∃m,W 0 m σ H)/\∀i m σ H,W i m σ H->
   ((DY K a).stop i H/\D.nx σ H)\/ ((DY K a).go i H/\∃N:St->Hp->Prop,(∀σ' H',N σ' H'->∃m',m'<m/\W (i+1) m' σ' H')/\∀x H',(DY K a).AY i H x H'->g x σ H' fun σ2 H2=>tb {D with nx:=N,ct:=N,bk:=D.nx} σ2 H2):=by
 refine⟨fun i m σ H=>m=xs.length - i/\i<=xs.length/\Pv i σ H,⟨xs.length,by simp,zero_le _,h0⟩,?_⟩;rintro i m σ H ⟨rfl,hi,p⟩;have q:=hl i σ H hi p
 by_cases hlt:i<xs.length
 .refine .inr ⟨⟨xs,xs[i],q,by simp[hlt]⟩,Pv (i+1),fun σ' H' p'=>⟨xs.length - (i+1),by omega,rfl,hlt,p'⟩,fun x H' y=>?_⟩;obtain⟨e,y⟩:=y;subst e;exact hs i x σ _ (y xs q) p
 .have e:i=xs.length:=by omega
  subst e;exact .inl ⟨⟨xs,q,le_refl _⟩,hd σ H p⟩
theorem oZ {g:TG} {σ:St} {H:Hp} (Pv:Nat->St->Hp->Prop) (h0:Pv 0 σ H)
  (hs:∀i σ H,i<n->Pv i σ H->g (.int (lo+i)) σ H fun σ2 H2=>tb {D with nx:=Pv (i+1),ct:=Pv (i+1),bk:=D.nx} σ2 H2) (hd:∀σ H,Pv n σ H->D.nx σ H):
  ∃W:Nat->Nat->St->Hp->Prop,(∃m,W 0 m σ H)/\∀i m σ H,W i m σ H->
   ((J2 lo n).stop i H/\D.nx σ H)\/ ((J2 lo n).go i H/\∃N:St->Hp->Prop,(∀σ' H',N σ' H'->∃m',m'<m/\W (i+1) m' σ' H')/\∀x H',(J2 lo n).AY i H x H'->g x σ H' fun σ2 H2=>tb {D with nx:=N,ct:=N,bk:=D.nx} σ2 H2):=by
 refine⟨fun i m σ H=>m=n - i/\i<=n/\Pv i σ H,⟨n,by simp,zero_le _,h0⟩,?_⟩;rintro i m σ H ⟨rfl,hi,p⟩
 by_cases hlt:i<n
 .refine .inr ⟨hlt,Pv (i+1),fun σ' H' p'=>⟨n - (i+1),by omega,rfl,hlt,p'⟩,fun x H' y=>?_⟩;obtain⟨e,y⟩:=y;subst e y;exact hs i σ _ hlt p
 .have e:i=n:=by omega
  subst e;exact .inl ⟨le_refl _,hd σ H p⟩
theorem yG {c:TT} {σ:St} {H:Hp} (Pv:St->Hp->Prop) (μ:St->Hp->Nat) (h0:Pv σ H)
  (hs:∀σ H,Pv σ H->c σ H fun b H1=>if b=true then tb {D with nx:=fun σ' H'=>Pv σ' H'/\μ σ' H'<μ σ H,ct:=fun σ' H'=>Pv σ' H'/\μ σ' H'<μ σ H,bk:=D.nx} σ H1 else D.nx σ H1)
  (mono:∀σ H Q Q',(∀b H1,Q b H1->Q' b H1)->c σ H Q->c σ H Q'):wO c tb D σ H:=by
 refine⟨fun m σ H=>m=μ σ H/\Pv σ H,⟨_,rfl,h0⟩,?_⟩;rintro m σ H ⟨rfl,p⟩;refine mono σ H _ _ (fun b H1 q=>?_) (hs σ H p);cases b with
 |true=>exact⟨_,fun σ' H' ⟨p',l⟩=>⟨_,l,rfl,p'⟩,q⟩
 |false=>exact q
abbrev R2:=V->V->Hp->VK->Prop
def nA (X:Cx) (f:Value->Value->Sem Value) (r:R2):Prop:=
 ∀(pins:List (Addr×Obj)) (s:Shared) (σ:St) (H:Hp) (x y:V) (v u:Value) (Q:VK),Inv X pins σ H s->RelV x v->RelV y u->r x y H Q->
  wpAny (model X.prog X.w) X.A (f v u) (EP X pins σ Q) X.xe s
def RL (X:Cx) (f:Value->Sem Value) (r:V->Hp->VK->Prop):Prop:=
 ∀(pins:List (Addr×Obj)) (s:Shared) (σ:St) (H:Hp) (x:V) (v:Value) (Q:VK),Inv X pins σ H s->RelV x v->r x H Q->
  wpAny (model X.prog X.w) X.A (f v) (EP X pins σ Q) X.xe s
def dR (X:Cx) (f:Value) (r:List V->Hp->VK->Prop):Prop:=
 ∀(pins:List (Addr×Obj)) (s:Shared) (σ:St) (H:Hp) (xs:List V) (us:List Value) (Q:VK),Inv X pins σ H s->Vals xs us->r xs H Q->
  wpAny (model X.prog X.w) X.A (call f us) (EP X pins σ Q) X.xe s
def R0 (X:Cx) (r:V->Hp->(Bool->Hp->Prop)->Prop):Prop:=
 ∀(pins:List (Addr×Obj)) (s:Shared) (σ:St) (H:Hp) (x:V) (v:Value) (Q:Bool->Hp->Prop),Inv X pins σ H s->RelV x v->r x H Q->
  wpAny (model X.prog X.w) X.A (truthy v) (TP X pins σ Q) X.xe s
def mT (r:R2) (ta tb:TE):TE:=fun σ H Q=>ta σ H fun x H1=>tb σ H1 fun y H2=>r x y H2 Q
def KU (r:V->Hp->VK->Prop) (ta:TE):TE:=fun σ H Q=>ta σ H fun x H1=>r x H1 Q
def rI (C:Int->Int->Prop) (g:Int->Int->V):R2:=fun x y H Q=>∃i j,x= .int i/\y= .int j/\C i j/\Q (g i j) H
def y6 (g:Int->Int->V):R2:=fun x y H Q=>∃i j,x= .int i/\y= .int j/\Q (g i j) H
def rU (g:Int->V):V->Hp->VK->Prop:=fun x H Q=>∃i,x= .int i/\Q (g i) H
section
variable {X:Cx} {a b c:Expr} {ta tb tc:TE} {pos:Pos}
theorem N8 (ha:PE X a ta) (hb:PE X b tb) {R:V->V->Hp->Prop} (I:Inv X pins σ H s)
  (h:ta σ H fun x H1=>tb σ H1 fun y H2=>R x y H2)
  (hf:∀v u s2 x y H2,Inv X pins σ H2 s2->RelV x v->RelV y u->R x y H2->wpAny (model X.prog X.w) X.A (f v u) Q X.xe s2):
  wpAny (model X.prog X.w) X.A (eval a X.env) (fun v s₁=>wpAny (model X.prog X.w) X.A (eval b X.env) (fun u s₂=>wpAny (model X.prog X.w) X.A (f v u) Q X.xe s₂) X.xe s₁) X.xe s:=by
 refine cE (ha pins s σ H _ I h) fun v s1 ⟨x,H1,I1,r1,q1⟩=>?_
 refine cE (hb pins s1 σ H1 _ I1 q1) fun u s2 ⟨y,H2,I2,r2,q2⟩=>?_
 exact hf v u s2 x y H2 I2 r1 r2 q2
theorem bI {op:Operator} (ho:nA X (binaryOp op) r) (ha:PE X a ta) (hb:PE X b tb):PE X (.BinOp a op b pos) (mT r ta tb):=by
 intro pins s σ H Q I h;exact wpAny_BinOp (N8 ha hb I h fun v u s2 x y H2 I2 rx ry q=>ho pins s2 σ H2 x y v u Q I2 rx ry q)
theorem BY {op:UnaryOp} {r:V->Hp->VK->Prop} (ho:RL X (unaryOp op) r) (ha:PE X a ta):PE X (.UnaryOp op a pos) (KU r ta):=by
 intro pins s σ H Q I h;exact UnaryOp_ (cE (ha pins s σ H _ I h) fun v s1 ⟨x,H1,I1,r1,q1⟩=>ho pins s1 σ H1 x v Q I1 r1 q1)
theorem PZ {C:Int->Int->Prop}
  (rule:∀(i j:Int) (t u:Tok) (s:Shared) (Q:Value->Shared->Prop) (E:Value->Shared->Prop),C i j->Q (.int (g i j) s.toks) {s with toks:=s.toks+1}->wpAny (model X.prog X.w) X.A (f (.int i t) (.int j u)) Q E s):
  nA X f (rI C fun i j=>.int (g i j)):=by
 intro pins s σ H x y v u Q I rx ry h;obtain⟨i,j,rfl,rfl,hc,q⟩:=h;obtain⟨t,rfl⟩:=rx;obtain⟨t',rfl⟩:=ry;exact rule i j t t' s _ _ hc ⟨.int (g i j),H,I.tok _,⟨_,rfl⟩,q⟩
theorem QQ
  (rule:∀(i j:Int) (t u:Tok) (s:Shared) (Q:Value->Shared->Prop) (E:Value->Shared->Prop),Q (.int (g i j) s.toks) {s with toks:=s.toks+1}->wpAny (model X.prog X.w) X.A (f (.int i t) (.int j u)) Q E s):
  nA X f (y6 fun i j=>.int (g i j)):=by
 intro pins s σ H x y v u Q I rx ry h;obtain⟨i,j,rfl,rfl,q⟩:=h;obtain⟨t,rfl⟩:=rx;obtain⟨t',rfl⟩:=ry;exact rule i j t t' s _ _ ⟨.int (g i j),H,I.tok _,⟨_,rfl⟩,q⟩
theorem NZ {g:Int->Int->Bool}
  (rule:∀(i j:Int) (t u:Tok) (s:Shared) (Q:Value->Shared->Prop) (E:Value->Shared->Prop),Q (.bool (g i j)) s->wpAny (model X.prog X.w) X.A (f (.int i t) (.int j u)) Q E s):
  nA X f (y6 fun i j=>.bl (g i j)):=by
 intro pins s σ H x y v u Q I rx ry h;obtain⟨i,j,rfl,rfl,q⟩:=h;obtain⟨t,rfl⟩:=rx;obtain⟨t',rfl⟩:=ry;exact rule i j t t' s _ _ ⟨.bl (g i j),H,I,rfl,q⟩
def C2 (i j:Int):Prop:=(-(2^64)<i/\i<2^64)\/ (-(2^64)<j/\j<2^64)
theorem C2.ok {i j:Int} (h:C2 i j):IntMulOk i j:=by
 rcases h with⟨h1,h2⟩|⟨h1,h2⟩
 .exact .of_left (intBits_le_64 h1 h2)
 .exact .of_right (intBits_le_64 h1 h2)
theorem fY:nA X (binaryOp .Add) (y6 fun i j=>.int (i+j)):=QQ fun _ _ _ _ _ _ _ q=>add_int q
theorem z5:nA X (binaryOp .Sub) (y6 fun i j=>.int (i - j)):=QQ fun _ _ _ _ _ _ _ q=>sub_int q
theorem kR:nA X (binaryOp .Mult) (rI C2 fun i j=>.int (i*j)):=PZ fun _ _ _ _ _ _ _ hc q=>mul_int q hc.ok
theorem lE:nA X (binaryOp .Mod) (rI (fun _ j=>0<j) fun i j=>.int (i % j)):=PZ fun i j _ _ _ _ _ hc q=>by
 have h1:(0:Int)<j:=hc;exact mod_int' (by omega) (by rw[Int.fmod_eq_emod_of_nonneg i (by omega)];exact q)
theorem SK {f:Value->Sem Value} {g:Int->Int}
  (rule:∀(i:Int) (t:Tok) (s:Shared) (Q:Value->Shared->Prop) (E:Value->Shared->Prop),Q (.int (g i) s.toks) {s with toks:=s.toks+1}->wpAny (model X.prog X.w) X.A (f (.int i t)) Q E s):
  RL X f (rU fun i=>.int (g i)):=by
 intro pins s σ H x v Q I rx h;obtain⟨i,rfl,q⟩:=h;obtain⟨t,rfl⟩:=rx;exact rule i t s _ _ ⟨.int (g i),H,I.tok _,⟨_,rfl⟩,q⟩
theorem uT:RL X (unaryOp .USub) (rU fun i=>.int (-i)):=SK fun _ _ _ _ _ q=>neg_int q
end
noncomputable def O6:V->V->Bool
 | .aZ,.aZ=>true| .aZ,.int _=>true| .int _,.aZ=>true| .aZ,.bl _=>true| .bl _,.aZ=>true| .aZ,.str _=>true| .str _,.aZ=>true
 | .int _,.int _=>true| .bl _,.bl _=>true| .str _,.str _=>true| .CO _,.CO _=>true
 | .int _,.str _=>true| .str _,.int _=>true| .bl _,.str _=>true| .str _,.bl _=>true
 |_,_=>false
def LG:R2:=fun x y H Q=>O6 x y=true/\Q (.bl (decide (x=y))) H
def LS:R2:=fun x y H Q=>O6 x y=true/\Q (.bl (!decide (x=y))) H
theorem B7 {i j:Int}:decide (V.int i=V.int j)=(i==j):=by
 rw[Bool.eq_iff_iff];simp
theorem EU {i j:Bool}:decide (V.bl i=V.bl j)=(i==j):=by
 rw[Bool.eq_iff_iff];simp
theorem B8 {i j:Str}:decide (V.str i=V.str j)=(i==j):=by
 rw[Bool.eq_iff_iff];simp
theorem B6 {i j:Array UInt8}:decide (V.CO i=V.CO j)=(i.toList==j.toList):=by
 rw[Bool.eq_iff_iff];cases i;cases j;simp
section
variable {X:Cx} {a b c:Expr} {ta tb tc:TE} {pos:Pos}
theorem bN {Q:VK} {k k':Bool} (I:Inv X pins σ H s) (q:Q (.bl k) H) (e:k=k'):EP X pins σ Q (.bool k') s:=by
 subst e;exact⟨.bl k,H,I,rfl,q⟩
theorem tS:nA X (compareOp .Eq) LG:=by
 intro pins s σ H x y v u Q I rx ry h;obtain⟨hs,q⟩:=h;cases x with
 |aZ=>
  cases rx;cases y with
  |aZ=>cases ry;exact PySem.EqNone.eq_none_none (bN I q (by simp))
  |bl j=>cases ry;exact PySem.EqNone.eq_none_bool (bN I q (by simp))
  |int j=>obtain⟨t',rfl⟩:=ry;exact PySem.EqNone.eq_none_int (bN I q (by simp))
  |str j=>obtain⟨t',rfl⟩:=ry;exact PySem.EqNone.eq_none_str (bN I q (by simp))
  |_=>exact absurd (show false=true from hs) Bool.false_ne_true
 |bl i=>
  cases rx;cases y with
  |aZ=>cases ry;exact PySem.EqNone.eq_bool_none (bN I q (by simp))
  |bl j=>cases ry;exact eq_bool (bN I q EU)
  |str j=>obtain⟨t',rfl⟩:=ry;exact PySem.EqMixed.eq_bool_str (bN I q (by simp))
  |_=>exact absurd (show false=true from hs) Bool.false_ne_true
 |int i=>
  obtain⟨t,rfl⟩:=rx;cases y with
  |aZ=>cases ry;exact PySem.EqNone.eq_int_none (bN I q (by simp))
  |int j=>obtain⟨t',rfl⟩:=ry;exact eq_int (bN I q B7)
  |str j=>obtain⟨t',rfl⟩:=ry;exact PySem.EqMixed.eq_int_str (bN I q (by simp))
  |_=>exact absurd (show false=true from hs) Bool.false_ne_true
 |str i=>
  obtain⟨t,rfl⟩:=rx;cases y with
  |aZ=>cases ry;exact PySem.EqNone.eq_str_none (bN I q (by simp))
  |bl j=>cases ry;exact PySem.EqMixed.eq_str_bool (bN I q (by simp))
  |int j=>obtain⟨t',rfl⟩:=ry;exact PySem.EqMixed.eq_str_int (bN I q (by simp))
  |str j=>obtain⟨t',rfl⟩:=ry;exact eq_str (bN I q B8)
  |_=>exact absurd (show false=true from hs) Bool.false_ne_true
 |CO i=>
  obtain⟨t,rfl⟩:=rx;cases y with
  |CO j=>obtain⟨t',rfl⟩:=ry;exact PySem.W.eq_bytes (bN I q B6)
  |_=>exact absurd (show false=true from hs) Bool.false_ne_true
 |_=>cases y<;>exact absurd (show false=true from hs) Bool.false_ne_true
theorem x6:nA X (compareOp .NotEq) LS:=by
 intro pins s σ H x y v u Q I rx ry h;obtain⟨hs,q⟩:=h;cases x with
 |aZ=>
  cases rx;cases y with
  |aZ=>cases ry;exact PySem.EqNone.ne_none_none (bN I q (by simp))
  |bl j=>cases ry;exact PySem.EqNone.ne_none_bool (bN I q (by simp))
  |int j=>obtain⟨t',rfl⟩:=ry;exact PySem.EqNone.ne_none_int (bN I q (by simp))
  |str j=>obtain⟨t',rfl⟩:=ry;exact PySem.EqNone.ne_none_str (bN I q (by simp))
  |_=>exact absurd (show false=true from hs) Bool.false_ne_true
 |bl i=>
  cases rx;cases y with
  |aZ=>cases ry;exact PySem.EqNone.ne_bool_none (bN I q (by simp))
  |bl j=>cases ry;exact ne_bool (bN I q (congrArg not EU))
  |str j=>obtain⟨t',rfl⟩:=ry;exact PySem.EqMixed.ne_bool_str (bN I q (by simp))
  |_=>exact absurd (show false=true from hs) Bool.false_ne_true
 |int i=>
  obtain⟨t,rfl⟩:=rx;cases y with
  |aZ=>cases ry;exact PySem.EqNone.ne_int_none (bN I q (by simp))
  |int j=>obtain⟨t',rfl⟩:=ry;exact ne_int (bN I q (congrArg not B7))
  |str j=>obtain⟨t',rfl⟩:=ry;exact PySem.EqMixed.ne_int_str (bN I q (by simp))
  |_=>exact absurd (show false=true from hs) Bool.false_ne_true
 |str i=>
  obtain⟨t,rfl⟩:=rx;cases y with
  |aZ=>cases ry;exact PySem.EqNone.ne_str_none (bN I q (by simp))
  |bl j=>cases ry;exact PySem.EqMixed.ne_str_bool (bN I q (by simp))
  |int j=>obtain⟨t',rfl⟩:=ry;exact PySem.EqMixed.ne_str_int (bN I q (by simp))
  |str j=>obtain⟨t',rfl⟩:=ry;exact ne_str (bN I q (congrArg not B8))
  |_=>exact absurd (show false=true from hs) Bool.false_ne_true
 |CO i=>
  obtain⟨t,rfl⟩:=rx;cases y with
  |CO j=>obtain⟨t',rfl⟩:=ry;exact PySem.W.ne_bytes (bN I q (congrArg not B6))
  |_=>exact absurd (show false=true from hs) Bool.false_ne_true
 |_=>cases y<;>exact absurd (show false=true from hs) Bool.false_ne_true
theorem O8:nA X (compareOp .Lt) (y6 fun i j=>.bl (decide (i<j))):=NZ fun _ _ _ _ _ _ _ q=>lt_int q
theorem LP:nA X (compareOp .Gt) (y6 fun i j=>.bl (decide (j<i))):=NZ fun _ _ _ _ _ _ _ q=>gt_int q
theorem PQ:nA X (compareOp .GtE) (y6 fun i j=>.bl (decide (j<=i))):=NZ fun _ _ _ _ _ _ _ q=>ge_int q
theorem DH:nA X (compareOp .In) (fun x y H Q=>∃i j,x= .str i/\y= .str j/\Q (.bl (!(Builtin.Str.occurrences j i 0 j.length 1).isEmpty)) H):=by
 intro pins s σ H x y v u Q I rx ry h;obtain⟨i,j,rfl,rfl,q⟩:=h;obtain⟨t,rfl⟩:=rx;obtain⟨t',rfl⟩:=ry;exact in_str (bN I q rfl)
theorem OA:nA X (compareOp .Is) (fun x y H Q=>y= .aZ/\Q (.bl (decide (x= .aZ))) H):=by
 intro pins s σ H x y v u Q I rx ry h;obtain⟨rfl,q⟩:=h;cases ry;refine is_none_gen (bN I q ?_);cases x<;>first
  |(cases rx;rfl)
  |(obtain⟨t,rfl⟩:=rx;rfl)
theorem kB:nA X (compareOp .IsNot) (fun x y H Q=>y= .aZ/\Q (.bl (!decide (x= .aZ))) H):=by
 intro pins s σ H x y v u Q I rx ry h;obtain⟨rfl,q⟩:=h;cases ry;refine isnot_none_gen (bN I q ?_);cases x<;>first
  |(cases rx;rfl)
  |(obtain⟨t,rfl⟩:=rx;rfl)
theorem cL (b:Expr) {op:CmpOp} (h:op≠ .In:=by decide) (h2:op≠ .NotIn:=by decide):behindInMarks op b=false:=by
 have e1:(op==CmpOp.In)=false:=by cases op<;>first|rfl|exact absurd rfl h
 have e2:(op==CmpOp.NotIn)=false:=by cases op<;>first|rfl|exact absurd rfl h2
 cases b<;>simp[behindInMarks,e1,e2]
theorem lV (ho:nA X (compareOp op) r) (ha:PE X a ta) (hb:PE X b tb) (hm:behindInMarks op b=false):PE X (.Compare a [op] [b] pos) (mT r ta tb):=by
 intro pins s σ H Q I h;exact wpAny_Compare1 (N8 ha hb I h fun v u s2 x y H2 I2 rx ry q=>ho pins s2 σ H2 x y v u Q I2 rx ry q) hm
def jB (t:TE):TT:=fun σ H Q=>t σ H fun x H'=>∃k,x= .bl k/\Q k H'
theorem bD (ho:nA X (compareOp op) r) (ha:PE X a ta) (hb:PE X b tb) (hm:behindInMarks op b=false):PT X (.Compare a [op] [b] pos) (jB (mT r ta tb)):=by
 intro pins s σ H Q I h;refine wpAny_isTrue_Compare1 (cE (ha pins s σ H _ I h) fun v s1 ⟨x,H1,I1,r1,q1⟩=>cE (hb pins s1 σ H1 _ I1 q1) fun u s2 ⟨y,H2,I2,r2,q2⟩=>
  cE (ho pins s2 σ H2 x y v u _ I2 r1 r2 q2) fun c s3 ⟨z,H3,I3,r3,k,e,q3⟩=>?_) hm
 subst e;cases r3;exact wpAny_truthy_bool ⟨H3,I3,q3⟩
def PF (K:Frag) (x:V) (H:Hp) (k:Bool):Prop:=
 match x with
 | .aZ=>k=false
 | .bl b=>k=b
 | .int i=>k=(i !=0)
 | .str y=>y.length<=sizeLine/\k=((y.length:Int) !=0)
 | .CO y=>y.size<=sizeLine/\k=((y.size:Int) !=0)
 | .ref p=>(∃xs,bJ K H p xs/\k=!xs.isEmpty)\/ (∃xs,bG K H p xs/\k=!xs.isEmpty)\/ ∃kvs ep,H p=some (.dK kvs ep)/\k=!kvs.isEmpty
 |_=>False
theorem zT {kvs:List (κ×V)} {vs:List (κ×Value)} (r:KV kvs vs):(!vs.isEmpty)=!kvs.isEmpty:=by
 cases r<;>rfl
theorem qU {its:List Value} (r:Vals xs its):(!its.toArray.isEmpty)=!xs.isEmpty:=by
 cases r<;>simp
theorem mZ:(sizeLine:Nat)<2^63:=by rw[sizeLine_eq];decide
theorem MR:R0 X (fun x H Q=>∃k,PF X.K x H k/\Q k H):=by
 intro pins s σ H x v Q I rx h;obtain⟨k,e,q⟩:=h;have hl:=mZ;have hs:sizeLine=16777216:=sizeLine_eq;cases x with
 |aZ=>
  cases rx;have e':k=false:=e;subst e';exact truthy_none ⟨H,I,q⟩
 |bl b=>
  cases rx;have e':k=b:=e;subst e';exact wpAny_truthy_bool ⟨H,I,q⟩
 |int i=>
  obtain⟨t,rfl⟩:=rx;have e':k=(i !=0):=e;subst e';exact PySem.P.truthy_int ⟨H,I,q⟩
 |str y=>
  obtain⟨t,rfl⟩:=rx;obtain⟨hy,e'⟩:y.length<=sizeLine/\k=((y.length:Int) !=0):=e;subst e';exact PySem.P.truthy_str (by omega) ⟨H,I.tok _,q⟩
 |CO y=>
  obtain⟨t,rfl⟩:=rx;obtain⟨hy,e'⟩:y.size<=sizeLine/\k=((y.size:Int) !=0):=e;subst e';exact PySem.W.truthy_bytes (by omega) ⟨H,I.tok _,q⟩
 | ref p=>
  cases rx;have e':(∃xs,bJ X.K H p xs/\k=!xs.isEmpty)\/ (∃xs,bG X.K H p xs/\k=!xs.isEmpty)\/ ∃kvs ep,H p=some (.dK kvs ep)/\k=!kvs.isEmpty:=e;rcases e' with⟨xs,hx,e'⟩|⟨xs,hx,e'⟩|⟨kvs,ep,hx,e'⟩
  .subst e';obtain⟨its,r,pl,hz⟩:=I.list hx;have hlen:=r.length;exact wpAny_truthy_list pl.isList (by simp only[size_toArray];omega) ⟨H,I.tok _,by rw[qU r];exact q⟩
  .subst e';obtain⟨its,r,pl,hz⟩:=I.tuple hx;have hlen:=r.length;exact truthy_tuple pl (by simp only[size_toArray];omega) ⟨H,I.tok _,by rw[qU r];exact q⟩
  .subst e';obtain⟨hz,hS,vs,r,m⟩:kvs.length<=sizeLine/\(p==sysModules)=false/\∃vs,KV kvs vs/\s.heap.DictAt (bH X.prog X.w) p vs ep:=I.bA p _ hx;have hlen:kvs.length=vs.length:=Paired.length r;exact wpAny_truthy_dict hS m.dictOf (by omega) ⟨H,I.tok _,by rw[zT r];exact q⟩
 |_=>exact(show False from e).elim
theorem gL (ha:PE X a ta) (he:∀whole,isTrue a X.env whole=(do let v<-whole;standAt a.pos;holding [v] (truthy v))):
  PT X a (fun σ H Q=>ta σ H fun x H'=>∃k,PF X.K x H' k/\Q k H'):=by
 intro pins s σ H Q I h;exact isTrue_plain (cE (ha pins s σ H _ I h) fun v s1 ⟨x,H1,I1,r1,q1⟩=>MR pins s1 σ H1 x v Q I1 r1 q1) (he _)
theorem eR:nA X (binaryOp .Add) (fun x y H Q=>∃i j,x= .str i/\y= .str j/\i.length+j.length<=sizeLine/\Q (.str (i++j)) H):=by
 intro pins s σ H x y v u Q I rx ry h;obtain⟨i,j,rfl,rfl,hz,q⟩:=h;obtain⟨t,rfl⟩:=rx;obtain⟨t',rfl⟩:=ry;exact add_str (fun t' tk=>⟨.str (i++j),H,I.tok _,⟨_,rfl⟩,q⟩) hz
theorem vals1 {x:V} (r:Vals [x] us):∃u,us=[u]/\RelV x u:=by
 cases r with
 |cons r1 r2=>cases r2;exact⟨_,rfl,r1⟩
theorem vals2 {x:V} (r:Vals [x,y] us):∃u w',us=[u,w']/\RelV x u/\RelV y w':=by
 cases r with
 |cons r1 r2=>
  cases r2 with
  |cons r3 r4=>cases r4;exact⟨_,_,rfl,r1,r3⟩
theorem CZ (hc:X.calm=true):dR X (.builtin "max") (fun xs H Q=>∃i j,xs=[.int i,.int j]/\Q (.int (if j>i then j else i)) H):=by
 intro pins s σ H xs us Q I r h;obtain⟨i,j,rfl,q⟩:=h;obtain⟨u,w',rfl,⟨t,rfl⟩,⟨t',rfl⟩⟩:=vals2 r;refine max_two_ints (I.ok.hd hc) fun h' tk k=>⟨_,H,I.kept k,?_,q⟩
 by_cases hj:j>i
 .rw[if_pos hj,if_pos hj];exact⟨_,rfl⟩
 .rw[if_neg hj,if_neg hj];exact⟨_,rfl⟩
theorem CL (hc:X.calm=true):dR X (.builtin "min") (fun xs H Q=>∃i j,xs=[.int i,.int j]/\Q (.int (if j<i then j else i)) H):=by
 intro pins s σ H xs us Q I r h;obtain⟨i,j,rfl,q⟩:=h;obtain⟨u,w',rfl,⟨t,rfl⟩,⟨t',rfl⟩⟩:=vals2 r;refine min_two_ints (I.ok.hd hc) fun h' tk k=>⟨_,H,I.kept k,?_,q⟩
 by_cases hj:j<i
 .rw[if_pos hj,if_pos hj];exact⟨_,rfl⟩
 .rw[if_neg hj,if_neg hj];exact⟨_,rfl⟩
theorem DB:dR X (.type "int") (fun xs H Q=>(∃i,xs=[.int i]/\Q (.int i) H)\/ ∃k,xs=[.bl k]/\Q (.int (if k then 1 else 0)) H):=by
 intro pins s σ H xs us Q I r h;rcases h with⟨i,rfl,q⟩|⟨k,rfl,q⟩
 .obtain⟨u,rfl,t,rfl⟩:=vals1 r;exact call_int_int ⟨.int i,H,I,⟨_,rfl⟩,q⟩
 .obtain⟨u,rfl,r1⟩:=vals1 r;cases r1;exact call_int_bool ⟨.int (if k then 1 else 0),H,I.tok _,⟨_,rfl⟩,q⟩
end
theorem oJ.some_of {v:V} {o:Option Value} (r:oJ (some v) o):∃u,o=some u/\RelV v u:=by
 cases o with
 |none=>exact(show False from r).elim
 |some u=>exact⟨u,rfl,r⟩
structure fD (k:Nat) (A:Around):Prop where
 hd:A.handled=none
 dp:A.depth+3*k+5<recursionLimit
 un:A.units+16*k+200<cLine
 gd:A.guards=some []
theorem fD.mono (r:fD k A) (h:j<=k):fD j A:=⟨r.hd,by have:=r.dp;omega,by have:=r.un;omega,r.gd⟩
theorem fD.deeper (r:fD (k+1) A) (env:Env):fD k (A.deeper env):=
 ⟨r.hd,by have:=r.dp;show A.depth+1+3*k+5<_;omega,by have:=r.un;show A.units+3+16*k+200<_;omega,r.gd⟩
theorem fD.depth (r:fD k A):A.depth<recursionLimit:=by have:=r.dp;omega
theorem fD.units (r:fD k A):A.units+64<cLine:=by have:=r.un;omega
def rQ:TA:=fun _ H Q=>Q [] H
def jK (ta:TE) (tr:TA):TA:=fun σ H Q=>ta σ H fun x H1=>tr σ H1 fun xs H2=>Q (x::xs) H2
section
variable {X:Cx} {e:Expr} {es:List Expr} {te:TE} {t:TA} {pos:Pos}
theorem aD:PA X [] rQ:=fun _ _ _ _ H Q I h=>Calls.spliced_nil ⟨[],H,I,.nil,h⟩
theorem aA (ha:PE X e te) (hr:PA X es t) (hs:starEach (e::es) X.env=(false,eval e X.env)::starEach es X.env:=by rfl):PA X (e::es) (jK te t):=by
 intro pos pins s σ H Q I h;rw[hs];show wpAny _ _ (spliced ((false,eval e X.env)::backTo pos (starEach es X.env))) _ _ s;refine Calls.spliced_cons (cE (ha pins s σ H _ I h) fun u s1 ⟨x,H1,I1,r1,q1⟩=>?_);exact cE (hr pos pins s1 σ H1 _ I1 q1) fun us s2 ⟨xs,H2,I2,r2,q2⟩=>⟨x::xs,H2,I2,.cons r1 r2,q2⟩
def x3 (t:TA):TE:=fun σ H Q=>t σ H fun xs H1=>xs.length<=sizeLine/\∀p,H1 p=none->Q (.ref p) (upd H1 p (.tup xs))
def wW (t:TA):TE:=fun σ H Q=>t σ H fun xs H1=>xs.length<=sizeLine/\∀p,H1 p=none->Q (.ref p) (upd H1 p (.lst xs))
theorem bE {x1} (h:PA X es t):PE X (.Tuple es x1 pos) (x3 t):=by
 intro pins s σ H Q I hq;refine wpAny_Tuple_spliced (cE (h pos pins s σ H _ I hq) fun us s1 ⟨xs,H1,I1,r,z,q⟩=>⟨by rw[<-r.length];exact z,?_⟩);have hf:H1 s1.heap.objs.size=none:=I1.bA.fresh (le_refl _);refine⟨.ref s1.heap.objs.size,upd H1 s1.heap.objs.size (.tup xs),I1.laid (t':=s1.toks) (fun b u e=>get?_push_of_some _ e) (le_refl _) ?_,rfl,q _ hf⟩;exact⟨z,us,r,oI.new _ _⟩
theorem gR (h:PA X es t):PE X (.List es pos) (wW t):=by
 intro pins s σ H Q I hq;refine wpAny_List_spliced (cE (h pos pins s σ H _ I hq) fun us s1 ⟨xs,H1,I1,r,z,q⟩=>⟨by rw[<-r.length];exact z,?_⟩);have hf:H1 s1.heap.objs.size=none:=I1.bA.fresh (le_refl _);refine⟨.ref s1.heap.objs.size,upd H1 s1.heap.objs.size (.lst xs),I1.laid (t':=s1.toks) (fun b u e=>get?_push_of_some _ e) (le_refl _) ?_,rfl,q _ hf⟩;exact⟨z,us,0,r,get?_push_size _ rfl⟩
end
abbrev Sp:=List V->Hp->VK->XK->Prop
abbrev DK:=List Env->Hp->Shared->XK->Value->Shared->Prop
structure JD (P:Program) (w:World) (K:Frag) (mg:Str->Option Value) (base:Heap) (A:Around) (outer:List Env) (s:Shared) (H:Hp):Prop where
 frames:A.frames=some outer
 mod:Mod K mg base
 bs:∀b o,base.get? b=some o->s.heap.get? b=some o/\H b=none
 KC:base.objs.size<=s.heap.objs.size
 qJ:s.heap.FunFrames base outer
 MP:∀b∈D5 outer,H b=none
 bA:kC P w H s.heap
 bare:AllBare s.gens
def CE (outer:List Env) (P:Program) (w:World) (H:Hp) (s:Shared) (Q:VK) (u:Value) (s':Shared):Prop:=
 ∃v H',s'.os=s.os/\AllBare s'.gens/\Un (D5 outer) [] H H' s.heap s'.heap/\kC P w H' s'.heap/\RelV v u/\Q v H'
def CR (CX:DK) (outer:List Env) (P:Program) (w:World) (H:Hp) (s:Shared) (Q:VK) (E:XK) (r:Result) (s':Shared):Prop:=
 match r with
 | .ok (.ret u)=>CE outer P w H s Q u s'
 | .ok _=>False
 | .error e=>CX outer H s E e s'
structure aV (P:Program) (w:World) (K:Frag) (mg:Str->Option Value) (base:Heap) (CX:DK) (k:Nat) (f:Addr) (fd:FuncData) (ps:List Str) (sp:Sp):Prop where
 len:∀vs H Q E,sp vs H Q E->vs.length=ps.length
 run:∀(A:Around) (outer:List Env) (s:Shared) (H:Hp) (args:Args) (us:List Value) (vs:List V) (Q:VK) (E:XK),fD k A->JD P w K mg base A outer s H->BindsTo s fd args (ps.zip us)->Vals vs us->sp vs H Q E->
  codeAny (model P w) A (.call (.ref f) args) (CR CX outer P w H s Q E) s
section
variable {X:Cx} {pins:List (Addr×Obj)} {σ:St} {H:Hp} {s s':Shared}
theorem Inv.RF (I:Inv X pins σ H s):JD X.prog X.w X.K X.mg X.base X.A X.stack s H:=
 ⟨I.ok.frames,I.ok.mod,I.bs,le_trans I.ok.KC I.sz,I.stack,I.CB,I.bA,I.bare⟩
theorem Inv.after {Q:VK} (I:Inv X pins σ H s) (h:CE X.stack X.prog X.w H s Q u s'):EP X pins σ Q u s':=by
 obtain⟨v,H',os,bare,un,bA,r,q⟩:=h;obtain⟨hh,g,d,t,os'⟩:=s';obtain rfl:os'=s.os:=os;exact⟨v,H',I.call (h':=hh) (g':=g) (d':=d) (t':=t) (ch:=[]) un bA bare (fun b z=>absurd z (by simp)),r,q⟩
end
def nD (sp:Sp) (dvs:List V) (E:XK) (t:TA):TE:=fun σ H Q=>t σ H fun vs H1=>sp (vs++dvs) H1 Q E
def Binds (K:Frag) (fd:FuncData) (ps:List Str) (ds:List Value):Prop:=
 ∀(s:Shared) (us:List Value),K.In s.heap->(us++ds).length=ps.length->BindsTo s fd ⟨us,[]⟩ (ps.zip (us++ds))
theorem Binds.all {fd:FuncData} (h:∀us:List Value,us.length=ps.length->bindArgs fd ⟨us,[]⟩=pure (ps.zip us)):Binds K fd ps []:=fun s us _ hl=>by
 rw[append_nil]at hl⊢
 exact .of_eq (h us hl)
def Passes (CX:DK) (X:Cx) (E:XK):Prop:=∀(pins:List (Addr×Obj)) (σ:St) (H:Hp) (s:Shared) (e:Value) (s':Shared),Inv X pins σ H s->CX X.stack H s E e s'->X.xe e s'
section
variable {X:Cx} {CX:DK} {k:Nat} {f C:Addr} {fd:FuncData} {ps:List Str} {sp:Sp} {dvs:List V} {ds:List Value} {E:XK} {x m:Str} {p pos apos:Pos} {e o:Expr} {es:List Expr} {ta:TE} {t:TA}
theorem NY {Q:VK} {vs:List V} (F:aV X.prog X.w X.K X.mg X.base CX k f fd ps sp) (hr:fD k X.A) (hb:Binds X.K fd ps ds) (hd:Vals dvs ds) (hx:Passes CX X E)
  (I:Inv X pins σ H s) (r:Vals vs us) (h:sp (vs++dvs) H Q E):wpAny (model X.prog X.w) X.A (call (.ref f) us) (EP X pins σ Q) X.xe s:=by
 have r2:Vals (vs++dvs) (us++ds):=r.append hd;have hl:(us++ds).length=ps.length:=by rw[<-r2.length];exact F.len _ _ _ _ h
 refine wpAny_call (codeAny_mono (F.run X.A X.stack s H ⟨us,[]⟩ (us++ds) (vs++dvs) Q E hr I.RF (hb s us I.OH hl) r2 h) fun r s' hq=>?_);cases r with
 |error e=>exact hx pins σ H s e s' I hq
 |ok fl=>
  cases fl with
  |ret u=>exact I.after hq
  |next=>exact False.elim hq
  |brk=>exact False.elim hq
  |cont=>exact False.elim hq
theorem IG (F:aV X.prog X.w X.K X.mg X.base CX k f fd ps sp) (hr:fD k X.A) (hg:Gl X x) (hm:X.mg x=some (.ref f)) (hk:keepIn X.K (.ref f)=true) (hb:Binds X.K fd ps ds) (hd:Vals dvs ds) (hx:Passes CX X E)
  (ha:PA X (e::es) t) (hdb:(x==("__debug__":Str))=false:=by decide) (he:starEach (e::es) X.env=(false,eval e X.env)::starEach es X.env:=by rfl) (hpl:(backTo pos (starEach es X.env)).any (·.1)=false:=by rfl):
  PE X (.Call (.Name x p) (e::es) [] pos) (nD sp dvs E t):=by
 intro pins s σ H Q I h;refine wpAny_Call_Name_kw (BO I hg hm ?_ hdb);refine PySem.W.callWith_K (h₀:=X.base) I.ok.mod.RK hk (cE (ha pos pins s σ H _ I h) fun us s1 ⟨vs,H1,I1,r,q⟩=>⟨I1.OH,?_⟩) he hpl;exact NY F hr hb hd hx I1 r q
end
structure aU (N P:List Str) (sc:Scope):Prop where
 kind:sc.kind= .function
 co:sc.isCoroutine=false
 gen:sc.isGenerator=false
 nd:N.Nodup
 pre:N.take P.length=P
 par:∀x∈P,sc.names.lookup x=some .local\/ sc.names.lookup x=some .cell
 L8:∀y∈sc.names,y.2≠ .free
theorem uG:∀{binds:List (Str×Value)} {m:Str->Option Value},(∀v,(x,v)∉binds)->bindL kindOf binds m x=m x
 |[],_,_=>rfl
 | (n,v)::r,m,h=>by
  unfold bindL;rw[uG fun w hw=>h w (mem_cons_of_mem _ hw)];split
  .have:x≠n:=by rintro rfl;exact h v mem_cons_self
   simp[this]
  .rfl
theorem sX:∀{binds:List (Str×Value)} {m:Str->Option Value},(∀v,(x,v)∉binds)->bindC kindOf binds m x=m x
 |[],_,_=>rfl
 | (n,v)::r,m,h=>by
  unfold bindC;rw[sX fun w hw=>h w (mem_cons_of_mem _ hw)];split
  .rfl
  .have:x≠n:=by rintro rfl;exact h v mem_cons_self
   simp[this]
theorem tO:∀{P:List Str} {vs:List Value} {i:Nat} {m:Str->Option Value},P.Nodup->P[i]? =some x->vs[i]? =some v->kindOf x=some .local->
  bindL kindOf (P.zip vs) m x=some v
 |[],_,_,_,_,h,_,_=>by simp at h
 |_::_,[],_,_,_,_,h,_=>by simp at h
 |p::P,w::vs,0,m,nd,h1,h2,hk=>by
  simp at h1 h2;subst h1;subst h2
  show bindL kindOf ((p,w)::P.zip vs) m p=_;unfold bindL;rw[uG fun v hv=>(nodup_cons.mp nd).1 (of_mem_zip hv).1,if_pos hk];simp
 |p::P,w::vs,i+1,m,nd,h1,h2,hk=>by
  show bindL kindOf ((p,w)::P.zip vs) m x=_;unfold bindL;exact tO (i:=i) (nodup_cons.mp nd).2 (by simpa using h1) (by simpa using h2) hk
theorem uM:∀{P:List Str} {vs:List Value} {i:Nat} {m:Str->Option Value},P.Nodup->P[i]? =some x->vs[i]? =some v->kindOf x≠some .local->
  bindC kindOf (P.zip vs) m x=some v
 |[],_,_,_,_,h,_,_=>by simp at h
 |_::_,[],_,_,_,_,h,_=>by simp at h
 |p::P,w::vs,0,m,nd,h1,h2,hk=>by
  simp at h1 h2;subst h1;subst h2
  show bindC kindOf ((p,w)::P.zip vs) m p=_;unfold bindC;rw[sX fun v hv=>(nodup_cons.mp nd).1 (of_mem_zip hv).1,if_neg hk];simp
 |p::P,w::vs,i+1,m,nd,h1,h2,hk=>by
  show bindC kindOf ((p,w)::P.zip vs) m x=_;unfold bindC;exact uM (i:=i) (nodup_cons.mp nd).2 (by simpa using h1) (by simpa using h2) hk
noncomputable def start (N:List Str) (vs:List V):St:=vs.map some++List.replicate (N.length - vs.length) none
noncomputable def AK (CX:DK) (P:Program) (w:World) (K:Frag) (mg:Str->Option Value) (base:Heap) (N:List Str) (qual:Str) (scope:Scope) (f:Addr) (cd:Value) (A:Around) (outer:List Env) (s:Shared) (H:Hp) (E:XK):Cx where
 prog:=P
 w:=w
 K:=K
 mg:=mg
 base:=base
 A:=A.deeper (envOfC qual scope s.heap.objs.size f cd)
 N:=N
 iJ:=s
 FA:=H
 env:=envOfC qual scope s.heap.objs.size f cd
 outer:=outer
 stack:=envOfC qual scope s.heap.objs.size f cd::outer
 ex:=[]
 calm:=true
 fn:=fun _=>true
 pn:=[]
 xe:=fun e s'=>wpAny (model P w) (A.deeper (envOfC qual scope s.heap.objs.size f cd)) (leaving (envOfC qual scope s.heap.objs.size f cd) e) (fun _ s''=>CX outer H s E e s'') (fun e' s''=>CX outer H s E e' s'') s'
theorem yU {sc:Scope} (h:sc.names.lookup x=some .cell):∃c,(cellsFrom n sc.names []).lookup x=some c:=by
 have q:=PySem.W.cellsFrom_some sc.names n [] (.inl h);exact isSome_iff_exists.mp q
theorem DU {P:Program} {f:Addr} {cd:Value} {outer:List Env} {s s1:Shared} {E:XK} {vs:List V}
  (S:aU N ps scope) (hd:A.handled=none) (e0:JD P w K mg base A outer s H) (hl:vs.length=ps.length) (r:Vals vs us)
  (x:InCallC s s.heap.objs.size (bindL (envOfC qual scope s.heap.objs.size f cd).kindOf (ps.zip us) fun _=>none) (cellsFrom (s.heap.objs.size+1) scope.names []) (bindC (envOfC qual scope s.heap.objs.size f cd).kindOf (ps.zip us) fun _=>none) s1):
  Inv (AK CX P w K mg base N qual scope f cd A outer s H E) [] (start N vs) H s1:=by
 have hpl:ps.length<=N.length:=by have:=congrArg List.length S.pre;rw[length_take]at this;omega
 obtain⟨h1,tk,rfl,hk⟩:=x.done;have A8:∀b:Addr,b∉(AK CX P w K mg base N qual scope f cd A outer s H E).ex:=fun b z=>absurd (show b∈([]:List Addr)from z) (by simp)
 refine⟨⟨e0.mod,S.kind,rfl,rfl,le_refl _,fun y z c h1 h2=>?_,fun y hy=>?_,fun y c _ h=>?_,fun _=>hd,Around.frames_deeper e0.frames,.inr ⟨rfl,rfl⟩,fun b z=>absurd z (A8 b),e0.bs,e0.KC,fun b _ _=>A8 b,fun b z=>absurd z (A8 b),e0.qJ,e0.MP⟩,
  rfl,e0.bare,Un.kept hk,⟨_,x.toInCall.ns,fun i y v h1 h2 h3=>?_⟩,fun y c h=>⟨_,x.cell y c h⟩,e0.bA.fresh (le_refl _),fun y c h=>?_,fun p hp=>absurd (show p∈([]:List (Addr×Obj))from hp) (by simp),e0.bA.kept hk,?_⟩
 .exact name_of_addr x.apart (PySem.mem_of_lookup h1) (PySem.mem_of_lookup h2)
 .have hy:scope.names.lookup y=some .cell\/ scope.names.lookup y=some .free:=hy;rcases hy with hy|hy
  .exact yU hy
  .exact absurd rfl (S.L8 _ (PySem.mem_of_lookup hy))
 .exact le_of_lt (x.above y c (PySem.mem_of_lookup h))
 .have hi:i<vs.length:=by
   unfold start at h2
   by_cases hi:i<vs.length
   .exact hi
   .rw[List.getElem?_append_right (by simpa using hi)]at h2;rw[List.getElem?_replicate]at h2;split at h2<;>cases h2
  have ha:vs[i]? =some v:=by
   unfold start at h2;rw[List.getElem?_append_left (by simpa using hi),getElem?_map]at h2;cases e:vs[i]? with
   |none=>rw[e]at h2;cases h2
   |some a=>rw[e]at h2;cases h2;rfl
  obtain⟨u,hu,rv⟩:=r.get ha;have hp:ps[i]? =some y:=by
   rw[<-S.pre,List.getElem?_take_of_lt (by omega)];exact h1
  have ndP:ps.Nodup:=by rw[<-S.pre];exact S.nd.sublist (take_sublist _ _)
  refine⟨u,rv,?_⟩;rcases S.par y (mem_of_getElem? hp)with k|k
  .exact .inl ⟨k,tO ndP hp hu k⟩
  .obtain⟨c,e⟩:=yU (n:=s.heap.objs.size+1) k;refine .inr ⟨.inl k,c,e,?_⟩;have q:=x.cell y c e;rw[uM ndP hp hu (by show scope.names.lookup y≠_;rw[k];decide)]at q;exact q
 .exact e0.bA.fresh (le_of_lt (x.above y c (PySem.mem_of_lookup h)))
 .unfold start;show _=N.length;rw[length_append,length_map,length_replicate];omega
theorem Q0 {P:Program} {f:Addr} {name:Str} {params:Arguments} {dV kV doc pm cdv ct oc:Value} {an od:Option Addr}
  {osl:Array (Option Value)} {sp:Sp} (lk:K.lookup f=some ⟨oc,od,.func (fnOf name qual params body scope dV kV doc pm an cdv ct),osl⟩) (hcd:codeIn K cdv qual=true) (S:aU N ps scope)
  (len:∀vs H Q E,sp vs H Q E->vs.length=ps.length)
  (hbody:∀(A:Around) (outer:List Env) (s:Shared) (H:Hp) (vs:List V) (Q:VK) (E:XK),fD k (A.deeper (envOfC qual scope s.heap.objs.size f cdv))->sp vs H Q E->
   ∃t,DE (AK CX P w K mg base N qual scope f cdv A outer s H E) body t/\t {nx:=fun _ H'=>Q .aZ H',rt:=Q} (start N vs) H):
  aV P w K mg base CX (k+1) f (fnOf name qual params body scope dV kV doc pm an cdv ct) ps sp:=by
 refine⟨len,fun A outer s H args us vs Q E hr e0 hb r hsp=>?_⟩;have hl:=len _ _ _ _ hsp;have KX:K.In s.heap:=e0.mod.RK.keeps fun b o e=>(e0.bs b o e).1
 have lim:s.heap.NoLimit:=e0.mod.nolimit.keeps fun b o e=>(e0.bs b o e).1
 have hkind:∀y∈ps.zip us,scope.names.lookup y.1=some .local\/ (scope.names.lookup y.1=some .cell/\((cellsFrom (s.heap.objs.size+1) scope.names []).lookup y.1).isSome=true):=fun⟨n,v⟩ hy=>by
  rcases S.par n (of_mem_zip hy).1 with q|q
  .exact .inl q
  .exact .inr ⟨q,PySem.W.cellsFrom_some _ _ _ (.inl q)⟩
 refine codeAny_call_function hr.depth (KX _ _ lk) rfl S.co S.gen rfl (PySem.W.codeRec_of KX hcd) (hb _ _ _ _ ?_);refine wpAny_newFunctionEnv_cells S.kind hkind fun env he s1 x=>?_
 subst he;refine⟨lim.keeps x.toInCall.keep,codeAny_func ?_⟩;obtain⟨t,ht,hq⟩:=hbody A outer s H vs Q E (hr.deeper _) hsp;have I:Inv (AK CX P w K mg base N qual scope f cdv A outer s H E) [] (start N vs) H s1:=DU S hr.hd e0 hl r x;refine wpAny_mono (ht [] s1 (start N vs) H _ I hq) (fun fl s' hs=>?_) fun e s' hs=>hs
 have fin:∀{σ':St} {H':Hp} {v:V} {u:Value},Inv (AK CX P w K mg base N qual scope f cdv A outer s H E) [] σ' H' s'->RelV v u->Q v H'->CE outer P w H s Q u s':=
  fun{σ' H' v u} J rv q=>⟨v,H',J.os,J.bare,J.base,J.bA,rv,q⟩
 cases fl with
 |ret u=>
  obtain⟨v,σ',H',J,rv,q⟩:=hs;exact fin J rv q
 |next=>
  obtain⟨σ',H',J,q⟩:=hs;exact fin (v:=V.aZ) (u:=Value.none) J rfl q
 |brk=>
  obtain⟨_,_,_,q⟩:=hs;exact False.elim q
 |cont=>
  obtain⟨_,_,_,q⟩:=hs;exact False.elim q
section
variable {X:Cx} {x:Str} {p pos:Pos} {e:Expr} {es:List Expr} {t:TA} {id T:String} {r:List V->Hp->VK->Prop}
def ID (r:List V->Hp->VK->Prop) (t:TA):TE:=fun σ H Q=>t σ H fun vs H1=>r vs H1 Q
theorem bB (hc:dR X (.builtin id) r) (hg:Gl X x) (hm:X.mg x=none) (hv:bootBuiltins x=some (.builtin id)) (ha:PA X (e::es) t) (hn:x≠"__name__":=by decide) (hdb:(x==("__debug__":Str))=false:=by decide)
  (he:starEach (e::es) X.env=(false,eval e X.env)::starEach es X.env:=by rfl) (hpl:(backTo pos (starEach es X.env)).any (·.1)=false:=by rfl):PE X (.Call (.Name x p) (e::es) [] pos) (ID r t):=by
 intro pins s σ H Q I h;refine wpAny_Call_Name_kw (vL I hg hm hv ?_ hn hdb);exact PyProof.Rows.callWith_builtin1 (cE (ha pos pins s σ H _ I h) fun us s1 ⟨vs,H1,I1,r1,q1⟩=>hc pins s1 σ H1 vs us Q I1 r1 q1) he hpl
theorem cF (hc:dR X (.type T) r) (hg:Gl X x) (hm:X.mg x=none) (hv:bootBuiltins x=some (.type T)) (ha:PA X (e::es) t) (hn:x≠"__name__":=by decide) (hdb:(x==("__debug__":Str))=false:=by decide)
  (he:starEach (e::es) X.env=(false,eval e X.env)::starEach es X.env:=by rfl) (hpl:(backTo pos (starEach es X.env)).any (·.1)=false:=by rfl):PE X (.Call (.Name x p) (e::es) [] pos) (ID r t):=by
 intro pins s σ H Q I h;refine wpAny_Call_Name_kw (vL I hg hm hv ?_ hn hdb);exact PyProof.Rows.callWith_type1 (cE (ha pos pins s σ H _ I h) fun us s1 ⟨vs,H1,I1,r1,q1⟩=>hc pins s1 σ H1 vs us Q I1 r1 q1) he hpl
end
end L2
namespace HT
open PySem PyProof.Rows
variable {sl:Addr} {vl vu:Value}
section
variable {prog:Program} {w:World} {A:Around} {E:Value->Shared->Prop} {s:Shared}
noncomputable def eZ (n d:Nat):Option Int->Nat
 |none=>d
 |some v=>if v<0 then(v+(n:Int)).toNat else min v.toNat n
theorem x8 (n d:Nat):eZ n d none=d:=rfl
theorem IZ (n d k:Nat):eZ n d (some (k:Int))=min k n:=by
 show(if(k:Int)<0 then((k:Int)+(n:Int)).toNat else min (k:Int).toNat n)=min k n;rw[if_neg (by omega),toNat_natCast]
theorem NS (n d:Nat) (hd:d<=n) (o:Option Int):eZ n d o<=n:=by
 cases o with
 |none=>exact hd
 |some v=>
  show(if v<0 then(v+(n:Int)).toNat else min v.toNat n)<=n
  by_cases hv:v<0
  .rw[if_pos hv];omega
  .rw[if_neg hv];exact Nat.min_le_right _ _
theorem CF (v:Int) (n d:Nat):(if v<0 then max (v+(n:Int)) 0 else min v (n:Int))=((eZ n d (some v):Nat):Int):=by
 show(if v<0 then max (v+(n:Int)) 0 else min v (n:Int))=(((if v<0 then(v+(n:Int)).toNat else min v.toNat n):Nat):Int)
 by_cases hv:v<0
 .simp only[if_pos hv];omega
 .simp only[if_neg hv];omega
theorem zX (lo hi:Option Int) (n:Nat):Builtin.Slice.sliceAdjust lo hi 1 (n:Int)=(((eZ n 0 lo:Nat):Int),((eZ n n hi:Nat):Int)):=by
 have h1:¬((1:Int)<0):=by omega
 unfold Builtin.Slice.sliceAdjust;simp only[h1,if_false];refine Prod.ext ?_ ?_
 .cases lo with
  |none=>rfl
  |some v=>exact CF v n 0
 .cases hi with
  |none=>rfl
  |some v=>exact CF v n n
theorem zP (i j:Nat):Builtin.Slice.slicePlaces (i:Int) (j:Int) 1=j - i:=by
 unfold Builtin.Slice.slicePlaces;have h1:(1:Int)>0:=by omega
 simp only[h1,if_true,Int.ediv_one];split<;>omega
theorem q4 {v:Value} {o:Option Int} {Q:Option Int->Shared->Prop} (p:IsPart v o) (h:Q o s):wpAny (model prog w) A (Builtin.Slice.slicePartIndex v) Q E s:=by
 cases p with
 |none=>exact slicePart_none h
 |int i t=>exact slicePart_int h
theorem jE {lo hi:Option Int} {n:Nat} {Q:Int×Int×Nat->Shared->Prop} (hs:s.heap.IsSliceOf sl vl vu .none) (pl:IsPart vl lo) (pu:IsPart vu hi)
  (h:Q (((eZ n 0 lo:Nat):Int),1,eZ n n hi - eZ n 0 lo) s):wpAny (model prog w) A (Builtin.Slice.sliceApplied (.ref sl) (pure (n:Int))) Q E s:=by
 obtain⟨os,hos,hcs,hds⟩:=id hs;unfold Builtin.Slice.sliceApplied Builtin.Slice.sliceFields;refine wpAny_bind (wpAny_bind (wpAny_field hos hds (x:=vl) rfl (wpAny_bind (wpAny_field hos hds (x:=vu) rfl (wpAny_bind (wpAny_field hos hds (x:=.none) rfl (wpAny_pure ?_)))))));refine wpAny_bind (slicePart_none ?_);show wpAny _ _ (if((1:Int)==0)=true then _ else _) _ _ s;rw[if_neg (by decide)];refine wpAny_bind (q4 pl (wpAny_bind (q4 pu (wpAny_bind (wpAny_pure ?_)))));show wpAny _ _ (match Builtin.Slice.sliceAdjust lo hi 1 (n:Int)with|(lo,hi)=>pure (lo,(1:Int),Builtin.Slice.slicePlaces lo hi 1)) _ _ s;rw[zX lo hi n];show wpAny _ _ (pure (((eZ n 0 lo:Nat):Int),(1:Int),Builtin.Slice.slicePlaces ((eZ n 0 lo:Nat):Int) ((eZ n n hi:Nat):Int) 1)) _ _ s;rw[zP];exact wpAny_pure h
theorem EW (xs:Array Value) (i k:Nat):((List.range k).filterMap fun(m:Nat)=>xs[((i:Int)+(m:Int)*1).toNat]?).toArray=((xs.toList.drop i).take k).toArray:=by
 have e:(fun(m:Nat)=>xs[((i:Int)+(m:Int)*1).toNat]?)=fun m=>xs[i+m]?:=by
  funext m;have:((i:Int)+(m:Int)*1).toNat=i+m:=by omega
  rw[this]
 rw[e];have:=pick_run xs i k;rw[List.filterMap_map]at this;have e2:((fun x=>xs[x]?)∘fun x=>i+x)=fun m=>xs[i+m]?:=rfl
 rw[e2]at this;rw[this]
theorem nF {t:Addr} {items:Array Value} {lo hi:Option Int} {Q:Value->Shared->Prop} (ht:IsTup s.heap t items) (hs:s.heap.IsSliceOf sl vl vu .none) (pl:IsPart vl lo) (pu:IsPart vu hi)
  (hw:¬(eZ items.size 0 lo=0/\eZ items.size items.size hi=items.size))
  (h:Q (.ref s.heap.objs.size) {s with heap:=s.heap.push {cls:=.type "tuple",data:=.seq ((items.toList.drop (eZ items.size 0 lo)).take (eZ items.size items.size hi - eZ items.size 0 lo)).toArray}})
  (hsz:items.size<=sizeLine):wpAny (model prog w) A (getItem (.ref t) (.ref sl)) Q E s:=by
 have htake:sizeOk (.seq ((items.toList.drop (eZ items.size 0 lo)).take (eZ items.size items.size hi - eZ items.size 0 lo)).toArray):=by
  show((items.toList.drop (eZ items.size 0 lo)).take (eZ items.size items.size hi - eZ items.size 0 lo)).toArray.size<=sizeLine;rw[size_toArray,length_take,length_drop,length_toList];omega
 have hj:eZ items.size items.size hi<=items.size:=NS _ _ (le_refl _) hi;obtain⟨os,hos,hcs,hds⟩:=id hs;have hTs:s.TypeIs (.ref sl) "slice":=⟨os,hos,hcs⟩;unfold getItem
 try with_reducible refine wpAny_holding ?_
 first|refine wpAny_bind (wpAny_pure ?_)|skip
 refine wpAny_bind (wpAny_sequenceKey ht.typeIs (by decide) ?_);refine wpAny_bind (wpAny_callSpecial?_slot (name:=Str.ofString "__getitem__") ht.typeIs PyProof.Rows.slot_tuple_getitem
  (wpAny_call_entry PyProof.Rows.slot_tuple_getitem ht.typeIs entry_tuple_getitem ?_ (args_tuple_getitem _ _)))
 show wpAny _ _ (Builtin.Tuple.tupleItemsOf (.ref t)>>=_) _ _ s;refine wpAny_bind (tupleItemsOf_ ht ?_);refine wpAny_bind (wpAny_typeOf hTs ?_);rw[if_pos (by decide)];refine wpAny_bind (jE hs pl pu ?_);have hno:¬((((eZ items.size 0 lo:Nat):Int)==0 && (1:Int)==1 && (eZ items.size items.size hi - eZ items.size 0 lo)==items.size)=true):=by
  intro q;rw[and_eq_true,and_eq_true]at q;have q1:((eZ items.size 0 lo:Nat):Int)=0:=eq_of_beq q.1.1;have q2:eZ items.size items.size hi - eZ items.size 0 lo=items.size:=eq_of_beq q.2;exact hw ⟨by omega,by omega⟩
 show wpAny _ _ (if(((eZ items.size 0 lo:Nat):Int)==0 && (1:Int)==1 && (eZ items.size items.size hi - eZ items.size 0 lo)==items.size)=true then _ else _) _ _ s;rw[if_neg hno,EW]
 first
  |exact wpAny_bind (m:=Builtin.Tuple.tupleExact _) (wpAny_newObj_type (wpAny_pure ⟨_,rfl,wpAny_pure h⟩) htake)
  |exact wpAny_bind (m:=Builtin.Tuple.tupleExact _) (wpAny_newObj_type (wpAny_bind (wpAny_pure (wpAny_pure ⟨_,rfl,wpAny_pure h⟩))) htake)
  |exact wpAny_bind (wpAny_bind (m:=Builtin.Tuple.tupleExact _) (wpAny_newObj_type (wpAny_pure (wpAny_pure ⟨_,rfl,wpAny_pure h⟩)) htake))
  |exact wpAny_bind (wpAny_bind (m:=Builtin.Tuple.tupleExact _) (wpAny_newObj_type (wpAny_pure ⟨_,rfl,wpAny_pure h⟩) htake))
end
end HT
namespace L2
open PySem PySem.Spec PyProof.Rows
variable {A:Around} {H:Hp} {pins:List (Addr×Obj)} {xs:List V} {its its':List Value} {j n t':Nat} {s:Shared} {σ:St} {α:Type} {x:V} {u v:Value}
abbrev TO:=St->Hp->(Option Int->Hp->Prop)->Prop
def PO (X:Cx) (e:Option Expr) (t:TO):Prop:=
 ∀(pins:List (Addr×Obj)) (s:Shared) (σ:St) (H:Hp) (Q:Option Int->Hp->Prop),Inv X pins σ H s->t σ H Q->
  wpAny (model X.prog X.w) X.A (evalPart e X.env) (fun u s'=>∃o H',Inv X pins σ H' s'/\IsPart u o/\Q o H') X.xe s
def iQ:TO:=fun _ H Q=>Q none H
def p9 (t:TE):TO:=fun σ H Q=>t σ H fun x H1=>∃i,x= .int i/\Q (some i) H1
section
variable {X:Cx} {e:Expr} {te:TE} {lo hi:Option Expr} {tl th:TO} {pos p2:Pos}
theorem dU:PO X none iQ:=by
 intro pins s σ H Q I h;rw[evalPart_none];exact wpAny_pure ⟨none,H,I,.none,h⟩
theorem cZ (h:PE X e te):PO X (some e) (p9 te):=by
 intro pins s σ H Q I hw;rw[evalPart_some];refine cE (h pins s σ H _ I hw) fun u s1 ⟨x,H1,I1,r1,q1⟩=>?_
 obtain⟨i,rfl,q⟩:=q1;obtain⟨t,rfl⟩:=r1;exact⟨some i,H1,I1,.int i t,q⟩
def OJ (X:Cx) (r:V->Option Int->Option Int->Hp->VK->Prop):Prop:=
 ∀(pins:List (Addr×Obj)) (s:Shared) (σ:St) (H:Hp) (x:V) (v vl vu:Value) (lo hi:Option Int) (sl:Addr) (Q:VK),Inv X pins σ H s->RelV x v->s.heap.IsSliceOf sl vl vu .none->IsPart vl lo->IsPart vu hi->r x lo hi H Q->
  ∃T id,typeLookup (.type T) "__getitem__"=pure (some (.builtin id))/\s.TypeIs v T/\wpAny (model X.prog X.w) X.A (getItem v (.ref sl)) (EP X pins σ Q) X.xe s
def LF (r:V->Option Int->Option Int->Hp->VK->Prop) (te:TE) (tl th:TO):TE:=fun σ H Q=>te σ H fun x H1=>tl σ H1 fun l H2=>th σ H2 fun u H3=>r x l u H3 Q
theorem cK {r:V->Option Int->Option Int->Hp->VK->Prop} (hr:OJ X r) (he:PE X e te) (hl:PO X lo tl) (hu:PO X hi th):PE X (.Subscript e (.Slice lo hi none p2) pos) (LF r te tl th):=by
 intro pins s σ H Q I h;refine Subscript_ (cE (he pins s σ H _ I h) fun v s1 ⟨x,H1,I1,r1,q1⟩=>?_);refine wpAny_Slice (cE (hl pins s1 σ H1 _ I1 q1) fun vl s2 ⟨l,H2,I2,pl,q2⟩=>cE (hu pins s2 σ H2 _ I2 q2) fun vu s3 ⟨u,H3,I3,pu,q3⟩=>?_);rw[evalPart_none];refine wpAny_pure ?_;have I4:Inv X pins σ H3 {s3 with heap:=s3.heap.push {cls:=.type "slice",data:=.fields #[vl,vu,.none]}}:=I3.kept (t':=s3.toks) fun b ob q=>get?_push_of_some _ q
 obtain⟨T,id,hT,ht,hg⟩:=hr pins {s3 with heap:=s3.heap.push {cls:=.type "slice",data:=.fields #[vl,vu,.none]}} σ H3 x v vl vu l u s3.heap.objs.size Q I4 r1 (Heap.IsSliceOf.new ..) pl pu q3;show wpAny (model X.prog X.w) X.A (subscriptTail e (.Slice lo hi none p2) v (.ref s3.heap.objs.size)) (EP X pins σ Q) X.xe {s3 with heap:=s3.heap.push {cls:=.type "slice",data:=.fields #[vl,vu,.none]}};exact tail_any (ops:=[.ref s3.heap.objs.size,v]) ht hT hg (by with_unfolding_all rfl)
noncomputable def i4 (xs:List V) (lo hi:Option Int):List V:=(xs.drop (HT.eZ xs.length 0 lo)).take (HT.eZ xs.length xs.length hi - HT.eZ xs.length 0 lo)
theorem p7 (xs:List V) (lo hi:Option Int):(i4 xs lo hi).length<=xs.length:=by
 unfold i4;rw[length_take,length_drop];omega
def xW (K:Frag):V->Option Int->Option Int->Hp->VK->Prop:=fun x lo hi H Q=>∃a xs,x= .ref a/\bG K H a xs/\
 ¬(HT.eZ xs.length 0 lo=0/\HT.eZ xs.length xs.length hi=xs.length)/\∀p,H p=none->Q (.ref p) (upd H p (.tup (i4 xs lo hi)))
theorem OB:OJ X (xW X.K):=by
 intro pins s σ H x v vl vu lo hi sl Q I rx hs pl pu h;obtain⟨a,xs,rfl,hx,hw,q⟩:=h;cases rx;obtain⟨its,r,ht,hz⟩:=I.tuple hx;have hlen:its.toArray.size=xs.length:=by rw[size_toArray];exact r.length.symm
 refine⟨"tuple",_,PyProof.Rows.slot_tuple_getitem.lookup,ht.typeIs,?_⟩;refine HT.nF ht hs pl pu (by rw[hlen];exact hw) ?_ (by rw[hlen];exact hz);rw[hlen];refine⟨.ref s.heap.objs.size,_,I.laid (t':=s.toks) (o:=.tup (i4 xs lo hi)) (fun b ob q=>get?_push_of_some _ q) (le_refl _) ?_,rfl,q _ (I.bA.fresh (le_refl _))⟩;exact⟨le_trans (p7 xs lo hi) hz,_,(r.drop (HT.eZ xs.length 0 lo)).take (HT.eZ xs.length xs.length hi - HT.eZ xs.length 0 lo),oI.new _ _⟩
end
noncomputable def IE (n:Nat) (i:Int):Option Nat:=if 0<=i then(if i<n then some i.toNat else none)else if -(n:Int)<=i then some (i+n).toNat else none
noncomputable def zO (xs:List α) (i:Int):Option α:=(IE xs.length i).bind fun j=>xs[j]?
theorem BS {i:Int} (h:IE n i=some j):seqIndex? i n=some j/\j<n/\ -(n:Int)<=i/\i<n:=by
 unfold IE at h
 by_cases h0:0<=i
 .rw[if_pos h0]at h
  by_cases h1:i<n
  .rw[if_pos h1]at h;have e:i.toNat=j:=Option.some.inj h;exact⟨by rw[seqIndex_of h0 h1,e],by omega,by omega,h1⟩
  .rw[if_neg h1]at h;cases h
 .rw[if_neg h0]at h
  by_cases h1: -(n:Int)<=i
  .rw[if_pos h1]at h;have e:(i+n).toNat=j:=Option.some.inj h;exact⟨by rw[seqIndex_neg (by omega) h1,e],by omega,h1,by omega⟩
  .rw[if_neg h1]at h;cases h
theorem wB {xs:List α} {i:Int} {v:α} (h:zO xs i=some v):∃j,seqIndex? i xs.length=some j/\xs[j]? =some v/\j<xs.length/\ -(xs.length:Int)<=i/\i<xs.length:=by
 unfold zO at h;cases e:IE xs.length i with
 |none=>rw[e]at h;cases h
 |some j=>
  rw[e]at h;obtain⟨h1,h2,h3,h4⟩:=BS e;exact⟨j,h1,h,h2,h3,h4⟩
theorem cB {xs:List α} {v:α} (h:xs[j]? =some v):zO xs (j:Int)=some v:=by
 have hj:j<xs.length:=(List.getElem?_eq_some_iff.mp h).1;have e:IE xs.length (j:Int)=some j:=by
  unfold IE;rw[if_pos (by omega),if_pos (by omega)];simp
 unfold zO;rw[e];exact h
theorem EF (xs:List α) (v:α):zO (xs++[v]) (-1)=some v:=by
 have hl:(xs++[v]).length=xs.length+1:=by simp
 have e:IE (xs++[v]).length (-1)=some xs.length:=by
  unfold IE;rw[hl,if_neg (by decide),if_pos (by omega)];congr 1;omega
 unfold zO;rw[e];show(xs++[v])[xs.length]? =some v;simp
def KJ (b:Expr):Prop:=∀o i,subscripted b false o i=operate [o,i] (getItem o i)
def MK (X:Cx) (r:R2):Prop:=
 ∀(value slice:Expr) (pins:List (Addr×Obj)) (s:Shared) (σ:St) (H:Hp) (x y:V) (v u:Value) (Q:VK),Inv X pins σ H s->RelV x v->RelV y u->r x y H Q->
  subscripted slice false v u=operate [v,u] (getItem v u)->wpAny (model X.prog X.w) X.A (subscriptTail value slice v u) (EP X pins σ Q) X.xe s
def EB (X:Cx) (id:String) (r:V->List V->Hp->VK->Prop):Prop:=
 ∀(pins:List (Addr×Obj)) (s:Shared) (σ:St) (H:Hp) (x:V) (xs:List V) (v:Value) (us:List Value) (Q:VK),Inv X pins σ H s->RelV x v->Vals xs us->r x xs H Q->
  wpAny (model X.prog X.w) X.A (call (.builtin id) (v::us)) (EP X pins σ Q) X.xe s
section
variable {X:Cx} {a b:Expr} {ta tb:TE} {pos:Pos}
theorem aT {r:R2} (hr:MK X r) (ha:PE X a ta) (hb:PE X b tb) (hs:KJ b):PE X (.Subscript a b pos) (mT r ta tb):=by
 intro pins s σ H Q I h;exact Subscript_ (N8 ha hb I h fun v u s2 x y H2 I2 rx ry q=>hr a b pins s2 σ H2 x y v u Q I2 rx ry q (hs _ _))
def wG (K:Frag):R2:=fun x y H Q=>∃p xs i v,x= .ref p/\y= .int i/\bJ K H p xs/\zO xs i=some v/\Q v H
def rM (K:Frag):R2:=fun x y H Q=>∃p xs i v,x= .ref p/\y= .int i/\bG K H p xs/\zO xs i=some v/\Q v H
def x9:R2:=fun x y H Q=>∃z i c,x= .str z/\y= .int i/\z.length<=sizeLine/\zO z.cps.toList i=some c/\Q (.str ⟨#[c]⟩) H
theorem IQ:MK X (wG X.K):=by
 intro value slice pins s σ H x y v u Q I rx ry h hs;obtain⟨p,xs,i,z,rfl,rfl,hq,he,q⟩:=h;cases rx;obtain⟨t,rfl⟩:=ry;obtain⟨its,r,pl,hz⟩:=I.list hq;obtain⟨j,h1,h2,h3,h4,h5⟩:=wB he;obtain⟨w,ew,w9⟩:=r.get h2;have hl:=r.length;have hn:=mZ;have fin:EP X pins σ Q w s:=⟨z,H,I,w9,q⟩
 by_cases h0:0<=i
 .have hj:i.toNat=j:=by
   rw[seqIndex_of h0 h5]at h1;exact Option.some.inj h1
  exact item_listR pl.isList h0 (by omega) (by rw[hj];simpa using ew) fin hs
 .have hj:(i+(its.toArray.size:Int)).toNat=j:=by
   rw[seqIndex_neg (by omega) h4]at h1;rw[size_toArray,<-hl];exact Option.some.inj h1
  exact subscriptTail_builtinR (x:=w) pl.isList.typeIs slot_list_getitem.lookup
   (wpAny_getItem_list_neg (Q:=fun r s'=>r=w/\EP X pins σ Q r s') pl.isList (by omega) (by rw[size_toArray]<;>omega) (by omega) (by rw[hj];simpa using ew) ⟨rfl,fin⟩) hs
theorem M5:MK X (rM X.K):=by
 intro value slice pins s σ H x y v u Q I rx ry h hs;obtain⟨p,xs,i,z,rfl,rfl,hq,he,q⟩:=h;cases rx;obtain⟨t,rfl⟩:=ry;obtain⟨its,r,pl,hz⟩:=I.tuple hq;obtain⟨j,h1,h2,h3,h4,h5⟩:=wB he;obtain⟨w,ew,w9⟩:=r.get h2;have hl:=r.length;have hn:=mZ;have fin:EP X pins σ Q w s:=⟨z,H,I,w9,q⟩;exact subscriptTail_builtinR (x:=w) pl.typeIs slot_tuple_getitem.lookup
  (getItem_tuple (j:=j) (Q:=fun r s'=>r=w/\EP X pins σ Q r s') pl (by omega) (by omega) (by rw[size_toArray,<-hl];exact h1) (by simpa using ew) ⟨rfl,fin⟩) hs
theorem N3:MK X x9:=by
 intro value slice pins s σ H x y v u Q I rx ry h hs;obtain⟨z,i,c,rfl,rfl,hz,he,q⟩:=h;obtain⟨t,rfl⟩:=rx;obtain⟨t',rfl⟩:=ry;obtain⟨j,h1,h2,h3,h4,h5⟩:=wB he;have hl:z.cps.toList.length=z.length:=by simp[Str.length]
 rw[hl]at h1 h4 h5;have hn:=mZ;exact tail_any (typeIs_str s z t) slot_str_getitem.lookup (getItem_str (c:=c) (by
  have e1:decide (i< -(2^63:Int))=false:=decide_eq_false (by omega);have e2:decide (i≥2^63)=false:=decide_eq_false (by omega);rw[e1,e2,Bool.or_false]) (by rw[h1];simpa using h2) ⟨.str ⟨#[c]⟩,H,I.tok _,⟨_,rfl⟩,q⟩) hs
theorem z0 (its:List Value) (n j:Nat) (u:Value):Obj.mapSeq (·.setIfInBounds j u) {cls:=.type "list",data:=.seq its.toArray n}={cls:=.type "list",data:=.seq (its.set j u).toArray n}:=by
 simp[Obj.mapSeq]
theorem Inv.lst {p:Addr} (I:Inv X pins σ H s) (h:H p=some (.lst xs)):
  ∃(its:List Value) (n:Nat),Vals xs its/\s.heap.get? p=some {cls:=.type "list",data:=.seq its.toArray n}/\xs.length<=sizeLine:=by
 obtain⟨z,its,n,r,e⟩:=I.bA p _ h;exact⟨its,n,r,e,z⟩
theorem Inv.N9 {p:Addr} {ys:List V} {n':Nat} {f:Obj->Obj} (I:Inv X pins σ H s) (h:H p=some (.lst xs))
  (ho:s.heap.get? p=some {cls:=.type "list",data:=.seq its.toArray n}) (hf:f {cls:=.type "list",data:=.seq its.toArray n}={cls:=.type "list",data:=.seq its'.toArray n'}) (r:Vals ys its') (hz:ys.length<=sizeLine) (t:Nat):
  Inv X pins σ (upd H p (.lst ys)) {s with heap:=s.heap.update p f,toks:=t}:=by
 have e:(s.heap.update p f).get? p=some {cls:=.type "list",data:=.seq its'.toArray n'}:=by
  rw[get?_update_self f ho (by rw[hf]<;>rfl),hf]
 refine I.write (x:=p) (e:=p) (by rw[h];trivial) (.inl rfl) (fun b u hb q=>(get?_update_other _ _ (Ne.symm hb)).trans q) ⟨_,e⟩ ?_;exact⟨hz,its',n',r,e⟩
def pL:V->V->V->Hp->(Hp->Prop)->Prop:=fun o i v H Q=>∃p xs k j,o= .ref p/\i= .int k/\H p=some (.lst xs)/\IE xs.length k=some j/\Q (upd H p (.lst (xs.set j v)))
theorem set_list:P5 X pL:=by
 intro pins s σ H o i v ov iv u Q I ro ri rv h;obtain⟨p,xs,k,j,rfl,rfl,hp,hj,q⟩:=h;cases ro;obtain⟨t,rfl⟩:=ri;obtain⟨its,n,r,ho,hz⟩:=I.lst hp;obtain⟨h1,h2,h3,h4⟩:=BS hj;have hl:=r.length;have hn:=mZ;have I':Inv X pins σ (upd H p (.lst (xs.set j v))) {s with heap:=s.heap.update p (Obj.mapSeq (·.setIfInBounds j u))}:=
  I.N9 hp ho (z0 its n j u) (r.set rv j) (by rw[List.length_set];exact hz) s.toks
 by_cases h0:0<=k
 .have hk:k.toNat=j:=by
   rw[seqIndex_of h0 h4]at h1;exact Option.some.inj h1
  exact PySem.W.ki_setAt ho h0 (by omega) (by rw[size_toArray,<-hl];exact h4) (by rw[hk];exact⟨_,I',q⟩)
 .have hk:(k+(its.toArray.size:Int)).toNat=j:=by
   rw[seqIndex_neg (by omega) h3]at h1;rw[size_toArray,<-hl];exact Option.some.inj h1
  exact PySem.W.ki_setBack ho (by omega) (by rw[size_toArray,<-hl];exact h3) (by omega) (by rw[hk];exact⟨_,I',q⟩)
theorem vO (lo hi:Option Int) (n:Nat):(sliceBounds lo hi none n).1=((HT.eZ n 0 lo:Nat):Int)/\(sliceBounds lo hi none n).2.1=((HT.eZ n n hi:Nat):Int)/\(sliceBounds lo hi none n).2.2=1:=by
 refine⟨?_,?_,rfl⟩
 .cases lo with
  |none=>simp[sliceBounds,HT.eZ]
  |some i=>
   simp only[sliceBounds,HT.eZ,getD_none,show(1:Int)>0 by decide,if_true]
   by_cases h:i<0
   .simp only[h,if_true]<;>omega
   .simp only[h,if_false]<;>omega
 .cases hi with
  |none=>simp[sliceBounds,HT.eZ]
  |some i=>
   simp only[sliceBounds,HT.eZ,getD_none,show(1:Int)>0 by decide,if_true]
   by_cases h:i<0
   .simp only[h,if_true]<;>omega
   .simp only[h,if_false]<;>omega
theorem sR (its:List Value) (lo hi:Option Int):slicePick its.toArray lo hi none=((its.drop (HT.eZ its.length 0 lo)).take (HT.eZ its.length its.length hi - HT.eZ its.length 0 lo)).toArray:=by
 obtain⟨h1,h2,h3⟩:=vO lo hi its.toArray.size;unfold slicePick;rw[h1,h2,h3];simp only[sliceRange_one,pick_run,size_toArray]<;>rfl
def wX (K:Frag):V->Option Int->Option Int->Hp->VK->Prop:=fun x lo hi H Q=>∃a xs,x= .ref a/\bJ K H a xs/\∀p,H p=none->Q (.ref p) (upd H p (.lst (i4 xs lo hi)))
theorem J5:OJ X (wX X.K):=by
 intro pins s σ H x v vl vu lo hi sl Q I rx hs pl pu h;obtain⟨a,xs,rfl,hx,q⟩:=h;cases rx;obtain⟨its,r,ht,hz⟩:=I.list hx;have hlen:=r.length;refine⟨"list",_,slot_list_getitem.lookup,ht.isList.typeIs,?_⟩;refine wpAny_getItem_list_slice ht.isList hs pl pu .none (by simp) ?_ (by rw[size_toArray]<;>omega);rw[sR,<-hlen];refine⟨.ref s.heap.objs.size,_,I.laid (t':=s.toks) (o:=.lst (i4 xs lo hi)) (fun b ob q=>get?_push_of_some _ q) (le_refl _) ?_,rfl,q _ (I.bA.fresh (le_refl _))⟩;exact⟨le_trans (p7 xs lo hi) hz,_,0,(r.drop (HT.eZ xs.length 0 lo)).take (HT.eZ xs.length xs.length hi - HT.eZ xs.length 0 lo),get?_push_size _ rfl⟩
noncomputable def nB:V->Bool
 | .aZ=>true
 | .bl _=>true
 | .int _=>true
 | .str _=>true
 |_=>false
noncomputable def KS:V->V->Bool
 | .aZ,.aZ=>true
 | .bl a,.bl b=>a==b
 | .bl a,.int b=>(if a then 1 else 0)==b
 | .int a,.bl b=>a==(if b then 1 else 0)
 | .int a,.int b=>a==b
 | .str a,.str b=>a==b
 |_,_=>false
theorem NJ {y x:V} (ry:RelV y u) (rx:RelV x v) (fy:nB y=true) (fx:nB x=true):SeqAt.EqAt A s u v (KS y x):=by
 cases y with
 |aZ=>
  cases ry;cases x with
  |aZ=>cases rx;exact SeqAt.EqAt.same _
  |bl b=>cases rx;exact SeqAt.EqAt.none_bool b
  |int b=>obtain⟨t,rfl⟩:=rx;exact SeqAt.EqAt.none_int b t
  |str b=>obtain⟨t,rfl⟩:=rx;exact SeqAt.EqAt.none_str b t
  |_=>exact absurd (show false=true from fx) Bool.false_ne_true
 |bl a=>
  cases ry;cases x with
  |aZ=>cases rx;exact SeqAt.EqAt.bool_none a
  |bl b=>cases rx;exact SeqAt.EqAt.bool_bool a b
  |int b=>obtain⟨t,rfl⟩:=rx;exact SeqAt.EqAt.bool_int a b t
  |str b=>obtain⟨t,rfl⟩:=rx;exact SeqAt.EqAt.bool_str a b t
  |_=>exact absurd (show false=true from fx) Bool.false_ne_true
 |int a=>
  obtain⟨t',rfl⟩:=ry;cases x with
  |aZ=>cases rx;exact SeqAt.EqAt.int_none a t'
  |bl b=>cases rx;exact SeqAt.EqAt.int_bool a t' b
  |int b=>obtain⟨t,rfl⟩:=rx;exact SeqAt.EqAt.int_int a t' b t
  |str b=>obtain⟨t,rfl⟩:=rx;exact SeqAt.EqAt.int_str a t' b t
  |_=>exact absurd (show false=true from fx) Bool.false_ne_true
 |str a=>
  obtain⟨t',rfl⟩:=ry;cases x with
  |aZ=>cases rx;exact SeqAt.EqAt.str_none a t'
  |bl b=>cases rx;exact SeqAt.EqAt.str_bool a t' b
  |int b=>obtain⟨t,rfl⟩:=rx;exact SeqAt.EqAt.str_int a t' b t
  |str b=>obtain⟨t,rfl⟩:=rx;exact SeqAt.EqAt.str_str a t' b t
  |_=>exact absurd (show false=true from fx) Bool.false_ne_true
 |_=>exact absurd (show false=true from fy) Bool.false_ne_true
noncomputable def AJ (x:V) (u:Value):Bool:=match u with
 | .none=>KS .aZ x
 | .bool b=>KS (.bl b) x
 | .int i _=>KS (.int i) x
 | .str z _=>KS (.str z) x
 |_=>false
theorem E7 {y:V} (r:RelV y u) (f:nB y=true):AJ x u=KS y x:=by
 cases y with
 |aZ=>cases r;rfl
 |bl b=>cases r;rfl
 |int i=>obtain⟨t,rfl⟩:=r;rfl
 |str z=>obtain⟨t,rfl⟩:=r;rfl
 |_=>exact absurd (show false=true from f) Bool.false_ne_true
theorem nR:∀{xs:List V} {us:List Value},Vals xs us->xs.all nB=true->us.any (AJ x)=xs.any fun y=>KS y x
 |_,_,.nil,_=>rfl
 |y::xs,u::us,.cons r t,f=>by
  rw[all_cons,and_eq_true]at f;rw[any_cons,any_cons,E7 r f.1,nR t f.2]
theorem lR (rx:RelV x v) (fx:nB x=true):∀{xs:List V} {us:List Value},Vals xs us->xs.all nB=true->∀u∈us,SeqAt.EqAt A s u v (AJ x u)
 |_,_,.nil,_=>fun u hu=>by cases hu
 |y::xs,u::us,.cons r t,f=>fun u' hu=>by
  rw[all_cons,and_eq_true]at f;rcases mem_cons.mp hu with rfl|hu
  .rw[E7 r f.1];exact NJ r rx f.1 fx
  .exact lR rx fx t f.2 u' hu
noncomputable def Q7 (x:V) (xs:List V):Bool:=xs.any fun y=>KS y x
def FZ (K:Frag) (neg:Bool):R2:=fun x y H Q=>∃p xs,y= .ref p/\(bJ K H p xs\/ bG K H p xs)/\nB x=true/\xs.all nB=true/\Q (.bl (if neg then !Q7 x xs else Q7 x xs)) H
theorem D3:nA X (compareOp .In) (FZ X.K false):=by
 intro pins s σ H x y v u Q I rx ry h;obtain⟨p,xs,rfl,hq,fx,fs,q⟩:=h;cases ry;rcases hq with hq|hq
 .obtain⟨its,r,pl,hz⟩:=I.list hq;refine SeqAt.in_listAt (AJ x) pl.isList (fun w hw=>lR rx fx r fs w (by simpa using hw)) ⟨.bl _,H,I,rfl,?_⟩;rw[show its.toArray.any (AJ x)=its.any (AJ x) by simp,nR r fs];exact q
 .obtain⟨its,r,pl,hz⟩:=I.tuple hq;refine SeqAt.in_tupleAt (AJ x) pl (fun w hw=>lR rx fx r fs w (by simpa using hw)) ⟨.bl _,H,I,rfl,?_⟩;rw[show its.toArray.any (AJ x)=its.any (AJ x) by simp,nR r fs];exact q
theorem uR:nA X (compareOp .NotIn) (FZ X.K true):=by
 intro pins s σ H x y v u Q I rx ry h;obtain⟨p,xs,rfl,hq,fx,fs,q⟩:=h;cases ry;rcases hq with hq|hq
 .obtain⟨its,r,pl,hz⟩:=I.list hq;refine SeqAt.notIn_listAt (AJ x) pl.isList (fun w hw=>lR rx fx r fs w (by simpa using hw)) ⟨.bl _,H,I,rfl,?_⟩;rw[show its.toArray.any (AJ x)=its.any (AJ x) by simp,nR r fs];exact q
 .obtain⟨its,r,pl,hz⟩:=I.tuple hq;refine SeqAt.notIn_tupleAt (AJ x) pl (fun w hw=>lR rx fx r fs w (by simpa using hw)) ⟨.bl _,H,I,rfl,?_⟩;rw[show its.toArray.any (AJ x)=its.any (AJ x) by simp,nR r fs];exact q
theorem n6:dR X (.builtin "len") (fun xs H Q=>∃p ys,xs=[.ref p]/\(bJ X.K H p ys\/ bG X.K H p ys)/\Q (.int ys.length) H):=by
 intro pins s σ H xs us Q I r h;obtain⟨p,ys,rfl,hq,q⟩:=h;obtain⟨u,rfl,rx⟩:=vals1 r;cases rx;have hn:=mZ;rcases hq with hq|hq
 .obtain⟨its,r',pl,hz⟩:=I.list hq;have hlen:=r'.length;exact Calls.call_len_list pl.isList (by simp only[size_toArray]<;>omega) ⟨.int ys.length,H,I.tok _,⟨s.toks+1,by rw[size_toArray,hlen]⟩,q⟩
 .obtain⟨its,r',pl,hz⟩:=I.tuple hq;have hlen:=r'.length;exact len_tuple pl (by simp only[size_toArray]<;>omega) ⟨.int ys.length,H,I.tok _,⟨s.toks+1,by rw[size_toArray,hlen]⟩,q⟩
theorem gA:dR X (.builtin "len") (fun xs H Q=>∃z,xs=[.str z]/\z.length<=sizeLine/\Q (.int z.length) H):=by
 intro pins s σ H xs us Q I r h;obtain⟨z,rfl,hz,q⟩:=h;obtain⟨u,rfl,t,rfl⟩:=vals1 r;have hn:=mZ;exact len_str (by omega) ⟨.int z.length,H,I.tok _,⟨_,rfl⟩,q⟩
theorem sP:dR X (.type "tuple") (fun xs H Q=>∃p ys,xs=[.ref p]/\((bJ X.K H p ys/\∀l,H l=none->Q (.ref l) (upd H l (.tup ys)))\/ (bG X.K H p ys/\Q (.ref p) H))):=by
 intro pins s σ H xs us Q I r h;obtain⟨p,ys,rfl,h⟩:=h;obtain⟨u,rfl,rx⟩:=vals1 r;cases rx;rcases h with⟨hq,q⟩|⟨hq,q⟩
 .obtain⟨its,r',pl,hz⟩:=I.list hq;have hlen:=r'.length;refine call_tuple_list pl.isList (fun h' kp=>?_) (by simp only[size_toArray]<;>omega);have I1:Inv X pins σ H {s with heap:=h'}:=I.kept (t':=s.toks) kp;have I2:Inv X pins σ (upd H h'.objs.size (.tup ys)) {s with heap:=h'.push {cls:=.type "tuple",data:=.seq its.toArray}}:=
   I1.laid (t':=s.toks) (fun b o e=>get?_push_of_some _ e) (le_refl _) (show dN X.prog X.w _ _ _ (.tup ys)from⟨hz,its,r',oI.new _ _⟩)
  exact⟨.ref h'.objs.size,_,I2,rfl,q _ (I1.bA.fresh (le_refl _))⟩
 .obtain⟨its,r',pl,hz⟩:=I.tuple hq;exact call_tuple_same pl ⟨.ref p,H,I,rfl,q⟩
def IC (K:Frag) (T:String) (x:V) (H:Hp):Prop:=match x with
 | .str _=>T="str"
 | .int _=>T="int"
 | .ref p=>(T="list"/\∃xs,bJ K H p xs)\/ (T="tuple"/\∃o,K.lookup p=some o/\o.cls= .type "tuple"/\o.dict=none)\/
   (T="dict"/\((∃kvs ep,H p=some (.dK kvs ep))\/ ∃kvs,H p=some (.dT kvs)))\/ (T="set"/\∃S n,H p=some (.set S n))
 |_=>False
theorem GW {T:String} {x:V} (I:Inv X pins σ H s) (r:RelV x v) (ty:IC X.K T x H):
  s.TypeIs v T/\∀a,v= .ref a->∃ob,s.heap.get? a=some ob/\ob.dict=none:=by
 cases x with
 |str z=>
  obtain⟨t,rfl⟩:=r;cases(show T="str"from ty);exact⟨typeIs_str s z t,fun _ e=>nomatch e⟩
 |int i=>
  obtain⟨t,rfl⟩:=r;cases(show T="int"from ty);exact⟨typeIs_int s i t,fun _ e=>nomatch e⟩
 | ref p=>
  cases r;rcases ty with⟨rfl,xs,hq⟩|⟨rfl,o,hk,hc,hd⟩|⟨rfl,hk⟩|⟨rfl,S,n,hk⟩
  .obtain⟨its,_,pl,_⟩:=I.list hq;refine⟨pl.isList.typeIs,fun a e=>?_⟩;cases e;obtain⟨o,n,e,c,hd,_⟩:=pl;exact⟨o,e,hd⟩
  .refine⟨⟨o,I.OH p o hk,hc⟩,fun a e=>?_⟩;cases e;exact⟨o,I.OH _ o hk,hd⟩
  .have z:∃o,s.heap.get? p=some o/\o.ExactDict:=by
    rcases hk with⟨kvs,ep,hk⟩|⟨kvs,hk⟩
    .obtain⟨_,_,_,_,o,_,e,ex,_⟩:=I.bA p _ hk;exact⟨o,e,ex⟩
    .obtain⟨_,_,_,_,o,_,_,e,ex,_⟩:=I.bA p _ hk;exact⟨o,e,ex⟩
   obtain⟨o,e,ex⟩:=z;refine⟨⟨o,e,ex.1⟩,fun a e2=>?_⟩;cases e2;exact⟨o,e,ex.2.1⟩
  .obtain⟨o,_,_,_,e,ex,_⟩:=I.bA p _ hk;refine⟨⟨o,e,ex.1⟩,fun a e2=>?_⟩;cases e2;exact⟨o,e,ex.2.1⟩
 |_=>exact False.elim ty
def zK (K:Frag) (T:String) (r:V->List V->Hp->VK->Prop) (to:TE):TE:=fun σ H Q=>to σ H fun x H1=>IC K T x H1/\r x [] H1 Q
def IY (K:Frag) (T:String) (r:V->List V->Hp->VK->Prop) (to:TE) (t:TA):TE:=fun σ H Q=>to σ H fun x H1=>IC K T x H1/\t σ H1 fun xs H2=>r x xs H2 Q
variable {o e:Expr} {es:List Expr} {to:TE} {t:TA} {name:Str} {apos cpos:Pos} {T id:String} {r:V->List V->Hp->VK->Prop}
theorem NU (pa:PlainAttrs T) (slot:Slot T name id) (hty:typeOf (.builtin id)=pure (.type "method_descriptor")) (hm:EB X id r) (ho:PE X o to)
  (hbase:attributeBase o name X.env (eval o X.env)=eval o X.env:=by rfl) (hline:(apos.endLine==cpos.line)=true:=by rfl):PE X (.Call (.Attribute o name apos) [] [] cpos) (zK X.K T r to):=by
 intro pins s σ H Q I h;refine wpAny_Call_method0_late hbase hline (cE (ho pins s σ H _ I h) fun v s1 ⟨x,H1,I1,r1,ty,q1⟩=>?_);obtain⟨h1,h2⟩:=GW I1 r1 ty;exact⟨T,id,pa,slot,hty,h1,h2,Calls.callWith_builtin rfl (PySem.evalArgs_none (hm pins s1 σ H1 x [] v [] Q I1 r1 .nil q1))⟩
theorem QL (pa:PlainAttrs T) (slot:Slot T name id) (hty:typeOf (.builtin id)=pure (.type "method_descriptor")) (hm:EB X id r) (ho:PE X o to) (ha:PA X (e::es) t)
  (hbase:attributeBase o name X.env (eval o X.env)=eval o X.env:=by rfl)
  (hfew:((backTo cpos (starEach (e::es) X.env)).all (fun x=>!x.1) && (backToKw cpos (keywordEach [] X.env)).all (fun x=>x.1.isSome)
   && decide ((e::es).length+([]:List Keyword).length+(if([]:List Keyword).isEmpty then 0 else 1)<30))=true:=by rfl)
  (hline:(apos.endLine==cpos.line)=true:=by rfl) (hs:starEach (e::es) X.env=(false,eval e X.env)::starEach es X.env:=by rfl) (hplain:(backTo cpos (starEach es X.env)).any (·.1)=false:=by rfl):
  PE X (.Call (.Attribute o name apos) (e::es) [] cpos) (IY X.K T r to t):=by
 intro pins s σ H Q I h;refine wpAny_Call_method_late hbase hfew hline rfl (cE (ho pins s σ H _ I h) fun v s1 ⟨x,H1,I1,r1,ty,q1⟩=>?_);obtain⟨h1,h2⟩:=GW I1 r1 ty;refine⟨T,id,pa,slot,hty,h1,h2,?_⟩;have hA:=ha cpos pins s1 σ H1 _ I1 q1;rw[hs]at hA⊢
 refine Calls.callWith_builtin (by show(false||(backTo cpos (starEach es X.env)).any (·.1))=false;rw[hplain]<;>rfl) (Calls.evalArgs_plain ?_);exact cE hA fun us s2 ⟨vs,H2,I2,r2,q2⟩=>hm pins s2 σ H2 x vs v us Q I2 r1 r2 q2
end
def SR (X:Cx) (id:String) (r:V->List V->Hp->VK->Prop):Prop:=
 ∀(pins:List (Addr×Obj)) (s:Shared) (σ:St) (H:Hp) (x:V) (xs:List V) (v:Value) (us:List Value) (Q:VK),Inv X pins σ H s->RelV x v->Vals xs us->r x xs H Q->
  wpAny (model X.prog X.w) X.A (call (.builtin id) (v::us)) (EP X pins σ Q) X.xe s
theorem Vals.one:∀{x:V} {us:List Value},Vals [x] us->∃u,us=[u]/\RelV x u
 |_,_,.cons r .nil=>⟨_,rfl,r⟩
section
variable {X:Cx} {pins:List (Addr×Obj)} {σ:St} {H:Hp} {s:Shared} {l b:Addr} {xs ys zs:List V}
theorem Inv.RM {f:Array Value->Array Value} (I:Inv X pins σ H s) (hH:H l=some (.lst xs))
  (e:s.heap.get? l=some {cls:=.type "list",data:=.seq its.toArray n}) (hf:f its.toArray=its'.toArray) (hv:Vals ys its') (hz:ys.length<=sizeLine):
  Inv X pins σ (upd H l (.lst ys)) {s with heap:=s.heap.update l (Obj.mapSeq f),toks:=t'}:=by
 have q:=PySem.IsL.update e f;rw[hf]at q;refine I.write (x:=l) (e:=l) (by rw[hH];exact trivial) (.inl rfl) (fun b' u hb hu=>(get?_update_other s.heap (Obj.mapSeq f) (Ne.symm hb)).trans hu) ⟨_,q⟩ ?_;exact⟨hz,its',_,hv,q⟩
theorem Inv.P6 (I:Inv X pins σ H s) (hv:Vals ys its) (hz:ys.length<=sizeLine):
  Inv X pins σ (upd H s.heap.objs.size (.lst ys)) {s with heap:=s.heap.push {cls:=.type "list",data:=.seq its.toArray},toks:=t'}:=
 I.laid (fun _ _ q=>get?_push_of_some _ q) (le_refl _) ⟨hz,its,0,hv,get?_push_size _ rfl⟩
theorem Inv.fresh (I:Inv X pins σ H s):H s.heap.objs.size=none:=I.bA.fresh (le_refl _)
theorem Inv.L3 (I:Inv X pins σ H s) (hH:H l=some (.lst xs)):xs.length<=sizeLine/\∃(its:List Value) (n:Nat),Vals xs its/\xs.length=its.length/\s.heap.get? l=some {cls:=.type "list",data:=.seq its.toArray n}:=by
 obtain⟨z,its,n,r,e⟩:=I.bA l _ hH;exact⟨z,its,n,r,r.length,e⟩
end
section
variable {X:Cx}
def gX:V->List V->Hp->VK->Prop:=fun x vs H Q=>∃l xs y,x= .ref l/\vs=[y]/\H l=some (.lst xs)/\xs.length<sizeLine/\Q .aZ (upd H l (.lst (xs++[y])))
theorem eY:SR X "list.append" gX:=by
 intro pins s σ H x vs v us Q I rx rv h;obtain⟨l,xs,y,rfl,rfl,hH,hz,q⟩:=h;cases rx;obtain⟨u,rfl,ru⟩:=rv.one;obtain⟨z,its,n,r,hl,e⟩:=I.L3 hH;refine call_meets F.slot_list_append ⟨_,e,rfl⟩ F.entry_list_append (F.args_list_append_2 _ _) (PySem.list_append l its.toArray n u (by rw[size_toArray];omega)) ⟨e,?_⟩;refine⟨.aZ,_,I.RM (its':=its++[u]) hH e (by simp) (r.append (.cons ru .nil)) ?_,rfl,q⟩;rw[length_append,List.length_singleton];omega
def zM:R2:=fun x y H Q=>∃l b xs zs,x= .ref l/\y= .ref b/\H l=some (.lst xs)/\H b=some (.lst zs)/\xs.length+zs.length<=sizeLine/\∀p,H p=none->Q (.ref p) (upd H p (.lst (xs++zs)))
theorem L4:nA X (binaryOp .Add) zM:=by
 intro pins s σ H x y v u Q I rx ry h;obtain⟨l,b,xs,zs,rfl,rfl,hH,hB,hz,q⟩:=h;cases rx;cases ry;obtain⟨z,its,n,r,hl,e⟩:=I.L3 hH;obtain⟨z2,its2,n2,r2,hl2,e2⟩:=I.L3 hB;refine PySem.P.add_list e e2 ?_ (by rw[size_toArray,size_toArray];omega);have ea:its.toArray++its2.toArray=(its++its2).toArray:=by simp
 rw[ea];exact⟨.ref _,_,I.P6 (t':=s.toks) (r.append r2) (by rw[length_append];omega),rfl,q _ I.fresh⟩
end
end L2
namespace SE
open PySem PySem.W PySem.Calls PyProof.Rows
variable {h:Heap} {n:Nat} {l:OpenLaw}
theorem qD {P:Params}:∀(ns:List Int) (vs:List Value),WellAll P h vs (ns.map WData.int)->IntsAre vs ns:=by
 intro ns
 induction ns with
 |nil=>
  intro vs w;rw[map_nil]at w;cases w;exact .nil
 | cons n ns ih=>
  intro vs w;rw[map_cons]at w;cases w with
  |cons a b=>
   cases a;exact .cons _ _ (ih _ b)
theorem DQ (hn:l.most=some n) {P:Params} {args:List WData} {vals:List Value}
  (hpre:l.row.toRowW.claim.pre args=true) (hwl:WellAll P h vals args):
  ∃a vs ns,vals=[Value.ref a]/\args=[WData.list (ns.map WData.int)]/\h.get? a=some {cls:=.type "list",data:=.seq vs.toArray}/\IntsAre vs ns/\ns.length<=n:=by
 have hsh:WShape.hasAll [] args [.list .int]=true:=(pre_splitW hpre).1;have hc:l.pre.holds [] {args:=args}=true:=(pre_splitW hpre).2;obtain⟨d,r,rfl,h1,h2⟩:=hasAllW_cons hsh;obtain rfl:=hasAllW_nil h2;obtain⟨xs,rfl,h3⟩:=hasW_list h1;obtain⟨ns,rfl⟩:=items_int h3;have hlen:ns.length<=n:=by
  unfold OpenLaw.pre at hc;have h4:(WTm.not (.lt (.lit (.int (n:Int))) (.len (.arg 0)))).holds [] {args:=[.list (ns.map .int)]}=true:=by
   have h4:=(holds_andW hc).1;rw[hn]at h4;exact h4
  have h5:=condW_of h4 (w_not (w_lt w_lit (w_len_list (w_arg rfl))));rw[length_map]at h5;refine Nat.le_of_not_lt fun q=>?_
  have q':(n:Int)<((ns.length:Nat):Int):=by omega
  first
   |(rw[decide_eq_true q']at h5;exact absurd h5 (by decide))
   |(simp at h5;omega)
 cases hwl with
 |cons w1 w2=>
  cases w2;cases w1 with
  |list ho hall=>exact⟨_,_,ns,rfl,rfl,ho,qD ns _ hall,hlen⟩
theorem D6 (l:OpenLaw) (args:List WData):l.row.toRowW.claim.post args (.bool true) args=true:=
 postW_of (r:=l.row.toRowW) (X:=(true==true))
  (show WShape.has [] (.bool true) .bool=true by first|rfl|decide|simp[WShape.has,WShape.arms,WShape.armsAll])
  (show(WTm.eq .res (.lit (.bool true))).value [] {args:=args,res:=some (.bool true),after:=args}=some (.bool (true==true))from w_eq_bool (w_res rfl) w_lit) rfl
theorem yQ {q:Program} {loose:List Str} {XP:(Str->Option Value)->Heap->Prop} {YP:World->Heap->Prop} {d:DefRec}
  (hn:l.most=some n) (hdf:d.params.defaults=[])
  (call:∀(w:World) (iJ s₁:Shared) (mg mb:Str->Option Value) (fa:Addr) (o:Obj) (pm cd doc:Value) (a:Addr) (vs:List Value) (ns:List Int),
   Ground q loose [] XP w iJ mg mb s₁.heap->YP w s₁.heap->
   s₁.heap.get? fa=some o->o.data= .func (docDef d.name d.params d.body d.scope pm cd doc)->s₁.heap.CodeRec cd d.name->mg d.name=some (.ref fa)->
   s₁.heap.get? a=some {cls:=.type "list",data:=.seq vs.toArray}->IntsAre vs ns->ns.length<=n->s₁.gens= #[]->
   codeAny (model l.prog w) callerA (.call (.ref fa) ⟨[.ref a],[]⟩) (fun r s'=>r= .ok (.ret (.bool true))/\OldK s₁.heap s'.heap/\s'.os=s₁.os/\AllBare s'.gens) s₁):
  WalkO q loose XP YP l.row.toRowW d [] (fun f vs=>PySem.call f vs):=by
 intro w iJ s₁ mg mb G Y fa o pm cd doc dV kV ho hd hcd hD hmg hg args vals as hpre hlay hrd hwl hlo;obtain rfl:dV= .none:=Dflts.none hD hdf;obtain rfl:kV= .none:=Dflts.noKw hD;obtain⟨a,vs,ns,rfl,rfl,hobj,hints,hlen⟩:=DQ hn hpre hwl;refine enter_call (codeAny_mono (call w iJ s₁ mg mb fa o pm cd doc a vs ns G Y ho (fd_plain hd) hcd hmg hobj hints hlen hg) fun r s' hq=>?_);obtain⟨rfl,h2,h3,h4⟩:=hq;exact⟨.inl ⟨.bool true,.bool true,[],rfl,fun _=>rfl,.bool true,D6 l _,fun _=>⟨List.Pairwise.nil,fun _ hm=>(nomatch hm)⟩⟩,h2,h3,h4⟩
end SE
namespace L2
open PySem PySem.Spec PyProof.Rows
variable {f:Addr} {fd:FuncData} {H:Hp} {ps:List Str} {k:Nat} {A B:Prop} {sp:Sp} {st:Stmt} {qual x:Str}
theorem tP:∀{vs:List Value} {ns:List Int},IntsAre vs ns->Vals (ns.map V.int) vs
 |_,_,.nil=>.nil
 |_,_,.cons n t h=>.cons ⟨t,rfl⟩ (tP h)
def MJ (H:Hp):Prop:=∀b,H b=none\/ ∃o xs,H b=some (.IB o (.lst xs))
theorem E4 {P:Program} {w:World} {K:Frag} {mg mb:Str->Option Value} {CX:DK} {fa a:Addr} {s₁:Shared} {vs:List Value} {ns:List Int}
  (KX:K.In s₁.heap) (hns:s₁.heap.Ns mainGlobals mg) (hb:s₁.heap.Ns builtinsNs mb) (hbb:∀x:Str,x≠"__name__"->mb x=bootBuiltins x) (hlim:s₁.heap.NoLimit) (hg:s₁.gens= #[])
  (ha:s₁.heap.get? a=some {cls:=.type "list",data:=.seq vs.toArray}) (hi:IntsAre vs ns) (hl:ns.length<=sizeLine) (hr:fD k callerA)
  (F:∀base:Heap,K.In base->base.Ns mainGlobals mg->aV P w K mg base CX k fa fd [x] sp) (hbind:∀(s:Shared) (u:Value),BindsTo s fd ⟨[u],[]⟩ [(x,u)])
  (hsp:∀H:Hp,MJ H->bJ K H a (ns.map V.int)->sp [.ref a] H (fun v _=>v= .bl true) fun _ _ _=>False)
  (hCX:∀H e s',CX [] H s₁ (fun _ _ _=>False) e s'->False):
  codeAny (model P w) callerA (.call (.ref fa) ⟨[.ref a],[]⟩) (fun r s'=>r= .ok (.ret (.bool true))/\OldK s₁.heap s'.heap/\s'.os=s₁.os/\AllBare s'.gens) s₁:=by
 have rv:=tP hi;have lenV:=hi.length;have core:∀H:Hp,MJ H->bJ K H a (ns.map V.int)->kC P w H s₁.heap->(∀b,H b≠none->b=a)->(H a≠none->K.lookup a=none)->
   codeAny (model P w) callerA (.call (.ref fa) ⟨[.ref a],[]⟩) (fun r s'=>r= .ok (.ret (.bool true))/\OldK s₁.heap s'.heap/\s'.os=s₁.os/\AllBare s'.gens) s₁:=by
  intro H hO hS bA hA hK;have base_of:∀{b:Addr} {o:Obj},s₁.heap.get? b=some o->H b=none->(vV s₁.heap H).get? b=some o:=fun e n=>GK e n
  have A8:∀{b:Addr} {o:Obj} {es:Array DictEntry} {ep:Nat},s₁.heap.get? b=some o->o.data= .dict es ep->H b=none:=fun{b o es ep} e d=>by
   cases q:H b with
   |none=>rfl
   |some u=>
    have e':b=a:=hA b (by rw[q];simp);subst e';rw[ha]at e;cases e
    have d':Data.seq vs.toArray _=Data.dict es ep:=d;cases d'
  have nsK:∀{b:Addr} {m:Str->Option Value},s₁.heap.Ns b m->(vV s₁.heap H).Ns b m:=fun{b m} ⟨o,es,ep,e,d,r⟩=>⟨o,es,ep,base_of e (A8 e d),d,r⟩
  have hKb:K.In (vV s₁.heap H):=fun b o e=>base_of (KX b o e) (by
   cases q:H b with
   |none=>rfl
   |some u=>
    have e':b=a:=hA b (by rw[q];simp);subst e';rw[hK (by rw[q];simp)]at e;cases e)
  have hM:Mod K mg (vV s₁.heap H):=⟨hKb,nsK hns,⟨mb,nsK hb,hbb⟩,let⟨mc,h1,h2⟩:=hlim;⟨mc,nsK h1,h2⟩⟩;have e0:JD P w K mg (vV s₁.heap H) callerA [] s₁ H:=⟨rfl,hM,fun b o e=>J9 e,Nat.le_of_eq (DX _ _),trivial,fun b hb=>absurd (show b∈([]:List Addr)from hb) (by simp),bA,.of_eq hg⟩;refine codeAny_mono ((F _ hKb (nsK hns)).run callerA [] s₁ H ⟨[.ref a],[]⟩ [.ref a] [.ref a] _ _ hr e0 (hbind s₁ (.ref a)) (.cons rfl .nil) (hsp H hO hS)) fun r s' h=>?_
  cases r with
  |error e=>exact(hCX H e s' h).elim
  | ok fl=>
   cases fl with
   |next=>exact False.elim h
   |brk=>exact False.elim h
   |cont=>exact False.elim h
   | ret u=>
    obtain⟨v,H',os,bare,un,hok',r',q⟩:=h;have q':v= .bl true:=q;subst q';obtain rfl:u=Value.bool true:=r';refine⟨rfl,OldK.of_keep fun b o e=>?_,os,bare⟩;cases q:H b with
    |none=>exact un.keep b o e q (by intro z;exact absurd (show b∈([]:List Addr)from z) (by simp)) (by simp)
    | some u=>
     rcases hO b with z|⟨ob,xs,z⟩
     .rw[q]at z;cases z
     .have z2:=un.r6 b ob _ z;obtain⟨e1,_⟩:=bA b _ z;obtain⟨e2,_⟩:=hok' b _ z2;rw[e]at e1;cases e1
      exact e2
 cases hk:K.lookup a with
 |some o=>
  have e:=KX a o hk;rw[ha]at e;cases e;refine core (fun _=>none) (fun _=>.inl rfl) (.inr ⟨_,vs.toArray,_,hk,rfl,rfl,rfl,by rw[size_toArray,lenV];exact hl,by simpa using rv⟩) (fun b u z=>by have z':(none:Option HO)=some u:=z;cases z') (fun b z=>absurd rfl z) fun z=>absurd rfl z
 | none=>
  refine core (fun b=>if b=a then some (.IB {cls:=.type "list",data:=.seq vs.toArray} (.lst (ns.map V.int)))else none) (fun b=>?_) (.inl (.inr ⟨{cls:=.type "list",data:=.seq vs.toArray},if_pos rfl⟩)) (fun b u z=>?_) (fun b z=>?_) fun _=>hk
  .by_cases hb:b=a
   .exact .inr ⟨_,_,if_pos hb⟩
   .exact .inl (if_neg hb)
  .by_cases hb:b=a
   .have z':=(if_pos hb).symm.trans z;cases z';subst hb;exact⟨ha,by rw[length_map];exact hl,vs,_,rv,ha⟩
   .have z':=(if_neg hb).symm.trans z;cases z'
  .by_cases hb:b=a
   .exact hb
   .exact absurd (if_neg hb) z
theorem JI {l:PySem.W.OpenLaw} {n:Nat} {q:Program} {loose:List Str} {XP:(Str->Option Value)->Heap->Prop} {YP:World->Heap->Prop} {d:DefRec} {K:Params->Frag} {CX:World->DK} {sp:World->Sp}
  (hn:l.most=some n) (hn2:n<=sizeLine) (hdf:d.params.defaults=[]) (hr:fD k callerA)
  (hY:∀(w:World) (h:Heap),YP w h->(K w.params).In h)
  (F:∀(w:World) (mg:Str->Option Value) (fa:Addr) (h:Heap),(K w.params).In h->h.Ns mainGlobals mg->mg d.name=some (.ref fa)->
   ∃fd:FuncData,(∀(s:Shared) (u:Value),BindsTo s fd ⟨[u],[]⟩ [(x,u)])/\
    ∀base:Heap,(K w.params).In base->base.Ns mainGlobals mg->aV l.prog w (K w.params) mg base (CX w) k fa fd [x] (sp w))
  (hsp:∀(w:World) (H:Hp) (a:Addr) (ns:List Int),ns.length<=n->MJ H->bJ (K w.params) H a (ns.map V.int)->sp w [.ref a] H (fun v _=>v= .bl true) fun _ _ _=>False)
  (hCX:∀(w:World) (H:Hp) (s:Shared) (e:Value) (s':Shared),CX w [] H s (fun _ _ _=>False) e s'->False):
  PySem.W.WalkO q loose XP YP l.row.toRowW d [] (fun f vs=>PySem.call f vs):=by
 refine SE.yQ hn hdf fun w iJ s₁ mg mb fa o pm cd doc a vs ns G Y ho hd hcd hmg hobj hints hlen hg=>?_
 have KX:=hY w _ Y;obtain⟨fd,hb,hF⟩:=F w mg fa _ KX G.T.g hmg;exact E4 KX G.T.g G.T.b G.T.builtins G.T.nolimit hg hobj hints (le_trans hlen hn2) hr hF hb (fun H hO hS=>hsp w H a ns hlen hO hS) fun H e s'=>hCX w H s₁ e s'
abbrev cJ:DK:=fun _ _ _ _ _ _=>False
abbrev E0:XK:=fun _ _ _=>False
theorem QC {X:Cx}:Passes cJ X E0:=fun _ _ _ _ _ _ _ h=>h.elim
structure OI (K:Frag) (x qual:Str) (st:Stmt) (f:Addr) (fd:FuncData):Prop where
 ex:∃(oc:Value) (od:Option Addr) (kV doc pm:Value) (an:Option Addr) (cdv ct:Value) (osl:Array (Option Value)),
  fd=fnOf x qual (aK st) (aJ st) (aB st) .none kV doc pm an cdv ct/\K.lookup f=some ⟨oc,od,.func fd,osl⟩/\codeIn K cdv qual=true
 kp:keepIn K (.ref f)=true
section
variable {P:Program} {w:World} {K:Frag} {mg:Str->Option Value} {base:Heap}
theorem OI.ok {N:List Str} (F:OI K x qual st f fd) (S:aU N ps (aB st)) (len:∀vs H Q E,sp vs H Q E->vs.length=ps.length)
  (hbody:∀(cdv:Value) (A:Around) (outer:List Env) (s:Shared) (H:Hp) (vs:List V) (Q:VK) (E:XK),fD k (A.deeper (envOfC qual (aB st) s.heap.objs.size f cdv))->sp vs H Q E->
   ∃t,DE (AK cJ P w K mg base N qual (aB st) f cdv A outer s H E).Q6 (aJ st) t/\t {nx:=fun _ H'=>Q .aZ H',rt:=Q} (start N vs) H):aV P w K mg base cJ (k+1) f fd ps sp:=by
 obtain⟨oc,od,kV,doc,pm,an,cdv,ct,osl,rfl,lk,hcd⟩:=F.ex;refine Q0 lk hcd S len fun A outer s H vs Q E hr hsp=>?_
 obtain⟨t,h,q⟩:=hbody cdv A outer s H vs Q E hr hsp;exact⟨t,h.Q6,q⟩
theorem OI.binds (F:OI K x qual st f fd)
  (h:∀(kV doc pm:Value) (an:Option Addr) (cdv ct:Value) (us:List Value),us.length=ps.length->bindArgs (fnOf x qual (aK st) (aJ st) (aB st) .none kV doc pm an cdv ct) ⟨us,[]⟩=pure (ps.zip us)):Binds K fd ps []:=by
 obtain⟨oc,od,kV,doc,pm,an,cdv,ct,osl,rfl,lk,hcd⟩:=F.ex;exact .all (h kV doc pm an cdv ct)
theorem bC {oc:Value} {od an:Option Addr} {osl:Array (Option Value)} {kV doc pm cdv ct:Value} (l:K.lookup f=some ⟨oc,od,.func (fnOf x qual (aK st) (aJ st) (aB st) .none kV doc pm an cdv ct),osl⟩)
  (c:codeIn K cdv qual=true) (k:keepIn K (.ref f)=true):OI K x qual st f (fnOf x qual (aK st) (aJ st) (aB st) .none kV doc pm an cdv ct):=⟨⟨oc,od,kV,doc,pm,an,cdv,ct,osl,rfl,l,c⟩,k⟩
end
theorem iE {A:Around} (hr:fD k A):A.units+1<cLine:=lt_of_le_of_lt (Nat.add_le_add_left (by decide:1<=64) _) hr.units
section
variable {X:Cx}
theorem pv (i:Nat) {pos:Pos} (hN:X.N[i]? =some x:=by rfl) (hv:RG X.env.scope x:=by first|exact Or.inl rfl|exact Or.inr (Or.inl rfl)|exact Or.inr (Or.inr rfl)) (hd:(x==("__debug__":Str))=false:=by decide)
  (hcd:(x==("__classdict__":Str))=false:=by decide):PE X (.Name x pos) (eG i):=MY hN hv hd hcd
end
theorem nM (h:B):if false=true then A else B:=by
 rw[if_neg Bool.false_ne_true];exact h
theorem mW (h:A):if true=true then A else B:=by
 rw[if_pos rfl];exact h
theorem QT {c:Prop} [Decidable c] (h1:c->A) (h2:¬c->B):if c then A else B:=by
 by_cases h:c
 .rw[if_pos h];exact h1 h
 .rw[if_neg h];exact h2 h
def aF (H H':Hp):Prop:=∀b o,H b=some o->H' b=some o
theorem aF.refl (H:Hp):aF H H:=fun _ _ h=>h
theorem aF.trans {H1 H2:Hp} (a:aF H H1) (b:aF H1 H2):aF H H2:=fun c o h=>b c o (a c o h)
theorem aF.seq {K:Frag} {H':Hp} {a:Addr} {xs:List V} (e:aF H H') (h:bJ K H a xs):bJ K H' a xs:=by
 rcases h with(h|⟨o,h⟩)|h
 .exact .inl (.inl (e _ _ h))
 .exact .inl (.inr ⟨o,e _ _ h⟩)
 .exact .inr h
end L2
set_option maxHeartbeats 4000000
namespace L2
open PySem PySem.Spec PyProof.Rows
variable {C a p:Addr} {X:Cx} {env:Env} {tg:Expr} {o:HO} {H H' H1 H2:Hp} {pins:List (Addr×Obj)} {cl:List (Str×Addr)} {fp:List Addr} {N:List Str} {xs:List V} {n:Nat} {A B c:Prop} {K:Frag} {scope:Scope} {s2:Shared} {σ:St} {z:Str} {α:Type} {w:World}
theorem mS:∀(names:List (Str×NameKind)) (acc:List (Str×Addr)),(∀p∈names,p.2= .free->∃c,env.cells.lookup p.1=some c)->
  (∀y c,acc.lookup y=some c->env.cells.lookup y=some c)->
  ∃cl,(forIn names acc (fun(p:Str×NameKind) (cs:List (Str×Addr))=>if(p.2==NameKind.free)=true then(do let a<-cellOf env p.1;pure (ForInStep.yield ((p.1,a)::cs)))else(pure (ForInStep.yield cs):Sem _)):Sem _)=pure cl/\
   (∀y c,cl.lookup y=some c->env.cells.lookup y=some c)/\(∀y,(acc.lookup y).isSome=true->(cl.lookup y).isSome=true)/\∀y,(y,NameKind.free)∈names->(cl.lookup y).isSome=true
 |[],acc,_,h=>⟨acc,rfl,h,fun _ z=>z,fun _ z=>nomatch z⟩
 | (n,k)::r,acc,hf,h=>by
  by_cases hk:k= .free
  .subst hk;obtain⟨c,hc⟩:=hf (n,.free) mem_cons_self rfl;obtain⟨cl,e,h1,h2,h3⟩:=mS r ((n,c)::acc) (fun p hp=>hf p (mem_cons_of_mem _ hp)) (fun y d hd=>by
    rw[lookup_cons]at hd;cases q:y==n with
    |true=>rw[q]at hd;cases hd;rw[eq_of_beq q];exact hc
    |false=>rw[q]at hd;exact h y d hd)
   refine⟨cl,?_,h1,fun y hy=>h2 y ?_,fun y hy=>?_⟩
   .rw[List.forIn_cons];have e0:cellOf env n=pure c:=by unfold cellOf;rw[hc]
    simp only[beq_self_eq_true,if_true,e0,pure_bind];exact e
   .rw[lookup_cons];cases q:y==n with
    |true=>rfl
    |false=>exact hy
   .rcases mem_cons.mp hy with q|q
    .cases q;refine h2 n ?_;rw[lookup_cons,beq_self_eq_true];rfl
    .exact h3 y q
  .obtain⟨cl,e,h1,h2,h3⟩:=mS r acc (fun p hp=>hf p (mem_cons_of_mem _ hp)) h;refine⟨cl,?_,h1,h2,fun y hy=>?_⟩
   .rw[List.forIn_cons];have e0:(k==NameKind.free)=false:=by simpa using hk
    simp only[e0,false_eq_true,if_false,pure_bind];exact e
   .rcases mem_cons.mp hy with q|q
    .cases q;exact absurd rfl hk
    .exact h3 y q
theorem gI {env:Env} {scope:Scope} (hf:∀p∈scope.names,p.2= .free->∃c,env.cells.lookup p.1=some c):
  ∃cl,closureFor scope env=pure cl/\(∀y c,cl.lookup y=some c->env.cells.lookup y=some c)/\∀y,(y,NameKind.free)∈scope.names->(cl.lookup y).isSome=true:=by
 obtain⟨cl,e,h1,_,h3⟩:=mS (env:=env) scope.names [] hf (fun y c h=>by simp at h);refine⟨cl,?_,h1,h3⟩;unfold closureFor;have e':=congrArg (fun m:Sem (List (Str×Addr))=>m>>=fun cs=>pure cs) e;simp only[pure_bind]at e';rw[<-e']
structure GJ where
 cl:List (Str×Addr)
 C:Addr
 s:Shared
 H:Hp
 ex:List Addr
noncomputable def aR (X:Cx) (scope:Scope) (N:List Str) (c:GJ):Cx:=
 {X with N:=N,iJ:=c.s,FA:=c.H,env:=compEnvC scope c.cl c.C X.env,outer:=X.stack,stack:=X.stack,ex:=c.ex,fn:=fun _=>false,pn:=[],xe:=fun _ _=>False}
noncomputable def bO (k:Nat) (cD:List Nat) (σ:St):St:=List.replicate k none++cD.map fun i=>(σ[i]?).getD none
def LJ:TT:=fun _ H Q=>Q true H
section
variable {prog:Program} {w:World} {A:Around} {R:Result->Shared->Prop} {s:Shared}
theorem tG {elt target iter:Expr} {ifs:List Expr} {pos:Pos} {it acc:Value} (I:Nat->Shared->Prop)
  (turn:∀n s,I n s->wpAny (model prog w) A (pyNext it) (fun r s₁=>match r with
   |none=>R (.ok .next) s₁
   | some v=>wpAny (model prog w) A (letOwnedTupleGo target it v) (fun _ s₁'=>wpAny (model prog w) A (assign target env v) (fun _ s₂=>
     wpAny (model prog w) A (forIn ifs true fun c r=>if r=true then do let ok<-isTrue c env (eval c env);pure (ForInStep.yield ok)else pure (ForInStep.yield r)) (fun ok s₃=>
      if ok=true then wpAny (model prog w) A (eval elt env) (fun x s₄=>
       wpAny (model prog w) A (call (.builtin "list.append") [acc,x]) (fun _ s₅=>∃m,m<n/\I m s₅) (fun _ _=>False) s₄) (fun _ _=>False) s₃
      else∃m,m<n/\I m s₃) (fun _ _=>False) s₂) (fun _ _=>False) s₁') (fun _ _=>False) s₁) (fun _ _=>False) s)
  (n:Nat) (h:I n s):
  codeAny (model prog w) A (.compLoop (.ListComp elt [⟨target,iter,ifs,0⟩] scope pos) 0 it acc env) R s:=by
 refine codeAny_loop rfl I (fun n s hI=>?_) n h;show wpAny _ A ((compTurn (.ListComp elt [⟨target,iter,ifs,0⟩] scope pos) 0 it acc env).onRaise (fun x=>do noteFrame x env;theTreesLotGoes x)) _ _ s;refine wpAny_noted ?_;refine wpAny_mono (E:=fun _ _=>False) ?_ (fun _ _ q=>q) (fun _ _ z=>z.elim);rw[compTurn_list];refine wpAny_bind (wpAny_standAt (wpAny_bind (wpAny_mono (turn n s hI) (fun r s₁ h₁=>?_) fun _ _ h'=>h')));cases r with
 |none=>exact wpAny_pure h₁
 | some v=>
  refine wpAny_bind (wpAny_mono h₁ (fun _ s₁' h₁'=>?_) fun _ _ h'=>h');refine wpAny_bind (wpAny_mono h₁' (fun _ s₂ h₂=>wpAny_bind (wpAny_mono h₂ (fun ok s₃ h₃=>?_) fun _ _ h'=>h')) fun _ _ h'=>h');cases ok with
  |false=>exact wpAny_pure ⟨rfl,h₃⟩
  |true=>
   exact wpAny_bind (wpAny_bind (wpAny_mono h₃ (fun x s₄ h₄=>wpAny_bind (wpAny_mono h₄ (fun _ s₅ h₅=>wpAny_pure (wpAny_pure ⟨rfl,h₅⟩)) fun _ _ h'=>h')) fun _ _ h'=>h'))
end
def HY (X:Cx) (ifs:List Expr) (t:TT):Prop:=
 ∀(pins:List (Addr×Obj)) (s:Shared) (σ:St) (H:Hp) (Q:Bool->Hp->Prop),Inv X pins σ H s->t σ H Q->
  wpAny (model X.prog X.w) X.A (forIn ifs true fun c r=>if r=true then do let ok<-isTrue c X.env (eval c X.env);pure (ForInStep.yield ok)else pure (ForInStep.yield r)) (TP X pins σ Q) X.xe s
theorem cC:HY X [] LJ:=fun pins s σ H Q I h=>wpAny_tests_nil ⟨H,I,h⟩
theorem oA {c:Expr} {t:TT} (h:PT X c t):HY X [c] t:=fun pins s σ H Q I hq=>wpAny_tests_one (h pins s σ H Q I hq)
theorem fA {env:Env}:∀{names:List (Str×NameKind)} {x:Str},names.lookup x=some .free->
  (names.map fun(n,k)=>if(k==NameKind.free && env.scope.kind== .function && env.kindOf n==some .cell)then(n,NameKind.cell)else(n,k)).lookup x=some .cell\/
  (names.map fun(n,k)=>if(k==NameKind.free && env.scope.kind== .function && env.kindOf n==some .cell)then(n,NameKind.cell)else(n,k)).lookup x=some .free
 |[],_,h=>by simp at h
 | (n,k)::r,x,h=>by
  have ih:= @fA env r x;show List.lookup x ((if(k==NameKind.free && env.scope.kind== .function && env.kindOf n==some .cell)=true then(n,NameKind.cell)else(n,k))::_)=_\/ List.lookup x ((if(k==NameKind.free && env.scope.kind== .function && env.kindOf n==some .cell)=true then(n,NameKind.cell)else(n,k))::_)=_;cases hx:x==n with
  |true=>
   simp only[lookup_cons,hx]at h;cases h
   by_cases hc:(NameKind.free==NameKind.free && env.scope.kind== .function && env.kindOf n==some .cell)=true
   .rw[if_pos hc];left;simp only[lookup_cons,hx]
   .rw[if_neg hc];right;simp only[lookup_cons,hx]
  |false=>
   simp only[lookup_cons,hx]at h
   by_cases hc:(k==NameKind.free && env.scope.kind== .function && env.kindOf n==some .cell)=true
   .rw[if_pos hc];simp only[lookup_cons,hx];exact ih h
   .rw[if_neg hc];simp only[lookup_cons,hx];exact ih h
theorem iS {env:Env}:∀{names:List (Str×NameKind)} {x:Str},(∀y∈names,y.2≠ .cell)->
  ((names.map fun(n,k)=>if(k==NameKind.free && env.scope.kind== .function && env.kindOf n==some .cell)then(n,NameKind.cell)else(n,k)).lookup x=some .cell\/
  (names.map fun(n,k)=>if(k==NameKind.free && env.scope.kind== .function && env.kindOf n==some .cell)then(n,NameKind.cell)else(n,k)).lookup x=some .free)->(x,NameKind.free)∈names
 |[],_,_,h=>by simp at h
 | (n,k)::r,x,hn,h=>by
  have ih:= @iS env r x (fun y hy=>hn y (mem_cons_of_mem _ hy));have h':List.lookup x ((if(k==NameKind.free && env.scope.kind== .function && env.kindOf n==some .cell)=true then(n,NameKind.cell)else(n,k))::(r.map fun(n,k)=>if(k==NameKind.free && env.scope.kind== .function && env.kindOf n==some .cell)then(n,NameKind.cell)else(n,k)))=some .cell\/ List.lookup x ((if(k==NameKind.free && env.scope.kind== .function && env.kindOf n==some .cell)=true then(n,NameKind.cell)else(n,k))::(r.map fun(n,k)=>if(k==NameKind.free && env.scope.kind== .function && env.kindOf n==some .cell)then(n,NameKind.cell)else(n,k)))=some .free:=h;cases hx:x==n with
  | true=>
   have e:=eq_of_beq hx;subst e
   by_cases hc:(k==NameKind.free && env.scope.kind== .function && env.kindOf x==some .cell)=true
   .have hk:k= .free:=by
     have:=(and_eq_true _ _|>.mp ((and_eq_true _ _|>.mp hc).1)).1;exact eq_of_beq this
    subst hk;exact mem_cons_self
   .rw[if_neg hc]at h';simp only[lookup_cons,hx]at h';have hk:=hn (x,k) mem_cons_self;rcases h' with z|z
    .exact absurd (Option.some.inj z) hk
    .rw[Option.some.inj z];exact mem_cons_self
  |false=>
   refine mem_cons_of_mem _ (ih ?_)
   by_cases hc:(k==NameKind.free && env.scope.kind== .function && env.kindOf n==some .cell)=true
   .rw[if_pos hc]at h';simp only[lookup_cons,hx]at h';exact h'
   .rw[if_neg hc]at h';simp only[lookup_cons,hx]at h';exact h'
def jD (J:It) (g:TG) (tt:TT) (te:TE) (l:Addr) (σ0:St) (H0:Hp) (Q:VK):Prop:=
 ∃W:Nat->Nat->St->Hp->Prop,(∃m,W 0 m σ0 H0)/\
   ∀i m σ' H2,W i m σ' H2->(J.stop i H2/\Q (.ref l) H2)\/ (J.go i H2/\∃N:St->Hp->Prop,(∀σ3 H3,N σ3 H3->∃m',m'<m/\W (i+1) m' σ3 H3)/\
    ∀x H3,J.AY i H2 x H3->g x σ' H3 fun σ4 H4=>tt σ4 H4 fun b H5=>if b=true then te σ4 H5 fun y H6=>∃xs,H6 l=some (.lst xs)/\xs.length<sizeLine/\N σ4 (upd H6 l (.lst (xs++[y])))else N σ4 H5)
def rA (wi:TI) (k:Nat) (cD:List Nat) (g:TG) (tt:TT) (te:TE):TE:=fun σ H Q=>wi σ H fun J H1=>∀l,H1 l=none->jD J g tt te l (bO k cD σ) (upd H1 l (.lst [])) Q
structure fO (X:Cx) (scope:Scope) (N:List Str) (k:Nat) (cD:List Nat):Prop where
 kind:scope.kind= .function
 names:∀y∈scope.names,y.2= .local->scope.names.lookup y.1=some .local
 cell:∀y∈scope.names,y.2≠ .cell
 free:∀y∈scope.names,y.2= .free->X.env.kindOf y.1=some .cell\/ X.env.kindOf y.1=some .free
 len:N.length=k+cD.length
 cD:∀j i,cD[j]? =some i->∃y,N[k+j]? =some y/\X.N[i]? =some y/\scope.names.lookup y=some .free
theorem tY {k:Nat} {cD:List Nat} {σ:St} {j:Nat} {v:V} (h:(bO k cD σ)[j]? =some (some v)):∃q i,j=k+q/\cD[q]? =some i/\σ[i]? =some (some v):=by
 unfold bO at h
 by_cases hj:j<k
 .rw[List.getElem?_append_left (by simpa using hj),List.getElem?_replicate]at h;split at h<;>cases h
 .rw[List.getElem?_append_right (by simpa using hj),length_replicate,getElem?_map]at h;cases q:cD[j - k]? with
  |none=>rw[q]at h;cases h
  |some i=>
   rw[q]at h;have h':(σ[i]?).getD none=some v:=Option.some.inj h;refine⟨j - k,i,by omega,q,?_⟩;cases r:σ[i]? with
   |none=>rw[r]at h';cases h'
   |some o=>rw[r]at h';have:o=some v:=h';rw[this]
theorem kC.but {P:Program} {h h':Heap} (x:kC P w H h) (hC:H C=none) (k:∀b o,b≠C->h.get? b=some o->h'.get? b=some o):kC P w H h':=fun b u e=>by
 have nit:∀b u,H b=some u->b≠C:=fun b u e z=>by rw[z,hC]at e;cases e
 refine(x b u e).yB (fun c v hc q=>k c v ?_ q) (fun _ q=>q) fun _ _ q=>q
 rcases hc with z|z
 .rw[z];exact nit b u e
 .exact nit c _ z
section
variable {X:Cx} {elt tg iter:Expr} {ifs:List Expr} {scope:Scope} {pos:Pos} {wi:TI} {g:TG} {tt:TT} {te:TE} {N:List Str} {k:Nat} {cD:List Nat}
theorem oQ (S:fO X scope N k cD) (I2:Inv X pins σ H2 s2)
  (hcl1:∀y c,cl.lookup y=some c->X.env.cells.lookup y=some c) (hcl2:∀y,(y,NameKind.free)∈scope.names->(cl.lookup y).isSome=true) (hC:s2.heap.objs.size<=C)
  (hf:∀b∈fp,mQ X pins H2 b) (ho:∀b∈fp,b<s2.heap.objs.size):(aR X scope N ⟨cl,C,s2,H2,fp⟩).Ok where
 mod:=I2.ok.mod
 kind:=S.kind
 glob:=I2.ok.glob
 blt:=I2.ok.blt
 above:=hC
 inj:=fun x y c h1 h2=>I2.ok.inj x y c (hcl1 x c h1) (hcl1 y c h2)
 has:=fun x h=>by
  have h':(x,NameKind.free)∈scope.names:=iS (env:=X.env) S.cell h;exact isSome_iff_exists.mp (hcl2 x h')
 OL:=fun _ _ z=>by cases z
 hd:=I2.ok.hd
 frames:=I2.ok.frames
 OX:=.inl rfl
 RT:=fun b hb=>⟨ne_of_lt (lt_of_lt_of_le (ho b hb) hC),fun x c e=>(hf b hb).2.2.2.2.1 x c (hcl1 x c e)⟩
 bs:=I2.bs
 KC:=le_trans I2.ok.KC I2.sz
 D4:=fun b o e hb=>by
  rcases(hf b hb).2.2.2.1 with z|z
  .exact I2.ok.D4 b o e z
  .exact absurd (lt_of_lt_of_le (lt_size e) (le_trans I2.ok.KC z)) (lt_irrefl _)
 wV:=fun b hb hb'=>by
  rcases mem_cons.mp (I2.zQ b hb')with z|z
  .exact(hf b hb).2.1 z
  .exact(hf b hb).2.2.1 z
 qJ:=I2.stack
 MP:=I2.CB
theorem BG {h1:Heap} {tk:Nat} {m0:Str->Option Value} (S:fO X scope N k cD) (I2:Inv X pins σ H2 s2)
  (hcl1:∀y c,cl.lookup y=some c->X.env.cells.lookup y=some c) (hcl2:∀y,(y,NameKind.free)∈scope.names->(cl.lookup y).isSome=true) (hC:C=s2.heap.objs.size+1)
  (hf:∀b∈fp,mQ X pins H2 b) (ho:∀b∈fp,b<s2.heap.objs.size) (hk:∀b o,s2.heap.get? b=some o->h1.get? b=some o) (hD:h1.get? s2.heap.objs.size=some {cls:=.type "list",data:=.seq #[] 0}) (hns:h1.Ns C m0):
  Inv (aR X scope N ⟨cl,C,s2,H2,fp⟩) [] (bO k cD σ) (upd H2 s2.heap.objs.size (.lst [])) {s2 with heap:=h1,toks:=tk}:=by
 have fr:H2 s2.heap.objs.size=none:=I2.bA.fresh (le_refl _);have hCf:H2 C=none:=I2.bA.fresh (hC▸le_succ _);refine⟨oQ S I2 hcl1 hcl2 (hC▸le_succ _) hf ho,rfl,I2.bare,Un.laid hk (le_refl _) fr,⟨m0,hns,fun i y v e1 e2 e3=>?_⟩,fun x c e=>?_,?_,fun x c e=>?_,fun p hp=>absurd (show p∈([]:List (Addr×Obj))from hp) (by simp),I2.bA.laid hk (le_refl _) ?_,?_⟩
 .obtain⟨q,j,rfl,hj,hv⟩:=tY e2;obtain⟨z,hz1,hz2,hz3⟩:=S.cD q j hj;have e1':N[k+q]? =some y:=e1;rw[hz1]at e1';cases e1';obtain⟨m,hn,hl⟩:=I2.loc;have hfr:=S.free (y,.free) (PySem.mem_of_lookup hz3) rfl;obtain⟨u,r,l⟩:=hl j y v hz2 hv (by rcases hfr with z|z;exact .inr (.inl z);exact .inr (.inr z));refine⟨u,r,.inr ⟨fA (env:=X.env) hz3,?_⟩⟩;obtain⟨c,hc⟩:=isSome_iff_exists.mp (hcl2 y (PySem.mem_of_lookup hz3));rcases l with⟨hk',_⟩|⟨_,c',hc',hcell⟩
  .rcases hfr with z|z<;>(rw[hk']at z;cases z)
  .have e:=hcl1 y c hc;rw[hc']at e;cases e;obtain⟨o,ho',hd⟩:=hcell;exact⟨_,hc,o,hk _ _ ho',hd⟩
 .obtain⟨v,o,ho',hd⟩:=I2.cell x c (hcl1 x c e);exact⟨v,o,hk _ _ ho',hd⟩
 .show upd H2 s2.heap.objs.size (.lst []) C=none;rw[aM (ne_of_gt (hC▸lt_succ_self _))];exact hCf
 .have e':=hcl1 x c e;obtain⟨v,q⟩:=I2.cell x c e';rw[aM (ne_of_lt q.lt)];exact I2.kQ x c e'
 .exact⟨zero_le _,[],0,.nil,hD⟩
 .show(bO k cD σ).length=N.length;unfold bO;rw[length_append,length_replicate,length_map,S.len]
theorem J7 (hc:X.calm=true) (S:fO X scope N k cD) (hi:PI X tg iter wi) (hg:∀c,PG (aR X scope N c) tg g) (ht:∀c,HY (aR X scope N c) ifs tt) (he:∀c,PE (aR X scope N c) elt te)
  (hs:∀x,foldedSetIterable iter X.env x=pure x:=by intro _;rfl):PE X (.ListComp elt [⟨tg,iter,ifs,0⟩] scope pos) (rA wi k cD g tt te):=by
 intro pins s σ H Q I h;rw[eval_ListComp];obtain⟨cl,hclos,hcl1,hcl2⟩:=gI (scope:=scope) (env:=X.env) (fun p hp hf=>I.ok.has p.1 (S.free p hp hf));refine wpAny_comprehension_free (use:=none) rfl hs hclos S.kind S.names (cE (hi pins s σ H _ I h) fun v s1 h1=>cE h1 fun itv s2 h2=>?_);obtain⟨it,fp,tn,J,H2,e,I2,T,st2,f2,q2⟩:=h2;subst e;obtain⟨W,⟨m0,w0⟩,turn⟩:=q2 s2.heap.objs.size (I2.bA.fresh (le_refl _));have hob:∀b∈fp,b<s2.heap.objs.size:=fun b hb=>let⟨o,e,_⟩:=T.obj _ _ st2 b hb;lt_size e
 refine wpAny_newObj_type (wpAny_newFunctionEnv S.cell (by intro y hy;simp at hy) (fun h₁ hns₁ hsb₁=>?_) S.kind);dsimp only at hns₁ hsb₁⊢
 generalize hHH:s2.heap.push {cls:=.type "list",dict:=none,data:=.seq ([]:List Value).toArray}=HH at hns₁ hsb₁⊢
 have hCC:HH.objs.size=s2.heap.objs.size+1:=by rw[<-hHH,size_push]
 have old:∀b o,s2.heap.get? b=some o->h₁.get? b=some o:=fun b o e=>hsb₁.extBut b o (ne_of_lt (hCC▸lt_succ_of_lt (lt_size e))) (get?_push_of_some _ (hHH▸get?_push_of_some _ e))
 have hD:h₁.get? s2.heap.objs.size=some {cls:=.type "list",data:=.seq #[] 0}:=hsb₁.extBut _ _ (ne_of_lt (hCC▸lt_succ_self _)) (get?_push_of_some _ (hHH▸get?_push_size _ rfl));have I4:=fun tk=>BG (tk:=tk) S I2 hcl1 hcl2 hCC f2 hob old hD hns₁
 have X':=aR X scope N ⟨cl,HH.objs.size,s2,H2,fp⟩;have stat:∀{H':Hp},(∀b∈fp,H' b=none)->∀b∈fp,mQ (aR X scope N ⟨cl,HH.objs.size,s2,H2,fp⟩) [] H' b:=fun hn b hb=>
  ⟨hn b hb,ne_of_lt (hCC▸lt_succ_of_lt (hob b hb)),(oQ S I2 hcl1 hcl2 (hCC▸le_succ _) f2 hob).wV b hb,.inl hb,fun x c e=>(f2 b hb).2.2.2.2.1 x c (hcl1 x c e),fun p hp=>absurd (show p∈([]:List (Addr×Obj))from hp) (by simp)⟩
 have loop:∀s₃:Shared,s₃={s2 with heap:=h₁,toks:=s2.toks+([]:List (Str×Value)).length}->
   codeAny (model X.prog X.w) X.A (.compLoop (.ListComp elt [⟨tg,iter,ifs,0⟩] scope pos) 0 (.ref it) (.ref s2.heap.objs.size) (compEnvC scope cl HH.objs.size X.env))
    (compPost (model X.prog X.w) X.A X.xe none (EP X pins σ Q) (.ref s2.heap.objs.size) HH.objs.size) s₃:=by
  rintro s₃ rfl;refine tG (fun n s'=>∃i σ' H',Inv (aR X scope N ⟨cl,HH.objs.size,s2,H2,fp⟩) [] σ' H' s'/\tn i s'.heap/\(∀b∈fp,H' b=none)/\W i n σ' H') ?_ m0
   ⟨0,bO k cD σ,_,I4 _,T.keep _ _ _ st2 fun b _ o e=>old b o e,fun b hb=>by rw[aM (ne_of_lt (hob b hb))];exact(f2 b hb).1,w0⟩
  rintro n s3 ⟨i,σ3,H3,I3,st3,fr3,w3⟩;rcases turn i n σ3 H3 w3 with⟨stop,qn⟩|⟨go,NN,hN,step⟩
  .refine cE (T.done (aR X scope N ⟨cl,HH.objs.size,s2,H2,fp⟩) rfl rfl rfl hc i [] s3 σ3 H3 _ I3 (stat fr3) st3 stop) fun r s4 ⟨hr,J4⟩=>?_
   subst hr;obtain⟨m,hn,_⟩:=J4.loc;refine⟨m,hn,fun h' hs'=>?_⟩;have keepC:∀b o,b≠HH.objs.size->s4.heap.get? b=some o->h'.get? b=some o:=fun b o hb e=>hs'.extBut b o hb e
   have g7:∀b o,s2.heap.get? b=some o->b≠HH.objs.size:=fun b o e=>ne_of_lt (hCC▸lt_succ_of_lt (lt_size e))
   have u:=J4.base;have u':Un (D5 X.stack) fp H2 H3 s2.heap h':=⟨fun b o q n hb hx=>keepC b o (g7 b o q) (u.keep b o q n hb hx),fun b o q n hb hx=>by
     obtain⟨sl,e⟩:=u.slot b o q n hb hx;exact⟨sl,keepC b _ (g7 b o q) e⟩,u.free,fun b o q hx=>by
     obtain⟨o',e⟩:=u.there b o q hx;exact⟨o',keepC b _ (g7 b o q) e⟩,u.sQ,u.r6,u.sM⟩
   refine⟨.ref s2.heap.objs.size,H3,I2.A6 (ch:=fp) J4.os u' (J4.bA.but J4.free keepC) J4.bare fun b hb=>?_,rfl,qn⟩;obtain⟨_,f1,_,f3,f4,f5⟩:=f2 b hb;exact⟨f3,f1,f4,f5⟩
  .refine cE (T.item (aR X scope N ⟨cl,HH.objs.size,s2,H2,fp⟩) rfl rfl rfl hc i [] s3 σ3 H3 _ I3 (stat fr3) st3 go) fun r s4 ⟨u,hr,h4⟩=>?_
   subst hr;refine cE h4 fun _ s5 ⟨x,H5,I5,r5,y5,st5,fr5⟩=>?_
   have I5':=I5.pinned (stat fr5) (T.obj _ _ st5);have again:∀{s7:Shared} {σ7:St} {H7:Hp},Inv (aR X scope N ⟨cl,HH.objs.size,s2,H2,fp⟩) ([]++lL fp s5.heap) σ7 H7 s7->NN σ7 H7->
     ∃m,m<n/\∃i σ' H',Inv (aR X scope N ⟨cl,HH.objs.size,s2,H2,fp⟩) [] σ' H' s7/\tn i s7.heap/\(∀b∈fp,H' b=none)/\W i m σ' H':=fun{s7 σ7 H7} I7 n7=>by
    obtain⟨m',hm,w7⟩:=hN σ7 H7 n7;refine⟨m',hm,i+1,σ7,H7,I7.iM,T.keep _ _ _ st5 fun b hb o e=>(I7.pin (b,o) (mem_append_right _ (mem_append_right _ (dJ hb e)))).1,fun b hb=>?_,w7⟩;obtain⟨o,e,d⟩:=T.obj _ _ st5 b hb;exact(I7.pin (b,o) (mem_append_right _ (mem_append_right _ (dJ hb e)))).2.1
   refine cE (hg _ _ s5 σ3 H5 x u _ I5' r5 (step x H5 y5)) fun _ s6 ⟨σ6,H6,I6,q6⟩=>?_
   refine cE (ht _ _ s6 σ6 H6 _ I6 q6) fun b s7 ⟨H7,I7,q7⟩=>?_
   cases b with
   |false=>exact again I7 q7
   |true=>
    refine cE (he _ _ s7 σ6 H7 _ I7 q7) fun y s8 ⟨yv,H8,I8,r8,xs,hl,hz,n8⟩=>?_
    refine cE (eY _ s8 σ6 H8 (.ref s2.heap.objs.size) [yv] (.ref s2.heap.objs.size) [y] (fun _ H9=>NN σ6 H9) I8 rfl (.cons r8 .nil) ⟨_,xs,yv,rfl,rfl,hl,hz,n8⟩) fun _ s9 ⟨_,H9,I9,_,q9⟩=>?_
    exact again I9 q9
 exact codeAny_compStart_list (loop _ rfl) (T.self X.A 0 _ _ _ (T.keep _ _ _ st2 fun b _ o e=>old b o e) (loop _ rfl))
end
noncomputable def O9 (z:Str):It:=⟨fun i _=>i<z.cps.size,fun i H x H'=>H'=H/\∃c,z.cps[i]? =some c/\x= .str ⟨#[c]⟩,fun i _=>z.cps.size<=i⟩
theorem CU {P:Program} (z:Str) (t:Tok) (it:Addr):Turn P w K tg (O9 z) [it] it (fun i h=>h.IsStrIter it "str_ascii_iterator" z t i)where
 mem:=by simp
 obj:=fun i h st b hb=>by
  have e:b=it:=by simpa using hb
  subst e;obtain⟨o,e,c,d⟩:=st;exact⟨o,e,fun v z=>by rw[d]at z;cases z⟩
 keep:=fun i h h' st k=>let⟨o,e,r⟩:=st;⟨o,k it (by simp) o e,r⟩
 item:=by
  intro X hP hw hK hc i pins s σ H E I hf st hg;subst hP hw hK;obtain⟨f0,f1,f2,f3,f4,f5⟩:=hf it (by simp);have hg':i<z.cps.size:=hg;refine wpAny_pyNext_ascii_item st (c:=z.cps[i]) (by simp[hg']) fun h' st' sb=>?_
  have I1:Inv X pins σ H {s with heap:=h',toks:=s.toks+1}:=I.turned (fun b o hb e=>(sb.2 b hb).trans e) f0 f1 f3 f4 f5;obtain⟨o,e,c,d⟩:=id st';exact⟨_,rfl,t6 (s:={s with heap:=h',toks:=s.toks+1}) e c d (by decide) ⟨.str ⟨#[z.cps[i]]⟩,H,I1,⟨_,rfl⟩,⟨rfl,_,by simp[hg'],rfl⟩,st',fun b hb=>(hf b hb).1⟩⟩
 done:=by
  intro X hP hw hK hc i pins s σ H E I hf st hg;subst hP hw hK;obtain⟨f0,f1,f2,f3,f4,f5⟩:=hf it (by simp);exact wpAny_pyNext_ascii_end (I.ok.hd hc) st (getElem?_eq_none hg) fun h' eb=>⟨rfl,I.turned (t':=s.toks) (fun b o hb e=>eb b o hb e) f0 f1 f3 f4 f5⟩
 self:=fun A i s Q E st h=>by
  refine wpAny_pyIter_slot st.typeIs F.slot_str_ascii_iterator_iter (wpAny_call_entry F.slot_str_ascii_iterator_iter st.typeIs F.entry_str_ascii_iterator_iter ?_ (F.args_str_ascii_iterator_iter_1 _));show wpAny _ _ (ret (.ref it)) _ _ s;exact wpAny_pure ⟨_,rfl,"str_ascii_iterator",_,st.typeIs,F.slot_str_ascii_iterator_next.lookup,h⟩
theorem CH {P:Program} (z:Str) (t:Tok) (it:Addr):Turn P w K tg (O9 z) [it] it (fun i h=>h.IsStrIter it "str_iterator" z t i)where
 mem:=by simp
 obj:=fun i h st b hb=>by
  have e:b=it:=by simpa using hb
  subst e;obtain⟨o,e,c,d⟩:=st;exact⟨o,e,fun v z=>by rw[d]at z;cases z⟩
 keep:=fun i h h' st k=>let⟨o,e,r⟩:=st;⟨o,k it (by simp) o e,r⟩
 item:=by
  intro X hP hw hK hc i pins s σ H E I hf st hg;subst hP hw hK;obtain⟨f0,f1,f2,f3,f4,f5⟩:=hf it (by simp);have hg':i<z.cps.size:=hg;refine wpAny_pyNext_wide_item st (c:=z.cps[i]) (by simp[hg']) fun h' st' sb=>?_
  have I1:Inv X pins σ H {s with heap:=h',toks:=s.toks+1}:=I.turned (fun b o hb e=>(sb.2 b hb).trans e) f0 f1 f3 f4 f5;obtain⟨o,e,c,d⟩:=id st';exact⟨_,rfl,t6 (s:={s with heap:=h',toks:=s.toks+1}) e c d (by decide) ⟨.str ⟨#[z.cps[i]]⟩,H,I1,⟨_,rfl⟩,⟨rfl,_,by simp[hg'],rfl⟩,st',fun b hb=>(hf b hb).1⟩⟩
 done:=by
  intro X hP hw hK hc i pins s σ H E I hf st hg;subst hP hw hK;obtain⟨f0,f1,f2,f3,f4,f5⟩:=hf it (by simp);exact wpAny_pyNext_wide_end (I.ok.hd hc) st (getElem?_eq_none hg) fun h' eb=>⟨rfl,I.turned (t':=s.toks) (fun b o hb e=>eb b o hb e) f0 f1 f3 f4 f5⟩
 self:=fun A i s Q E st h=>by
  refine wpAny_pyIter_slot st.typeIs F.slot_str_iterator_iter (wpAny_call_entry F.slot_str_iterator_iter st.typeIs F.entry_str_iterator_iter ?_ (F.args_str_iterator_iter_1 _));show wpAny _ _ (ret (.ref it)) _ _ s;exact wpAny_pure ⟨_,rfl,"str_iterator",_,st.typeIs,F.slot_str_iterator_next.lookup,h⟩
def RE (tl:TE):TI:=fun σ H R=>tl σ H fun x H1=>∃z,x= .str z/\R (O9 z) H1
section
variable {X:Cx} {tg:Expr}
theorem FC {l:Expr} {tl:TE} (hl:PE X l tl):PI X tg l (RE tl):=by
 intro pins s σ H R I h;refine cE (hl pins s σ H _ I h) fun v s1 ⟨x,H1,I1,r1,q1⟩=>?_
 obtain⟨z,e,q⟩:=q1;subst e;obtain⟨t,rfl⟩:=r1;cases ha:z.cps.all (·<128)with
 |true=>
  refine wpAny_pyIter_ascii ha ?_;refine⟨s1.heap.objs.size,[s1.heap.objs.size],_,_,H1,rfl,I1.kept (t':=s1.toks) fun b o e=>get?_push_of_some _ e,CU z t _,⟨_,get?_push_size _ rfl,rfl,rfl⟩,fun b hb=>?_,q⟩;have e:b=s1.heap.objs.size:=by simpa using hb
  subst e;exact I1.oG (le_refl _) (I1.bA.fresh (le_refl _))
 |false=>
  refine wpAny_pyIter_wide ha ?_;refine⟨s1.heap.objs.size,[s1.heap.objs.size],_,_,H1,rfl,I1.kept (t':=s1.toks) fun b o e=>get?_push_of_some _ e,CH z t _,⟨_,get?_push_size _ rfl,rfl,rfl⟩,fun b hb=>?_,q⟩;have e:b=s1.heap.objs.size:=by simpa using hb
  subst e;exact I1.oG (le_refl _) (I1.bA.fresh (le_refl _))
end
noncomputable def vQ (bs:List Bool):List V:=bs.map V.bl
theorem LA {bs:List Bool} {its:List Value} (r:Vals (vQ bs) its):∀i:Nat,its[i]? =(bs[i]?).map Value.bool:=by
 induction bs generalizing its with
 |nil=>cases r;intro i;simp
 | cons b bs ih=>
  cases r with
  |cons r rr=>
   cases r;intro i;cases i with
   |zero=>rfl
   |succ i=>exact ih rr i
theorem range_all {n:Nat} {f:Nat->Bool} {l:List Bool} (hn:l.length=n) (h:∀i b,l[i]? =some b->f i=b):(List.range n).all f=l.all id:=by
 induction l generalizing n f with
 |nil=>subst hn;rfl
 |cons b l ih=>
  subst hn;rw[length_cons,range_succ_eq_map,all_cons,all_map,all_cons,h 0 b rfl,ih (n:=l.length) (f:=f∘Nat.succ) rfl fun i b e=>h (i+1) b e];rfl
theorem range_any {n:Nat} {f:Nat->Bool} {l:List Bool} (hn:l.length=n) (h:∀i b,l[i]? =some b->f i=b):(List.range n).any f=l.any id:=by
 induction l generalizing n f with
 |nil=>subst hn;rfl
 |cons b l ih=>
  subst hn;rw[length_cons,range_succ_eq_map,any_cons,List.any_map,any_cons,h 0 b rfl,ih (n:=l.length) (f:=f∘Nat.succ) rfl fun i b e=>h (i+1) b e];rfl
section
variable {X:Cx}
theorem FK (hc:X.calm=true):dR X (.builtin "all") (fun xs H Q=>∃p bs,xs=[.ref p]/\bJ X.K H p (vQ bs)/\Q (.bl (bs.all id)) H):=by
 intro pins s σ H xs us Q I r h;obtain⟨p,bs,rfl,hq,q⟩:=h;obtain⟨u,rfl,rx⟩:=vals1 r;cases rx;obtain⟨its,rv,pl,hz⟩:=I.list hq;have hg:=LA rv;have hlen:bs.length=its.length:=by have:=rv.length;simpa [vQ]using this
 refine call_all_walk (wpAny_pyIter_list pl.isList ?_);have hlt:p<s.heap.objs.size:=let⟨o,_,e,_⟩:=pl;lt_size e
 refine⟨s.heap.objs.size,_,_,_,_,_,fun i=>(bs[i]?).getD false,rfl,Walks.list (by exact I.ok.hd hc) s.heap.objs.size p (ne_of_lt hlt) its.toArray,⟨⟨_,get?_push_size _ rfl,rfl,rfl⟩,pl.isList.at fun o e=>get?_push_of_some _ e⟩,?_,?_⟩
 .intro i v s' Q' E' hv hq';have hv':its[i]? =some v:=by simpa using hv
  rw[hg i]at hv';cases e:bs[i]? with
  |none=>rw[e]at hv';cases hv'
  |some b=>
   dsimp only at hq';rw[e]at hv' hq';cases hv';exact wpAny_truthy_bool hq'
 .intro h' tk hk;have e1:(List.range its.toArray.size).all (fun i=>(bs[i]?).getD false)=bs.all id:=range_all (by simpa using hlen) (fun i b e=>by rw[e];rfl);rw[e1];have I1:Inv X pins σ H {s with heap:=s.heap.push {cls:=.type "list_iterator",data:=.fields #[.ref p,.int 0 0]},toks:=s.toks}:=I.kept fun b o e=>get?_push_of_some _ e
  have f1:=I.oG (H':=H) (le_refl _) (I.bA.fresh (le_refl _));obtain⟨f0,f1,f2,f3,f4,f5⟩:=f1;exact⟨.bl _,H,I1.turned (it:=s.heap.objs.size) (fun b o hb e=>hk b o (by simpa using hb) e) f0 f1 f3 f4 f5,rfl,q⟩
theorem G2 (hc:X.calm=true):dR X (.builtin "any") (fun xs H Q=>∃p bs,xs=[.ref p]/\bJ X.K H p (vQ bs)/\Q (.bl (bs.any id)) H):=by
 intro pins s σ H xs us Q I r h;obtain⟨p,bs,rfl,hq,q⟩:=h;obtain⟨u,rfl,rx⟩:=vals1 r;cases rx;obtain⟨its,rv,pl,hz⟩:=I.list hq;have hg:=LA rv;have hlen:bs.length=its.length:=by have:=rv.length;simpa [vQ]using this
 refine call_any_walk (wpAny_pyIter_list pl.isList ?_);have hlt:p<s.heap.objs.size:=let⟨o,_,e,_⟩:=pl;lt_size e
 refine⟨s.heap.objs.size,_,_,_,_,_,fun i=>(bs[i]?).getD false,rfl,Walks.list (by exact I.ok.hd hc) s.heap.objs.size p (ne_of_lt hlt) its.toArray,⟨⟨_,get?_push_size _ rfl,rfl,rfl⟩,pl.isList.at fun o e=>get?_push_of_some _ e⟩,?_,?_⟩
 .intro i v s' Q' E' hv hq';have hv':its[i]? =some v:=by simpa using hv
  rw[hg i]at hv';cases e:bs[i]? with
  |none=>rw[e]at hv';cases hv'
  |some b=>
   dsimp only at hq';rw[e]at hv' hq';cases hv';exact wpAny_truthy_bool hq'
 .intro h' tk hk;have e1:(List.range its.toArray.size).any (fun i=>(bs[i]?).getD false)=bs.any id:=range_any (by simpa using hlen) (fun i b e=>by rw[e];rfl);rw[e1];have I1:Inv X pins σ H {s with heap:=s.heap.push {cls:=.type "list_iterator",data:=.fields #[.ref p,.int 0 0]},toks:=s.toks}:=I.kept fun b o e=>get?_push_of_some _ e
  have f1:=I.oG (H':=H) (le_refl _) (I.bA.fresh (le_refl _));obtain⟨f0,f1,f2,f3,f4,f5⟩:=f1;exact⟨.bl _,H,I1.turned (it:=s.heap.objs.size) (fun b o hb e=>hk b o (by simpa using hb) e) f0 f1 f3 f4 f5,rfl,q⟩
theorem oM:OJ X (fun x lo hi H Q=>∃z,x= .str z/\z.length<=sizeLine/\Q (.str (Txt.slice z lo hi)) H):=by
 intro pins s σ H x v vl vu lo hi sl Q I rx hs pl pu h;obtain⟨z,rfl,hz,q⟩:=h;obtain⟨t,rfl⟩:=rx;refine⟨"str",_,F.slot_str_getitem.lookup,typeIs_str _ _ _,?_⟩;obtain⟨o,ho,hc,hd⟩:=hs;have fin:∀(t':Tok) (k:Nat),EP X pins σ Q (.str (Txt.slice z lo hi) t') {s with toks:=k}:=fun t' k=>⟨.str (Txt.slice z lo hi),H,I.tok k,⟨t',rfl⟩,q⟩
 have hle:=le_trans (Txt.slice_le z lo hi) hz;cases pl with
 |none=>cases pu with
  |none=>exact wpAny_getItem_str_slice (l:=none) (u:=none) (st:=none) ⟨o,ho,hc,hd⟩ rfl (post_val_or_str ⟨hle,fun t' k=>fin t' k⟩)
  |int j uj=>exact wpAny_getItem_str_slice (l:=none) (u:=some (j,uj)) (st:=none) ⟨o,ho,hc,hd⟩ rfl (post_val_or_str ⟨hle,fun t' k=>fin t' k⟩)
 |int i ui=>cases pu with
  |none=>exact wpAny_getItem_str_slice (l:=some (i,ui)) (u:=none) (st:=none) ⟨o,ho,hc,hd⟩ rfl (post_val_or_str ⟨hle,fun t' k=>fin t' k⟩)
  |int j uj=>exact wpAny_getItem_str_slice (l:=some (i,ui)) (u:=some (j,uj)) (st:=none) ⟨o,ho,hc,hd⟩ rfl (post_val_or_str ⟨hle,fun t' k=>fin t' k⟩)
theorem vZ:∀{ys:List Str} {its:List Value},Vals (ys.map V.str) its->StrsAre its ys
 |[],_,r=>by cases r;exact .nil
 | y::ys,_,r=>by
  cases r with
  |cons r rr=>
   obtain⟨t,rfl⟩:=r;exact .cons y t (vZ rr)
def rJoin (K:Frag):V->List V->Hp->VK->Prop:=fun x vs H Q=>∃z p ys,x= .str z/\vs=[.ref p]/\bJ K H p (ys.map V.str)/\(ys.map (·.length)).sum+ys.length*z.length<=16777216/\Q (.str (Txt.join z ys)) H
theorem JE:EB X "str.join" (rJoin X.K):=by
 intro pins s σ H x vs v us Q I rx rv h;obtain⟨z,p,ys,rfl,rfl,hq,hz,q⟩:=h;obtain⟨t,rfl⟩:=rx;obtain⟨u,rfl,rp⟩:=vals1 rv;cases rp;obtain⟨its,r,pl,_⟩:=I.list hq;exact join_list pl.isList (by simpa using vZ r) hz fun t' k=>⟨.str (Txt.join z ys),H,I.tok k,⟨t',rfl⟩,q⟩
theorem vJ:nA X (binaryOp .Pow) (rI (fun i j=>0<=j/\(Builtin.Int.intBits i:Int)*j<=2^27) fun i j=>.int (i^j.toNat)):=PZ fun _ _ _ _ _ _ _ hc q=>pow_int hc.1 hc.2 q
end
noncomputable def lX (XN:List Str) (xs scope:Scope) (N:List Str) (k:Nat) (cD:List Nat):Bool:=
 scope.kind== .function && (scope.names.all fun y=>y.2 != .local||scope.names.lookup y.1==some .local) && (scope.names.all fun y=>y.2 != .cell) &&
 (scope.names.all fun y=>y.2 != .free||xs.names.lookup y.1==some .cell||xs.names.lookup y.1==some .free) && N.length==k+cD.length &&
 (List.range cD.length).all fun j=>match cD[j]?,N[k+j]? with
  |some i,some y=>XN[i]? ==some y && scope.names.lookup y==some .free
  |_,_=>false
theorem g5 {XN:List Str} {xs:Scope} {N:List Str} {k:Nat} {cD:List Nat} (hN:X.N=XN) (hs:X.env.scope=xs) (h:lX XN xs scope N k cD=true):fO X scope N k cD:=by
 subst hN hs;unfold lX at h;simp only[and_eq_true,all_eq_true,Bool.or_eq_true,bne_iff_ne,ne_eq,beq_iff_eq]at h;obtain⟨⟨⟨⟨⟨h1,h2⟩,h3⟩,h4⟩,h5⟩,h6⟩:=h;refine⟨h1,fun y hy e=>(h2 y hy).resolve_left (fun z=>z e),h3,fun y hy e=>?_,h5,fun j i e=>?_⟩
 .rcases h4 y hy with(z|z)|z
  .exact absurd e z
  .exact .inl z
  .exact .inr z
 .have hj:j<cD.length:=(List.getElem?_eq_some_iff.mp e).1;have q:=h6 j (mem_range.mpr hj);rw[e]at q;cases r:N[k+j]? with
  |none=>rw[r]at q;cases q
  |some y=>
   rw[r]at q;simp only[and_eq_true,beq_iff_eq]at q;exact⟨y,rfl,q.1,q.2⟩
section
variable {X:Cx} {elt tg iter:Expr} {ifs:List Expr} {scope:Scope} {pos:Pos} {wi:TI} {g:TG} {tt:TT} {te:TE} {N:List Str} {k:Nat} {cD:List Nat} {XN:List Str} {xs:Scope}
theorem jM (N:List Str) (k:Nat) (cD:List Nat) (XN:List Str) (xs:Scope) (hc:X.calm=true) (hN:X.N=XN) (hx:X.env.scope=xs) (hi:PI X tg iter wi) (chk:lX XN xs scope N k cD=true)
  (hg:∀c,PG (aR X scope N c) tg g) (ht:∀c,HY (aR X scope N c) ifs tt) (he:∀c,PE (aR X scope N c) elt te)
  (hs:∀x,foldedSetIterable iter X.env x=pure x:=by intro _;rfl):PE X (.ListComp elt [⟨tg,iter,ifs,0⟩] scope pos) (rA wi k cD g tt te):=J7 hc (g5 hN hx chk) hi hg ht he hs
end
section
variable {wi:TI} {k:Nat} {cD:List Nat} {g:TG} {tt:TT} {te:TE} {σ:St} {H1:Hp} {Q:VK} {l:Addr}
def bV (g:TG) (tt:TT) (te:TE) (l:Addr) (x:V) (σ:St) (H:Hp) (N:St->Hp->Prop):Prop:=
 g x σ H fun σ4 H4=>tt σ4 H4 fun b H5=>if b=true then te σ4 H5 fun y H6=>∃xs,H6 l=some (.lst xs)/\xs.length<sizeLine/\N σ4 (upd H6 l (.lst (xs++[y])))else N σ4 H5
theorem nC (J:It) (n:Nat) (Pv:Nat->St->Hp->Prop) (h0:Pv 0 (bO k cD σ) (upd H1 l (.lst [])))
  (hstop:∀σ H,Pv n σ H->J.stop n H) (hgo:∀i σ H,i<n->Pv i σ H->J.go i H)
  (hs:∀i σ H x H',i<n->Pv i σ H->J.AY i H x H'->bV g tt te l x σ H' (Pv (i+1))) (hd:∀σ H,Pv n σ H->Q (.ref l) H):
  jD J g tt te l (bO k cD σ) (upd H1 l (.lst [])) Q:=by
 refine⟨fun i m σ H=>m=n - i/\i<=n/\Pv i σ H,⟨n,by simp,zero_le _,h0⟩,?_⟩;rintro i m σ H ⟨rfl,hi,p⟩
 by_cases hlt:i<n
 .exact .inr ⟨hgo i σ H hlt p,Pv (i+1),fun σ' H' p'=>⟨n - (i+1),by omega,rfl,hlt,p'⟩,fun x H' y=>hs i σ H x H' hlt p y⟩
 .have e:i=n:=by omega
  subst e;exact .inl ⟨hstop σ H p,hd σ H p⟩
theorem zR (lo:Int) (n:Nat) (Pv:Nat->St->Hp->Prop) (h0:Pv 0 (bO k cD σ) (upd H1 l (.lst [])))
  (hs:∀i σ H,i<n->Pv i σ H->bV g tt te l (.int (lo+i)) σ H (Pv (i+1))) (hd:∀σ H,Pv n σ H->Q (.ref l) H):
  jD (J2 lo n) g tt te l (bO k cD σ) (upd H1 l (.lst [])) Q:=
 nC (J2 lo n) n Pv h0 (fun _ _ _=>le_refl n) (fun _ _ _ h _=>h) (fun i σ H x H' hi p y=>by obtain⟨e1,e2⟩:=y;subst e1 e2;exact hs i σ _ hi p) hd
end
structure Def (K:Frag) (mg:Str->Option Value) (x:Str) (st:Stmt) (ps:List Str) (f:Addr) (fd:FuncData):Prop where
 F:OI K x x st f fd
 m:mg x=some (.ref f)
 b:Binds K fd ps []
section
variable {X:Cx} {x:Str} {st:Stmt} {ps:List Str} {f:Addr} {fd:FuncData} {j k:Nat} {sp:Sp} {e:Expr} {es:List Expr} {t:TA} {p pos:Pos}
theorem aW (D:Def X.K X.mg x st ps f fd) (G:aV X.prog X.w X.K X.mg X.base cJ j f fd ps sp) (hr:fD k X.A) (hjk:j<=k) (hg:Gl X x) (ha:PA X (e::es) t) (hdb:(x==("__debug__":Str))=false:=by decide)
  (he:starEach (e::es) X.env=(false,eval e X.env)::starEach es X.env:=by rfl) (hpl:(backTo pos (starEach es X.env)).any (·.1)=false:=by rfl):
  PE X (.Call (.Name x p) (e::es) [] pos) (nD sp [] E0 t):=IG G (hr.mono hjk) hg D.m D.F.kp D.b .nil QC ha hdb he hpl
end
theorem Vals.get':∀{xs:List V} {us:List Value} {i:Nat} {u:Value},Vals xs us->us[i]? =some u->∃x,xs[i]? =some x/\RelV x u
 |_,_,_,_,.nil,h=>by simp at h
 |_,_,0,_,.cons r _,h=>by simp at h;subst h;exact⟨_,rfl,r⟩
 |_,_,i+1,_,.cons _ t,h=>Vals.get' (i:=i) t (by simpa using h)
theorem MU:bootBuiltins "all"=some (.builtin "all"):=by decide+kernel
theorem NW:bootBuiltins "any"=some (.builtin "any"):=by decide+kernel
theorem j5:bootBuiltins "len"=some (.builtin "len"):=by decide+kernel
theorem NB:bootBuiltins "max"=some (.builtin "max"):=by decide+kernel
theorem o9:bootBuiltins "min"=some (.builtin "min"):=by decide+kernel
theorem CC:bootBuiltins "repr"=some (.builtin "repr"):=by decide+kernel
theorem gF:bootBuiltins "sorted"=some (.builtin "sorted"):=by decide+kernel
theorem MF:bootBuiltins "int"=some (.type "int"):=by decide+kernel
theorem dG:bootBuiltins "tuple"=some (.type "tuple"):=by decide+kernel
theorem wH:bootBuiltins "enumerate"=some (.type "enumerate"):=by decide+kernel
theorem aI {t u:TS} {D:Ends} (h:t {D with nx:=u D} σ H):CI t u D σ H:=h
theorem mV {CX:DK} {P:Program} {mg:Str->Option Value} {base:Heap} {qual:Str} {f:Addr} {cd:Value} {A:Around} {outer:List Env} {s:Shared} {E:XK}:(AK CX P w K mg base N qual scope f cd A outer s H E).K=K:=rfl
theorem iL {c:GJ}:(aR X scope N c).K=X.K:=rfl
theorem G7 {ns:List Int} {k:Int} (h0:0<=k) (h:k<(ns.length:Int)):∃c,zO (ns.map V.int) k=some (V.int c):=by
 obtain⟨j,rfl⟩:∃j:Nat,k=(j:Int):=⟨k.toNat,by omega⟩;have hj:j<ns.length:=by omega
 exact⟨ns[j],cB (by simp[hj])⟩
section
variable {X:Cx}
theorem DV:dR X (.builtin "len") (fun xs H Q=>∃p ys,xs=[.ref p]/\bJ X.K H p ys/\Q (.int ys.length) H):=by
 intro pins s σ H xs us Q I r h;obtain⟨p,ys,e,hq,q⟩:=h;exact n6 pins s σ H xs us Q I r ⟨p,ys,e,.inl hq,q⟩
theorem DZ:dR X (.builtin "len") (fun xs H Q=>∃p ys,xs=[.ref p]/\bG X.K H p ys/\Q (.int ys.length) H):=by
 intro pins s σ H xs us Q I r h;obtain⟨p,ys,e,hq,q⟩:=h;exact n6 pins s σ H xs us Q I r ⟨p,ys,e,.inr hq,q⟩
end
def fQ (p:Addr) (H H':Hp):Prop:=∀b o,H b=some o->b≠p->H' b=some o
theorem fQ.refl:fQ p H H:=fun _ _ h _=>h
theorem fQ.trans (a:fQ p H H1) (b:fQ p H1 H2):fQ p H H2:=fun c o h n=>b c o (a c o h n) n
theorem fQ.of (a:aF H H1):fQ p H H1:=fun c o h _=>a c o h
theorem aF.upd {l:Addr} (h:H l=none):aF H (upd H l o):=fun b u e=>by rw[aM (aG e h)];exact e
theorem fQ.upd:fQ p H (upd H p o):=fun b u e n=>by rw[aM n];exact e
theorem bJ.same (h:bJ K H a xs) (s:aF H H'):bJ K H' a xs:=aF.seq s h
theorem bG.same (h:bG K H a xs) (s:aF H H'):bG K H' a xs:=by
 rcases h with(h|⟨o,h⟩)|h
 .exact .inl (.inl (s _ _ h))
 .exact .inl (.inr ⟨o,s _ _ h⟩)
 .exact .inr h
theorem e9 (h:n<=16777216):n<=sizeLine:=by rw[PySem.sizeLine_eq];exact h
theorem gT (h:n<16777216):n<sizeLine:=by rw[PySem.sizeLine_eq];exact h
theorem JH (z:Str):z.cps.toList.length=z.length:=by simp[Str.length]
theorem GZ {d:Int} (h0:0<=d) (h:d<(z.length:Int)):∃c,c∈z.cps.toList/\zO z.cps.toList d=some c:=by
 obtain⟨j,rfl⟩:∃j:Nat,d=(j:Int):=⟨d.toNat,by omega⟩;have hj:j<z.cps.toList.length:=by have e:=JH z;omega
 exact⟨z.cps.toList[j],getElem_mem hj,cB (by simp[hj])⟩
theorem iT {xs:List α} {d:Int} (h0:0<=d) (h:d<(xs.length:Int)):∃c,c∈xs/\zO xs d=some c:=by
 obtain⟨j,rfl⟩:∃j:Nat,d=(j:Int):=⟨d.toNat,by omega⟩;have hj:j<xs.length:=by omega
 exact⟨xs[j],getElem_mem hj,cB (by simp[hj])⟩
theorem yE {ys:List Str} (h:∀y∈ys,y.length=1):(ys.map (·.length)).sum=ys.length:=by
 induction ys with
 |nil=>rfl
 |cons y ys ih=>
  rw[map_cons,sum_cons,length_cons,ih fun z hz=>h z (mem_cons_of_mem _ hz),h y mem_cons_self];omega
theorem C1 {lo hi:Option Int} (h:z.length<=n):(Txt.slice z lo hi).length<=n:=le_trans (Txt.slice_le z lo hi) h
section
variable {k:Nat} {cD:List Nat} {g:TG} {tt:TT} {te:TE} {σ:St} {H:Hp} {Q:VK} {l:Addr}
theorem iX {p:α->Bool} {vs:List α} {i:Nat} {x:α} (h:vs[i]? =some x):(vs.take (i+1)).filter p=(vs.take i).filter p++(if p x=true then [x]else []):=by
 rw[List.take_add_one,h,List.filter_append];congr 1
 by_cases e:p x=true
 .simp[e]
 .simp[e]
theorem tI (J:It) (vs:List V) (p:V->Bool) (f:V->V) (Good:St->Prop) (h0:Good (bO k cD σ)) (hlen:vs.length<sizeLine)
  (hstop:∀xs,J.stop vs.length (upd H l (.lst xs))) (hgo:∀i xs,i<vs.length->J.go i (upd H l (.lst xs)))
  (hyld:∀i xs x H',i<vs.length->J.AY i (upd H l (.lst xs)) x H'->H'=upd H l (.lst xs)/\vs[i]? =some x)
  (ht:∀x σ xs (N:St->Hp->Prop),x∈vs->xs.length<sizeLine->Good σ->(∀σ',Good σ'->N σ' (upd H l (.lst (if p x=true then xs++[f x]else xs))))->bV g tt te l x σ (upd H l (.lst xs)) N)
  (hd:Q (.ref l) (upd H l (.lst ((vs.filter p).map f)))):jD J g tt te l (bO k cD σ) (upd H l (.lst [])) Q:=by
 refine nC J vs.length (fun i σ' H'=>i<=vs.length/\Good σ'/\H'=upd H l (.lst (((vs.take i).filter p).map f))) ⟨zero_le _,h0,rfl⟩ (fun σ' H' ⟨_,_,e⟩=>e▸hstop _) (fun i σ' H' hi ⟨_,_,e⟩=>e▸hgo i _ hi) (fun i σ' H' x H'' hi ⟨_,gd,e⟩ y=>?_) (fun σ' H' ⟨_,_,e⟩=>?_)
 .subst e;obtain⟨e1,e2⟩:=hyld i _ x H'' hi y;subst e1;refine ht x σ' _ _ (mem_of_getElem? e2) ?_ gd fun σ2 g2=>⟨hi,g2,?_⟩
  .rw[length_map];have a1:=length_filter_le p (vs.take i);have a2:=List.length_take_le i vs;exact lt_of_le_of_lt (le_trans a1 (by rw[length_take];omega)) hlen
  .rw[iX e2,map_append]
   by_cases e:p x=true
   .rw[if_pos e,if_pos e];rfl
   .rw[if_neg e,if_neg e,map_nil,append_nil]
 .subst e;rw[take_length];exact hd
theorem uJ (z:Str) (p:V->Bool) (f:V->V) (Good:St->Prop) (h0:Good (bO k cD σ)) (hlen:z.length<sizeLine)
  (ht:∀c σ xs (N:St->Hp->Prop),c∈z.cps.toList->xs.length<sizeLine->Good σ->(∀σ',Good σ'->N σ' (upd H l (.lst (if p (.str ⟨#[c]⟩)=true then xs++[f (.str ⟨#[c]⟩)]else xs))))->bV g tt te l (.str ⟨#[c]⟩) σ (upd H l (.lst xs)) N)
  (hd:Q (.ref l) (upd H l (.lst (((z.cps.toList.map fun c=>V.str ⟨#[c]⟩).filter p).map f)))):jD (O9 z) g tt te l (bO k cD σ) (upd H l (.lst [])) Q:=by
 have e:(z.cps.toList.map fun c=>V.str ⟨#[c]⟩).length=z.cps.size:=by simp
 refine tI (O9 z) (z.cps.toList.map fun c=>V.str ⟨#[c]⟩) p f Good h0 (by rw[e];exact hlen) (fun xs=>?_) (fun i xs hi=>?_) (fun i xs x H' hi y=>?_) (fun x σ xs N hx hz gd hN=>?_) hd
 .rw[e];exact le_refl _
 .rw[e]at hi;exact hi
 .obtain⟨e1,c,hc,e2⟩:=y;subst e2;refine⟨e1,?_⟩;rw[getElem?_map];have:z.cps.toList[i]? =some c:=by simpa using hc
  rw[this];rfl
 .obtain⟨c,hc,rfl⟩:=mem_map.mp hx;exact ht c σ xs N hc hz gd hN
theorem bJ.G3 {H:Hp} {l:Addr} (h:bJ K H a xs) (hl:H l=none):bJ K (upd H l o) a xs:=h.same (aF.upd hl)
theorem bG.G3 {H:Hp} {l:Addr} (h:bG K H a xs) (hl:H l=none):bG K (upd H l o) a xs:=h.same (aF.upd hl)
theorem AX {vs:List V} (hl:H l=none) (hS:bJ K H a vs) (p:V->Bool) (f:V->V) (Good:St->Prop) (h0:Good (bO k cD σ)) (hlen:vs.length<sizeLine)
  (ht:∀x σ xs (N:St->Hp->Prop),x∈vs->xs.length<sizeLine->Good σ->(∀σ',Good σ'->N σ' (upd H l (.lst (if p x=true then xs++[f x]else xs))))->bV g tt te l x σ (upd H l (.lst xs)) N)
  (hd:Q (.ref l) (upd H l (.lst ((vs.filter p).map f)))):jD (IF K a) g tt te l (bO k cD σ) (upd H l (.lst [])) Q:=
 tI (IF K a) vs p f Good h0 hlen (fun xs=>⟨vs,hS.G3 hl,le_refl _⟩) (fun i xs hi=>⟨vs,vs[i],hS.G3 hl,by simp[hi]⟩) (fun i xs x H' _ y=>⟨y.1,y.2 vs (hS.G3 hl)⟩) ht hd
end
theorem LD [Decidable c] (hc:¬c) (h:B):if decide c=true then A else B:=by
 rw[decide_eq_false hc];exact nM h
theorem LQ [Decidable c] (hc:c) (h:A):if decide c=true then A else B:=by
 rw[decide_eq_true hc];exact mW h
theorem OU [Decidable c] (h1:c->A) (h2:¬c->B):if decide c=true then A else B:=by
 by_cases hc:c
 .exact LQ hc (h1 hc)
 .exact LD hc (h2 hc)
theorem turns {L c:Int} (hc:1<=c):1<=(if 1<(if L<c then L else c)then(if L<c then L else c)else 1)/\(if 1<(if L<c then L else c)then(if L<c then L else c)else 1)<=c:=by
 split<;>(try split)<;>omega
theorem HX {a:Int} {c:Bool}:C2 a (if c=true then 1 else 0):=by cases c<;>exact .inr ⟨by decide,by decide⟩
theorem QW {c:Bool}:(0:Int)<=(if c=true then 1 else 0):=by cases c<;>decide
def BH (K:Frag):Sp:=fun vs H Q _=>∃(a:Addr) (ns:List Int),vs=[.ref a]/\bJ K H a (ns.map V.int)/\ns.length<=63/\∀H',Q (.bl true) H'
end L2
namespace PySem
open Sem (wp)
open AutoSeq1 (wpAny_loadPart')
variable {it l:Addr} {i:Nat} {Q:Value->Shared->Prop}
section
variable {prog:Program} {w:World} {A:Around} {E:Value->Shared->Prop} {s:Shared}
theorem j3 {t:Addr} {items} {x:Value} (hit:s.heap.IsTupleIter it t i)
  (ht:s.heap.IsTuple t items) (hx:items[i]? =some x)
  (hQ:∀h',h'.IsTupleIter it t (i+1)->Heap.SameBut it s.heap h'->Q x {s with heap:=h'}):
  wpAny (model prog w) A (Builtin.SmallTypes.nextOf (.ref it)) Q E s:=by
 obtain⟨o,ho,hc,hd⟩:=id hit;obtain⟨ol,hol,_,nl,hdl⟩:=ht;unfold Builtin.SmallTypes.nextOf;refine wpAny_bind (wpAny_callSpecial?_slot (name:=Str.ofString "__next__") hit.typeIs F.slot_tuple_iterator_next
  (wpAny_call_entry F.slot_tuple_iterator_next hit.typeIs F.entry_tuple_iterator_next ?_ (F.args_tuple_iterator_next_1 _)))
 show wpAny _ _ (field (.ref it) 0>>=_) _ _ s;refine wpAny_bind (wpAny_field ho hd (x:=.ref t) rfl ?_);show wpAny _ _ (if(Value.ref t==Value.none)=true then _ else _) _ _ s;rw[if_neg (show¬((Value.ref t==Value.none)=true)from Bool.false_ne_true)];show wpAny _ _ (field (.ref it) 1>>=_) _ _ s;refine wpAny_bind (wpAny_field ho hd (x:=.int i 0) rfl ?_);show wpAny _ _ (seqItems? (.ref t)>>=_) _ _ s;refine wpAny_bind (wpAny_seqItems hol hdl ?_);simp only[toNat_natCast,hx];refine wpAny_bind (wpAny_setField ho hd (by simp) (wpAny_pure ⟨x,rfl,wpAny_pure (hQ _ ?_ (Heap.SameBut.update ..))⟩));exact⟨_,get?_update_self _ ho (Obj.isFreed_of_fields (Obj.data_mapFields hd _)),(Obj.cls_mapFields ..).trans hc,by
  rw[Obj.data_mapFields hd];simp[rawInt]⟩
theorem kK {items} (hh:A.handled=none)
  (hit:s.heap.IsTupleIter it l i) (hl:s.heap.IsTuple l items) (hx:items[i]? =none)
  (hE:∀h' e,Heap.ExtBut it s.heap h'->(∃o,h'.get? e=some o/\o.cls= .type "StopIteration")->E (.ref e) {s with heap:=h'}):
  wpAny (model prog w) A (Builtin.SmallTypes.nextOf (.ref it)) Q E s:=by
 obtain⟨o,ho,hc,hd⟩:=id hit;obtain⟨ol,hol,_,nl,hdl⟩:=hl;unfold Builtin.SmallTypes.nextOf;refine wpAny_bind (wpAny_callSpecial?_slot (name:=Str.ofString "__next__") hit.typeIs F.slot_tuple_iterator_next
  (wpAny_call_entry F.slot_tuple_iterator_next hit.typeIs F.entry_tuple_iterator_next ?_ (F.args_tuple_iterator_next_1 _)))
 show wpAny _ _ (field (.ref it) 0>>=_) _ _ s;refine wpAny_bind (wpAny_field ho hd (x:=.ref l) rfl ?_);show wpAny _ _ (if(Value.ref l==Value.none)=true then _ else _) _ _ s;rw[if_neg (show¬((Value.ref l==Value.none)=true)from Bool.false_ne_true)];show wpAny _ _ (field (.ref it) 1>>=_) _ _ s;refine wpAny_bind (wpAny_field ho hd (x:=.int i 0) rfl ?_);show wpAny _ _ (seqItems? (.ref l)>>=_) _ _ s;refine wpAny_bind (wpAny_seqItems hol hdl ?_);simp only[toNat_natCast,hx];refine wpAny_bind (wpAny_rule (wpAny_bind (wpAny_setField ho hd (by simp) ?_)));show wpAny _ _ (newExc (.type "StopIteration") []>>=_) _ _ _;refine wpAny_bind ?_;simp only[newExc,newTuple];refine wpAny_bind (wpAny_newObj_type ?_ (by size_fits));refine wpAny_bind (m:=firstArgMember _ _) (wpAny_of_eq (a:=Value.none) (by first|rfl|(simp only[firstArgMember];rfl)) ?_);refine wpAny_newObj_type ?_ (by size_fits);simp only[raiseNew];refine wpAny_bind (wpAny_handled ?_)
 first|rw[show A.in1.handled=none from hh]|rw[hh]
 refine wpAny_bind (wpAny_pure (wpAny_throw ?_));exact hE _ _ (((Heap.SameBut.update ..).extBut.push _).push _) ⟨_,get?_push_size _ rfl,rfl⟩
end
theorem jP {prog:Program} {w:World} {A:Around} (hh:A.handled=none) (it l:Addr) (hne:l≠it) (items:Array Value):
  Draws prog w A it [it,l] items.size (fun i v=>items[i]? =some v) (fun i h=>h.IsTupleIter it l i/\h.IsTuple l items)where
 live:=fun _ _ st=>let⟨o,ho,_⟩:=st.1;⟨o,ho⟩
 frame:=fun _ _ _ st hk=>⟨st.1.at fun o e=>hk it (by simp) o e,let⟨o,e,r⟩:=st.2;⟨o,hk l (by simp) o e,r⟩⟩
 item:=fun i s Q E hi st hQ=>by
  refine j3 st.1 st.2 (x:=items[i]) (by simp[hi]) fun h' hit' hs'=>?_
  exact hQ _ h' s.toks (by simp[hi]) ⟨hit',st.2.extBut hs'.extBut hne⟩ hs'
 done:=fun s Q E st hE=>kK hh st.1 st.2 (by simp) hE
theorem iO (l:Addr) (items:Array Value) (n:Nat) (AH:Option Addr) (sl:Array (Option Value)):
  Meets (Builtin.«enumerate.__new__» ⟨[.type "enumerate",.ref l],[]⟩) (fun _ R s=>s.heap.get? l=some {cls:=.type "tuple",dict:=AH,data:=.seq items n,slots:=sl}/\
   R (.ok (.ret (.ref (s.heap.push {cls:=.type "tuple_iterator",data:=.fields #[.ref l,.int 0 0]}).objs.size)))
    {s with heap:=(s.heap.push {cls:=.type "tuple_iterator",data:=.fields #[.ref l,.int 0 0]}).push {cls:=.type "enumerate",data:=.fields #[.none,.bool false,.ref s.heap.objs.size,rawInt 0,.none,.none]}}):=
 .of_wp fun prog w A R s h=>by
  obtain⟨hp,g,d,tk,os⟩:=s;obtain⟨hl,h⟩:=h
  have hsub:=sub_enumerate;have hL:Heap.IsTuple (Shared.heap ⟨hp,g,d,tk,os⟩) l items:=⟨_,hl,rfl,n,rfl⟩
  wp_walk using wpAny_loadPart' hl
  refine wpAny_stack_any fun st=>wpAny_pure ?_
  split
  .rename_i c _ _ _ _ _;cases(c==Value.type "enumerate")
   .wp_walk using wpAny_loadPart' hl,wpAny_pyIter_tuple hL
    exact⟨_,rfl,h⟩
   .wp_walk using wpAny_loadPart' hl,wpAny_pyIter_tuple hL
    exact⟨_,rfl,h⟩
  .wp_walk using wpAny_loadPart' hl,wpAny_pyIter_tuple hL
   exact⟨_,rfl,h⟩
section
variable {prog:Program} {w:World} {A:Around} {E:Value->Shared->Prop} {s:Shared}
theorem iN {items:Array Value} (hL:s.heap.IsTuple l items)
  (h:∀h',IsEnum h' (s.heap.objs.size+1) s.heap.objs.size 0 .none->h'.IsTupleIter s.heap.objs.size l 0->h'.objs.size=s.heap.objs.size+2->
   (∀b o,s.heap.get? b=some o->h'.get? b=some o)->Q (.ref (s.heap.objs.size+1)) {s with heap:=h'}):
  wpAny (model prog w) A (call (.type "enumerate") [.ref l]) Q E s:=by
 obtain⟨⟨c,AH,dt,sl⟩,hl,hc,n,hd⟩:=hL;replace hc:c= .type "tuple":=hc;replace hd:dt= .seq items n:=hd;subst hc hd;refine callType_new F.called_enumerate (by decide) (F.typeCall_enumerate_1 _) (F.newCall_enumerate_1 _) (fun obj=>F.args_object_init_2 obj _) F.entry_enumerate_new
  (iO l items n AH sl) ⟨hl,?_⟩
 have hz:(s.heap.push {cls:=.type "tuple_iterator",data:=.fields #[.ref l,.int 0 0]}).objs.size=s.heap.objs.size+1:=size_push ..;show _/\_;rw[hz];have he:IsEnum ((s.heap.push {cls:=.type "tuple_iterator",data:=.fields #[.ref l,.int 0 0]}).push
   {cls:=.type "enumerate",data:=.fields #[.none,.bool false,.ref s.heap.objs.size,rawInt 0,.none,.none]}) (s.heap.objs.size+1) s.heap.objs.size 0 .none:=by
  have:=get?_push_size (s.heap.push {cls:=.type "tuple_iterator",data:=.fields #[.ref l,.int 0 0]})
   (o:={cls:=.type "enumerate",data:=.fields #[.none,.bool false,.ref s.heap.objs.size,rawInt 0,.none,.none]}) rfl
  rw[hz]at this;exact this
 refine⟨⟨_,he,rfl⟩,h _ he ⟨_,get?_push_of_some _ (get?_push_size _ rfl),rfl,rfl⟩ (by rw[size_push,hz]) fun b o x=>get?_push_of_some _ (get?_push_of_some _ x)⟩
end
end PySem
namespace L2
open PySem PySem.Spec PyProof.Rows
variable {X:Cx} {l tg:Expr} {h':Heap} {H:Hp} {pins:List (Addr×Obj)} {fp:List Addr} {es:List Expr} {xs:List V} {t':Nat} {pos:Pos} {K:Frag} {s:Shared} {σ:St} {tl:TE}
theorem Inv.BA (I:Inv X pins σ H s) (k:∀b o,b∉fp->s.heap.get? b=some o->h'.get? b=some o) (hf:∀b∈fp,mQ X pins H b):
  Inv X pins σ H {s with heap:=h',toks:=t'}:=by
 have nit:∀b u,H b=some u->b∉fp:=fun b u e z=>by rw[(hf b z).1]at e;cases e
 refine I.step (g':=s.gens) (d':=s.drawn) (ch:=fp) (fun b hb=>?_) (fun b o _ _ hc e _=>k b o hc e) (fun b o _ _ hc e _=>⟨o.slots,k b o hc e⟩) (fun _ _ _ _ n=>n)
  (fun b o hc e=>⟨o,k b o hc e⟩) (fun _ _ e=>e) (fun _ _ _ e=>e) (fun b ps e=>⟨#[],by rw[e];simp⟩) (fun m hm=>?_) (fun b u e=>?_) I.bare
 .obtain⟨_,f1,_,f3,f4,f5⟩:=hf b hb;exact⟨f3,f1,f4,f5⟩
 .obtain⟨o,es,ep,ho,r⟩:=hm;exact⟨o,es,ep,k _ o (fun z=>(hf _ z).2.1 rfl) ho,r⟩
 .refine(I.bA b u e).yB (fun c v hc q=>k c v ?_ q) (fun _ q=>q) fun _ _ q=>q
  rcases hc with z|z
  .rw[z];exact nit b u e
  .exact nit c _ z
theorem Inv.R6 (I:Inv X pins σ H s) (k:∀b o,b∉fp->s.heap.get? b=some o->h'.get? b=some o) (hf:∀b∈fp,mQ X pins H b)
  (hfr:H s.heap.objs.size=none) (hno:s.heap.objs.size∉fp) (new:dN X.prog X.w (upd H s.heap.objs.size (.tup xs)) h' s.heap.objs.size (.tup xs)) (ht:∀b∈fp,∀o,s.heap.get? b=some o->∃o',h'.get? b=some o'):
  Inv X pins σ (upd H s.heap.objs.size (.tup xs)) {s with heap:=h',toks:=t'}:=by
 have nit:∀b u,H b=some u->b∉fp:=fun b u e z=>by rw[(hf b z).1]at e;cases e
 have nT:∀b o,s.heap.get? b=some o->b≠s.heap.objs.size:=fun b o e=>ne_of_lt (lt_size e)
 refine I.step (g':=s.gens) (d':=s.drawn) (ch:=fp) (fun b hb=>?_) (fun b o _ _ hc e _=>k b o hc e) (fun b o _ _ hc e _=>⟨o.slots,k b o hc e⟩) (fun b o _ e n=>by rw[aM (nT b o e)];exact n)
  (fun b o hc e=>⟨o,k b o hc e⟩) (fun b ys e=>by rw[aM (aG e hfr)];exact e) (fun b o u e=>by rw[aM (aG e hfr)];exact e) (fun b ps e=>⟨#[],by rw[aM (aG e hfr),e];simp⟩) (fun m hm=>?_) (fun b u e=>?_) I.bare
 .obtain⟨_,f1,_,f3,f4,f5⟩:=hf b hb;exact⟨f3,f1,f4,f5⟩
 .obtain⟨o,es,ep,ho,r⟩:=hm;exact⟨o,es,ep,k _ o (fun z=>(hf _ z).2.1 rfl) ho,r⟩
 .by_cases hb:b=s.heap.objs.size
  .subst hb;rw[aC]at e;cases e;exact new
  .rw[aM hb]at e;refine(I.bA b u e).yB (fun c v hc q=>k c v ?_ q) (fun c q=>by rw[aM (aG q hfr)];exact q) fun c ys q=>by rw[aM (aG q hfr)];exact q
   rcases hc with z|z
   .rw[z];exact nit b u e
   .exact nit c _ z
noncomputable def MB (K:Frag) (a:Addr):It:=
 ⟨fun i H=>∃xs x,bG K H a xs/\xs[i]? =some x,fun i H v H'=>∃t,H t=none/\v= .ref t/\∀xs,bG K H a xs->∃x,xs[i]? =some x/\H'=upd H t (.tup [.int i,x]),fun i H=>∃xs,bG K H a xs/\xs.length=i⟩
theorem AR {P:Program} {w:World} {elts:List Expr} {x1} (a it e:Addr) (hei:e≠it):Turn P w K (.Tuple elts x1 pos) (MB K a) [e,it] e (fun i h=>(∃old,IsEnum h e it i old)/\h.IsTupleIter it a i)where
 mem:=by simp
 obj:=fun i h st b hb=>by
  obtain⟨⟨old,he⟩,o,ho,c,d⟩:=st;rcases mem_cons.mp hb with z|z
  .subst z;exact⟨_,he,fun v z=>by cases z⟩
  .have z:b=it:=by simpa using z
   subst z;exact⟨o,ho,fun v z=>by rw[d]at z;cases z⟩
 keep:=fun i h h' st k=>⟨let⟨old,he⟩:=st.1;⟨old,k e (by simp) _ he⟩,st.2.at fun o q=>k it (by simp) o q⟩
 item:=by
  intro X hP hw hK hc i pins s σ H E I hf st hg;subst hP hw hK;obtain⟨xs,x,hq,hx⟩:=hg;obtain⟨its,rv,p,hz⟩:=I.tuple hq;obtain⟨u,hu,ru⟩:=rv.get hx;obtain⟨⟨old,he⟩,ht⟩:=st;have hne:a≠it:=fun z=>by
   obtain⟨o,ho,c,_⟩:=ht;obtain⟨o',ho',c',_⟩:=p;subst z;rw[ho]at ho';cases ho'
   rw[c]at c';exact absurd (Value.type.inj c') (by decide)
  have hae:a≠e:=fun z=>by
   obtain⟨o',ho',c',_⟩:=p;subst z;rw[he]at ho';cases ho'
   exact absurd (Value.type.inj c') (by decide)
  have hlt:i<its.toArray.size:=by have:=(List.getElem?_eq_some_iff.mp hu).1;simpa using this
  refine wpAny_pyNext_enum_itemD (jP (A:=X.A.in1) (by exact I.ok.hd hc) it a hne its.toArray) he ⟨ht,p⟩ hlt hei (by simp[hei,Ne.symm hae]) fun v h' tk hPv ho' st' htup hsz hk=>?_
  have ev:v=u:=by
   have h1:its[i]? =some v:=by simpa using hPv
   rw[hu]at h1;exact(Option.some.inj h1).symm
  subst ev;refine⟨_,rfl,wpAny_letOwnedTupleGo_enum (s:={s with heap:=h',toks:=tk+1}) ho' fun h2 he2 sb=>?_⟩;have hTe:s.heap.objs.size≠e:=fun z=>by
   have:=lt_size he;rw[<-z]at this;exact lt_irrefl _ this
  have hTi:s.heap.objs.size≠it:=fun z=>by
   obtain⟨o,ho,_⟩:=ht;have:=lt_size ho;rw[<-z]at this;exact lt_irrefl _ this
  have hk2:∀b o,b∉[e,it]->s.heap.get? b=some o->h2.get? b=some o:=fun b o hb q=>
   sb.extBut b o (fun z=>hb (by simp[z])) (hk b o (fun z=>hb (by simp[z])) (fun z=>hb (by simp[z])) q)
  have I1:Inv X pins σ H {s with heap:=h2,toks:=tk+1}:=I.BA hk2 hf;have hfr:H s.heap.objs.size=none:=I.bA.fresh (le_refl _);have htup2:h2.get? s.heap.objs.size=some {cls:=.type "tuple",data:=.seq #[.int i tk,v]}:=sb.extBut _ _ hTe htup;have I2:Inv X pins σ (upd H s.heap.objs.size (.tup [.int i,x])) {s with heap:=h2,toks:=tk+1}:=by
   refine I.R6 hk2 hf hfr (by simp[hTe,hTi]) ⟨by show 2<=sizeLine;decide,[.int i tk,v],.cons ⟨_,rfl⟩ (.cons ru .nil),oI.of htup2⟩ (fun b hb o q=>?_);rcases mem_cons.mp hb with r|r
   .subst r;exact⟨_,he2⟩
   .have r:b=it:=by simpa using r
    subst r;obtain⟨o',ho',_⟩:=st'.1.extBut sb.extBut (Ne.symm hei);exact⟨o',ho'⟩
  refine⟨.ref s.heap.objs.size,_,I2,rfl,⟨s.heap.objs.size,hfr,rfl,fun ys hy=>⟨x,by rw[I.sY hy hq];exact hx,rfl⟩⟩,⟨⟨_,he2⟩,st'.1.extBut sb.extBut (Ne.symm hei)⟩,fun b hb=>?_⟩;have hbT:b≠s.heap.objs.size:=fun z=>by
   rcases mem_cons.mp hb with r|r
   .exact hTe (z▸r)
   .have r:b=it:=by simpa using r
    exact hTi (z▸r)
  rw[aM hbT];exact(hf b hb).1
 done:=by
  intro X hP hw hK hc i pins s σ H E I hf st hg;subst hP hw hK;obtain⟨xs,hq,hx⟩:=hg;obtain⟨its,rv,p,hz⟩:=I.tuple hq;obtain⟨⟨old,he⟩,ht⟩:=st;have hl:=rv.length;have hne:a≠it:=fun z=>by
   obtain⟨o,ho,c,_⟩:=ht;obtain⟨o',ho',c',_⟩:=p;subst z;rw[ho]at ho';cases ho'
   rw[c]at c';exact absurd (Value.type.inj c') (by decide)
  have ei:(i:Nat)=its.toArray.size:=by simp;omega
  subst ei;obtain⟨f0,f1,f2,f3,f4,f5⟩:=hf it (by simp);exact wpAny_pyNext_enum_endD (jP (A:=X.A.in1) (by exact I.ok.hd hc) it a hne its.toArray) he ⟨ht,p⟩ fun h' eb=>⟨rfl,I.turned (t':=s.toks) (fun b o hb e=>eb b o hb e) f0 f1 f3 f4 f5⟩
 self:=fun _ _ _ _ _ st h=>let⟨_,he⟩:=st.1;wpAny_pyIter_enum he h
section
variable {k:Nat} {cD:List Nat} {g:TG} {tt:TT} {te:TE} {σ:St} {H:Hp} {Q:VK} {l:Addr}
theorem uH (J:It) (n:Nat) (p:Nat->Bool) (f:Nat->V) (Good:St->Prop) (h0:Good (bO k cD σ)) (hl:H l=none) (hlen:n<sizeLine)
  (hstop:∀H',aF H H'->J.stop n H') (hgo:∀i H',i<n->aF H H'->J.go i H')
  (ht:∀i v σ H1 H2 ys (N:St->Hp->Prop),i<n->Good σ->aF H H1->H1 l=some (.lst ys)->ys.length<sizeLine->J.AY i H1 v H2->
   (∀σ' H3,Good σ'->fQ l H1 H3->H3 l=some (.lst (if p i=true then ys++[f i]else ys))->N σ' H3)->bV g tt te l v σ H2 N)
  (hd:∀H',aF H H'->H' l=some (.lst (((List.range n).filter p).map f))->Q (.ref l) H'):jD J g tt te l (bO k cD σ) (upd H l (.lst [])) Q:=by
 refine nC J n (fun i σ' H'=>Good σ'/\aF H H'/\H' l=some (.lst ((((List.range n).take i).filter p).map f))) ⟨h0,aF.upd hl,by rw[List.take_zero];exact aC⟩ (fun σ' H' ⟨_,s,_⟩=>hstop H' s) (fun i σ' H' hi ⟨_,s,_⟩=>hgo i H' hi s) (fun i σ' H' x H'' hi ⟨gd,s,e⟩ y=>?_) (fun σ' H' ⟨_,s,e⟩=>?_)
 .have hi2:(List.range n)[i]? =some i:=by simp[hi]
  refine ht i x σ' H' H'' _ _ hi gd s e ?_ y fun σ2 H3 g2 b e3=>⟨g2,fun c o h=>b c o (s c o h) (aG h hl),?_⟩
  .rw[length_map];have a1:=length_filter_le p ((List.range n).take i);exact lt_of_le_of_lt (le_trans a1 (by rw[length_take,length_range];omega)) hlen
  .rw[e3,iX hi2,map_append]
   by_cases c:p i=true
   .rw[if_pos c,if_pos c];rfl
   .rw[if_neg c,if_neg c,map_nil,append_nil]
 .rw[take_of_length_le (by simp)]at e;exact hd H' s e
theorem DJ {a:Addr} {xs:List V} (hS:bG K H a xs) (p:Nat->Bool) (f:Nat->V) (Good:St->Prop) (h0:Good (bO k cD σ)) (hl:H l=none) (hlen:xs.length<sizeLine)
  (ht:∀(i:Nat) x t σ H1 ys (N:St->Hp->Prop),xs[i]? =some x->Good σ->aF H H1->H1 t=none->(upd H1 t (.tup [.int i,x])) l=some (.lst ys)->ys.length<sizeLine->t≠l->
   (∀σ' H3,Good σ'->fQ l (upd H1 t (.tup [.int i,x])) H3->H3 l=some (.lst (if p i=true then ys++[f i]else ys))->N σ' H3)->bV g tt te l (.ref t) σ (upd H1 t (.tup [.int i,x])) N)
  (hd:∀H',aF H H'->H' l=some (.lst (((List.range xs.length).filter p).map f))->Q (.ref l) H'):jD (MB K a) g tt te l (bO k cD σ) (upd H l (.lst [])) Q:=by
 refine uH (MB K a) xs.length p f Good h0 hl hlen (fun H' s=>⟨xs,hS.same s,rfl⟩) (fun i H' hi s=>⟨xs,xs[i],hS.same s,by simp[hi]⟩) (fun i v σ H1 H2 ys N hi gd s e hz y hN=>?_) hd;obtain⟨t,ht0,rfl,hy⟩:=y;obtain⟨x,hx,rfl⟩:=hy xs (hS.same s);have tl:t≠l:=fun z=>by rw[z,e]at ht0;cases ht0
 refine ht i x t σ H1 ys N hx gd s ht0 (by rw[aM tl.symm];exact e) hz tl fun σ' H3 g3 b e3=>hN σ' H3 g3 (fun c o h n=>b c o (by rw[aM (aG h ht0)];exact h) n) e3
end
theorem rX {i:Nat}:i4 xs (some ((i:Int)+1)) none=xs.drop (i+1):=by
 unfold i4;have e:HT.eZ xs.length 0 (some ((i:Int)+1))=min (i+1) xs.length:=by
  unfold HT.eZ;simp;omega
 have e2:HT.eZ xs.length xs.length none=xs.length:=rfl;rw[e,e2]
 by_cases h:i+1<=xs.length
 .rw[Nat.min_eq_left h];rw[take_of_length_le (by rw[length_drop];exact le_refl _)]
 .rw[Nat.min_eq_right (by omega),drop_of_length_le (le_refl _),drop_of_length_le (by omega),List.take_nil]
theorem vT {n:Str} {row:List Str}:Q7 (.str n) (row.map V.str)=row.contains n:=by
 unfold Q7
 induction row with
 |nil=>rfl
 |cons x r ih=>
  rw[map_cons,any_cons,ih,List.contains_cons];congr 1;show(x==n)=(n==x)
  by_cases e:x=n
  .subst e;simp
  .rw[beq_eq_false_iff_ne.mpr e,beq_eq_false_iff_ne.mpr (Ne.symm e)]
theorem oW {row:List Str}:(row.map V.str).all nB=true:=by
 induction row with
 |nil=>rfl
 |cons x r ih=>rw[map_cons,all_cons,ih];rfl
section
variable {X:Cx} {k:Nat}
theorem wY (K:Frag) (h:X.K=K:=by rfl):MK X (wG K):=h▸IQ
theorem j8 (K:Frag) (h:X.K=K:=by rfl):MK X (rM K):=h▸M5
theorem M0 (K:Frag) (h:X.K=K:=by rfl):OJ X (wX K):=h▸J5
theorem SQ (K:Frag) (h:X.K=K:=by rfl):nA X (compareOp .In) (FZ K false):=h▸D3
theorem E2 (K:Frag) (h:X.K=K:=by rfl):nA X (compareOp .NotIn) (FZ K true):=h▸uR
def pH (K:Frag):List V->Hp->VK->Prop:=fun xs H Q=>∃p ys,xs=[.ref p]/\bJ K H p ys/\Q (.int ys.length) H
def pW (K:Frag):List V->Hp->VK->Prop:=fun xs H Q=>∃p ys,xs=[.ref p]/\bG K H p ys/\Q (.int ys.length) H
theorem NL (K:Frag) (h:X.K=K:=by rfl):dR X (.builtin "len") (pH K):=h▸DV
theorem RR (K:Frag) (h:X.K=K:=by rfl):dR X (.builtin "len") (pW K):=h▸DZ
def xC (K:Frag):List V->Hp->VK->Prop:=fun xs H Q=>∃p bs,xs=[.ref p]/\bJ K H p (vQ bs)/\Q (.bl (bs.all id)) H
def zB (K:Frag):List V->Hp->VK->Prop:=fun xs H Q=>∃p bs,xs=[.ref p]/\bJ K H p (vQ bs)/\Q (.bl (bs.any id)) H
theorem Q9 (K:Frag) (hc:X.calm=true) (h:X.K=K:=by rfl):dR X (.builtin "all") (xC K):=h▸FK hc
theorem RU (K:Frag) (hc:X.calm=true) (h:X.K=K:=by rfl):dR X (.builtin "any") (zB K):=h▸G2 hc
def pI (K:Frag):List V->Hp->VK->Prop:=fun xs H Q=>∃p ys,xs=[.ref p]/\bJ K H p ys/\∀l,H l=none->Q (.ref l) (upd H l (.tup ys))
theorem oN (K:Frag) (h:X.K=K:=by rfl):dR X (.type "tuple") (pI K):=by
 subst h;intro pins s σ H xs us Q I r ⟨p,ys,e,hq,q⟩;exact sP pins s σ H xs us Q I r ⟨p,ys,e,.inl ⟨hq,q⟩⟩
theorem K6 (K:Frag) (h:X.K=K:=by rfl):EB X "str.join" (rJoin K):=h▸JE
theorem dH (K:Frag) {j:Nat} {t:KY} {n:Nat} (hc:X.calm=true) (h:PN X es t) (hK:X.K=K:=by rfl)
  (hn:(assignEach es X.env).length=n:=by rfl) (hst:(assignEach es X.env).findIdx? (·.1)=none:=by rfl):PG X (.Tuple es j pos) (vG K n t):=hK▸ND hc h hn hst
theorem iG (K:Frag) (hl:PE X l tl) (h:X.K=K:=by rfl):PI X tg l (K9 K tl):=h▸JM hl
theorem cW (K:Frag) (hl:PE X l tl) (h:X.K=K:=by rfl):PI X tg l (IK K tl):=h▸L5 hl
theorem eF (K:Frag) {o e:Expr} {to:TE} {t:TA} {name:Str} {apos cpos:Pos} {T id:String} {r:V->List V->Hp->VK->Prop} (pa:PlainAttrs T) (slot:Slot T name id) (hty:typeOf (.builtin id)=pure (.type "method_descriptor")) (hm:EB X id r) (ho:PE X o to) (ha:PA X (e::es) t) (hK:X.K=K:=by rfl)
  (hbase:attributeBase o name X.env (eval o X.env)=eval o X.env:=by rfl)
  (hfew:((backTo cpos (starEach (e::es) X.env)).all (fun x=>!x.1) && (backToKw cpos (keywordEach [] X.env)).all (fun x=>x.1.isSome)
   && decide ((e::es).length+([]:List Keyword).length+(if([]:List Keyword).isEmpty then 0 else 1)<30))=true:=by rfl)
  (hline:(apos.endLine==cpos.line)=true:=by rfl) (hs:starEach (e::es) X.env=(false,eval e X.env)::starEach es X.env:=by rfl) (hplain:(backTo cpos (starEach es X.env)).any (·.1)=false:=by rfl):
  PE X (.Call (.Attribute o name apos) (e::es) [] cpos) (IY K T r to t):=hK▸QL pa slot hty hm ho ha hbase hfew hline hs hplain
end
section
variable {X:Cx}
def kL:V->List V->Hp->VK->Prop:=fun x vs H Q=>∃z,x= .str z/\vs=[]/\z.length<=5592405/\Q (.str (Txt.lower z)) H
theorem FD:EB X "str.lower" kL:=by
 intro pins s σ H x vs v us Q I rx rv h;obtain⟨z,rfl,rfl,hz,q⟩:=h;obtain⟨t,rfl⟩:=rx;cases rv;exact SCL.lower hz fun _=>⟨.str (Txt.lower z),H,I.tok _,⟨_,rfl⟩,q⟩
theorem tN:∀(l:List (Str×Tok)),Vals ((l.map (·.1)).map V.str) (strValues l)
 |[]=>.nil
 |(x,t)::l=>.cons ⟨t,rfl⟩ (tN l)
def lN:V->List V->Hp->VK->Prop:=fun x vs H Q=>∃z y,x= .str z/\vs=[.str y]/\(y.length==0)=false/\z.length<=1000000/\(Txt.split z y).length<=16777216/\(Builtin.Str.partsBetween z (Builtin.Str.occurrences z y 0 z.length (z.length+1)) y.length).length<=sizeLine/\
 ∀l,H l=none->Q (.ref l) (upd H l (.lst ((Txt.split z y).map V.str)))
theorem EV:EB X "str.split" lN:=by
 intro pins s σ H xv vs v us Q I rx rv h;obtain⟨x,y,rfl,rfl,hy,hsz,hsp,hsz2,q⟩:=h;obtain⟨t,rfl⟩:=rx;obtain⟨w',rfl,u,rfl⟩:=vals1 rv;have hq:∀(l:List (Str×Tok)) (tk:Nat),l.map (·.1)=Txt.split x y->EP X pins σ Q (.ref s.heap.objs.size) {s with heap:=s.heap.push {cls:=.type "list",data:=.seq (strValues l).toArray},toks:=tk}:=fun l tk e=>
  ⟨.ref s.heap.objs.size,_,I.P6 (ys:=(Txt.split x y).map V.str) (by rw[<-e];exact tN l) (e9 (by rw[length_map];exact hsp)),rfl,q _ (I.bA.fresh (le_refl _))⟩
 cases h1:(decide (x.length<y.length)||decide (Builtin.Str.strKind x<Builtin.Str.strKind y))
 .cases hf:(Builtin.Str.occurrences x y 0 x.length (x.length+1)).isEmpty
  .refine call_meets F.slot_str_split (typeIs_str _ _ _) F.entry_str_split (F.args_str_split_2 _ _) (meets_str_split_sep x y t u h1 hy hf (e9 (by omega)) hsz2) ?_;show wants _ _ _ {s with toks:=_,heap:=s.heap.push {cls:=.type "list",data:=.seq (strsFrom s.toks (Builtin.Str.partsBetween x (Builtin.Str.occurrences x y 0 x.length (x.length+1)) y.length)).toArray}};rw[strsFrom_eq];exact hq (numbered s.toks _) _ ((numbered_texts _ _).trans ((if_neg (ne_true_of_eq_false h1)).trans (if_neg (ne_true_of_eq_false hf))).symm)
  .exact call_meets F.slot_str_split (typeIs_str _ _ _) F.entry_str_split (F.args_str_split_2 _ _) (meets_str_split_not_found x y t u h1 hy hf)
    (hq [(x,t)] s.toks ((if_neg (ne_true_of_eq_false h1)).trans (if_pos hf)).symm)
 .exact call_meets F.slot_str_split (typeIs_str _ _ _) F.entry_str_split (F.args_str_split_2 _ _) (meets_str_split_cannot_occur x y t u h1)
   (hq [(x,t)] s.toks (if_pos h1).symm)
end
end L2
namespace PM
open PySem PyProof.Rows
noncomputable def kD:List (List Nat)->List Nat
 |[]=>[]
 |[x]=>x
 |x::y::r=>x++32::kD (y::r)
noncomputable def walk (sm:Nat->Nat):List Nat->List Nat->Bool->List Nat
 |[],f,_=>f
 |c::r,f,w=>if c=32 then walk sm r f (!f.isEmpty)else walk sm r (f++(if w=true then [32]else [])++[sm c]) false
noncomputable def step (f p:List Nat):List Nat:=if p=[]then f else f++(if(!f.isEmpty)=true then [32]else [])++p
theorem zG (c:Nat):lo1 c=32↔c=32:=by unfold lo1;split<;>omega
theorem vF:∀(x f:List Nat) (w:Bool),walk lo1 x f w=walk id (x.map lo1) f w
 |[],f,w=>rfl
 |c::r,f,w=>by
  rw[map_cons];unfold walk
  by_cases h:c=32
  .rw[if_pos h,if_pos ((zG c).mpr h),vF r]
  .rw[if_neg h,if_neg (fun z=>h ((zG c).mp z)),vF r];rfl
theorem oT:∀(p rest f:List Nat) (w:Bool),32∉p->walk id (p++rest) f w=if p=[]then walk id rest f w else walk id rest (f++(if w=true then [32]else [])++p) false
 |[],rest,f,w,_=>by rw[if_pos rfl];rfl
 | c::p,rest,f,w,h=>by
  have hc:c≠32:=fun z=>h (by rw[z];exact mem_cons_self)
  have hp:32∉p:=fun z=>h (mem_cons_of_mem _ z)
  rw[if_neg (by simp),cons_append];show(if c=32 then _ else walk id (p++rest) (f++(if w=true then [32]else [])++[id c]) false)=_;rw[if_neg hc,oT p rest _ false hp]
  by_cases e:p=[]
  .rw[if_pos e,e];rfl
  .rw[if_neg e];simp[append_assoc]
theorem rK (r f:List Nat) (w:Bool):walk id (32::r) f w=walk id r f (!f.isEmpty):=by
 show(if(32:Nat)=32 then _ else _)=_;rw[if_pos rfl]
theorem tU:∀(ps:List (List Nat)) (f:List Nat),(∀p∈ps,32∉p)->walk id (kD ps) f (!f.isEmpty)=ps.foldl step f
 |[],f,_=>rfl
 |[x],f,h=>by
  have:=oT x [] f (!f.isEmpty) (h x mem_cons_self);rw[append_nil]at this;show walk id x f (!f.isEmpty)=step f x;rw[this];unfold step
  by_cases e:x=[]
  .rw[if_pos e,if_pos e];rfl
  .rw[if_neg e,if_neg e];rfl
 |x::y::r,f,h=>by
  have ih:=fun g=>tU (y::r) g (fun p hp=>h p (mem_cons_of_mem _ hp))
  show walk id (x++32::kD (y::r)) f (!f.isEmpty)=(y::r).foldl step (step f x);rw[oT x _ f _ (h x mem_cons_self)];unfold step
  by_cases e:x=[]
  .rw[if_pos e,if_pos e,rK,ih f];rfl
  .rw[if_neg e,if_neg e,rK,ih];rfl
theorem fold_filter:∀(ps:List (List Nat)) (f:List Nat),ps.foldl step f=(ps.filter fun p=>!p.isEmpty).foldl step f
 |[],f=>rfl
 |p::ps,f=>by
  rw[foldl_cons,fold_filter ps];cases p with
  |nil=>rfl
  |cons c p=>rfl
theorem tL:∀(qs:List (List Nat)) (f:List Nat),(∀q∈qs,q≠[])->f≠[]->qs.foldl step f=if qs=[]then f else f++32::kD qs
 |[],f,_,_=>rfl
 | q::r,f,h,hf=>by
  have hq:=h q mem_cons_self;have e1:step f q=f++32::q:=by
   unfold step;rw[if_neg hq];cases f with
   |nil=>exact absurd rfl hf
   |cons a f=>simp
  have ih:=tL r (f++32::q) (fun p hp=>h p (mem_cons_of_mem _ hp)) (by simp);rw[foldl_cons,e1,ih];cases r with
  |nil=>rfl
  |cons y r=>simp[kD]
theorem D7 (qs:List (List Nat)) (h:∀q∈qs,q≠[]):qs.foldl step []=kD qs:=by
 cases qs with
 |nil=>rfl
 |cons q r=>
  have hq:=h q mem_cons_self;have e1:step [] q=q:=by unfold step;rw[if_neg hq];rfl
  rw[foldl_cons,e1,tL r q (fun p hp=>h p (mem_cons_of_mem _ hp)) hq];cases r with
  |nil=>rfl
  |cons y r=>rw[if_neg (by simp)];rfl
theorem JX (ps:List (List Nat)) (h:∀p∈ps,32∉p):walk id (kD ps) [] false=kD (ps.filter fun p=>!p.isEmpty):=by
 have:=tU ps [] h;rw[show(!([]:List Nat).isEmpty)=false from rfl]at this;rw[this,fold_filter,D7];intro q hq;have:=(mem_filter.mp hq).2;cases q with
 |nil=>cases this
 |cons _ _=>simp
noncomputable abbrev SP:Str:=Str.ofString " "
theorem G9:SP.cps.toList=[32]:=by decide+kernel
theorem m5:∀ys:List Str,(Str.join SP ys).cps.toList=kD (ys.map fun y=>y.cps.toList)
 |[]=>rfl
 |[x]=>rfl
 |x::y::r=>by
  have ih:=m5 (y::r);show(x++SP++Str.join SP (y::r)).cps.toList=_;rw[Str.cps_append,Str.cps_append,toList_append,toList_append,ih,G9];simp[kD]
noncomputable def W (x:Str):Str:=⟨(walk lo1 x.cps.toList [] false).toArray⟩
theorem NQ:SP=⟨#[32]⟩:=Str.ext' (by decide+kernel)
theorem G0 (L:Str):∃ps:List (List Nat),ps=(Txt.split L SP).map (fun y=>y.cps.toList)/\(∀p∈ps,32∉p)/\L.cps.toList=kD ps:=by
 refine⟨_,rfl,fun p hp=>?_,?_⟩
 .obtain⟨y,hy,rfl⟩:=mem_map.mp hp;rw[NQ]at hy;exact StrLaws.split_free L 32 y hy
 .rw[<-m5,StrLaws.join_split]
theorem oO {a b:Str} (h:a.cps.toList=b.cps.toList):a=b:=Str.ext' (by cases a;cases b;simp at h;exact h)
theorem FJ {x:Str} (hA:∀c∈x.cps.toList,c<128):Txt.join SP ((Txt.split (Txt.lower x) SP).filter fun y=>!decide (y=Str.ofString ""))=W x:=by
 refine oO ?_;obtain⟨ps,e,hf,hj⟩:=G0 (Txt.lower x);have hl:(Txt.lower x).cps.toList=x.cps.toList.map lo1:=by rw[lower_ascii hA];simp
 show(Builtin.Str.glued SP _).cps.toList=(walk lo1 x.cps.toList [] false).toArray.toList;rw[StrLaws.glued_eq_join,m5,vF,<-hl,hj,JX ps hf,e];refine congrArg kD ?_;rw[List.filter_map];refine congrArg _ (List.filter_congr fun y _=>?_);have h0:(Str.ofString "").cps.toList=[]:=by decide+kernel
 show(!decide (y=Str.ofString ""))=!y.cps.toList.isEmpty
 by_cases h:y=Str.ofString ""
 .rw[decide_eq_true h,h,h0];rfl
 .rw[decide_eq_false h];cases q:y.cps.toList with
  |nil=>exact absurd (oO (by rw[q,h0])) h
  |cons _ _=>rfl
theorem qW:∀(x f:List Nat) (w:Bool),(walk lo1 x f w).length<=f.length+2*x.length
 |[],f,w=>by simp[walk]
 |c::r,f,w=>by
  unfold walk
  by_cases h:c=32
  .rw[if_pos h];have:=qW r f (!f.isEmpty);simp at this⊢;omega
  .rw[if_neg h];have:=qW r (f++(if w=true then [32]else [])++[lo1 c]) false;cases w<;>simp at this⊢<;>omega
theorem split_len (L:Str):(Txt.split L SP).length<=L.length+2:=by
 unfold Txt.split;split
 .simp
 .split
  .simp
  .rw[length_partsBetween];have:=StrLaws.occ_length_le L SP 0 L.length (L.length+1);omega
theorem C3 (L:Str):(Builtin.Str.partsBetween L (Builtin.Str.occurrences L SP 0 L.length (L.length+1)) SP.length).length<=L.length+2:=by
 rw[length_partsBetween];have:=StrLaws.occ_length_le L SP 0 L.length (L.length+1);omega
end PM
namespace L2
open PySem PySem.Spec PyProof.Rows
inductive Kd where
 |aZ|bl|int|str|lst|tup|AH
 deriving DecidableEq
theorem range_getD {xs:List V} {f:V->V}:((List.range xs.length).filter fun _=>true).map (fun i=>f ((xs[i]?).getD .aZ))=xs.map f:=by
 rw[filter_eq_self.mpr (fun _ _=>rfl)]
 induction xs with
 |nil=>rfl
 |cons x xs ih=>
  rw[length_cons,range_succ_eq_map,map_cons,map_map,map_cons,<-ih];rfl
section
variable {k:Nat} {cD:List Nat} {g:TG} {tt:TT} {te:TE} {σ:St} {H:Hp} {Q:VK} {l:Addr}
theorem DL {K:Frag} {a:Addr} {xs:List V} (hS:bG K H a xs) (f:V->V) (Good:St->Prop) (h0:Good (bO k cD σ)) (hl:H l=none) (hlen:xs.length<sizeLine)
  (ht:∀(i:Nat) x σ H1 ys (N:St->Hp->Prop),xs[i]? =some x->Good σ->aF H H1->H1 l=some (.lst ys)->ys.length<sizeLine->
   (∀σ' H3,Good σ'->fQ l H1 H3->H3 l=some (.lst (ys++[f x]))->N σ' H3)->bV g tt te l x σ H1 N)
  (hd:∀H',aF H H'->H' l=some (.lst (xs.map f))->Q (.ref l) H'):jD (DY K a) g tt te l (bO k cD σ) (upd H l (.lst [])) Q:=by
 refine uH (DY K a) xs.length (fun _=>true) (fun i=>f ((xs[i]?).getD .aZ)) Good h0 hl hlen (fun H' s=>⟨xs,hS.same s,le_refl _⟩) (fun i H' hi s=>⟨xs,xs[i],hS.same s,by simp[hi]⟩) (fun i v σ H1 H2 ys N hi gd s e hz y hN=>?_) (fun H' s e=>hd H' s (by rw[e,range_getD]));obtain⟨e1,hx⟩:=y;subst e1;have hx:=hx xs (hS.same s);refine ht i v σ _ ys N hx gd s e hz fun σ' H3 g3 b e3=>hN σ' H3 g3 b ?_
 rw[e3,if_pos rfl,hx];rfl
end
end L2
namespace HT
open PySem PySem.Spec PyProof.Rows
section
variable {prog:Program} {w:World} {A:Around} {E:Value->Shared->Prop} {s:Shared}
theorem nZ {t sl:Addr} {items:Array Value} {vl vu:Value} {lo hi:Option Int} {Q:Value->Shared->Prop} (ht:IsTup s.heap t items) (hs:s.heap.IsSliceOf sl vl vu .none) (pl:IsPart vl lo) (pu:IsPart vu hi)
  (hw:eZ items.size 0 lo=0/\eZ items.size items.size hi=items.size) (h:Q (.ref t) s):wpAny (model prog w) A (getItem (.ref t) (.ref sl)) Q E s:=by
 obtain⟨os,hos,hcs,hds⟩:=id hs;have hTs:s.TypeIs (.ref sl) "slice":=⟨os,hos,hcs⟩;unfold getItem
 try with_reducible refine wpAny_holding ?_
 first|refine wpAny_bind (wpAny_pure ?_)|skip
 refine wpAny_bind (wpAny_sequenceKey ht.typeIs (by decide) ?_);refine wpAny_bind (wpAny_callSpecial?_slot (name:=Str.ofString "__getitem__") ht.typeIs PyProof.Rows.slot_tuple_getitem
  (wpAny_call_entry PyProof.Rows.slot_tuple_getitem ht.typeIs entry_tuple_getitem ?_ (args_tuple_getitem _ _)))
 show wpAny _ _ (Builtin.Tuple.tupleItemsOf (.ref t)>>=_) _ _ s;refine wpAny_bind (tupleItemsOf_ ht ?_);refine wpAny_bind (wpAny_typeOf hTs ?_);rw[if_pos (by decide)];refine wpAny_bind (jE hs pl pu ?_);have hyes:(((eZ items.size 0 lo:Nat):Int)==0 && (1:Int)==1 && (eZ items.size items.size hi - eZ items.size 0 lo)==items.size)=true:=by
  rw[hw.1,hw.2];simp
 show wpAny _ _ (if(((eZ items.size 0 lo:Nat):Int)==0 && (1:Int)==1 && (eZ items.size items.size hi - eZ items.size 0 lo)==items.size)=true then _ else _) _ _ s;rw[if_pos hyes];refine wpAny_bind (wpAny_bind (wpAny_typeOf ht.typeIs (wpAny_pure ?_)));rw[if_pos (by decide)];refine wpAny_bind (wpAny_rule ?_)
 first
  |exact wpAny_pure ⟨_,rfl,wpAny_pure h⟩
  |exact wpAny_bind (wpAny_pure ⟨_,rfl,wpAny_pure h⟩)
end
end HT
namespace L2
open PySem PySem.Spec PyProof.Rows
variable {a b l:Addr} {p:Array Nat} {R:Array Nat->Prop} {r r' r'':Bool} {X:Cx} {h':Heap} {H H':Hp} {A:KeyOrd} {pins:List (Addr×Obj)} {xs:List (List Key×Addr×Value)} {kvs:List (List Key×V)} {ys:List V} {vs:List Value} {ep i j k m n x:Nat} {ans:Nat->Nat->Bool} {py spos:Pos} {s:Shared} {σ:St} {y:Str} {α β:Type} {u:Value} {Q:Value->Shared->Prop} {w:World}
section
variable {X:Cx}
def yS:V->Option Int->Option Int->Hp->VK->Prop:=fun x lo hi H Q=>∃a xs,x= .ref a/\H a=some (.tup xs)/\∀p H',aF H H'->H' p=some (.tup (i4 xs lo hi))->Q (.ref p) H'
theorem wA:OJ X yS:=by
 intro pins s σ H x v vl vu lo hi sl Q I rx hs pl pu h;obtain⟨a,xs,rfl,hx,q⟩:=h
 by_cases hw:HT.eZ xs.length 0 lo=0/\HT.eZ xs.length xs.length hi=xs.length
 .cases rx;obtain⟨its,r,ht,hz⟩:=I.tuple (bG.of (K:=X.K) hx);have hlen:its.toArray.size=xs.length:=by rw[size_toArray];exact r.length.symm
  refine⟨"tuple",_,PyProof.Rows.slot_tuple_getitem.lookup,ht.typeIs,?_⟩;refine HT.nZ ht hs pl pu (by rw[hlen];exact hw) ⟨.ref a,H,I,rfl,q a H (aF.refl _) ?_⟩;have e:i4 xs lo hi=xs:=by unfold i4;rw[hw.1,hw.2,drop_zero,sub_zero,take_length]
  rw[e];exact hx
 .exact OB pins s σ H (.ref a) v vl vu lo hi sl Q I rx hs pl pu ⟨a,xs,rfl,bG.of hx,hw,fun p hp=>q p _ (aF.upd hp) aC⟩
def O1 (i j:Int):Prop:=0<j/\j<2^200
theorem rE:nA X (binaryOp .FloorDiv) (rI O1 fun i j=>.int (i / j)):=PZ fun i j _ _ _ _ _ hc q=>by
 have h1:(0:Int)<j:=hc.1;have h2:j<2^200:=hc.2;refine floordiv_int (by omega) (by rw[Int.fdiv_eq_ediv_of_nonneg i (by omega)];exact q) (.inl (PyProof.noPylong_of_log2 ?_));have h3:j.natAbs<2^200:=by omega
 have h4:j.natAbs.log2<200:=(Nat.log2_lt (by omega)).mpr h3;omega
end
section
variable {κ:Type} [DecidableEq κ]
noncomputable def bW (kvs:List (κ×V)) (k:κ):Option V:=(kvs.find? fun kv=>decide (kv.1=k)).map (·.2)
noncomputable def putK (kvs:List (κ×V)) (k:κ) (v:V):List (κ×V):=
 if(kvs.any fun kv=>decide (kv.1=k))=true then kvs.map (fun kv=>if kv.1=k then(kv.1,v)else kv)else kvs++[(k,v)]
theorem bU {p:κ×V} {r:List (κ×V)} {k:κ} (e:p.1=k):bW (p::r) k=some p.2:=by simp[bW,find?_cons,e]
theorem bF {p:κ×V} {r:List (κ×V)} {k:κ} (e:¬p.1=k):bW (p::r) k=bW r k:=by simp[bW,find?_cons,e]
theorem fU (k:κ):∀kvs:List (κ×V),(kvs.any fun kv=>decide (kv.1=k))=(bW kvs k).isSome
 |[]=>rfl
 |p::r=>by
  rw[any_cons]
  by_cases e:p.1=k
  .simp only[bU e,decide_eq_true e,Bool.true_or,Option.isSome_some]
  .rw[bF e,decide_eq_false e,Bool.false_or];exact fU k r
theorem x5 (k j:κ) (y:V):∀kvs:List (κ×V),bW (kvs.map fun kv=>if kv.1=k then(kv.1,y)else kv) j=(bW kvs j).map fun x=>if j=k then y else x
 |[]=>rfl
 | p::r=>by
  have ih:=x5 k j y r;rw[map_cons]
  by_cases h:p.1=k
  .rw[if_pos h]
   by_cases e:p.1=j
   .rw[bU (p:=(p.1,y)) e,bU e,map_some,if_pos (e.symm.trans h)]
   .rw[bF (p:=(p.1,y)) e,bF e,ih]
  .rw[if_neg h]
   by_cases e:p.1=j
   .rw[bU (p:=p) e,bU e,map_some,if_neg (fun z=>h (e.trans z))]
   .rw[bF (p:=p) e,bF e,ih]
theorem uC (k j:κ) (y:V):∀kvs:List (κ×V),bW kvs k=none->bW (kvs++[(k,y)]) j=if j=k then some y else bW kvs j
 |[],_=>by
  by_cases e:k=j
  .rw[if_pos e.symm];exact bU (p:=(k,y)) e
  .rw[if_neg (fun z=>e z.symm)];exact bF (p:=(k,y)) e
 |p::r,hn=>by
  rw[cons_append];have hk:¬p.1=k:=fun z=>by rw[bU z]at hn;cases hn
  rw[bF hk]at hn;have ih:=uC k j y r hn
  by_cases e:p.1=j
  .rw[bU e,bU e,if_neg (fun z=>hk (e.trans z))]
  .rw[bF e,bF e,ih]
theorem G5 (kvs:List (κ×V)) (k j:κ) (y:V):bW (putK kvs k y) j=if j=k then some y else bW kvs j:=by
 unfold putK
 by_cases a:(kvs.any fun kv=>decide (kv.1=k))=true
 .rw[if_pos a,x5];rw[fU]at a
  by_cases e:j=k
  .obtain⟨x,hx⟩:=isSome_iff_exists.mp a;rw[if_pos e,e,hx,map_some,if_pos rfl]
  .rw[if_neg e];cases bW kvs j with
   |none=>rfl
   |some x=>rw[map_some,if_neg e]
 .rw[if_neg a];refine uC k j y kvs ?_;rw[fU]at a;cases q:bW kvs k with
  |none=>rfl
  |some x=>rw[q]at a;exact(a rfl).elim
theorem fP (kvs:List (κ×V)) (k:κ) (v:V):(putK kvs k v).length<=kvs.length+1:=by
 unfold putK;split
 .rw[length_map];omega
 .rw[length_append,length_cons,length_nil];omega
theorem oJ.hJ {o:Option V} {u:Option Value} (r:oJ o u):o.isSome=u.isSome:=by
 cases o with
 |none=>cases u with
  |none=>rfl
  |some _=>exact(show False from r).elim
 |some _=>cases u with
  |none=>exact(show False from r).elim
  |some _=>rfl
theorem oJ.getD {o:Option V} {u:Option Value} {d:V} {d':Value} (r:oJ o u) (rd:RelV d d'):RelV (o.getD d) (u.getD d'):=by
 cases o with
 |none=>cases u with
  |none=>exact rd
  |some _=>exact(show False from r).elim
 |some _=>cases u with
  |none=>exact(show False from r).elim
  |some _=>exact r
theorem KV.val {kvs:List (κ×V)} {vs:List (κ×Value)} (r:KV kvs vs) (k:κ):oJ (bW kvs k) (valueAt vs k):=by
 unfold KV at r
 induction r with
 |nil=>exact True.intro
 | @cons p q ps qs h t ih=>
  obtain⟨h1,h2⟩:=h
  by_cases e:p.1=k
  .have e':q.1=k:=h1.symm.trans e;have b:valueAt (q::qs) k=some q.2:=by simp[valueAt,find?_cons,e']
   rw[bU e,b];exact h2
  .have e':¬q.1=k:=fun z=>e (h1.trans z)
   have b:valueAt (q::qs) k=valueAt qs k:=by simp[valueAt,find?_cons,e']
   rw[bF e,b];exact ih
theorem KV.any {kvs:List (κ×V)} {vs:List (κ×Value)} (r:KV kvs vs) (k:κ):(kvs.any fun kv=>decide (kv.1=k))=vs.any fun kv=>decide (kv.1=k):=by
 unfold KV at r
 induction r with
 |nil=>rfl
 |cons h t ih=>rw[any_cons,any_cons,ih,h.1]
theorem KV.MW {kvs:List (κ×V)} {vs:List (κ×Value)} (r:KV kvs vs) (k:κ) {y:V} (ry:RelV y u):
  KV (kvs.map fun kv=>if kv.1=k then(kv.1,y)else kv) (vs.map fun kv=>if kv.1=k then(kv.1,u)else kv):=by
 unfold KV at r⊢
 induction r with
 |nil=>exact .nil
 | @cons p q ps qs h t ih=>
  rw[map_cons,map_cons];refine .cons ?_ ih;obtain⟨h1,h2⟩:=h
  by_cases e:p.1=k
  .rw[if_pos e,if_pos (h1.symm.trans e)];exact⟨h1,ry⟩
  .rw[if_neg e,if_neg (fun z=>e (h1.trans z))];exact⟨h1,h2⟩
theorem KV.put {kvs:List (κ×V)} {vs:List (κ×Value)} (r:KV kvs vs) (k:κ) {y:V} (ry:RelV y u):KV (putK kvs k y) (stored vs k u):=by
 unfold putK stored;rw[r.any k]
 by_cases e:(vs.any fun kv=>decide (kv.1=k))=true
 .rw[if_pos e,if_pos e];exact r.MW k ry
 .rw[if_neg e,if_neg e];exact Paired.snoc r ⟨rfl,ry⟩
theorem KV.keys {kvs:List (κ×V)} {vs:List (κ×Value)} (r:KV kvs vs):kvs.map (·.1)=vs.map (·.1):=by
 unfold KV at r
 induction r with
 |nil=>rfl
 |cons h t ih=>rw[map_cons,map_cons,ih,h.1]
theorem KV.length {kvs:List (κ×V)} {vs:List (κ×Value)} (r:KV kvs vs):kvs.length=vs.length:=Paired.length r
end
theorem kX {P:Program} {k:Key} {u:Value} (r:RelV (kV k) u):(bH P w).is k u=true:=by
 cases k with
 |inl i=>obtain⟨t,e⟩:=(show∃t,u=Value.int i t from r);subst e;exact xA P w i t
 |inr x=>obtain⟨t,e⟩:=(show∃t,u=Value.str x t from r);subst e;exact xB P w x t
theorem tW {P:Program}:∀{ks:List Key} {us:List Value},Vals (ks.map kV) us->ItemsAre (bH P w) ks us
 |[],_,r=>by rw[map_nil]at r;cases r;exact .nil
 |k::ks,_,r=>by
  rw[map_cons]at r;cases r with
  |cons h t=>exact .cons (kX h) (tW t)
abbrev KT (H:Hp):List (List Key×V)->List (List Key×Addr×Value)->Prop:=Paired fun p q=>p.1=q.1/\H q.2.1=some (.tup (p.1.map kV))/\RelV p.2 q.2.2
theorem KT.val (r:KT H kvs xs) (k:List Key):oJ (bW kvs k) ((atKey xs k).map (·.2)):=by
 induction r with
 |nil=>exact True.intro
 | @cons p q ps qs h t ih=>
  obtain⟨h1,_,h2⟩:=h
  by_cases e:p.1=k
  .have e':q.1=k:=h1.symm.trans e;have b:atKey (q::qs) k=some q.2:=by simp[atKey,find?_cons,e']
   rw[bU e,b];exact h2
  .have e':¬q.1=k:=fun z=>e (h1.trans z)
   have b:atKey (q::qs) k=atKey qs k:=by simp[atKey,find?_cons,e']
   rw[bF e,b];exact ih
theorem KT.MW (r:KT H kvs xs) (k:List Key) {y:V} (ry:RelV y u):
  KT H (kvs.map fun kv=>if kv.1=k then(kv.1,y)else kv) (xs.map (putAt k u)):=by
 induction r with
 |nil=>exact .nil
 | @cons p q ps qs h t ih=>
  rw[map_cons,map_cons];refine .cons ?_ ih;obtain⟨h1,h2,h3⟩:=h;unfold putAt
  by_cases e:p.1=k
  .rw[if_pos e,if_pos (h1.symm.trans e)];exact⟨h1,h2,ry⟩
  .rw[if_neg e,if_neg (fun z=>e (h1.trans z))];exact⟨h1,h2,h3⟩
theorem KT.put (r:KT H kvs xs) (k:List Key) {y:V} (hb:H b=some (.tup (k.map kV))) (ry:RelV y u):
  KT H (putK kvs k y) (storedH xs k b u):=by
 have e:(kvs.any fun kv=>decide (kv.1=k))=(atKey xs k).isSome:=by
  rw[fU,(r.val k).hJ,isSome_map]
 unfold putK storedH;rw[e]
 by_cases q:(atKey xs k).isSome=true
 .rw[if_pos q,if_pos q];exact r.MW k ry
 .rw[if_neg q,if_neg q];exact Paired.snoc r ⟨rfl,hb,ry⟩
theorem KT.keeps (r:KT H kvs xs) (ht:∀b ys,H b=some (.tup ys)->H' b=some (.tup ys)):KT H' kvs xs:=
 Paired.cH r fun _ _ z=>⟨z.1,ht _ _ z.2.1,z.2.2⟩
def ED (H:Hp) (a:Addr) (kvs:List (Key×V)):Prop:=∃ep,Rd H a (.dK kvs ep)
def bZ (H:Hp) (a:Addr) (kvs:List (Key×V)):Prop:=∃ep,H a=some (.dK kvs ep)
theorem bZ.rd {kvs:List (Key×V)} (h:bZ H a kvs):ED H a kvs:=let⟨ep,e⟩:=h;⟨ep,.inl e⟩
theorem bZ.OW {kvs:List (Key×V)} (h:bZ H a kvs):OG (H a):=by obtain⟨_,e⟩:=h;rw[e];exact True.intro
section
variable {P:Program} {w:World} {H:Hp} {h:Heap} {a:Addr}
theorem K8 {u:HO} (ok:kC P w H h) (e:Rd H a u):dN P w H h a u:=e.ok ok
theorem rF {kvs:List (Key×V)} (ok:kC P w H h) (e:Rd H a (.dK kvs ep)):kvs.length<=sizeLine/\(a==sysModules)=false/\∃vs,KV kvs vs/\h.DictAt (bH P w) a vs ep:=
 show dN P w H h a (.dK kvs ep)from K8 ok e
theorem jJ {kvs:List (Key×V)} (ok:kC P w H h) (e:ED H a kvs):kvs.length<=sizeLine/\(a==sysModules)=false/\∃vs,KV kvs vs/\h.DictOf (bH P w) a vs:=
 let⟨_,e⟩:=e;let⟨z,y,vs,r,d⟩:=rF ok e;⟨z,y,vs,r,d.dictOf⟩
theorem yD {kvs:List (Key×V)} (ok:kC P w H h) (e:bZ H a kvs):kvs.length<=sizeLine/\(a==sysModules)=false/\∃vs,KV kvs vs/\h.DictOf (bH P w) a vs:=jJ ok e.rd
theorem mR {ks:List Key} (ok:kC P w H h) (e:H a=some (.tup (ks.map kV))):(tupleKind (bH P w)).is h ks a:=by
 obtain⟨_,its,r,⟨o,h1,h2,n,h3⟩,_⟩:=(show dN P w H h a (.tup (ks.map kV))from ok a _ e);exact⟨o,its.toArray,n,h1,h2,h3,by simpa using tW r⟩
theorem pP {kvs:List (List Key×V)} (ok:kC P w H h) (e:Rd H a (.dT kvs)):kvs.length<=sizeLine/\(a==sysModules)=false/\
  ∃xs,KT H kvs xs/\h.DictOfH (tupleKind (bH P w)) a xs:=by
 obtain⟨z,y,xs,r,o,es,ep,h1,h2,h3,h4,h5⟩:=(show dN P w H h a (.dT kvs)from K8 ok e);refine⟨z,y,xs,r,o,es,ep,h1,h2,h3,h4,fun x hx=>?_,h5⟩;have all:∀{l:List (List Key×V)} {m:List (List Key×Addr×Value)},KT H l m->∀x∈m,(tupleKind (bH P w)).is h x.1 x.2.1:=by
  intro l m q
  induction q with
  |nil=>intro x hx;exact nomatch hx
  | @cons p q ps qs hq t ih=>
   intro x hx;rcases mem_cons.mp hx with e|hx
   .subst e;exact mR ok (by rw[<-hq.1];exact hq.2.1)
   .exact ih x hx
 exact all r x hx
theorem O4 (ok:kC P w H h) (e:H a=some (.dT kvs)):kvs.length<=sizeLine/\(a==sysModules)=false/\
  ∃xs,KT H kvs xs/\h.DictOfH (tupleKind (bH P w)) a xs:=pP ok (.inl e)
end
def rT (H:Hp) (a:Addr) (y:V) (r:Option V):Prop:=
 (∃kvs k,ED H a kvs/\y=kV k/\r=bW kvs k)\/ ∃kvs k b,Rd H a (.dT kvs)/\y= .ref b/\H b=some (.tup (k.map kV))/\r=bW kvs k
def NF (H:Hp) (a:Addr) (y v:V) (Q:Hp->Prop):Prop:=
 (∃kvs k,bZ H a kvs/\y=kV k/\kvs.length<sizeLine/\∀ep,Q (upd H a (.dK (putK kvs k v) ep)))\/
 ∃kvs k b,H a=some (.dT kvs)/\y= .ref b/\H b=some (.tup (k.map kV))/\kvs.length<sizeLine/\Q (upd H a (.dT (putK kvs k v)))
section
variable {X:Cx} {pins:List (Addr×Obj)} {σ:St} {H:Hp} {s:Shared} {a:Addr} {y v:V} {u r:Value} {o:Option V} {A:Around} {E:Value->Shared->Prop}
theorem Inv.big (I:Inv X pins σ H s):sysModules<s.heap.objs.size:=by
 have h:mainGlobals<s.heap.objs.size:=(I.mod.glob.keeps I.bk).lt;exact lt_trans (by decide) h
theorem C0 (hu:A.units+1<cLine) (I:Inv X pins σ H s) (g:rT H a y (some v)) (ry:RelV y u) (h:∀w' s',Inv X pins σ H s'->RelV v w'->Q w' s'):
  wpAny (model X.prog X.w) A (getItem (.ref a) u) Q E s:=by
 rcases g with⟨kvs,k,e,ey,l⟩|⟨kvs,k,b,e,ey,eb,l⟩
 .subst ey;obtain⟨z,hd,vs,rel,dd⟩:=jJ I.bA e;obtain⟨w',hw,w9⟩:=oJ.some_of (v:=v) (o:=valueAt vs k) (by rw[l];exact rel.val k);exact wpAny_getItem_of (kX ry) dd.mapOf hw (h w' _ (I.tok _) w9)
 .subst ey;cases(show u=Value.ref b from ry);obtain⟨z,hd,xs,rel,dd⟩:=pP I.bA e;obtain⟨w',hw,w9⟩:=oJ.some_of (v:=v) (o:=(atKey xs k).map (·.2)) (by rw[l];exact rel.val k);obtain⟨p,hp,hp2⟩:=Option.map_eq_some_iff.mp hw;refine wpAny_getItem_heap (tupleKind_room_in1 hu) (mR I.bA eb) dd hp ?_;rw[hp2];exact h w' _ (I.tok _) w9
theorem RA (hu:A.units+1<cLine) (I:Inv X pins σ H s) (g:rT H a y o) (ry:RelV y u) (h:∀s',Inv X pins σ H s'->Q (.bool o.isSome) s'):
  wpAny (model X.prog X.w) A (compareOp .In u (.ref a)) Q E s:=by
 rcases g with⟨kvs,k,e,ey,l⟩|⟨kvs,k,b,e,ey,eb,l⟩
 .subst ey;obtain⟨z,hd,vs,rel,dd⟩:=jJ I.bA e;refine wpAny_in_of (kX ry) hd dd.mapOf ?_;rw[<-(rel.val k).hJ,<-l];exact h _ (I.tok _)
 .subst ey;cases(show u=Value.ref b from ry);obtain⟨z,hd,xs,rel,dd⟩:=pP I.bA e;refine wpAny_in_heap (tupleKind_room_in1 hu) (mR I.bA eb) hd dd ?_;have q:=(rel.val k).hJ;rw[isSome_map]at q;rw[<-q,<-l];exact h _ (I.tok _)
theorem IH (hu:A.units+1<cLine) (I:Inv X pins σ H s) (g:rT H a y o) (ry:RelV y u) (h:∀s',Inv X pins σ H s'->Q (.bool (!o.isSome)) s'):
  wpAny (model X.prog X.w) A (compareOp .NotIn u (.ref a)) Q E s:=by
 rcases g with⟨kvs,k,e,ey,l⟩|⟨kvs,k,b,e,ey,eb,l⟩
 .subst ey;obtain⟨z,hd,vs,rel,dd⟩:=jJ I.bA e;refine wpAny_notIn_of (kX ry) hd dd.mapOf ?_;rw[<-(rel.val k).hJ,<-l];exact h _ (I.tok _)
 .subst ey;cases(show u=Value.ref b from ry);obtain⟨z,hd,xs,rel,dd⟩:=pP I.bA e;refine wpAny_notIn_heap (tupleKind_room_in1 hu) (mR I.bA eb) hd dd ?_;have q:=(rel.val k).hJ;rw[isSome_map]at q;rw[<-q,<-l];exact h _ (I.tok _)
theorem j7 {t':Nat} {ob:HO} (I:Inv X pins σ H s) (mu:OG (H a)) (hs:Heap.SameBut a s.heap h') (he:∃q,h'.get? a=some q) (new:dN X.prog X.w (upd H a ob) h' a ob):
  Inv X pins σ (upd H a ob) {s with heap:=h',toks:=t'}:=
 I.write (x:=a) (e:=a) mu (.inl rfl) (fun b q hb z=>(hs.2 b hb).trans z) he new
theorem rS {P:Program} {kvs:List (Key×V)} {vs:List (Key×Value)} (z:kvs.length<=sizeLine) (hd:(a==sysModules)=false) (rel:KV kvs vs) (dd:h'.DictAt (bH P w) a vs ep):
  dN P w H' h' a (.dK kvs ep):=⟨z,hd,vs,rel,dd⟩
theorem tZ {Z:Hp->Prop} {Q:Unit->Shared->Prop} (hu:A.units+1<cLine) (I:Inv X pins σ H s) (g:NF H a y v Z) (ry:RelV y u) (rv:RelV v r) (h:∀H' s',Inv X pins σ H' s'->Z H'->Q () s'):
  wpAny (model X.prog X.w) A (setItem (.ref a) u r) Q E s:=by
 rcases g with⟨kvs,k,e,ey,l,eH⟩|⟨kvs,k,b,e,ey,eb,l,eH⟩
 .subst ey;obtain⟨z,hd,vs,rel,dd⟩:=yD I.bA e;have hz:vs.length<=sizeLine:=by rw[<-rel.length];exact z
  have hl:(putK kvs k v).length<=sizeLine:=by have:=fP kvs k v;omega
  refine wpAny_setItem_pairs (hsz:=hz) (kX ry) dd fun h' dd' hs=>?_
  obtain⟨ep,da⟩:=dd'.dictAt;refine h _ _ ?_ (eH ep);have he:∃q,h'.get? a=some q:=let⟨q,_,_,hq,_⟩:=dd';⟨q,hq⟩
  exact j7 I e.OW hs he (rS hl hd (rel.put k rv) da)
 .subst ey;cases(show u=Value.ref b from ry);obtain⟨z,hd,xs,rel,dd⟩:=O4 I.bA e;have hz:xs.length<=sizeLine:=by rw[<-Paired.length rel];exact z
  have hl:(putK kvs k v).length<=sizeLine:=by have:=fP kvs k v;omega
  refine wpAny_setItem_heap (hsz:=hz) (tupleKind_room_in1 hu) (mR I.bA eb) dd fun h' dd' hs=>h _ _ ?_ eH
  obtain⟨q,es,ep,hq,h2,h3,h4,_,h5⟩:=dd';refine j7 I (by rw[e];exact True.intro) hs ⟨q,hq⟩ ⟨hl,hd,_,(rel.put k eb rv).keeps fun c ys ec=>?_,q,es,ep,hq,h2,h3,h4,h5⟩;rw[aM (y4 ec e (fun z=>nomatch z))];exact ec
end
theorem yL {y:V} {o:Option V} (I:Inv X pins σ H s) (g:rT H a y o):s.TypeIs (.ref a) "dict":=by
 rcases g with⟨kvs,k,e,_,_⟩|⟨kvs,k,b,e,_,_,_⟩
 .obtain⟨_,_,vs,_,dd⟩:=jJ I.bA e;exact dd.typeIs
 .obtain⟨_,_,xs,_,dd⟩:=pP I.bA e;exact dd.typeIs
def tV (td ty tv:TE):TS:=fun D σ H=>tv σ H fun v H1=>td σ H1 fun x H2=>ty σ H2 fun y H3=>∃a,x= .ref a/\NF H3 a y v (D.nx σ)
section
variable {X:Cx} {o i e value:Expr} {pos pos' tpos:Pos} {td ty tv:TE}
theorem fJ (hu:X.A.units+1<cLine) (ho:PE X o td) (hi:PE X i ty) (hv:PE X value tv) (hs:swapsWith value (some (.Subscript o i pos')) pos.line X.env=pure false):
  PS X (.Assign [.Subscript o i pos'] value pos) (tV td ty tv):=by
 intro pins s σ H D I h;refine wpAny_Assign_Subscript (cE (hv pins s σ H _ I h) fun r s1 ⟨v,H1,I1,rv,q1⟩=>cE (ho pins s1 σ H1 _ I1 q1) fun u s2 ⟨x,H2,I2,rx,q2⟩=>cE (hi pins s2 σ H2 _ I2 q2) fun iv s3 ⟨y,H3,I3,ry,a,ex,g⟩=>?_) hs;subst ex;obtain rfl:u=Value.ref a:=rx;exact tZ hu I3 g ry rv fun H4 s4 I4 q3=>⟨σ,H4,I4,q3⟩
end
theorem FV {P:Program} (h:Heap) (hb:sysModules<h.objs.size):dN P w H (h.push {cls:=.type "dict",data:=.dict #[]}) h.objs.size (.dK [] 0):=
 ⟨zero_le _,beq_eq_false_iff_ne.mpr (Ne.symm (ne_of_lt hb)),[],.nil,_, #[],get?_push_size _ rfl,⟨rfl,rfl,rfl⟩,rfl,(fun _ he=>by simp at he),PySem.Pairs.nil,nodup_nil⟩
def lH:TE:=fun _ H Q=>∀p,H p=none->Q (.ref p) (upd H p (.dK [] 0))
section
variable {X:Cx} {pos:Pos}
theorem fF:PE X (.Dict [] [] pos) lH:=fun pins s σ H Q I h=>
 wpAny_Dict_empty ⟨.ref s.heap.objs.size,_,I.laid (a:=s.heap.objs.size) (o:=.dK [] 0) (t':=s.toks) (fun _ _ q=>get?_push_of_some _ q) (le_refl _) (FV s.heap I.big),rfl,h _ (I.bA.fresh (le_refl _))⟩
end
noncomputable def fL (kvs more:List (Key×V)):List (Key×V):=more.foldl (fun acc kv=>putK acc kv.1 kv.2) kvs
theorem KV.merge:∀{more:List (Key×V)} {rs:List (Key×Value)} {kvs:List (Key×V)} {vs:List (Key×Value)},KV more rs->KV kvs vs->KV (fL kvs more) (merged vs rs):=by
 intro more rs kvs vs r;unfold KV at r
 induction r generalizing kvs vs with
 |nil=>intro q;exact q
 | @cons p q ps qs h t ih=>
  intro r0;have e:KV (putK kvs p.1 p.2) (stored vs q.1 q.2):=by
   have:=r0.put p.1 h.2;rw[<-h.1];exact this
  exact ih e
theorem mH:∀(more kvs:List (Key×V)),(fL kvs more).length<=kvs.length+more.length
 |[],kvs=>by show kvs.length<=kvs.length+0;omega
 |p::r,kvs=>by
  have h1:=mH r (putK kvs p.1 p.2);have h2:=fP kvs p.1 p.2;show(fL (putK kvs p.1 p.2) r).length<=_;rw[length_cons];omega
structure M1 (X:Cx) (o:Expr) (m:Str) (apos:Pos) (e:Expr) (cpos:Pos):Prop where
 base:attributeBase o m X.env (eval o X.env)=eval o X.env
 P2:((backTo cpos (starEach [e] X.env)).all (fun x=>!x.1) && (backToKw cpos (keywordEach [] X.env)).all (fun x=>x.1.isSome)
  && decide (([e]:List Expr).length+([]:List Keyword).length+(if([]:List Keyword).isEmpty then 0 else 1)<30))=true
 line:(apos.endLine==cpos.line)=true
 trees:backTo cpos (starEach [e] X.env)=[(false,eval e X.env)]
structure M2 (X:Cx) (o:Expr) (m:Str) (apos:Pos) (e f:Expr) (cpos:Pos):Prop where
 base:attributeBase o m X.env (eval o X.env)=eval o X.env
 P2:((backTo cpos (starEach [e,f] X.env)).all (fun x=>!x.1) && (backToKw cpos (keywordEach [] X.env)).all (fun x=>x.1.isSome)
  && decide (([e,f]:List Expr).length+([]:List Keyword).length+(if([]:List Keyword).isEmpty then 0 else 1)<30))=true
 line:(apos.endLine==cpos.line)=true
 trees:backTo cpos (starEach [e,f] X.env)=[(false,eval e X.env),(false,eval f X.env)]
def OO (H:Hp) (a:Addr):Prop:=(∃kvs,ED H a kvs)\/ ∃kvs,Rd H a (.dT kvs)
theorem wR (I:Inv X pins σ H s) (d:OO H a):
  s.TypeIs (.ref a) "dict"/\(∀b,Value.ref a= .ref b->∃ob,s.heap.get? b=some ob/\ob.dict=none)/\(a==sysModules)=false:=by
 rcases d with⟨kvs,e⟩|⟨kvs,e⟩
 .obtain⟨_,hd,vs,_,dd⟩:=jJ I.bA e;refine⟨dd.typeIs,fun b q=>?_,hd⟩;cases q;obtain⟨ob,_,_,h1,h2,_⟩:=dd;exact⟨ob,h1,h2.2.1⟩
 .obtain⟨_,hd,xs,_,dd⟩:=pP I.bA e;refine⟨dd.typeIs,fun b q=>?_,hd⟩;cases q;obtain⟨ob,_,_,h1,h2,_⟩:=dd;exact⟨ob,h1,h2.2.1⟩
section
variable {X:Cx} {pins:List (Addr×Obj)} {σ:St} {H:Hp} {s:Shared} {a:Addr} {y d:V} {u r:Value} {o:Option V} {A:Around} {E:Value->Shared->Prop}
theorem M3 (hu:A.units+1<cLine) (I:Inv X pins σ H s) (g:rT H a y o) (ry:RelV y u) (h:∀w' s',Inv X pins σ H s'->RelV (o.getD .aZ) w'->Q w' s'):
  wpAny (model X.prog X.w) A (call (.builtin "dict.get") [.ref a,u]) Q E s:=by
 rcases g with⟨kvs,k,e,ey,l⟩|⟨kvs,k,b,e,ey,eb,l⟩
 .subst ey;obtain⟨z,hd,vs,rel,dd⟩:=jJ I.bA e;refine call_meetsIn slot_dict_get dd.typeIs entry_dict_get (PySem.F.args_dict_get_2 _ _) (meets_dict_get (bH X.prog X.w) a (kX ry) hd) ⟨_,dd.mapOf,h _ _ (I.tok _) ?_⟩;rw[l];exact(rel.val k).getD rfl
 .subst ey;cases(show u=Value.ref b from ry);obtain⟨z,hd,xs,rel,dd⟩:=pP I.bA e;refine call_meetsIn slot_dict_get dd.typeIs entry_dict_get (PySem.F.args_dict_get_2 _ _) (meetsH_dict_get (tupleKind (bH X.prog X.w)) a b hd) ⟨tupleKind_room_in1 hu,k,xs,mR I.bA eb,dd,h _ _ (I.tok _) ?_⟩;rw[l];exact(rel.val k).getD rfl
theorem N4 (hu:A.units+1<cLine) (I:Inv X pins σ H s) (g:rT H a y o) (ry:RelV y u) (rd:RelV d r) (h:∀w' s',Inv X pins σ H s'->RelV (o.getD d) w'->Q w' s'):
  wpAny (model X.prog X.w) A (call (.builtin "dict.get") [.ref a,u,r]) Q E s:=by
 rcases g with⟨kvs,k,e,ey,l⟩|⟨kvs,k,b,e,ey,eb,l⟩
 .subst ey;obtain⟨z,hd,vs,rel,dd⟩:=jJ I.bA e;refine call_meetsIn slot_dict_get dd.typeIs entry_dict_get (PySem.F.args_dict_get_3 _ _ _) (meets_dict_get_default (bH X.prog X.w) a (kX ry) hd r) ⟨_,dd.mapOf,h _ _ (I.tok _) ?_⟩;rw[l];exact(rel.val k).getD rd
 .subst ey;cases(show u=Value.ref b from ry);obtain⟨z,hd,xs,rel,dd⟩:=pP I.bA e;refine call_meetsIn slot_dict_get dd.typeIs entry_dict_get (PySem.F.args_dict_get_3 _ _ _) (meetsH_dict_get_default (tupleKind (bH X.prog X.w)) a b hd r) ⟨tupleKind_room_in1 hu,k,xs,mR I.bA eb,dd,h _ _ (I.tok _) ?_⟩;rw[l];exact(rel.val k).getD rd
end
def jT (td ty:TE):TE:=fun σ H Q=>td σ H fun x H1=>∃a,x= .ref a/\OO H1 a/\ty σ H1 fun y H2=>∃o,rT H2 a y o/\Q (o.getD .aZ) H2
def i0 (td ty tx:TE):TE:=fun σ H Q=>td σ H fun x H1=>∃a,x= .ref a/\OO H1 a/\ty σ H1 fun y H2=>tx σ H2 fun z H3=>∃o,rT H3 a y o/\Q (o.getD z) H3
section
variable {X:Cx} {o e f:Expr} {apos cpos:Pos} {td ty tx:TE}
theorem HC (hu:X.A.units+1<cLine) (ho:PE X o td) (he:PE X e ty) (m:M1 X o "get" apos e cpos):PE X (.Call (.Attribute o "get" apos) [e] [] cpos) (jT td ty):=by
 intro pins s σ H Q I h;refine wpAny_Call_method m.base m.P2 m.line plainAttrs_dict slot_dict_get type_dict_get (cE (ho pins s σ H _ I h) fun u s1 ⟨x,H1,I1,rx,a,ex,d,q1⟩=>?_);subst ex;obtain rfl:u=Value.ref a:=rx;obtain⟨t1,t2,_⟩:=wR I1 d;refine⟨t1,t2,?_⟩;rw[m.trees];refine Calls.callWith_builtin rfl (Calls.evalArgs_plain (Calls.spliced_cons (cE (he pins s1 σ H1 _ I1 q1) fun iv s2 ⟨y,H2,I2,ry,ov,g,q2⟩=>Calls.spliced_nil ?_)));exact M3 hu I2 g ry fun w' s3 I3 w9=>⟨_,H2,I3,w9,q2⟩
theorem yO (hu:X.A.units+1<cLine) (ho:PE X o td) (he:PE X e ty) (hf:PE X f tx) (m:M2 X o "get" apos e f cpos):PE X (.Call (.Attribute o "get" apos) [e,f] [] cpos) (i0 td ty tx):=by
 intro pins s σ H Q I h;refine wpAny_Call_method m.base m.P2 m.line plainAttrs_dict slot_dict_get type_dict_get (cE (ho pins s σ H _ I h) fun u s1 ⟨x,H1,I1,rx,a,ex,d,q1⟩=>?_);subst ex;obtain rfl:u=Value.ref a:=rx;obtain⟨t1,t2,_⟩:=wR I1 d;refine⟨t1,t2,?_⟩;rw[m.trees];refine Calls.callWith_builtin rfl (Calls.evalArgs_plain (Calls.spliced_cons (cE (he pins s1 σ H1 _ I1 q1) fun iv s2 ⟨y,H2,I2,ry,q2⟩=>
  Calls.spliced_cons (cE (hf pins s2 σ H2 _ I2 q2) fun fv s3 ⟨z,H3,I3,rz,ov,g,q3⟩=>Calls.spliced_nil ?_))))
 exact N4 hu I3 g ry rz fun w' s4 I4 w9=>⟨_,H3,I4,w9,q3⟩
end
def Kp (H H':Hp):Prop:=∀a o,H a=some o->H' a=some o\/ ∃xs ys,o= .lst xs/\H' a=some (.lst ys)
theorem Kp.lst {xs:List V} (e:H l=some (.lst xs)):Kp H (upd H l (.lst ys)):=fun a o h=>by
 by_cases z:a=l
 .subst z;rw[e]at h;cases h;exact .inr ⟨_,_,rfl,aC⟩
 .exact .inl (by rw[aM z];exact h)
section
variable {X:Cx} {elt tg iter:Expr} {ifs:List Expr} {scope:Scope} {pos:Pos} {wi:TI} {g:TG} {tt:TT} {te:TE} {N:List Str} {k:Nat} {cD:List Nat}
theorem JQ {iy:Nat} (hc:X.calm=true) (hNd:X.N.Nodup) (hiy:X.N[iy]? =some y) (hy:X.env.scope.names.lookup y=some .local)
  (S:fO X scope N k cD) (hi:PI X tg iter wi) (hg:∀c,PG (aR X scope N c) tg g) (ht:∀c,HY (aR X scope N c) ifs tt) (he:∀c,PE (aR X scope N c) elt te)
  (hsw:swapsWith (.ListComp elt [⟨tg,iter,ifs,0⟩] scope pos) (some (.Name y py)) spos.line X.env=pure true)
  (hs:∀x,foldedSetIterable iter X.env x=pure x:=by intro _;rfl):PS X (.Assign [.Name y py] (.ListComp elt [⟨tg,iter,ifs,0⟩] scope pos) spos) (mD (rA wi k cD g tt te) (gN iy)):=by
 intro pins s σ H D I h;rw[exec_Assign_Name_used _ _ _ _ hsw];refine wpAny_bind (wpAny_standAt (wpAny_bind ?_));obtain⟨cl,hclos,hcl1,hcl2⟩:=gI (scope:=scope) (env:=X.env) (fun p hp hf=>I.ok.has p.1 (S.free p hp hf));show wpAny _ X.A (do let _<-comprehension (.ListComp elt [⟨tg,iter,ifs,0⟩] scope pos) scope X.env _ (newList []) false (eval iter X.env) (some (assign (.Name y py) X.env))) _ _ s;refine wpAny_bind (wpAny_mono (wpAny_comprehension_free (use:=some (assign (.Name y py) X.env)) (Q:=fun _ s'=>SP X pins D .next s') rfl hs hclos S.kind S.names (cE (hi pins s σ H _ I h) fun v s1 h1=>cE h1 fun itv s2 h2=>?_)) (fun _ s' hq=>wpAny_pure (wpAny_pure hq)) fun _ _ e=>e);obtain⟨it,fp,tn,J,H2,e,I2,T,st2,f2,q2⟩:=h2;subst e;obtain⟨W,⟨m0,w0⟩,turn⟩:=q2 s2.heap.objs.size (I2.bA.fresh (le_refl _));have hob:∀b∈fp,b<s2.heap.objs.size:=fun b hb=>let⟨o,e,_⟩:=T.obj _ _ st2 b hb;lt_size e
 refine wpAny_newObj_type (wpAny_newFunctionEnv S.cell (by intro y hy;simp at hy) (fun h₁ hns₁ hsb₁=>?_) S.kind);dsimp only at hns₁ hsb₁⊢
 generalize hHH:s2.heap.push {cls:=.type "list",dict:=none,data:=.seq ([]:List Value).toArray}=HH at hns₁ hsb₁⊢
 have hCC:HH.objs.size=s2.heap.objs.size+1:=by rw[<-hHH,size_push]
 have old:∀b o,s2.heap.get? b=some o->h₁.get? b=some o:=fun b o e=>hsb₁.extBut b o (ne_of_lt (hCC▸lt_succ_of_lt (lt_size e))) (get?_push_of_some _ (hHH▸get?_push_of_some _ e))
 have hD:h₁.get? s2.heap.objs.size=some {cls:=.type "list",data:=.seq #[] 0}:=hsb₁.extBut _ _ (ne_of_lt (hCC▸lt_succ_self _)) (get?_push_of_some _ (hHH▸get?_push_size _ rfl));have I4:=fun tk=>BG (tk:=tk) S I2 hcl1 hcl2 hCC f2 hob old hD hns₁
 have X':=aR X scope N ⟨cl,HH.objs.size,s2,H2,fp⟩;have stat:∀{H':Hp},(∀b∈fp,H' b=none)->∀b∈fp,mQ (aR X scope N ⟨cl,HH.objs.size,s2,H2,fp⟩) [] H' b:=fun hn b hb=>
  ⟨hn b hb,ne_of_lt (hCC▸lt_succ_of_lt (hob b hb)),(oQ S I2 hcl1 hcl2 (hCC▸le_succ _) f2 hob).wV b hb,.inl hb,fun x c e=>(f2 b hb).2.2.2.2.1 x c (hcl1 x c e),fun p hp=>absurd (show p∈([]:List (Addr×Obj))from hp) (by simp)⟩
 have loop:∀s₃:Shared,s₃={s2 with heap:=h₁,toks:=s2.toks+([]:List (Str×Value)).length}->
   codeAny (model X.prog X.w) X.A (.compLoop (.ListComp elt [⟨tg,iter,ifs,0⟩] scope pos) 0 (.ref it) (.ref s2.heap.objs.size) (compEnvC scope cl HH.objs.size X.env))
    (compPost (model X.prog X.w) X.A X.xe (some (assign (.Name y py) X.env)) (fun _ s'=>SP X pins D .next s') (.ref s2.heap.objs.size) HH.objs.size) s₃:=by
  rintro s₃ rfl;refine tG (fun n s'=>∃i σ' H',Inv (aR X scope N ⟨cl,HH.objs.size,s2,H2,fp⟩) [] σ' H' s'/\tn i s'.heap/\(∀b∈fp,H' b=none)/\W i n σ' H') ?_ m0
   ⟨0,bO k cD σ,_,I4 _,T.keep _ _ _ st2 fun b _ o e=>old b o e,fun b hb=>by rw[aM (ne_of_lt (hob b hb))];exact(f2 b hb).1,w0⟩
  rintro n s3 ⟨i,σ3,H3,I3,st3,fr3,w3⟩;rcases turn i n σ3 H3 w3 with⟨stop,qn⟩|⟨go,NN,hN,step⟩
  .refine cE (T.done (aR X scope N ⟨cl,HH.objs.size,s2,H2,fp⟩) rfl rfl rfl hc i [] s3 σ3 H3 _ I3 (stat fr3) st3 stop) fun r s4 ⟨hr,J4⟩=>?_
   subst hr;obtain⟨m,hn,_⟩:=J4.loc;obtain⟨oC,es,ep,hoC,hdC,rC⟩:=hn;have g7:∀b o,s2.heap.get? b=some o->b≠HH.objs.size:=fun b o e=>ne_of_lt (hCC▸lt_succ_of_lt (lt_size e))
   have szC:s2.heap.objs.size<=HH.objs.size:=hCC▸le_succ _;have u:=J4.base;have I4x:Inv X pins σ H3 s4:=I2.A6 (ch:=fp) J4.os u J4.bA J4.bare fun b hb=>by
    obtain⟨_,f1,_,f3,f4,f5⟩:=f2 b hb;exact⟨f3,f1,f4,f5⟩
   have lC:HH.objs.size≠X.env.locals:=ne_of_gt (lt_of_lt_of_le I2.lt szC);have I4p:Inv X ((HH.objs.size,oC)::pins) σ H3 s4:=I4x.lY fun p hp=>by
    rcases mem_cons.mp hp with r|r
    .rw[r];exact⟨hoC,J4.free,lC,I2.OE szC,fun v z=>by rw[hdC]at z;cases z⟩
    .exact I4x.pin p (mem_append_right _ r)
   show wpAny _ X.A (assign (.Name y py) X.env (.ref s2.heap.objs.size)) _ _ _;refine wpAny_assign_Name (jH I4p hNd hiy (.inl hy) (v:=.ref s2.heap.objs.size) rfl (fun s5 I5=>?_) (.inr hy));have hC5:=I5.pin (HH.objs.size,oC) (mem_append_right _ mem_cons_self);refine⟨m,⟨oC,es,ep,hC5.1,hdC,rC⟩,fun h' hs'=>⟨_,H3,?_,qn⟩⟩;have I6:Inv X pins (σ.set iy (some (.ref s2.heap.objs.size))) H3 s5:=I5.lY fun p hp=>I5.pin p (mem_append_right _ (mem_cons_of_mem _ hp))
   refine I6.turned (it:=HH.objs.size) (t':=s5.toks) (fun b o hb e=>hs'.extBut b o hb e) J4.free lC (.inr (le_trans I2.sz szC)) (fun x c e=>?_) (fun p hp=>?_)
   .obtain⟨v,q⟩:=I2.cell x c e;exact ne_of_lt (lt_of_lt_of_le q.lt szC)
   .exact g7 p.1 p.2 (I2.pin p hp).1
  .refine cE (T.item (aR X scope N ⟨cl,HH.objs.size,s2,H2,fp⟩) rfl rfl rfl hc i [] s3 σ3 H3 _ I3 (stat fr3) st3 go) fun r s4 ⟨u,hr,h4⟩=>?_
   subst hr;refine cE h4 fun _ s5 ⟨x,H5,I5,r5,y5,st5,fr5⟩=>?_
   have I5':=I5.pinned (stat fr5) (T.obj _ _ st5);have again:∀{s7:Shared} {σ7:St} {H7:Hp},Inv (aR X scope N ⟨cl,HH.objs.size,s2,H2,fp⟩) ([]++lL fp s5.heap) σ7 H7 s7->NN σ7 H7->
     ∃m,m<n/\∃i σ' H',Inv (aR X scope N ⟨cl,HH.objs.size,s2,H2,fp⟩) [] σ' H' s7/\tn i s7.heap/\(∀b∈fp,H' b=none)/\W i m σ' H':=fun{s7 σ7 H7} I7 n7=>by
    obtain⟨m',hm,w7⟩:=hN σ7 H7 n7;refine⟨m',hm,i+1,σ7,H7,I7.iM,T.keep _ _ _ st5 fun b hb o e=>(I7.pin (b,o) (mem_append_right _ (mem_append_right _ (dJ hb e)))).1,fun b hb=>?_,w7⟩;obtain⟨o,e,d⟩:=T.obj _ _ st5 b hb;exact(I7.pin (b,o) (mem_append_right _ (mem_append_right _ (dJ hb e)))).2.1
   refine cE (hg _ _ s5 σ3 H5 x u _ I5' r5 (step x H5 y5)) fun _ s6 ⟨σ6,H6,I6,q6⟩=>?_
   refine cE (ht _ _ s6 σ6 H6 _ I6 q6) fun b s7 ⟨H7,I7,q7⟩=>?_
   cases b with
   |false=>exact again I7 q7
   |true=>
    refine cE (he _ _ s7 σ6 H7 _ I7 q7) fun y s8 ⟨yv,H8,I8,r8,xs,hl,hz,n8⟩=>?_
    refine cE (eY _ s8 σ6 H8 (.ref s2.heap.objs.size) [yv] (.ref s2.heap.objs.size) [y] (fun _ H9=>NN σ6 H9) I8 rfl (.cons r8 .nil) ⟨_,xs,yv,rfl,rfl,hl,hz,n8⟩) fun _ s9 ⟨_,H9,I9,_,q9⟩=>?_
    exact again I9 q9
 exact codeAny_compStart_list (loop _ rfl) (T.self X.A 0 _ _ _ (T.keep _ _ _ st2 fun b _ o e=>old b o e) (loop _ rfl))
theorem nL (N:List Str) (k:Nat) (cD:List Nat) (XN:List Str) (xs:Scope) (hc:X.calm=true) (hN:X.N=XN) (hx:X.env.scope=xs) (hNd:X.N.Nodup) (hiy:X.N[i]? =some y) (hy:X.env.scope.names.lookup y=some .local)
  (hi:PI X tg iter wi) (chk:lX XN xs scope N k cD=true) (hg:∀c,PG (aR X scope N c) tg g) (ht:∀c,HY (aR X scope N c) ifs tt) (he:∀c,PE (aR X scope N c) elt te)
  (hsw:swapsWith (.ListComp elt [⟨tg,iter,ifs,0⟩] scope pos) (some (.Name y py)) spos.line X.env=pure true:=by rfl)
  (hs:∀x,foldedSetIterable iter X.env x=pure x:=by intro _;rfl):PS X (.Assign [.Name y py] (.ListComp elt [⟨tg,iter,ifs,0⟩] scope pos) spos) (mD (rA wi k cD g tt te) (gN i)):=
 JQ hc hNd hiy hy (g5 hN hx chk) hi hg ht he hsw hs
end
section
variable {X:Cx} {pos:Pos} {k:Nat} {a b e:Expr} {es rest:List Expr} {te ta tb:TE} {t:Str->TE}
theorem IW:nA X (binaryOp .Mult) (rI IntMulOk fun i j=>.int (i*j)):=PZ fun _ _ _ _ _ _ _ hc q=>mul_int q hc
end
def xU (A:Around) (s:Shared) (x y:Value) (c:Bool):Prop:=
 ∀(prog:Program) (w:World) (E:Value->Shared->Prop) (Q:Value->Shared->Prop),Q (.bool c) s->wpAny (model prog w) A (richCompare .Lt x y) Q E s
inductive yK (A:Around) (s:Shared) (fin:Bool):List (Value×Value)->Bool->Prop
 |done:yK A s fin [] fin
 |same {p q:Value} {r:List (Value×Value)} {c:Bool}:SeqAt.EqAt A s p q true->yK A s fin r c->yK A s fin ((p,q)::r) c
 |less {p q:Value} {r:List (Value×Value)} {c:Bool}:SeqAt.EqAt A s p q false->xU A s p q c->yK A s fin ((p,q)::r) c
section
open PySem.SeqAt
open PySem.AutoSeq1 (wpAny_loadPart')
open PySem.MeetsSeq PySem.MeetsSeq2 PySem.MeetsSeq3
theorem NO (l b:Addr) (us vs:Array Value) (n m:Nat) (d1 d2:Option Addr) (k1 k2:Array (Option Value)) (c:Bool):
  Meets (Builtin.«tuple.__lt__» ⟨[.ref l,.ref b],[]⟩) (fun A R s=>s.heap.get? l=some ⟨.type "tuple",d1,.seq us n,k1⟩/\s.heap.get? b=some ⟨.type "tuple",d2,.seq vs m,k2⟩/\
   yK A.in1 s (decide (us.size<vs.size)) (us.toList.zip vs.toList) c/\R (.ok (.ret (.bool c))) s):=
 .of_wp fun prog w A R s h=>by
  obtain⟨hp,gg,dd,tk,os⟩:=s;obtain⟨hl,hb,hx,hr⟩:=h;have f2:=AutoSeq1.sub_tuple_tuple
  wp_walk using wpAny_loadPart' hl,wpAny_loadPart' hb,wpAny_forIn_list _ (fun rest acc s'=>acc.1=none/\s'=⟨hp,gg,dd,tk,os⟩/\yK A.in1 ⟨hp,gg,dd,tk,os⟩ (decide (us.size<vs.size)) rest c) _
  case turn=>
   rintro⟨y,x⟩ rest acc s' ⟨ha,rfl,hx'⟩;cases hx' with
   |same he hrest=>
    refine wpAny_bind (he prog w _ _ ?_)
    wp_walk
    exact⟨rfl,rfl,hrest⟩
   |less he hlt=>
    refine wpAny_bind (he prog w _ _ ?_);have hq:=hlt prog w
    wp_walk using hq
    exact⟨_,rfl,by simpa using hr⟩
  case fin=>
   rintro⟨b1,b2⟩ s' ⟨ha,rfl,hx'⟩;simp only at ha;subst ha;cases hx'
   wp_walk
   exact⟨_,rfl,by simpa [Builtin.Tuple.tupleCompareSizes]using hr⟩
  case h=>exact⟨rfl,rfl,hx⟩
end
theorem GR {A:Around} {us vs:Array Value} {c:Bool} (hl:IsTup s.heap l us) (hb:IsTup s.heap b vs) (hu:A.units<cLine) (hx:yK A.in1 s (decide (us.size<vs.size)) (us.toList.zip vs.toList) c):
  xU A s (.ref l) (.ref b) c:=by
 intro prog w E Q q;obtain⟨⟨c1,d1,t1,k1⟩,g1,e1,n,r1⟩:=id hl;obtain⟨⟨c2,d2,t2,k2⟩,g2,e2,m,r2⟩:=id hb;simp only at e1 r1 e2 r2;subst e1 r1 e2 r2;exact richCompare_meets_room (op:=.Lt) ⟨_,g1,rfl⟩ ⟨_,g2,rfl⟩ PySem.F.slot_tuple_lt PySem.F.entry_tuple_lt (PySem.F.args_tuple_lt_2 _ _) (NO l b us vs n m d1 d2 k1 k2 c) ⟨g1,g2,hx,(fun x=>nomatch x),q⟩ hu
section
open PySem.W
def Al (n:Nat) (P:α->Prop):KasT α->Prop
 | .ret a=>P a
 | .ask i j k=>i<n/\j<n/\∀b,Al n P (k b)
theorem Al.bind {P:α->Prop} {R:β->Prop} {f:α->KasT β}:∀{t:KasT α},Al n P t->(∀a,P a->Al n R (f a))->Al n R (t.bind f)
 | .ret a,h,hf=>hf a h
 | .ask _ _ _,h,hf=>⟨h.1,h.2.1,fun b=>Al.bind (h.2.2 b) hf⟩
def mN (n:Nat) (p:Array Nat):Prop:=p.Perm (List.toArray (List.range n))
theorem mN.lt (h0:0<n) (h:mN n p) (i:Nat):p.getD i 0<n:=by
 by_cases hi:i<p.size
 .have e:p.getD i 0=p[i]:=by simp[Array.getD,hi]
  rw[e];have hm:p[i]∈p:=Array.getElem_mem hi;have:=(h.mem_iff).mp hm;simpa using this
 .have e:p.getD i 0=0:=by simp[Array.getD,hi]
  omega
theorem mN.rev (h:mN n p) (i j:Nat):mN n (kas_rev p i j):=(mirror_perm p i j ((j - i) / 2)).trans h
theorem mN.SS (h:mN n p) (i j:Nat):mN n (bubble p i j):=(bubble_perm p i j).trans h
theorem A3 (h0:0<n) (h:mN n p):∀f m,Al n (fun _=>True) (kas_asc p f m)
 |0,m=>trivial
 |f+1,m=>⟨h.lt h0 _,h.lt h0 _,fun b=>by
  cases b with
  |true=>exact trivial
  |false=>exact A3 h0 h f (m+1)⟩
theorem qL (h0:0<n):∀f (p:Array Nat) m q,mN n p->Al n (fun r:Array Nat×Nat×Nat=>mN n r.1) (kas_desc f p m q)
 |0,p,m,q,h=>h
 | f+1,p,m,q,h=>⟨h.lt h0 _,h.lt h0 _,fun b=>by
  cases b with
  |true=>
   show Al n _ (if q>0 then _ else _);split
   .exact qL h0 f _ _ _ (h.rev _ _)
   .exact qL h0 f _ _ _ h
  |false=>
   refine⟨h.lt h0 _,h.lt h0 _,fun d=>?_⟩;cases d with
   |true=>exact h
   |false=>exact qL h0 f _ _ _ h⟩
theorem xG (h0:0<n) (h:mN n p) (m k:Nat):Al n (fun r:Nat×Array Nat=>mN n r.2) (kas_tail3 m k p):=
 (A3 h0 (h.rev 0 m) _ _).bind fun _ _=>h.rev 0 m
theorem p5 (h0:0<n) (h:mN n p) (m k:Nat):Al n (fun r:Nat×Array Nat=>mN n r.2) (kas_descPart m k p):=by
 refine(qL h0 _ _ _ _ h).bind fun r hr=>?_
 split
 .exact xG h0 (hr.rev _ _) _ _
 .exact xG h0 hr _ _
theorem E9 (h0:0<n) (h:mN n p) (k:Nat):Al n (fun r:Nat×Array Nat=>mN n r.2) (kas_count k p):=by
 refine(A3 h0 h _ _).bind fun m _=>?_
 split
 .exact h
 .split
  .refine⟨h.lt h0 _,h.lt h0 _,fun b=>?_⟩;cases b with
   |true=>exact h
   |false=>exact p5 h0 (h.rev _ _) _ _
  .exact p5 h0 h _ _
theorem rJ (h0:0<n) (h:mN n p) (k:Nat):∀f l r,Al n (fun _=>True) (kas_place p k f l r)
 |0,_,_=>trivial
 | f+1,l,r=>by
  unfold kas_place;split
  .exact trivial
  .refine⟨h.lt h0 _,h.lt h0 _,fun b=>?_⟩;cases b with
   |true=>exact rJ h0 h k f _ _
   |false=>exact rJ h0 h k f _ _
theorem GX (h0:0<n):∀f (p:Array Nat) k,mN n p->Al n (mN n) (kas_bin f p k)
 |0,_,_,h=>h
 |f+1,p,k,h=>(rJ h0 h k _ _ _).bind fun l _=>GX h0 f _ _ (h.SS _ _)
theorem KH (h0:0<n):Al n (mN n) (kas_sort n):=by
 refine(E9 h0 (show mN n _ from Array.Perm.refl _) n).bind fun r hr=>?_
 split
 .exact GX h0 _ _ _ hr
 .exact hr
theorem mN.perm (h:mN vs.length p):(p.toList.map fun i=>vs.getD i Value.none).Perm vs:=by
 have h1:p.toList.Perm (List.range vs.length):=by simpa using Array.perm_iff_toList_perm.mp h
 have h2:=h1.map fun i=>vs.getD i Value.none
 have e:(List.range vs.length).map (fun i=>vs.getD i Value.none)=vs:=by
  apply ext_getElem
  .simp
  .intro i a1 a2;simp[getElem?_eq_getElem a2]
 rw[e]at h2;exact h2
end
section
variable {X:Cx}
theorem n5:∀{us:List Value} {ss:List Str},StrsAre us ss->Vals (ss.map V.str) us
 |[],_,.nil=>.nil
 |_::_,_,.cons x t r=>.cons ⟨t,rfl⟩ (n5 r)
end
section
open PySem.W
def oX (ans:Nat->Nat->Bool) (P:α->Prop):KasT α->Prop
 | .ret a=>P a
 | .ask i j k=>oX ans P (k (ans i j))
theorem oX.bind {P:α->Prop} {R:β->Prop} {f:α->KasT β}:∀{t:KasT α},oX ans P t->(∀a,P a->oX ans R (f a))->oX ans R (t.bind f)
 | .ret a,h,hf=>hf a h
 | .ask i j k,h,hf=>oX.bind (t:=k (ans i j)) h hf
theorem oX.mono {P R:α->Prop} (hf:∀a,P a->R a):∀{t:KasT α},oX ans P t->oX ans R t
 | .ret a,h=>hf a h
 | .ask i j k,h=>oX.mono hf (t:=k (ans i j)) h
theorem oX.run {P R:α->Prop} {cmp:Nat->Nat->(Bool->Shared->Prop)->Shared->Prop} {G:α->Shared->Prop}
  (hc:∀i j (C:Bool->Shared->Prop),i<n->j<n->C (ans i j) s->cmp i j C s) (hg:∀a,P a->R a->G a s):∀{t:KasT α},Al n P t->oX ans R t->t.kasWp cmp G s
 | .ret a,h,h'=>hg a h h'
 | .ask i j _,h,h'=>hc i j _ h.1 h.2.1 (oX.run hc hg (h.2.2 _) h')
variable (O:KeyOrd) (key:Nat->O.α)
noncomputable def Ky (p:Array Nat) (i:Nat):O.α:=key (p.getD i 0)
def kA (p:Array Nat) (k:Nat):Prop:=∀i j,i<=j->j<k->O.kle (Ky O key p i) (Ky O key p j)
def i3 (p:Array Nat) (k:Nat):Prop:=∀i j,i<=j->j<k->O.kle (Ky O key p j) (Ky O key p i)
noncomputable abbrev CA (i j:Nat):Bool:=O.blt (key i) (key j)
variable {O} {key}
theorem w8 {q:Array Nat} (h:p[i]? =q[j]?):Ky O key p i=Ky O key q j:=by
 unfold Ky;rw[Array.getD_eq_getD_getElem?,Array.getD_eq_getD_getElem?,h]
theorem zZ (hj:j<=p.size) (k:Nat):Ky O key (kas_rev p i j) k=if i<=k/\k<j then Ky O key p (i+j - 1 - k)else Ky O key p k:=by
 have e:=getElem?_mirror_all (xs:=p) (i:=i) hj k;split
 .rename_i h;rw[if_pos h]at e;exact w8 e
 .rename_i h;rw[if_neg h]at e;exact w8 e
theorem iD (p:Array Nat) (i j:Nat):(kas_rev p i j).size=p.size:=mirror_size ..
theorem u9 (hj:j<=p.size) (he:∀k,i<=k->k<j->Ky O key p k=Ky O key p (j - 1)) (k:Nat):Ky O key (kas_rev p i j) k=Ky O key p k:=by
 rw[zZ hj];split
 .rename_i h;rw[he _ (by omega) (by omega),he k h.1 h.2]
 .rfl
theorem kA.more (h:kA O key p x) (hx:1<=x) (hl:O.kle (Ky O key p (x - 1)) (Ky O key p x)):kA O key p (x+1):=by
 intro i j hij hj
 by_cases h1:j<x
 .exact h i j hij h1
 .have e:j=x:=by omega
  subst e
  by_cases h2:i=j
  .subst h2;exact KeyOrd.kle_refl _
  .exact KeyOrd.kle_trans (h i (j - 1) (by omega) (by omega)) hl
theorem i3.more (h:i3 O key p x) (hx:1<=x) (hl:O.kle (Ky O key p x) (Ky O key p (x - 1))):i3 O key p (x+1):=by
 intro i j hij hj
 by_cases h1:j<x
 .exact h i j hij h1
 .have e:j=x:=by omega
  subst e
  by_cases h2:i=j
  .subst h2;exact KeyOrd.kle_refl _
  .exact KeyOrd.kle_trans hl (h i (j - 1) (by omega) (by omega))
theorem HG {p:Array Nat}:∀(f m:Nat),1<=m->kA O key p m->oX (CA O key) (fun r=>m<=r/\r<=m+f/\kA O key p r/\(r=m+f\/ O.klt (Ky O key p r) (Ky O key p (r - 1)))) (kas_asc p f m)
 |0,m,_,h=>⟨le_refl _,le_refl _,h,.inl rfl⟩
 | f+1,m,h1,h=>by
  show oX (CA O key) _ (if O.blt (Ky O key p m) (Ky O key p (m - 1))=true then _ else _);cases e:O.blt (Ky O key p m) (Ky O key p (m - 1))with
  |true=>
   rw[if_pos rfl];exact⟨le_refl _,by omega,h,.inr e⟩
  |false=>
   rw[if_neg Bool.false_ne_true];refine(HG f (m+1) (by omega) (h.more h1 e)).mono fun r ⟨a,b,c,d⟩=>⟨by omega,by omega,c,?_⟩
   rcases d with d|d
   .exact .inl (by omega)
   .exact .inr d
def L6 (O:KeyOrd) (key:Nat->O.α) (p:Array Nat) (m q:Nat):Prop:=q+1<=m/\∀i,m - (q+1)<=i->i<m->Ky O key p i=Ky O key p (m - 1)
theorem L6.none (h:1<=m):L6 O key p m 0:=⟨by omega,fun i h1 h2=>by rw[show i=m - 1 by omega]⟩
theorem uV:∀(f:Nat) (p:Array Nat) (m q:Nat),1<=m->m+f<=p.size->i3 O key p m->L6 O key p m q->oX (CA O key) (fun r:Array Nat×Nat×Nat=>r.1.size=p.size/\m<=r.2.1/\r.2.1<=m+f/\i3 O key r.1 r.2.1/\L6 O key r.1 r.2.1 r.2.2) (kas_desc f p m q)
 |0,p,m,q,_,_,h,he=>⟨rfl,le_refl _,le_refl _,h,he⟩
 | f+1,p,m,q,h1,hz,h,he=>by
  show oX (CA O key) _ (if O.blt (Ky O key p m) (Ky O key p (m - 1))=true then(if q>0 then kas_desc f (kas_rev p (m - (q+1)) m) (m+1) 0 else kas_desc f p (m+1) 0)else _);cases e:O.blt (Ky O key p m) (Ky O key p (m - 1))with
  | true=>
   rw[if_pos rfl];have hd:=h.more h1 (KeyOrd.kle_of_klt e);split
   .have ev:∀k,Ky O key (kas_rev p (m - (q+1)) m) k=Ky O key p k:=u9 (by omega) he.2;have hd':i3 O key (kas_rev p (m - (q+1)) m) (m+1):=fun i j a b=>by rw[ev,ev];exact hd i j a b
    refine(uV f _ (m+1) 0 (by omega) (by rw[iD];omega) hd' (L6.none (by omega))).mono fun r ⟨a,b,c,d,z⟩=>⟨by rw[a,iD],by omega,by omega,d,z⟩
   .exact(uV f p (m+1) 0 (by omega) (by omega) hd (L6.none (by omega))).mono fun r ⟨a,b,c,d,z⟩=>⟨a,by omega,by omega,d,z⟩
  | false=>
   rw[if_neg Bool.false_ne_true];show oX (CA O key) _ (if O.blt (Ky O key p (m - 1)) (Ky O key p m)=true then _ else _);cases e2:O.blt (Ky O key p (m - 1)) (Ky O key p m)with
   |true=>
    rw[if_pos rfl];exact⟨rfl,le_refl _,Nat.le_add_right m (f+1),h,he⟩
   |false=>
    rw[if_neg Bool.false_ne_true];have eq:Ky O key p m=Ky O key p (m - 1):=KeyOrd.kle_antisymm e2 e;refine(uV f p (m+1) (q+1) (by omega) (by omega) (h.more h1 (by rw[eq];exact KeyOrd.kle_refl _)) ⟨by have:=he.1;omega,fun i a b=>?_⟩).mono fun r ⟨a,b,c,d,z⟩=>⟨a,by omega,by omega,d,z⟩
    rw[show m+1 - 1=m by omega]
    by_cases hi:i=m
    .rw[hi]
    .rw[eq];exact he.2 i (by omega) (by omega)
theorem A7 (h1:1<=m) (hk:m<=k) (hz:k<=p.size) (h:i3 O key p m):oX (CA O key) (fun r:Nat×Array Nat=>1<=r.1/\r.1<=k/\r.2.size=p.size/\kA O key r.2 r.1) (kas_tail3 m k p):=by
 have hu:kA O key (kas_rev p 0 m) m:=fun i j a b=>by
  rw[zZ (by omega),zZ (by omega),if_pos (by omega),if_pos (by omega)];exact h _ _ (by omega) (by omega)
 exact(HG (k - m) m h1 hu).bind fun r ⟨a,b,c,_⟩=>⟨by omega,by omega,iD ..,c⟩
theorem rN (hk:m+1<=k) (hz:k<=p.size) (h:i3 O key p (m+1)):oX (CA O key) (fun r:Nat×Array Nat=>1<=r.1/\r.1<=k/\r.2.size=p.size/\kA O key r.2 r.1) (kas_descPart m k p):=by
 refine(uV (k - (m+1)) p (m+1) 0 (by omega) (by omega) h (L6.none (by omega))).bind fun r ⟨a,b,c,d,z⟩=>?_
 split
 .have ev:∀i,Ky O key (kas_rev r.1 (r.2.1 - (r.2.2+1)) r.2.1) i=Ky O key r.1 i:=u9 (by omega) z.2;refine(A7 (p:=kas_rev r.1 (r.2.1 - (r.2.2+1)) r.2.1) (by omega) (by omega) (by rw[iD];omega) fun i j x y=>?_).mono fun r' ⟨x,y,w,v⟩=>⟨x,y,by rw[w,iD,a],v⟩
  rw[ev,ev];exact d i j x y
 .exact(A7 (by omega) (by omega) (by omega) d).mono fun r' ⟨x,y,w,v⟩=>⟨x,y,by rw[w,a],v⟩
theorem KD {p:Array Nat} (h1:1<=k) (hz:k<=p.size):oX (CA O key) (fun r:Nat×Array Nat=>1<=r.1/\r.1<=k/\r.2.size=p.size/\kA O key r.2 r.1) (kas_count k p):=by
 have u1:kA O key p 1:=fun i j a b=>by rw[show i=j by omega];exact KeyOrd.kle_refl _
 refine(HG (k - 1) 1 (le_refl _) u1).bind fun m ⟨a,b,c,d⟩=>?_
 by_cases hm:m=k
 .rw[if_pos (by simpa using hm)];exact⟨a,by omega,rfl,c⟩
 .rw[if_neg (by simpa using hm)];have lt:O.klt (Ky O key p m) (Ky O key p (m - 1)):=d.resolve_left (by omega)
  by_cases h2:m>1
  .rw[if_pos h2];show oX (CA O key) _ (if O.blt (Ky O key p 0) (Ky O key p (m - 1))=true then _ else _);cases e:O.blt (Ky O key p 0) (Ky O key p (m - 1))with
   |true=>
    rw[if_pos rfl];exact⟨a,by omega,rfl,c⟩
   | false=>
    rw[if_neg Bool.false_ne_true];have al:∀i,0<=i->i<m->Ky O key p i=Ky O key p (m - 1):=fun i _ hi=>
     KeyOrd.kle_antisymm (c i (m - 1) (by omega) (by omega)) (KeyOrd.kle_trans e (c 0 i (by omega) hi))
    have ev:∀i,Ky O key (kas_rev p 0 m) i=Ky O key p i:=u9 (by omega) al;have dm:i3 O key p m:=fun i j x y=>by rw[al i (by omega) (by omega),al j (by omega) y];exact KeyOrd.kle_refl _
    have dn:=dm.more a (KeyOrd.kle_of_klt lt);refine(rN (p:=kas_rev p 0 m) (by omega) (by rw[iD];omega) fun i j x y=>?_).mono fun r' ⟨x,y,w,v⟩=>⟨x,y,by rw[w,iD],v⟩
    rw[ev,ev];exact dn i j x y
  .rw[if_neg h2];have e1:m=1:=by omega
   subst e1;have d1:i3 O key p 1:=fun i j x y=>by rw[show i=j by omega];exact KeyOrd.kle_refl _
   exact rN (by omega) hz (d1.more (le_refl _) (KeyOrd.kle_of_klt lt))
theorem uU {p:Array Nat} {k:Nat} (h:kA O key p k):∀(f l r:Nat),l<=r->r<=k->r - l<=f->(∀i,i<l->O.kle (Ky O key p i) (Ky O key p k))->(∀i,r<=i->i<k->O.klt (Ky O key p k) (Ky O key p i))->
  oX (CA O key) (fun l=>l<=k/\(∀i,i<l->O.kle (Ky O key p i) (Ky O key p k))/\∀i,l<=i->i<k->O.klt (Ky O key p k) (Ky O key p i)) (kas_place p k f l r)
 |0,l,r,h1,h2,h3,ha,hb=>by
  have e:l=r:=by omega
  subst e;exact⟨h2,ha,hb⟩
 | f+1,l,r,h1,h2,h3,ha,hb=>by
  unfold kas_place;split
  .have e:l=r:=by omega
   subst e;exact⟨h2,ha,hb⟩
  .show oX (CA O key) _ (if O.blt (Ky O key p k) (Ky O key p ((l+r) / 2))=true then _ else _);cases e:O.blt (Ky O key p k) (Ky O key p ((l+r) / 2))with
   |true=>
    rw[if_pos rfl];exact uU h f l ((l+r) / 2) (by omega) (by omega) (by omega) ha fun i a b=>KeyOrd.klt_of_klt_of_kle e (h _ _ a b)
   |false=>
    rw[if_neg Bool.false_ne_true];exact uU h f ((l+r) / 2+1) r (by omega) h2 (by omega) (fun i a=>KeyOrd.kle_trans (h i ((l+r) / 2) (by omega) (by omega)) e) hb
theorem G8 {d:Nat} (hk:k<p.size) (hd:d<=k) (i:Nat):Ky O key (bubble p k d) i=if i=k - d then Ky O key p k else if k - d<i/\i<=k then Ky O key p (i - 1)else Ky O key p i:=by
 have e:=getElem?_bubble hk d hd i
 by_cases h1:i=k - d
 .rw[if_pos h1]at e⊢;exact w8 e
 .rw[if_neg h1]at e⊢
  by_cases h2:k - d<i/\i<=k
  .rw[if_pos h2]at e⊢;exact w8 e
  .rw[if_neg h2]at e⊢;exact w8 e
theorem LH:∀(f:Nat) (p:Array Nat) (k:Nat),k+f<=p.size->kA O key p k->oX (CA O key) (fun q=>kA O key q (k+f)) (kas_bin f p k)
 |0,p,k,_,h=>h
 | f+1,p,k,hz,h=>by
  refine(uU h k 0 k (by omega) (le_refl _) (by omega) (fun i hi=>by omega) (fun i a b=>by omega)).bind fun l ⟨hl,ha,hb⟩=>?_
  have hu:kA O key (bubble p k (k - l)) (k+1):=fun i j x y=>by
   rw[G8 (by omega) (by omega),G8 (by omega) (by omega),show k - (k - l)=l by omega]
   by_cases j1:j=l
   .rw[if_pos j1]
    by_cases i1:i=l
    .rw[if_pos i1];exact KeyOrd.kle_refl _
    .rw[if_neg i1,if_neg (show¬(l<i/\i<=k) by omega)];exact ha i (by omega)
   .rw[if_neg j1]
    by_cases j2:l<j
    .rw[if_pos (show l<j/\j<=k from⟨j2,by omega⟩)]
     by_cases i1:i=l
     .rw[if_pos i1];exact KeyOrd.kle_of_klt (hb (j - 1) (by omega) (by omega))
     .rw[if_neg i1]
      by_cases i2:l<i
      .rw[if_pos (show l<i/\i<=k from⟨i2,by omega⟩)];exact h _ _ (by omega) (by omega)
      .rw[if_neg (show¬(l<i/\i<=k) by omega)];exact h _ _ (by omega) (by omega)
    .rw[if_neg (show¬(l<j/\j<=k) by omega),if_neg (show¬i=l by omega),if_neg (show¬(l<i/\i<=k) by omega)];exact h _ _ x (by omega)
  have:=LH f (bubble p k (k - l)) (k+1) (by rw[bubble_size];omega) hu;rw[show k+1+f=k+(f+1) by omega]at this;exact this
theorem NT (h1:1<=n):oX (CA O key) (fun q=>kA O key q n) (kas_sort n):=by
 have hs:(List.toArray (List.range n)).size=n:=by simp
 refine(KD h1 (p:=List.toArray (List.range n)) (by rw[hs];exact le_refl _)).bind fun r ⟨a,b,c,d⟩=>?_
 rw[hs]at c;split
 .have:=LH (n - max r.1 1) r.2 (max r.1 1) (by omega) (by rw[show max r.1 1=r.1 by omega];exact d);rw[show max r.1 1+(n - max r.1 1)=n by omega]at this;exact this
 .have e:r.1=n:=by omega
  rw[e]at d;exact d
end
section
open PySem.W
variable {prog:Program} {w:World} {A:Around} {E:Value->Shared->Prop} {s:Shared}
theorem D9 (vs:List Value):(List.range vs.length).map (fun i=>vs.getD i Value.none)=vs:=by
 apply ext_getElem
 .simp
 .intro i a1 a2;simp[getElem?_eq_getElem a2]
def vD (prog:Program) (w:World) (A:Around) (vs:List Value) (R:Array Nat->Prop) (s:Shared):Prop:=
 ∃κ:SortKind,(∀(Q:SortKind->Shared->Prop) (E:Value->Shared->Prop),Q κ s->wpAny (model prog w) A (keyKind' vs.toArray) Q E s)/\
  ∀G:Array Nat->Shared->Prop,(∀p,mN vs.length p->R p->G p s)->(kas_sort vs.length).kasWp (kas_ask prog w A κ vs) G s
theorem uP {a:Addr} {P:PySem.Fin->Shared->Prop} (ho:s.heap.get? a=some (seqObj "list" vs.toArray n)) (h64:vs.length<64)
  (hk:2<=vs.length->∀h':Heap,(∀b o,b≠a->s.heap.get? b=some o->h'.get? b=some o)->vD prog w A vs R {s with heap:=h'}) (hR:vs.length<2->R (List.range vs.length).toArray)
  (h:∀(out:Array Value) (p:Array Nat),mN vs.length p->R p->out.toList=p.toList.map (fun i=>vs.getD i Value.none)->P (.done (.ret .none)) {s with heap:=sortedHeap s.heap a vs out}):wpAny (model prog w) A (Builtin.«list.sort» ⟨[.ref a],[]⟩) P E s:=by
 have la:a<s.heap.objs.size:=lt_size ho;have small:vs.length<=sizeLine:=by rw[sizeLine_eq];omega
 obtain⟨e1,k1⟩:∃e1,(s.heap.update a (Obj.mapSeq fun _=>(#[]:Array Value))).get? a=some (seqObj "list" #[] e1):=⟨_,get?_update_seq ho fun _=> #[]⟩;generalize hU:s.heap.update a (Obj.mapSeq fun _=>(#[]:Array Value))=U at k1;have zU:U.objs.size=s.heap.objs.size:=by rw[<-hU];exact Heap.size_update ..
 have kp:∀b o,b≠a->s.heap.get? b=some o->((U.push (seqObj "tuple" vs.toArray 0)).push (seqObj "list" #[] 0)).get? b=some o:=fun b o nb gb=>by
  refine get?_push_of_some _ (get?_push_of_some _ ?_);rw[<-hU,Heap.get?_update_ne _ _ _ _ nb];exact gb
 have k2:((U.push (seqObj "tuple" vs.toArray 0)).push (seqObj "list" #[] 0)).get? a=some (seqObj "list" #[] e1):=get?_push_of_some _ (get?_push_of_some _ k1);rw[list_sort_plain];refine wpAny_bind (listItems_at ho rfl (wpAny_bind (listUpdate_at ho rfl ?_ (by simpa using small) (zero_le _))));have k1':=k1;rw[<-hU]at k1';refine wpAny_bind (seqEpoch_at k1' rfl (wpAny_bind (wpAny_newTuple (wpAny_bind (wpAny_newList (wpAny_holding ?_) (zero_le _))) (by simpa using small))));rw[hU];show wpAny (model prog w) A _ P E {s with heap:=(U.push (seqObj "tuple" vs.toArray 0)).push (seqObj "list" #[] 0)};have fin:∀(out:Array Value) (p:Array Nat),mN vs.length p->R p->out.toList=p.toList.map (fun i=>vs.getD i Value.none)->P (.done (.ret .none)) {s with heap:=((U.push (seqObj "tuple" vs.toArray 0)).push (seqObj "list" #[] 0)).update a (Obj.mapSeq fun _=>out)}:=fun out p h1 h2 h3=>by
  have:=h out p h1 h2 h3;unfold sortedHeap at this;rw[hU]at this;exact this
 dsimp only
 by_cases h2:vs.toArray.size<2
 .rw[if_pos h2,if_pos h2];refine wpAny_bind (wpAny_pure ?_);rw[StateT.run_pure];refine wpAny_bind (wpAny_pure ?_);dsimp only;have ev:((vs.toArray.zip vs.toArray).map fun x=>x.2).toList=vs:=by simp[List.map_snd_zip]
  refine wpAny_bind (seqEpoch_at k2 rfl (wpAny_bind (listUpdate_at k2 rfl ?_ (zero_le _) ?_)))
  .simp only[bne_self_eq_false,false_eq_true,if_false];exact wpAny_pure (fin _ (List.range vs.length).toArray (Array.Perm.refl _) (hR (by rw[size_toArray]at h2;exact h2)) (by rw[show(arrOf (SortSt.mk' general' (vs.toArray.zip vs.toArray) #[] 7 none))=vs.toArray.zip vs.toArray from rfl,ev,List.toList_toArray,D9]))
  .rw[<-length_toList,show(arrOf (SortSt.mk' general' (vs.toArray.zip vs.toArray) #[] 7 none))=vs.toArray.zip vs.toArray from rfl,ev];exact le_succ_of_le small
 .rw[if_neg h2,if_neg h2];have l2:2<=vs.length:=by rw[size_toArray]at h2;omega
  obtain⟨κ,kd,ak⟩:=hk l2 _ kp;refine wpAny_bind (kd _ _ ?_);refine wpAny_bind (wpAny_mono (kat_run (ks:=vs) (vs:=vs) (Q:=fun st' s'=>s'={s with heap:=(U.push (seqObj "tuple" vs.toArray 0)).push (seqObj "list" #[] 0)}/\∃p:Array Nat,(mN vs.length p/\R p)/\arrOf st'=p.map (kas_item (vs.toArray.zip vs.toArray))/\failedOf st'=none)
   (G:=fun p s'=>s'={s with heap:=(U.push (seqObj "tuple" vs.toArray 0)).push (seqObj "list" #[] 0)}/\mN vs.length p/\R p) rfl l2 h64 (fun p st' s' _ ar fl g=>⟨g.1,p,g.2,ar,fl⟩) (ak _ fun p h1 h2=>⟨rfl,h1,h2⟩)) ?_ fun _ _ e=>e)
  rintro⟨⟨⟩,st'⟩ s' ⟨rfl,p,⟨hp,hr⟩,ar,fl⟩;dsimp only;have out:=kat_snds rfl ar;have pm:=hp.perm;rw[out];refine wpAny_bind (seqEpoch_at k2 rfl (wpAny_bind (listUpdate_at k2 rfl ?_ (zero_le _) ?_)))
  .rw[fl];simp only[bne_self_eq_false,false_eq_true,if_false];exact wpAny_pure (fin _ p hp hr (by simp))
  .rw[size_toArray,pm.length_eq];exact le_succ_of_le small
theorem yA (hl:s.heap.IsList l vs.toArray) (h64:vs.length<64)
  (hk:2<=vs.length->∀h':Heap,(∀b o,s.heap.get? b=some o->h'.get? b=some o)->vD prog w A.in1.in1 vs R {s with heap:=h'}) (hR:vs.length<2->R (List.range vs.length).toArray)
  (h:∀(out:Array Value) (p:Array Nat),mN vs.length p->R p->out.toList=p.toList.map (fun i=>vs.getD i Value.none)->Q (.ref (s.heap.objs.size+1)) {s with heap:=sortedAll s.heap vs out}):wpAny (model prog w) A (call (.builtin "sorted") [.ref l]) Q E s:=by
 have small:vs.length<=sizeLine:=by rw[sizeLine_eq];omega
 refine Calls.call_function_entry kind_sorted plain_sorted entry_sorted (args_sorted1 _) ?_;unfold Builtin.«sorted»;refine wpAny_bind (m:=checkCount "sorted" 1 1 _) (wpAny_pure (wpAny_bind (collect_list hl (wpAny_bind (wpAny_newList ?_ (by simpa using small))) (by simpa using small))));generalize hU:(s.heap.push (seqObj "list" #[] 0)).update s.heap.objs.size (Obj.mapSeq (·++vs.toArray))=U;have zU:U.objs.size=s.heap.objs.size+1:=by rw[<-hU,Heap.size_update];exact size_push' ..
 have kU:∀b o,s.heap.get? b=some o->U.get? b=some o:=fun b o gb=>by
  rw[<-hU,Heap.get?_update_ne _ _ _ _ (ne_of_lt (lt_size gb))];exact get?_push_of_some _ gb
 have at':(U.push (seqObj "list" vs.toArray 0)).get? (s.heap.objs.size+1)=some (seqObj "list" vs.toArray 0):=by rw[<-zU];exact get?_push_size _ rfl
 show wpAny _ _ _ _ _ {s with heap:=U.push (seqObj "list" vs.toArray 0)};rw[zU];refine wpAny_bind (wpAny_holding (wpAny_call_entry slot_list_sort ⟨_,at',rfl⟩ entry_list_sort ?bd (args_list_sort _)))
 case bd=>
  refine uP at' h64 (fun l2 h' kp=>hk l2 h' fun b o gb=>kp b o (ne_of_lt (lt_succ_of_lt (lt_size gb))) (get?_push_of_some _ (kU b o gb))) hR fun out p p1 p2 p3=>⟨_,rfl,wpAny_pure ⟨_,rfl,?_⟩⟩
  have:=h out p p1 p2 p3;unfold sortedAll at this;rw[hU]at this;exact this
end
section
open PySem.W
variable {X:Cx} {pins:List (Addr×Obj)} {σ:St} {H:Hp} {s:Shared} {k:Nat}
theorem m4 {vs:List Value} (r:Vals ys vs):∀ps:List Nat,(∀i∈ps,i<vs.length)->Vals (ps.map fun i=>ys.getD i .aZ) (ps.map fun i=>vs.getD i Value.none)
 |[],_=>.nil
 |i::ps,h=>by
  have hlen:=r.length;have hi:=h i mem_cons_self;obtain⟨x,hx,rx⟩:=r.get' (show vs[i]? =some vs[i] by simp);refine .cons ?_ (m4 r ps fun j hj=>h j (mem_cons_of_mem _ hj));dsimp only;rw[getD_eq_getElem?_getD,hx,getD_eq_getElem?_getD,getElem?_eq_getElem hi];exact rx
end
noncomputable def AQ:KeyOrd where
 α:=Int
 blt a b:=decide (a<b)
 irrefl a:=decide_eq_false (by omega)
 trans a b c h1 h2:=decide_eq_true (by have:=of_decide_eq_true h1;have:=of_decide_eq_true h2;omega)
 negTrans a b c h:=by
  have h:=of_decide_eq_true h
  by_cases g:a<b
  .exact .inl (decide_eq_true g)
  .exact .inr (decide_eq_true (by omega))
 total a b h1 h2:=by have:=of_decide_eq_false h1;have:=of_decide_eq_false h2;omega
theorem u7 {a b:A.α} (h:A.blt a b=true):A.blt b a=false:=KeyOrd.klt_asymm (O:=A) h
theorem fX {A:KeyOrd} (a b:A.α):(A.blt a b=true/\A.blt b a=false)\/ (A.blt b a=true/\A.blt a b=false)\/ (a=b):=by
 cases h1:A.blt a b with
 |true=>exact .inl ⟨rfl,u7 h1⟩
 |false=>
  cases h2:A.blt b a with
  |true=>exact .inr (.inl ⟨rfl,rfl⟩)
  |false=>exact .inr (.inr (A.total a b h1 h2))
noncomputable def gK (A:KeyOrd) (a b:A.α) (r:Bool):Bool:=A.blt a b||(!A.blt b a && r)
theorem fB {a b:A.α} (h:A.blt a b=true):gK A a b r=true:=by unfold gK;rw[h];rfl
theorem jL {a b:A.α} (h:A.blt b a=true):gK A a b r=false:=by unfold gK;rw[h,u7 h];rfl
theorem gM {a:A.α}:gK A a a r=r:=by unfold gK;rw[A.irrefl];rfl
theorem xH {A:KeyOrd} {a b c:A.α} (hr:r=true->r'=true->r''=true) (h1:gK A a b r=true) (h2:gK A b c r'=true):gK A a c r''=true:=by
 rcases fX (A:=A) a b with⟨x,_⟩|⟨x,_⟩|x
 .rcases fX (A:=A) b c with⟨y,_⟩|⟨y,_⟩|y
  .exact fB (A.trans _ _ _ x y)
  .rw[jL y]at h2;cases h2
  .rw[<-y];exact fB x
 .rw[jL x]at h1;cases h1
 .subst x;rw[gM]at h1;rcases fX (A:=A) a c with⟨y,_⟩|⟨y,_⟩|y
  .exact fB y
  .rw[jL y]at h2;cases h2
  .subst y;rw[gM]at h2⊢
   exact hr h1 h2
theorem D1 {A:KeyOrd} {a b c:A.α} (hr:r''=true->r=true\/ r'=true) (h:gK A a c r''=true):gK A a b r=true\/ gK A b c r'=true:=by
 rcases fX (A:=A) a b with⟨x,_⟩|⟨x,_⟩|x
 .exact .inl (fB x)
 .right;rcases fX (A:=A) a c with⟨y,_⟩|⟨y,_⟩|y
  .exact fB (A.trans _ _ _ x y)
  .rw[jL y]at h;cases h
  .rw[<-y];exact fB x
 .subst x;rcases fX (A:=A) a c with⟨y,_⟩|⟨y,_⟩|y
  .exact .inr (fB y)
  .rw[jL y]at h;cases h
  .subst y;rw[gM]at h⊢
   rw[gM];exact hr h
theorem yR {A:KeyOrd} {a b:A.α} (h1:gK A a b r=false) (h2:gK A b a r'=false):a=b/\r=false/\r'=false:=by
 rcases fX (A:=A) a b with⟨x,_⟩|⟨x,_⟩|x
 .rw[fB x]at h1;cases h1
 .rw[fB x]at h2;cases h2
 .subst x;rw[gM]at h1 h2;exact⟨rfl,h1,h2⟩
noncomputable def jG (A:KeyOrd):List A.α->List A.α->Bool
 |[],[]=>false
 |[],_::_=>true
 |_::_,[]=>false
 |x::xs,y::ys=>gK A x y (jG A xs ys)
theorem sW:∀xs:List A.α,jG A xs xs=false
 |[]=>rfl
 |x::xs=>by unfold jG;rw[gM];exact sW xs
theorem pE:∀xs ys zs:List A.α,jG A xs ys=true->jG A ys zs=true->jG A xs zs=true
 |[],[],_,h,_=>by cases h
 |[],_::_,[],_,h=>by cases h
 |[],_::_,_::_,_,_=>rfl
 |_::_,[],_,h,_=>by cases h
 |_::_,_::_,[],_,h=>by cases h
 |x::xs,y::ys,z::zs,h1,h2=>xH (pE xs ys zs) h1 h2
theorem tF:∀xs ys zs:List A.α,jG A xs zs=true->jG A xs ys=true\/ jG A ys zs=true
 |[],[],zs,h=>.inr h
 |[],_::_,_,_=>.inl rfl
 |_::_,_,[],h=>by cases h
 |_::_,[],_::_,_=>.inr rfl
 |x::xs,y::ys,z::zs,h=>D1 (tF xs ys zs) h
theorem pC:∀xs ys:List A.α,jG A xs ys=false->jG A ys xs=false->xs=ys
 |[],[],_,_=>rfl
 |[],_::_,h,_=>by cases h
 |_::_,[],_,h=>by cases h
 |x::xs,y::ys,h1,h2=>by
  obtain⟨a,b,c⟩:=yR h1 h2;rw[a,pC xs ys b c]
noncomputable def OM (A:KeyOrd):KeyOrd:=⟨List A.α,jG A,sW,pE,tF,pC⟩
theorem BW {a b:Str} (h:a.cps.toList=b.cps.toList):a=b:=by
 cases a with
 |mk x=>
  cases b with
  |mk y=>congr 1;exact Array.toList_inj.mp h
end L2
namespace Mr
open PySem L2
variable {a:Addr} {H:Hp} {xs:List V} {K:Frag}
inductive PV where
 |aZ|bl (b:Bool)|int (i:Int)|str (x:Str)|ty (n:String)
 |tup (xs:List PV)|lst (xs:List PV)|AH (kvs:List (Key×PV))
abbrev mE:=Addr->Prop
def A8:mE:=fun _=>False
structure WS where
 w:Nat->mE
 old:mE
instance:CoeFun WS (fun _=>Nat->mE):=⟨WS.w⟩
def TupAt (K:Frag) (H:Hp) (a:Addr) (xs:List V):Prop:=H a=some (.tup xs)\/
  ∃(o:Obj) (its:Array Value) (n:Nat),K.lookup a=some o/\o.cls= .type "tuple"/\o.dict=none/\o.data= .seq its n/\its.size<=sizeLine/\Vals xs its.toList
def RD (K:Frag) (a:Addr) (xs:List V):Prop:=
  ∃(o:Obj) (its:Array Value) (n:Nat),K.lookup a=some o/\o.cls= .type "list"/\o.dict=none/\o.data= .seq its n/\its.size<=sizeLine/\Vals xs its.toList
theorem TupAt.sq (h:TupAt K H a xs):bG K H a xs:=h.elim bG.of fun⟨o,its,n,a,b,_,c⟩=>.inr ⟨o,its,n,a,b,c⟩
mutual
inductive Rep (K:Frag) (Z:mE) (H:Hp):PV->V->Prop
 |aZ:Rep K Z H .aZ .aZ
 |bl (b:Bool):Rep K Z H (.bl b) (.bl b)
 |int (i:Int):Rep K Z H (.int i) (.int i)
 |str (x:Str):Rep K Z H (.str x) (.str x)
 |ty (n:String):Rep K Z H (.ty n) (.ty n)
 |tup {a:Addr} {xs:List V} {ps:List PV}:TupAt K H a xs->gG K Z H ps xs->Rep K Z H (.tup ps) (.ref a)
 |lst {a:Addr} {xs:List V} {ps:List PV}:Rd H a (.lst xs)->¬Z a->gG K Z H ps xs->Rep K Z H (.lst ps) (.ref a)
 |AH {a:Addr} {ep:Nat} {ys:List (Key×V)} {kvs:List (Key×PV)}:Rd H a (.dK ys ep)->¬Z a->ys.map (·.1)=kvs.map (·.1)->gG K Z H (kvs.map (·.2)) (ys.map (·.2))->Rep K Z H (.AH kvs) (.ref a)
inductive gG (K:Frag) (Z:mE) (H:Hp):List PV->List V->Prop
 |nil:gG K Z H [] []
 |cons {p:PV} {v:V} {ps:List PV} {vs:List V}:Rep K Z H p v->gG K Z H ps vs->gG K Z H (p::ps) (v::vs)
end
theorem gG.length {Z:mE}:∀{ps:List PV} {vs:List V},gG K Z H ps vs->ps.length=vs.length
 |_,_,.nil=>rfl
 |_,_,.cons _ r=>by rw[length_cons,length_cons,gG.length r]
def LstAt (K:Frag) (H:Hp) (a:Addr) (xs:List V):Prop:=Rd H a (.lst xs)\/ RD K a xs
theorem LstAt.sq (h:LstAt K H a xs):bJ K H a xs:=h
inductive Red (K:Frag) (Z:mE) (H:Hp):PV->V->Prop
 |rep {p:PV} {v:V}:Rep K Z H p v->Red K Z H p v
 |lst {a:Addr} {xs:List V} {ps:List PV}:LstAt K H a xs->gG K Z H ps xs->Red K Z H (.lst ps) (.ref a)
 |AH {a:Addr} {ep:Nat} {ys:List (Key×V)} {kvs:List (Key×PV)}:Rd H a (.dK ys ep)->ys.map (·.1)=kvs.map (·.1)->gG K Z H (kvs.map (·.2)) (ys.map (·.2))->Red K Z H (.AH kvs) (.ref a)
inductive Sl where
 |val (p:PV)|own (p:PV)|loc (p:PV)|bor (p:PV)
abbrev En:=List (Option Sl)
inductive Bv where
 |val (p:PV)|slot (i:Nat)|new (p:PV)
abbrev FE:=En->Option (Bv×En)
inductive Out where
 |nx (e:En)|rt (b:Bv) (e:En)|bk (e:En)|ct (e:En)
abbrev FS:=En->Option Out
inductive Kd where
 |v|b|m
 deriving DecidableEq
abbrev FN:=List PV->Option (PV×List PV)
end Mr
namespace Mr
open PySem PySem.Spec L2 PyProof.Rows
variable {a:Addr} {xs ys:Array Value} {X:Cx} {h:Heap} {k n:Nat} {p:PV} {v:Value} {Z:mE}
mutual
inductive Lies (h:Heap):PV->Value->Prop
 |aZ:Lies h .aZ .none
 |bl (b:Bool):Lies h (.bl b) (.bool b)
 |int (i:Int) (t:Tok):Lies h (.int i) (.int i t)
 |str (x:Str) (t:Tok):Lies h (.str x) (.str x t)
 |tup {a:Addr} {its:List Value} {ps:List PV}:IsTup h a its.toArray->cI h ps its->Lies h (.tup ps) (.ref a)
 |lst {a:Addr} {its:List Value} {ps:List PV}:h.IsList a its.toArray->cI h ps its->Lies h (.lst ps) (.ref a)
inductive cI (h:Heap):List PV->List Value->Prop
 |nil:cI h [] []
 |cons {p:PV} {v:Value} {ps:List PV} {vs:List Value}:Lies h p v->cI h ps vs->cI h (p::ps) (v::vs)
end
noncomputable def lP:Nat->PV->Bool
 |_,.aZ=>true
 |_,.bl _=>true
 |_,.int _=>true
 |_,.str _=>true
 |n+1,.tup ps=>ps.all (lP n)
 |n+1,.lst ps=>ps.all (lP n)
 |_,_=>false
section
variable {X:Cx} {pins:List (Addr×Obj)} {σ:L2.St} {H:Hp} {s:Shared}
theorem Rep.lies (I:Inv X pins σ H s):∀{n:Nat} {p:PV} {x:V} {v:Value},lP n p=true->Rep X.K Z H p x->RelV x v->Lies s.heap p v
 |n,.aZ,x,v,ok,h,r=>by cases h;cases r;exact .aZ
 |n,.bl b,x,v,ok,h,r=>by cases h;cases r;exact .bl b
 |n,.int b,x,v,ok,h,r=>by cases h;obtain⟨t,rfl⟩:=r;exact .int b t
 |n,.str b,x,v,ok,h,r=>by cases h;obtain⟨t,rfl⟩:=r;exact .str b t
 |n,.ty b,x,v,ok,h,r=>by cases n<;>cases ok
 |n,.AH b,x,v,ok,h,r=>by cases n<;>cases ok
 |0,.tup ps,x,v,ok,h,r=>by cases ok
 |0,.lst ps,x,v,ok,h,r=>by cases ok
 | n+1,.tup ps,x,v,ok,h,r=>by
  cases h with
  | tup h rl=>
   cases r;obtain⟨its,rv,pl,_⟩:=I.tuple h.sq;have key:∀(ps:List PV) (xs:List V) (its:List Value),ps.all (lP n)=true->gG X.K Z H ps xs->Vals xs its->cI s.heap ps its:=fun ps=>by
    induction ps with
    |nil=>intro xs its _ h1 h2;cases h1;cases h2;exact .nil
    | cons p ps ih=>
     intro xs its ha h1 h2;rw[all_cons,and_eq_true]at ha;cases h1 with
     |cons h1 r1=>
      cases h2 with
      |cons h2 r2=>exact .cons (Rep.lies I (n:=n) ha.1 h1 h2) (ih _ _ ha.2 r1 r2)
   exact .tup pl (key ps _ its ok rl rv)
 | n+1,.lst ps,x,v,ok,h,r=>by
  cases h with
  | lst h nz rl=>
   cases r;obtain⟨its,rv,pl,_⟩:=I.list (show bJ X.K H _ _ from .inl h);have key:∀(ps:List PV) (xs:List V) (its:List Value),ps.all (lP n)=true->gG X.K Z H ps xs->Vals xs its->cI s.heap ps its:=fun ps=>by
    induction ps with
    |nil=>intro xs its _ h1 h2;cases h1;cases h2;exact .nil
    | cons p ps ih=>
     intro xs its ha h1 h2;rw[all_cons,and_eq_true]at ha;cases h1 with
     |cons h1 r1=>
      cases h2 with
      |cons h2 r2=>exact .cons (Rep.lies I (n:=n) ha.1 h1 h2) (ih _ _ ha.2 r1 r2)
   exact .lst pl.isList (key ps _ its ok rl rv)
theorem gG.lies (I:Inv X pins σ H s):∀{ps:List PV} {xs:List V} {its:List Value},ps.all (lP n)=true->gG X.K Z H ps xs->Vals xs its->cI s.heap ps its
 |[],_,_,_,h1,h2=>by cases h1;cases h2;exact .nil
 | p::ps,_,_,ha,h1,h2=>by
  rw[all_cons,and_eq_true]at ha;cases h1 with
  |cons h1 r1=>
   cases h2 with
   |cons h2 r2=>exact .cons (Rep.lies I (n:=n) ha.1 h1 h2) (gG.lies I ha.2 r1 r2)
theorem Red.lies (I:Inv X pins σ H s) {n:Nat} {x:V} (ok:lP n p=true) (h:Red X.K Z H p x) (r:RelV x v):Lies s.heap p v:=by
 cases h with
 |rep h=>exact h.lies I ok r
 | lst h rl=>
  cases r;cases n with
  |zero=>cases ok
  |succ n=>
   obtain⟨its,rv,pl,_⟩:=I.list h.sq;exact .lst pl.isList (gG.lies I (n:=n) ok rl rv)
 |AH h e r=>cases n<;>cases ok
end
mutual
noncomputable def cV:PV->PV->Bool
 | .aZ,.aZ=>true
 | .bl a,.bl b=>a==b
 | .bl a,.int b=>(if a then 1 else 0)==b
 | .int a,.bl b=>a==(if b then 1 else 0)
 | .int a,.int b=>a==b
 | .str a,.str b=>a==b
 | .tup xs,.tup ys=>fH xs ys
 | .lst xs,.lst ys=>fH xs ys
 |_,_=>false
noncomputable def fH:List PV->List PV->Bool
 |[],[]=>true
 |x::xs,y::ys=>cV x y && fH xs ys
 |_,_=>false
end
theorem mC {xs ys:List PV}:cV (.tup xs) (.tup ys)=fH xs ys:=by rw[cV]
theorem qQ {xs ys:List PV}:cV (.lst xs) (.lst ys)=fH xs ys:=by rw[cV]
theorem cI.length:∀{ps:List PV} {vs:List Value},cI h ps vs->ps.length=vs.length
 |_,_,.nil=>rfl
 |_,_,.cons _ r=>by rw[length_cons,length_cons,cI.length r]
theorem cI.get:∀{ps:List PV} {vs:List Value} {i:Nat} {v:Value},cI h ps vs->vs[i]? =some v->∃p,ps[i]? =some p/\Lies h p v
 |_,_,_,_,.nil,e=>by simp at e
 |_,_,0,_,.cons q _,e=>by simp at e;subst e;exact⟨_,rfl,q⟩
 |_,_,i+1,_,.cons _ r,e=>by
  obtain⟨v,h1,h2⟩:=cI.get (i:=i) r (by simpa using e);exact⟨v,by simpa using h1,h2⟩
theorem JS (h1:IsTup h a xs) (h2:IsTup h a ys):xs=ys:=by
 obtain⟨o,g,_,n,d⟩:=h1;obtain⟨o',g',_,n',d'⟩:=h2;rw[g]at g';cases g';rw[d]at d';injection d'
theorem JU (h1:h.IsList a xs) (h2:h.IsList a ys):xs=ys:=by
 obtain⟨o,g,_,n,d⟩:=h1;obtain⟨o',g',_,n',d'⟩:=h2;rw[g]at g';cases g';rw[d]at d';injection d'
theorem A5 (h1:IsTup h a xs) (h2:h.IsList a ys):False:=by
 obtain⟨o,g,c,n,d⟩:=h1;obtain⟨o',g',c',n',d'⟩:=h2;rw[g]at g';cases g';rw[c]at c';exact absurd c' (by decide)
mutual
theorem Lies.same {h:Heap}:∀{p:PV} {v:Value},Lies h p v->∀{q:PV},Lies h q v->cV p q=true
 |_,_,.aZ,q,k=>by cases k;rfl
 |_,_,.bl b,q,k=>by cases k;exact beq_self_eq_true b
 |_,_,.int i t,q,k=>by cases k;exact beq_self_eq_true i
 |_,_,.str i t,q,k=>by cases k;exact beq_self_eq_true i
 | _,_,.tup ht r,q,k=>by
  cases k with
  |tup ht' r'=>
   have e:_=_:=JS ht ht';have e:=congrArg Array.toList e;simp only[List.toList_toArray]at e;subst e;unfold cV;exact cI.same r r'
  |lst hl r'=>exact(A5 ht hl).elim
 | _,_,.lst ht r,q,k=>by
  cases k with
  |tup ht' r'=>exact(A5 ht' ht).elim
  |lst hl r'=>
   have e:=congrArg Array.toList (JU ht hl);simp only[List.toList_toArray]at e;subst e;unfold cV;exact cI.same r r'
theorem cI.same {h:Heap}:∀{p:List PV} {v:List Value},cI h p v->∀{q:List PV},cI h q v->fH p q=true
 |_,_,.nil,q,k=>by cases k;rfl
 |_,_,.cons h1 r1,q,k=>by
  cases k with
  |cons h2 r2=>unfold fH;rw[Lies.same h1 h2,cI.same r1 r2];rfl
end
theorem fM:∀{ps qs:List PV},((List.range (min ps.length qs.length)).all (fun j=>cV (ps.getD j .aZ) (qs.getD j .aZ)) && ps.length==qs.length)=fH ps qs
 |[],[]=>rfl
 |[],_::_=>by unfold fH;simp
 |_::_,[]=>by unfold fH;simp
 | p::ps,q::qs=>by
  have ih:=fM (ps:=ps) (qs:=qs);unfold fH;rw[<-ih];have e:min (p::ps).length (q::qs).length=min ps.length qs.length+1:=by simp only[length_cons];omega
  rw[e,range_succ_eq_map,all_cons,all_map];have e2:((p::ps).length==(q::qs).length)=(ps.length==qs.length):=by
   rw[Bool.eq_iff_iff];simp
  rw[e2,Bool.and_assoc];rfl
section
variable {A:Around} {s:Shared}
theorem toArr {vs:List Value} {j:Nat} (h:j<vs.toArray.size):vs[j]? =some (vs.toArray[j]):=by simp at h⊢
theorem uZ:∀(n:Nat) (A:Around) {p q:PV} {v u:Value},A.units+n<cLine->lP n p=true->lP n q=true->Lies s.heap p v->Lies s.heap q u->SeqAt.EqAt A s v u (cV p q):=by
 intro n
 induction n with
 | zero=>
  intro A p q v u hu o1 o2 h1 h2;cases h1 with
  |tup _ _=>cases o1
  |lst _ _=>cases o1
  |aZ=>
   cases h2 with
   |tup _ _=>cases o2
   |lst _ _=>cases o2
   |aZ=>exact .same _
   |bl b=>exact .none_bool b
   |int b t=>exact .none_int b t
   |str b t=>exact .none_str b t
  |bl a=>
   cases h2 with
   |tup _ _=>cases o2
   |lst _ _=>cases o2
   |aZ=>exact .bool_none a
   |bl b=>exact .bool_bool a b
   |int b t=>exact .bool_int a b t
   |str b t=>exact .bool_str a b t
  |int a t'=>
   cases h2 with
   |tup _ _=>cases o2
   |lst _ _=>cases o2
   |aZ=>exact .int_none a t'
   |bl b=>exact .int_bool a t' b
   |int b t=>exact .int_int a t' b t
   |str b t=>exact .int_str a t' b t
  |str a t'=>
   cases h2 with
   |tup _ _=>cases o2
   |lst _ _=>cases o2
   |aZ=>exact .str_none a t'
   |bl b=>exact .str_bool a t' b
   |int b t=>exact .str_int a t' b t
   |str b t=>exact .str_str a t' b t
 | succ n ih=>
  intro A p q v u hu o1 o2 h1 h2;have hu0:A.units<cLine:=by omega
  have hin:A.in1.units=A.units+1:=rfl;have els:∀{ps qs:List PV} {vs us:List Value},ps.all (lP n)=true->qs.all (lP n)=true->cI s.heap ps vs->cI s.heap qs us->∀(j:Nat) (g1:j<vs.toArray.size) (g2:j<us.toArray.size),SeqAt.EqAt A.in1 s vs.toArray[j] us.toArray[j] (cV (ps.getD j .aZ) (qs.getD j .aZ)):=fun{ps qs vs us} a1 a2 l1 l2 j g1 g2=>by
   obtain⟨x,ex,rx⟩:=l1.get (toArr g1);obtain⟨y,ey,ry⟩:=l2.get (toArr g2);rw[getD_eq_getElem?_getD,getD_eq_getElem?_getD,ex,ey];exact ih A.in1 (by omega) (all_eq_true.mp a1 _ (mem_of_getElem? ex)) (all_eq_true.mp a2 _ (mem_of_getElem? ey)) rx ry
  cases h1 with
  | tup ht r=>
   cases h2 with
   | tup ht' r'=>
    rename_i a its ps a' its' ps'
    by_cases hab:a=a'
    .subst hab;rw[Lies.same (.tup ht r) (.tup ht' r')];exact .same _
    .refine .of_refs hab ?_;have e:cV (.tup ps) (.tup ps')=((List.range (min its.toArray.size its'.toArray.size)).all (fun j=>cV (ps.getD j .aZ) (ps'.getD j .aZ)) && its.toArray.size==its'.toArray.size):=by
      rw[mC,<-fM,r.length,r'.length,size_toArray,size_toArray]
     rw[e];exact SeqAt.RcAt.tuples (e:=fun j=>cV (ps.getD j .aZ) (ps'.getD j .aZ)) ht ht' hu0 (els o1 o2 r r')
   |lst hl r'=>exact .tuple_list ht hl hu0
   |aZ=>exact .tuple_none ht hu0
   |bl b=>exact .tuple_bool b ht hu0
   |int b t=>exact .tuple_int b t ht hu0
   |str b t=>exact .tuple_str b t ht hu0
  | lst ht r=>
   cases h2 with
   |tup ht' r'=>exact .list_tuple ht ht' hu0
   | lst ht' r'=>
    rename_i a its ps a' its' ps'
    by_cases hab:a=a'
    .subst hab;rw[Lies.same (.lst ht r) (.lst ht' r')];exact .same _
    .refine .of_refs hab ?_
     by_cases hsz:its.length=its'.length
     .have e:cV (.lst ps) (.lst ps')=(List.range its.toArray.size).all (fun j=>cV (ps.getD j .aZ) (ps'.getD j .aZ)):=by
       rw[qQ,<-fM,r.length,r'.length,size_toArray,<-hsz,min_self,beq_self_eq_true,Bool.and_true]
      rw[e];exact SeqAt.RcAt.lists (e:=fun j=>cV (ps.getD j .aZ) (ps'.getD j .aZ)) ht ht' (by simp[hsz]) hu0 (els o1 o2 r r')
     .have e:cV (.lst ps) (.lst ps')=false:=by
       rw[qQ,<-fM,r.length,r'.length,show(its.length==its'.length)=false by simp[hsz],Bool.and_false]
      rw[e];exact SeqAt.RcAt.lists_lengths ht ht' (by simp[hsz]) hu0
   |aZ=>exact .list_none ht hu0
   |bl b=>exact .list_bool b ht hu0
   |int b t=>exact .list_int b t ht hu0
   |str b t=>exact .list_str b t ht hu0
  |aZ=>
   cases h2 with
   |tup ht' r'=>exact .none_tuple ht' hu0
   |lst hl r'=>exact .none_list hl hu0
   |aZ=>exact .same _
   |bl b=>exact .none_bool b
   |int b t=>exact .none_int b t
   |str b t=>exact .none_str b t
  |bl a=>
   cases h2 with
   |tup ht' r'=>exact .bool_tuple a ht' hu0
   |lst hl r'=>exact .bool_list a hl hu0
   |aZ=>exact .bool_none a
   |bl b=>exact .bool_bool a b
   |int b t=>exact .bool_int a b t
   |str b t=>exact .bool_str a b t
  |int a t'=>
   cases h2 with
   |tup ht' r'=>exact .int_tuple a t' ht' hu0
   |lst hl r'=>exact .int_list a t' hl hu0
   |aZ=>exact .int_none a t'
   |bl b=>exact .int_bool a t' b
   |int b t=>exact .int_int a t' b t
   |str b t=>exact .int_str a t' b t
  |str a t'=>
   cases h2 with
   |tup ht' r'=>exact .str_tuple a t' ht' hu0
   |lst hl r'=>exact .str_list a t' hl hu0
   |aZ=>exact .str_none a t'
   |bl b=>exact .str_bool a t' b
   |int b t=>exact .str_int a t' b t
   |str b t=>exact .str_str a t' b t
theorem ME {A:Around} {q:PV} {u:Value} (hu:A.units+(n+1)<cLine) (o1:lP (n+1) p=true) (o2:lP (n+1) q=true) (h1:Lies s.heap p v) (h2:Lies s.heap q u):SeqAt.RcAt A s v u (cV p q)/\SeqAt.RcNeAt A s v u (!cV p q):=by
 have hu0:A.units<cLine:=by omega
 have hin:A.in1.units=A.units+1:=rfl;have els:∀{ps qs:List PV} {vs us:List Value},ps.all (lP n)=true->qs.all (lP n)=true->cI s.heap ps vs->cI s.heap qs us->∀(j:Nat) (g1:j<vs.toArray.size) (g2:j<us.toArray.size),SeqAt.EqAt A.in1 s vs.toArray[j] us.toArray[j] (cV (ps.getD j .aZ) (qs.getD j .aZ)):=fun{ps qs vs us} a1 a2 l1 l2 j g1 g2=>by
  obtain⟨x,ex,rx⟩:=l1.get (toArr g1);obtain⟨y,ey,ry⟩:=l2.get (toArr g2);rw[getD_eq_getElem?_getD,getD_eq_getElem?_getD,ex,ey];exact uZ n A.in1 (by omega) (all_eq_true.mp a1 _ (mem_of_getElem? ex)) (all_eq_true.mp a2 _ (mem_of_getElem? ey)) rx ry
 cases h1 with
 | tup ht r=>
  cases h2 with
  | tup ht' r'=>
   rename_i a its ps a' its' ps';have e:cV (.tup ps) (.tup ps')=((List.range (min its.toArray.size its'.toArray.size)).all (fun j=>cV (ps.getD j .aZ) (ps'.getD j .aZ)) && its.toArray.size==its'.toArray.size):=by
    rw[mC,<-fM,r.length,r'.length,size_toArray,size_toArray]
   rw[e];exact⟨SeqAt.RcAt.tuples (e:=fun j=>cV (ps.getD j .aZ) (ps'.getD j .aZ)) ht ht' hu0 (els o1 o2 r r'),SeqAt.RcNeAt.tuples (e:=fun j=>cV (ps.getD j .aZ) (ps'.getD j .aZ)) ht ht' hu0 (els o1 o2 r r')⟩
  |lst hl r'=>exact⟨.tuple_list ht hl hu0,.tuple_list ht hl hu0⟩
  |aZ=>exact⟨.tuple_none ht hu0,.tuple_none ht hu0⟩
  |bl b=>exact⟨.tuple_bool b ht hu0,.tuple_bool b ht hu0⟩
  |int b t=>exact⟨.tuple_int b t ht hu0,.tuple_int b t ht hu0⟩
  |str b t=>exact⟨.tuple_str b t ht hu0,.tuple_str b t ht hu0⟩
 | lst ht r=>
  cases h2 with
  |tup ht' r'=>exact⟨.list_tuple ht ht' hu0,.list_tuple ht ht' hu0⟩
  | lst ht' r'=>
   rename_i a its ps a' its' ps'
   by_cases hsz:its.length=its'.length
   .have e:cV (.lst ps) (.lst ps')=(List.range its.toArray.size).all (fun j=>cV (ps.getD j .aZ) (ps'.getD j .aZ)):=by
     rw[qQ,<-fM,r.length,r'.length,size_toArray,<-hsz,min_self,beq_self_eq_true,Bool.and_true]
    rw[e];exact⟨SeqAt.RcAt.lists (e:=fun j=>cV (ps.getD j .aZ) (ps'.getD j .aZ)) ht ht' (by simp[hsz]) hu0 (els o1 o2 r r'),SeqAt.RcNeAt.lists (e:=fun j=>cV (ps.getD j .aZ) (ps'.getD j .aZ)) ht ht' (by simp[hsz]) hu0 (els o1 o2 r r')⟩
   .have e:cV (.lst ps) (.lst ps')=false:=by
     rw[qQ,<-fM,r.length,r'.length,show(its.length==its'.length)=false by simp[hsz],Bool.and_false]
    rw[e];exact⟨SeqAt.RcAt.lists_lengths ht ht' (by simp[hsz]) hu0,SeqAt.RcNeAt.lists_lengths ht ht' (by simp[hsz]) hu0⟩
  |aZ=>exact⟨.list_none ht hu0,.list_none ht hu0⟩
  |bl b=>exact⟨.list_bool b ht hu0,.list_bool b ht hu0⟩
  |int b t=>exact⟨.list_int b t ht hu0,.list_int b t ht hu0⟩
  |str b t=>exact⟨.list_str b t ht hu0,.list_str b t ht hu0⟩
 |aZ=>
  cases h2 with
  |tup ht' r'=>exact⟨.none_tuple ht' hu0,.none_tuple ht' hu0⟩
  |lst hl r'=>exact⟨.none_list hl hu0,.none_list hl hu0⟩
  |aZ=>exact⟨.none_none,.none_none⟩
  |bl b=>exact⟨.none_bool b,.none_bool b⟩
  |int b t=>exact⟨.none_int b t,.none_int b t⟩
  |str b t=>exact⟨.none_str b t,.none_str b t⟩
 |bl a=>
  cases h2 with
  |tup ht' r'=>exact⟨.bool_tuple a ht' hu0,.bool_tuple a ht' hu0⟩
  |lst hl r'=>exact⟨.bool_list a hl hu0,.bool_list a hl hu0⟩
  |aZ=>exact⟨.bool_none a,.bool_none a⟩
  |bl b=>exact⟨.bool_bool a b,.bool_bool a b⟩
  |int b t=>exact⟨.bool_int a b t,.bool_int a b t⟩
  |str b t=>exact⟨.bool_str a b t,.bool_str a b t⟩
 |int a t'=>
  cases h2 with
  |tup ht' r'=>exact⟨.int_tuple a t' ht' hu0,.int_tuple a t' ht' hu0⟩
  |lst hl r'=>exact⟨.int_list a t' hl hu0,.int_list a t' hl hu0⟩
  |aZ=>exact⟨.int_none a t',.int_none a t'⟩
  |bl b=>exact⟨.int_bool a t' b,.int_bool a t' b⟩
  |int b t=>exact⟨.int_int a t' b t,.int_int a t' b t⟩
  |str b t=>exact⟨.int_str a t' b t,.int_str a t' b t⟩
 |str a t'=>
  cases h2 with
  |tup ht' r'=>exact⟨.str_tuple a t' ht' hu0,.str_tuple a t' ht' hu0⟩
  |lst hl r'=>exact⟨.str_list a t' hl hu0,.str_list a t' hl hu0⟩
  |aZ=>exact⟨.str_none a t',.str_none a t'⟩
  |bl b=>exact⟨.str_bool a t' b,.str_bool a t' b⟩
  |int b t=>exact⟨.str_int a t' b t,.str_int a t' b t⟩
  |str b t=>exact⟨.str_str a t' b t,.str_str a t' b t⟩
end
def RV (K:Frag) (neg:Bool):R2:=fun x y H Q=>∃p q,Red K A8 H p x/\Red K A8 H q y/\lP 9 p=true/\lP 9 q=true/\Q (.bl (if neg then !cV p q else cV p q)) H
section
variable {X:Cx} {k:Nat}
theorem RP (K:Frag) (hr:fD k X.A) (hK:X.K=K:=by rfl):nA X (compareOp .NotEq) (RV K true):=by
 subst hK;intro pins s σ H x y v u Q I rx ry h;obtain⟨p,q,h1,h2,o1,o2,hQ⟩:=h;exact(ME (n:=8) (by have:=hr.un;omega) o1 o2 (h1.lies I o1 rx) (h2.lies I o2 ry)).2 _ _ _ _ (bN I hQ rfl)
end
section
variable {K:Frag}
def G1 (neg:Bool):R2:=fun x y H Q=>∃a kvs k,y= .ref a/\ED H a kvs/\x=kV k/\Q (.bl (if neg then !(bW kvs k).isSome else(bW kvs k).isSome)) H
theorem inD (hr:fD k X.A):nA X (compareOp .In) (G1 false):=by
 intro pins s σ H x y v u Q I rx ry h;obtain⟨a,kvs,key,rfl,ha,rfl,q⟩:=h;cases ry;exact RA (by have:=hr.un;omega) I (.inl ⟨kvs,key,ha,rfl,rfl⟩) rx fun s' I'=>⟨.bl _,H,I',rfl,q⟩
theorem m8 (hr:fD k X.A):nA X (compareOp .NotIn) (G1 true):=by
 intro pins s σ H x y v u Q I rx ry h;obtain⟨a,kvs,key,rfl,ha,rfl,q⟩:=h;cases ry;exact IH (by have:=hr.un;omega) I (.inl ⟨kvs,key,ha,rfl,rfl⟩) rx fun s' I'=>⟨.bl _,H,I',rfl,q⟩
def P8:R2:=fun x y H Q=>∃a kvs k v,x= .ref a/\ED H a kvs/\y=kV k/\bW kvs k=some v/\Q v H
theorem yM (hr:fD k X.A):MK X P8:=by
 intro value slice pins s σ H x y v u Q I rx ry h hs;obtain⟨a,kvs,key,w,rfl,ha,rfl,hv,q⟩:=h;cases rx;have g:rT H a (kV key) (some w):=.inl ⟨kvs,key,ha,rfl,hv.symm⟩;have hT:=yL I g;unfold subscriptTail;refine wpAny_bind ?_;rw[getitemInPython_of_ne hT.not_modules];refine wpAny_bind (wpAny_specialOf hT PySem.F.slot_dict_getitem.lookup ?_);have fin:wpAny (model X.prog X.w) X.A (subscripted slice false (.ref a) u) (fun r s₃=>wpAny (model X.prog X.w) X.A (letTemporaryGo value (.ref a) r>>=fun _=>pure r) (EP X pins σ Q) X.xe s₃) X.xe s:=by
  rw[hs];exact wpAny_operating (wpAny_mono (C0 (by have:=hr.un;omega) I g ry fun w' s3 I3 w9=>(⟨w,H,I3,w9,q⟩:EP X pins σ Q w' s3)) (fun r s₃ h₃=>wpAny_bind (wpAny_letTemporaryGo (wpAny_pure h₃))) fun _ _ x=>x)
 first
  |exact wpAny_pure (wpAny_bind fin)
  |exact wpAny_bind (wpAny_pure (wpAny_bind fin))
  |exact wpAny_bind fin
end
section
variable {K:Frag}
def JO:V->List V->Hp->VK->Prop:=fun x vs H Q=>∃z y,x= .str z/\vs=[.str y]/\Q (.bl (Txt.startswith z y)) H
theorem i7:EB X "str.startswith" JO:=by
 intro pins s σ H x vs v us Q I rx rv h;obtain⟨z,y,rfl,rfl,q⟩:=h;obtain⟨t,rfl⟩:=rx;obtain⟨u,rfl,t',rfl⟩:=vals1 rv;exact SC.startswith ⟨.bl _,H,I,rfl,q⟩
def OV:V->List V->Hp->VK->Prop:=fun x vs H Q=>∃z y,x= .str z/\vs=[.str y]/\Q (.bl (Txt.endswith z y)) H
theorem y7:EB X "str.endswith" OV:=by
 intro pins s σ H x vs v us Q I rx rv h;obtain⟨z,y,rfl,rfl,q⟩:=h;obtain⟨t,rfl⟩:=rx;obtain⟨u,rfl,t',rfl⟩:=vals1 rv;exact SC.endswith ⟨.bl _,H,I,rfl,q⟩
def HW:V->List V->Hp->VK->Prop:=fun x vs H Q=>∃z y,x= .str z/\vs=[.str y]/\z.length<=sizeLine/\Q (.str (Txt.stripChars z y)) H
theorem HV:EB X "str.strip" HW:=by
 intro pins s σ H x vs v us Q I rx rv h;obtain⟨z,y,rfl,rfl,hz,q⟩:=h;obtain⟨t,rfl⟩:=rx;obtain⟨u,rfl,t',rfl⟩:=vals1 rv;exact SCL.stripChars (fun t' k _=>⟨.str _,H,I.tok _,⟨_,rfl⟩,q⟩) hz
def pX:V->List V->Hp->VK->Prop:=fun x vs H Q=>∃z y,x= .str z/\vs=[.str y]/\(y.length==0)=false/\z.length<=sizeLine/\∀p,H p=none->Q (.ref p) (upd H p (.tup [.str (Txt.partition z y).1,.str (Txt.partition z y).2.1,.str (Txt.partition z y).2.2]))
theorem u5:EB X "str.partition" pX:=by
 intro pins s σ H x vs v us Q I rx rv h;obtain⟨z,y,rfl,rfl,hy,hz,q⟩:=h;obtain⟨t,rfl⟩:=rx;obtain⟨u,rfl,t',rfl⟩:=vals1 rv;refine call_meets F.slot_str_partition (typeIs_str _ _ _) F.entry_str_partition (F.args_str_partition_2 _ _) (meets_str_partition z y t t' hy hz) ?_;have fin:∀(a b c:Str) (ta tb tc:Tok) (tk:Nat),(a,b,c)=Txt.partition z y->EP X pins σ Q (.ref s.heap.objs.size) {s with toks:=tk,heap:=s.heap.push {cls:=.type "tuple",data:=.seq [.str a ta,.str b tb,.str c tc].toArray}}:=fun a b c ta tb tc tk e=>by
  refine⟨.ref s.heap.objs.size,_,I.laid (t':=tk) (o:=.tup [.str a,.str b,.str c]) (fun b ob q=>get?_push_of_some _ q) (le_refl _) ?_,rfl,?_⟩
  .exact⟨by show 3<=sizeLine;decide,[.str a ta,.str b tb,.str c tc],.cons ⟨_,rfl⟩ (.cons ⟨_,rfl⟩ (.cons ⟨_,rfl⟩ .nil)),oI.new _ _⟩
  .have:=q s.heap.objs.size (I.bA.fresh (le_refl _));rw[<-e]at this;exact this
 show wants _ _ _ _;cases ho:Builtin.Str.occurrences z y 0 z.length 1 with
 |nil=>exact fin _ _ _ _ _ _ _ (by unfold Txt.partition;rw[ho])
 |cons i r=>exact fin _ _ _ _ _ _ _ (by unfold Txt.partition;rw[ho])
end
end Mr
namespace L2
open PySem PySem.Spec PyProof.Rows
variable {a:Expr} {p pos:Pos} {ta:TA}
noncomputable def O5 (K:Frag) (a:Addr):It:=
 ⟨fun i H=>∃xs x,bJ K H a xs/\xs[i]? =some x,fun i H v H'=>∃t,H t=none/\v= .ref t/\∀xs,bJ K H a xs->∃x,xs[i]? =some x/\H'=upd H t (.tup [.int i,x]),fun i H=>∃xs,bJ K H a xs/\xs.length=i⟩
theorem A2 {P:Program} {w:World} {K:Frag} {elts:List Expr} {x1} (a it e:Addr) (hei:e≠it):Turn P w K (.Tuple elts x1 pos) (O5 K a) [e,it] e (fun i h=>(∃old,IsEnum h e it i old)/\h.IsListIter it a i)where
 mem:=by simp
 obj:=fun i h st b hb=>by
  obtain⟨⟨old,he⟩,o,ho,c,d⟩:=st;rcases mem_cons.mp hb with z|z
  .subst z;exact⟨_,he,fun v z=>by cases z⟩
  .have z:b=it:=by simpa using z
   subst z;exact⟨o,ho,fun v z=>by rw[d]at z;cases z⟩
 keep:=fun i h h' st k=>⟨let⟨old,he⟩:=st.1;⟨old,k e (by simp) _ he⟩,st.2.at fun o q=>k it (by simp) o q⟩
 item:=by
  intro X hP hw hK hc i pins s σ H E I hf st hg;subst hP hw hK;obtain⟨xs,x,hq,hx⟩:=hg;obtain⟨its,rv,p,hz⟩:=I.list hq;obtain⟨u,hu,ru⟩:=rv.get hx;obtain⟨⟨old,he⟩,ht⟩:=st;have hne:a≠it:=fun z=>by
   obtain⟨o,ho,c,_⟩:=ht;obtain⟨o',_,ho',c',_,_⟩:=p;subst z;rw[ho]at ho';cases ho'
   rw[c]at c';exact absurd (Value.type.inj c') (by decide)
  have hae:a≠e:=fun z=>by
   obtain⟨o',_,ho',c',_,_⟩:=p;subst z;rw[he]at ho';cases ho'
   exact absurd (Value.type.inj c') (by decide)
  have hlt:i<its.toArray.size:=by have:=(List.getElem?_eq_some_iff.mp hu).1;simpa using this
  refine wpAny_pyNext_enum_itemD (Draws.list (A:=X.A.in1) (by exact I.ok.hd hc) it a hne its.toArray) he ⟨ht,p.isList⟩ hlt hei (by simp[hei,Ne.symm hae]) fun v h' tk hPv ho' st' htup hsz hk=>?_
  have ev:v=u:=by
   have h1:its[i]? =some v:=by simpa using hPv
   rw[hu]at h1;exact(Option.some.inj h1).symm
  subst ev;refine⟨_,rfl,wpAny_letOwnedTupleGo_enum (s:={s with heap:=h',toks:=tk+1}) ho' fun h2 he2 sb=>?_⟩;have hTe:s.heap.objs.size≠e:=fun z=>by
   have:=lt_size he;rw[<-z]at this;exact lt_irrefl _ this
  have hTi:s.heap.objs.size≠it:=fun z=>by
   obtain⟨o,ho,_⟩:=ht;have:=lt_size ho;rw[<-z]at this;exact lt_irrefl _ this
  have hk2:∀b o,b∉[e,it]->s.heap.get? b=some o->h2.get? b=some o:=fun b o hb q=>
   sb.extBut b o (fun z=>hb (by simp[z])) (hk b o (fun z=>hb (by simp[z])) (fun z=>hb (by simp[z])) q)
  have I1:Inv X pins σ H {s with heap:=h2,toks:=tk+1}:=I.BA hk2 hf;have hfr:H s.heap.objs.size=none:=I.bA.fresh (le_refl _);have htup2:h2.get? s.heap.objs.size=some {cls:=.type "tuple",data:=.seq #[.int i tk,v]}:=sb.extBut _ _ hTe htup;have I2:Inv X pins σ (upd H s.heap.objs.size (.tup [.int i,x])) {s with heap:=h2,toks:=tk+1}:=by
   refine I.R6 hk2 hf hfr (by simp[hTe,hTi]) ⟨by show 2<=sizeLine;decide,[.int i tk,v],.cons ⟨_,rfl⟩ (.cons ru .nil),oI.of htup2⟩ (fun b hb o q=>?_);rcases mem_cons.mp hb with r|r
   .subst r;exact⟨_,he2⟩
   .have r:b=it:=by simpa using r
    subst r;obtain⟨o',ho',_⟩:=st'.1.extBut sb.extBut (Ne.symm hei);exact⟨o',ho'⟩
  refine⟨.ref s.heap.objs.size,_,I2,rfl,⟨s.heap.objs.size,hfr,rfl,fun ys hy=>⟨x,by rw[I.xI hy hq];exact hx,rfl⟩⟩,⟨⟨_,he2⟩,st'.1.extBut sb.extBut (Ne.symm hei)⟩,fun b hb=>?_⟩;have hbT:b≠s.heap.objs.size:=fun z=>by
   rcases mem_cons.mp hb with r|r
   .exact hTe (z▸r)
   .have r:b=it:=by simpa using r
    exact hTi (z▸r)
  rw[aM hbT];exact(hf b hb).1
 done:=by
  intro X hP hw hK hc i pins s σ H E I hf st hg;subst hP hw hK;obtain⟨xs,hq,hx⟩:=hg;obtain⟨its,rv,p,hz⟩:=I.list hq;obtain⟨⟨old,he⟩,ht⟩:=st;have hl:=rv.length;have hne:a≠it:=fun z=>by
   obtain⟨o,ho,c,_⟩:=ht;obtain⟨o',_,ho',c',_,_⟩:=p;subst z;rw[ho]at ho';cases ho'
   rw[c]at c';exact absurd (Value.type.inj c') (by decide)
  have ei:(i:Nat)=its.toArray.size:=by simp;omega
  subst ei;obtain⟨f0,f1,f2,f3,f4,f5⟩:=hf it (by simp);exact wpAny_pyNext_enum_endD (Draws.list (A:=X.A.in1) (by exact I.ok.hd hc) it a hne its.toArray) he ⟨ht,p.isList⟩ fun h' eb=>⟨rfl,I.turned (t':=s.toks) (fun b o hb e=>eb b o hb e) f0 f1 f3 f4 f5⟩
 self:=fun _ _ _ _ _ st h=>let⟨_,he⟩:=st.1;wpAny_pyIter_enum he h
section
variable {X:Cx} {elts:List Expr} {x1:Nat} {tpos:Pos}
def j4 (K:Frag) (ta:TA):TI:=fun σ H R=>ta σ H fun vs H1=>(∃a xs,vs=[.ref a]/\bG K H1 a xs/\R (MB K a) H1)\/ ∃a xs,vs=[.ref a]/\bJ K H1 a xs/\R (O5 K a) H1
theorem HK (hg:Gl X "enumerate") (hm:X.mg "enumerate"=none) (ha:PA X [a] ta) (hs:starEach [a] X.env=[(false,eval a X.env)]:=by rfl):PI X (.Tuple elts x1 tpos) (.Call (.Name "enumerate" p) [a] [] pos) (j4 X.K ta):=by
 intro pins s σ H R I h;refine Call_ (vL I hg hm wH (PyProof.Rows.callWith_type1 (cE (ha pos pins s σ H _ I h) fun us s1 ⟨vs,H1,I1,r1,q1⟩=>?_) hs rfl));rcases q1 with⟨t,xs,e,hq,q⟩|⟨t,xs,e,hq,q⟩
 .subst e;obtain⟨u,rfl,rx⟩:=vals1 r1;cases rx;obtain⟨its,rv,pt,hz⟩:=I1.tuple hq;refine iN (show s1.heap.IsTuple t its.toArray from pt) fun h' he ht hsz hk=>?_
  have I2:Inv X pins σ H1 {s1 with heap:=h'}:=I1.kept (t':=s1.toks) hk;refine wpAny_pyIter_enum (s:={s1 with heap:=h'}) he ?_;refine⟨s1.heap.objs.size+1,[s1.heap.objs.size+1,s1.heap.objs.size],_,_,H1,rfl,I2,AR t s1.heap.objs.size (s1.heap.objs.size+1) (Nat.succ_ne_self _),⟨⟨_,he⟩,ht⟩,fun b hb=>?_,q⟩;rcases mem_cons.mp hb with r|r
  .subst r;exact I1.oG (le_succ _) (I1.bA.fresh (le_succ _))
  .have r:b=s1.heap.objs.size:=by simpa using r
   subst r;exact I1.oG (le_refl _) (I1.bA.fresh (le_refl _))
 .subst e;obtain⟨u,rfl,rx⟩:=vals1 r1;cases rx;obtain⟨its,rv,pt,hz⟩:=I1.list hq;refine call_enumerate_list pt.isList fun h' he ht hsz hk=>?_
  have I2:Inv X pins σ H1 {s1 with heap:=h'}:=I1.kept (t':=s1.toks) hk;refine wpAny_pyIter_enum (s:={s1 with heap:=h'}) he ?_;refine⟨s1.heap.objs.size+1,[s1.heap.objs.size+1,s1.heap.objs.size],_,_,H1,rfl,I2,A2 t s1.heap.objs.size (s1.heap.objs.size+1) (Nat.succ_ne_self _),⟨⟨_,he⟩,ht⟩,fun b hb=>?_,q⟩;rcases mem_cons.mp hb with r|r
  .subst r;exact I1.oG (le_succ _) (I1.bA.fresh (le_succ _))
  .have r:b=s1.heap.objs.size:=by simpa using r
   subst r;exact I1.oG (le_refl _) (I1.bA.fresh (le_refl _))
theorem wD (K:Frag) (hg:Gl X "enumerate") (hm:X.mg "enumerate"=none) (ha:PA X [a] ta) (h:X.K=K:=by rfl) (hs:starEach [a] X.env=[(false,eval a X.env)]:=by rfl):
  PI X (.Tuple elts x1 tpos) (.Call (.Name "enumerate" p) [a] [] pos) (j4 K ta):=h▸HK hg hm ha hs
end
end L2
namespace L2
open PySem PySem.Spec PyProof.Rows PySem.W
variable {kvs:List (Key×V)} {vs:List (Key×Value)} {s':Shared} {Q:Value->Shared->Prop}
section
variable {prog:Program} {w:World} {A:Around} {E:Value->Shared->Prop} {s:Shared} {T:String} {r d:Addr} {n:Nat} {Pz:Nat->Value->Prop} {OKh:Heap->Prop}
def mF (s s':Shared):Prop:=∃h' tk dr,s'={s with heap:=h',toks:=tk,drawn:=dr}/\s.heap.objs.size<=h'.objs.size/\∀b o,s.heap.get? b=some o->h'.get? b=some o
theorem mF.size {s:Shared} (g:mF s s'):s.heap.objs.size<=s'.heap.objs.size:=by
 obtain⟨h',tk,dr,rfl,k,_⟩:=g;exact k
theorem lG {Q:List Value->Shared->Prop} (K:KdlSrc prog w T r d n Pz OKh) (hh:A.handled=none) (bA:OKh s.heap) (hn:n<=sizeLine)
  (hq:∀vs s',mF s s'->vs.length=n->(∀j v,vs[j]? =some v->Pz j v)->Q vs s'):wpAny (model prog w) A (collect (.ref r)) Q E s:=by
 have ha:=K.there _ bA;have fin:∀(h':Heap) (tk:Nat) (acc:Array Value) (c:Nat),(∀b o,s.heap.get? b=some o->h'.get? b=some o)->
   h'.get? s.heap.objs.size=some {cls:=.type "list",dict:=none,data:=.seq acc c,slots:= #[]}->ItemsOf Pz acc n->
   wpAny (model prog w) A (match Value.ref s.heap.objs.size with
    | Value.ref a=>do
     match(<-load a).data with
      |Data.seq xs _=>pure xs.toList
      |_=>unsupported "internal:collect"
    |_=>unsupported "internal:collect") Q E {s with heap:=h',toks:=tk}:=fun h' tk acc c kp hS hacc=>by
  show wpAny _ A (load s.heap.objs.size>>=_) _ _ _;exact wpAny_bind (wpAny_load hS (wpAny_pure (hq _ _ ⟨h',tk,s.drawn,rfl,le_of_lt (lt_size hS),kp⟩ (by rw[length_toList];exact hacc.1) fun j v e=>hacc.2 j v (by rw[<-getElem?_toList];exact e))))
 unfold collect;refine wpAny_bind (wpAny_runValue (codeAny_builtin F.entry_proto_collect ?_));rw[Around.under_plainId F.plain_proto_collect _];refine wpAny_bind (m:=newList []) (wpAny_newObj_type ?_);refine wpAny_pure ⟨plainId_quiet F.plain_list_iadd _,codeAny_builtin F.entry_list_iadd ?_⟩;rw[Around.under_plainId F.plain_list_iadd _];have e0:(s.heap.push {cls:=.type "list",data:=.seq ([]:List Value).toArray}).get? s.heap.objs.size=some {cls:=.type "list",data:=.seq #[] 0}:=get?_push_size _ rfl;have key:=kdl_extend (A:=A) (s:={s with heap:=s.heap.push {cls:=.type "list",data:=.seq ([]:List Value).toArray}}) (R:=fun rs s'=>∃h' tk acc c,rs= .ok (.ret (.ref s.heap.objs.size))/\s'={s with heap:=h',toks:=tk}/\(∀b o,s.heap.get? b=some o->h'.get? b=some o)/\h'.get? s.heap.objs.size=some {cls:=.type "list",dict:=none,data:=.seq acc c,slots:= #[]}/\ItemsOf Pz acc n) K hh (K.keep _ _ bA fun b _ o e=>get?_push_of_some _ e) s.heap.objs.size (ne_of_gt ha.1) (ne_of_gt ha.2) (.ref s.heap.objs.size) 0 e0
  (fun h' tk acc c kp hS hacc=>⟨h',tk,acc,c,rfl,rfl,fun b o e=>kp b o (ne_of_lt (lt_size e)) (get?_push_of_some _ e),hS,hacc⟩) hn
 refine wpAny_mono key (fun f s' h=>?_) fun e s' h=>?_
 .cases f with
  |done f=>
   obtain⟨h',tk,acc,c,e1,rfl,kp,hS,hacc⟩:=h;cases e1;exact fin h' tk acc c kp hS hacc
  |again c'=>
   refine⟨h.1,codeAny_mono h.2 fun rs s2 hr=>?_⟩;obtain⟨h',tk,acc,c,rfl,rfl,kp,hS,hacc⟩:=hr;exact fin h' tk acc c kp hS hacc
 .obtain⟨h',tk,acc,c,e1,_⟩:=h;cases e1
theorem DP (K:KdlSrc prog w T r d n Pz OKh) (hnt:T≠"tuple") (hh:A.handled=none) (bA:OKh s.heap) (hn:n<=sizeLine)
  (hq:∀(vs:List Value) s1,mF s s1->vs.length=n->(∀j v,vs[j]? =some v->Pz j v)->Q (.ref s1.heap.objs.size) {s1 with heap:=s1.heap.push {cls:=.type "tuple",data:=.seq vs.toArray}}):
  wpAny (model prog w) A (call (.type "tuple") [.ref r]) Q E s:=by
 have hT:=K.type s bA;refine callType_codes (Q₁:=fun obj s₁=>s₁.TypeIs obj "tuple"/\Q obj s₁) F.called_tuple (F.typeCall_tuple_1 _) F.entry_object_init ?_ fun obj s₁ h₁=>
  ⟨h₁.1,F.args_object_init_2 obj _,object_init_meets F.called_tuple.init.lookup F.called_tuple.made (by decide) prog w A.in1 _ s₁ ⟨h₁.1,rfl,h₁.2⟩⟩
 refine codeAny_of_tree ?_;refine wpAny_bind (m:=checkBuiltinCall "tuple.__new__" ⟨[.type "tuple",.ref r],[]⟩) (wpAny_of_eq (F.newCall_tuple_1 _) (wpAny_pure ⟨plainId_quiet F.plain_tuple_new _,codeAny_builtin F.entry_tuple_new ?_⟩));rw[Around.under_plainId F.plain_tuple_new _];have a1:=sub_tuple_self;have a2:=init_tuple_lookup;have a3:=madeHere_tuple;have a4:(Value.type T==Value.type "tuple")=false:=K.notTuple;unfold Builtin.«tuple.__new__»;generalize hC:collect=C
 wp_walk using wpAny_typeOf hT
 subst hC;refine lG K hh bA hn fun vs s1 g hl hv=>?_
 refine wpAny_bind (wpAny_pure ?_);unfold Builtin.Tuple.tupleExact;refine wpAny_bind (m:=newObj (.type "tuple") (.seq vs.toArray)) (wpAny_newObj_type ?_ (by show vs.toArray.size<=sizeLine;rw[size_toArray,hl];exact hn));exact wpAny_pure ⟨⟨_,get?_push_size _ rfl,rfl⟩,hq vs s1 g hl hv⟩
theorem oU {v:Value} {R:List Str->Prop}
  (hcol:∀(E':Value->Shared->Prop) (Q':List Value->Shared->Prop),(∀vs s1 ss,mF s s1->StrsAre vs ss->R ss->Q' vs s1)->wpAny (model prog w) A.in1 (collect v) Q' E' s) (h64:∀ss,R ss->ss.length<64)
  (hq:∀(a:Addr) s2 (out:List Value) c ss ss',mF s s2->s.heap.objs.size<=a->s2.heap.get? a=some (seqObj "list" out.toArray c)->StrsAre out ss'->R ss->ss'.Perm ss->sortedS ss'=true->Q (.ref a) s2):
  wpAny (model prog w) A (call (.builtin "sorted") [v]) Q E s:=by
 refine Calls.call_function_entry kind_sorted plain_sorted entry_sorted (args_sorted1 _) ?_;unfold Builtin.«sorted»;refine wpAny_bind (m:=checkCount "sorted" 1 1 _) (wpAny_pure (wpAny_bind (hcol _ _ fun vs s1 ss g hS hR=>?_)));have hl:vs.length<64:=by rw[hS.length];exact h64 ss hR
 refine wpAny_bind (wpAny_newList ?_ (by simp only[sizeLine_eq];omega));have e1:(s1.heap.push (seqObj "list" vs.toArray 0)).get? s1.heap.objs.size=some (seqObj "list" vs.toArray 0):=get?_push_size _ rfl;refine wpAny_bind (wpAny_holding (wpAny_call_entry slot_list_sort ⟨_,e1,rfl⟩ entry_list_sort (list_sort_treeK strKind_oneLt e1 hS.keysOf (fun v₁ v₂ rest e=>keyKind_strs (by rw[<-e];exact hS)) hl fun st' a1 a2=>⟨_,rfl,?_⟩) (args_list_sort _)));obtain⟨ss',b1,b2,b3⟩:=sorted_out_str hS a1 a2;refine wpAny_pure ⟨_,rfl,?_⟩;obtain⟨c,hc⟩:=sortedHeap_at (out:=(arrOf st').map (·.2)) e1;refine hq s1.heap.objs.size _ ((arrOf st').map (·.2)).toList c ss ss' ?_ g.size (by rw[Array.toArray_toList];exact hc) b1 hR b2 b3;obtain⟨h',tk,dr,rfl,gz,k⟩:=g;refine⟨_,tk,dr,rfl,le_trans gz (le_of_lt (lt_size hc)),fun b o e=>?_⟩;have hb:=lt_size (k b o e);rw[sortedHeap_old (ne_of_lt hb) (by rw[size_push'];exact lt_succ_of_lt hb)];exact get?_push_of_some _ (k b o e)
end
section
variable {X:Cx} {pins:List (Addr×Obj)} {σ:St} {H:Hp} {s s':Shared}
theorem Inv.QS (I:Inv X pins σ H s) (g:mF s s'):Inv X pins σ H s':=by
 obtain⟨h',tk,dr,rfl,_,k⟩:=g;exact I.call (g':=s.gens) (d':=dr) (t':=tk) (ch:=[]) (Un.kept k) (I.bA.kept k) I.bare fun _ z=>nomatch z
end
noncomputable def JY (v d:Addr):HO:=.ext fun h=>h.IsValuesView v d
theorem KV.vals (r:KV kvs vs):Vals (kvs.map (·.2)) (vs.map (·.2)):=by
 unfold KV at r
 induction r with
 |nil=>exact .nil
 |cons h t ih=>exact .cons h.2 ih
theorem KV.len (r:KV kvs vs):kvs.length=vs.length:=by
 have:=congrArg List.length r.keys;simpa using this
theorem Inv.LB {X:Cx} {pins:List (Addr×Obj)} {σ:St} {H:Hp} {s:Shared} {a:Addr} {o:HO} (I:Inv X pins σ H s) (g:mF s s') (hp:s.heap.objs.size<=a) (new:dN X.prog X.w (L2.upd H a o) s'.heap a o):Inv X pins σ (L2.upd H a o) s':=by
 obtain⟨h',tk,dr,rfl,_,k⟩:=g;exact I.call (g':=s.gens) (d':=dr) (t':=tk) (ch:=[]) (Un.laid k hp (I.bA.fresh hp)) (I.bA.laid k hp new) I.bare fun _ z=>nomatch z
section
variable {X:Cx}
def pQ (to:TE):TE:=fun σ H Q=>to σ H fun x H1=>∃a kvs,x= .ref a/\ED H1 a kvs/\∀v,H1 v=none->Q (.ref v) (upd H1 v (JY v a))
theorem JW {o:Expr} {to:TE} {apos cpos:Pos} (ho:PE X o to) (hbase:attributeBase o "values" X.env (eval o X.env)=eval o X.env:=by rfl) (hline:(apos.endLine==cpos.line)=true:=by rfl):
  PE X (.Call (.Attribute o "values" apos) [] [] cpos) (pQ to):=by
 intro pins s σ H Q I h;refine wpAny_Call_method0_late hbase hline (cE (ho pins s σ H _ I h) fun v s1 ⟨x,H1,I1,r1,a,kvs,ex,ha,q1⟩=>?_);subst ex;obtain rfl:v=Value.ref a:=r1;obtain⟨hz,hd,vs,rel,dd⟩:=jJ I1.bA ha;refine⟨"dict","dict.values",plainAttrs_dict,PySem.F.slot_dict_values,PySem.F.type_dict_values,dd.typeIs,dd.mapOf.noDict,Calls.callWith_builtin rfl (PySem.evalArgs_none ?_)⟩;refine call_meetsIn PySem.F.slot_dict_values dd.typeIs PySem.F.entry_dict_values (PySem.F.args_dict_values_1 _) (meets_dict_values (bH X.prog X.w) a hd) ⟨⟨vs,dd⟩,?_⟩;have e0:(s1.heap.push {cls:=.type "dict_values",data:=.fields #[.ref a]}).get? s1.heap.objs.size=some {cls:=.type "dict_values",data:=.fields #[.ref a]}:=get?_push_size _ rfl;refine⟨.ref s1.heap.objs.size,_,I1.laid (t':=s1.toks) (o:=JY s1.heap.objs.size a) (fun b u e=>get?_push_of_some _ e) (le_refl _) ⟨⟨_,e0,rfl,rfl⟩,⟨_,e0⟩,fun h1 h2 ⟨u,e,c⟩ k=>⟨u,k u e,c⟩⟩,rfl,q1 _ (I1.bA.fresh (le_refl _))⟩
def PR:List V->Hp->VK->Prop:=fun xs H Q=>∃v a kvs,xs=[.ref v]/\H v=some (JY v a)/\ED H a kvs/\∀l,H l=none->Q (.ref l) (upd H l (.tup (kvs.map (·.2))))
theorem RH (hc:X.calm=true:=by rfl):dR X (.type "tuple") PR:=by
 intro pins s σ H xs us Q I r ⟨v,a,kvs,e,hv,ha,q⟩;subst e;obtain⟨u,rfl,rx⟩:=vals1 r;cases rx;obtain⟨hz,hd,vs,rel,dd⟩:=jJ I.bA ha;obtain⟨ep,dd⟩:=dd.dictAt;refine DP (kdl_values (knd:=bH X.prog X.w) (r:=v) (d:=a) (kvs:=vs) (ep:=ep)) (by decide) (by exact I.ok.hd hc) ⟨(I.bA v _ hv).1,dd⟩ (by rw[<-rel.len];exact hz) fun ws s1 g hl hw=>?_
 have ew:=kdl_vals_eq ws hl hw;subst ew;have I1:=I.QS g;exact⟨.ref s1.heap.objs.size,_,I1.laid (t':=s1.toks) (o:=.tup (kvs.map (·.2))) (fun b o e=>get?_push_of_some _ e) (le_refl _) ⟨by rw[length_map];exact hz,_,rel.vals,oI.new _ _⟩,rfl,q _ (I1.bA.fresh (le_refl _))⟩
def lD:List V->Hp->VK->Prop:=fun xs H Q=>∃a kvs ss,xs=[.ref a]/\ED H a kvs/\kvs.map (·.1)=ss.map Sum.inr/\ss.length<64/\∀l out,out.Perm ss->sortedS out=true->H l=none->Q (.ref l) (upd H l (.lst (out.map V.str)))
theorem t5 {prog:Program} {w:World}:∀{ss:List Str} {vs:List (Key×Value)} {us:List Value},vs.map (·.1)=ss.map Sum.inr->us.length=vs.length->(∀(j:Nat) v,us[j]? =some v->∃k x,vs[j]? =some (k,x)/\(bH prog w).is k v=true)->StrsAre us ss
 |[],[],[],_,_,_=>.nil
 |[],[],_::_,_,h,_=>by cases h
 |[],_::_,_,h,_,_=>by cases h
 |_::_,[],_,h,_,_=>by cases h
 |_::_,_::_,[],_,h,_=>by cases h
 | t::ss,(k,x)::vs,u::us,h,hl,hu=>by
  rw[map_cons,map_cons]at h;have h:=List.cons.inj h;have e:k=Sum.inr t:=h.1;subst e;obtain⟨k',x',e',hk⟩:=hu 0 u rfl;cases e';rcases bL (show gU (Sum.inr t) u=true from hk)with⟨i,tk,z,_⟩|⟨y,tk,z,rfl⟩
  .cases z
  .cases z;exact .cons _ tk (t5 h.2 (by simpa using hl) fun j v e=>hu (j+1) v (by simpa using e))
theorem BU (hc:X.calm=true:=by rfl):dR X (.builtin "sorted") lD:=by
 intro pins s σ H xs us Q I r ⟨a,kvs,ss,e,ha,hk,h64,q⟩;subst e;obtain⟨u,rfl,rx⟩:=vals1 r;cases rx;obtain⟨hz,hd,vs,rel,dd⟩:=jJ I.bA ha;obtain⟨ep,dd⟩:=dd.dictAt;rw[rel.keys]at hk;refine oU (R:=fun tt=>tt=ss) (fun E' Q' k=>?_) (fun tt e=>by rw[e];exact h64) fun l s2 out c tt tt' g hl hat h1 h2 h3 h4=>?_
 .exact lG (kdl_dict (knd:=bH X.prog X.w) (d:=a) (kvs:=vs) (ep:=ep) hd) (by exact I.ok.hd hc) dd (by rw[<-rel.len];exact hz) fun ws s1 g hl hw=>k ws s1 ss g (t5 hk hl hw) rfl
 .subst h2;exact⟨.ref l,_,I.LB (o:=.lst (tt'.map V.str)) g hl ⟨by rw[length_map,h3.length_eq];rw[sizeLine_eq];omega,out,c,n5 h1,hat⟩,rfl,q _ tt' h3 h4 (I.bA.fresh hl)⟩
end
end L2
namespace Mr
open PySem PySem.Spec L2 PyProof.Rows PySem.W
variable {A:Around} {C:Bool->Shared->Prop} {ps:List PV} {n:Nat} {prog:Program} {s:Shared} {w:World}
noncomputable def eM (lt:PV->PV->Option Bool):List PV->List PV->Option Bool
 |[],[]=>some false
 |[],_::_=>some true
 |_::_,[]=>some false
 |x::xs,y::ys=>if cV x y=true then eM lt xs ys else lt x y
noncomputable def i8:Nat->PV->PV->Option Bool
 |_,.str a,.str b=>some (decide (a.cps.toList<b.cps.toList))
 |_,.int a,.int b=>some (decide (a<b))
 |n+1,.tup xs,.tup ys=>eM (i8 n) xs ys
 |_,_,_=>none
section
variable {s:Shared}
theorem EI {lt:PV->PV->Option Bool}:∀{xs ys:List PV} {us vs:List Value} {c:Bool} {fin:Bool},cI s.heap xs us->cI s.heap ys vs->(∀x∈xs,∀y∈ys,∀u v,Lies s.heap x u->Lies s.heap y v->SeqAt.EqAt A s u v (cV x y)/\∀b,lt x y=some b->xU A s u v b)->
  fin=decide (us.length<vs.length)->eM lt xs ys=some c->yK A s fin (us.zip vs) c:=by
 intro xs
 induction xs with
 |nil=>
  intro ys us vs c fin h1 h2 hk hf h;cases h1;cases h2<;>(cases h;rw[hf];exact .done)
 | cons x xs ih=>
  intro ys us vs c fin h1 h2 hk hf h;cases h1 with
  | cons r1 rr1=>
   cases h2 with
   |nil=>cases h;rw[hf];exact .done
   | @cons y _ ys _ r2 rr2=>
    obtain⟨he,hl⟩:=hk x mem_cons_self y mem_cons_self _ _ r1 r2;unfold eM at h;cases e:cV x y with
    |true=>
     rw[e]at he;rw[if_pos e]at h;exact .same he (ih rr1 rr2 (fun a ha b hb=>hk a (mem_cons_of_mem _ ha) b (mem_cons_of_mem _ hb)) (by rw[hf];simp) h)
    |false=>
     rw[e]at he;rw[if_neg (by rw[e];exact Bool.false_ne_true)]at h;exact .less he (hl c h)
theorem HJ:∀(n:Nat) (A:Around) {p q:PV} {v u:Value} {b:Bool},A.units+n<cLine->lP n p=true->lP n q=true->Lies s.heap p v->Lies s.heap q u->i8 n p q=some b->xU A s v u b:=by
 intro n
 induction n with
 | zero=>
  intro A p q v u b hu o1 o2 h1 h2 h;cases p with
  |str x=>
   cases q with
   |str y=>cases h;cases h1;cases h2;exact fun prog w E Q q=>PySem.P.lt_str q
   |_=>cases h
  |int x=>
   cases q with
   |int y=>cases h;cases h1;cases h2;exact fun prog w E Q q=>PyProof.Rows.lt_int q
   |_=>cases h
  |_=>cases q<;>cases h
 | succ n ih=>
  intro A p q v u b hu o1 o2 h1 h2 h;cases p with
  |str x=>
   cases q with
   |str y=>cases h;cases h1;cases h2;exact fun prog w E Q q=>PySem.P.lt_str q
   |_=>cases h
  |int x=>
   cases q with
   |int y=>cases h;cases h1;cases h2;exact fun prog w E Q q=>PyProof.Rows.lt_int q
   |_=>cases h
  | tup xs=>
   cases q with
   | tup ys=>
    cases h1 with
    | tup t1 l1=>
     cases h2 with
     |tup t2 l2=>
      have hin:A.in1.units=A.units+1:=rfl;have o1:xs.all (lP n)=true:=o1;have o2:ys.all (lP n)=true:=o2;refine GR t1 t2 (by omega) ?_;simpa using EI (A:=A.in1) (s:=s) l1 l2 (fun x hx y hy u v a b=>⟨uZ n A.in1 (by omega) (all_eq_true.mp o1 x hx) (all_eq_true.mp o2 y hy) a b,fun c hc=>ih A.in1 (by omega) (all_eq_true.mp o1 x hx) (all_eq_true.mp o2 y hy) a b hc⟩) rfl h
   |_=>cases h
  |_=>cases q<;>cases h
theorem HQ {fin:Bool} {lt:PV->PV->Option Bool}:∀{xs ys:List PV} {us vs:List Value} {c:Bool} (i:Nat),1<=i->cI s.heap xs us->cI s.heap ys vs->
  (∀x∈xs,∀y∈ys,∀u v,Lies s.heap x u->Lies s.heap y v->SeqAt.EqAt A s u v (cV x y)/\∀b,lt x y=some b->xU A s u v b)->fin=decide (us.length<vs.length)->eM lt xs ys=some c->C c s->KatLex prog w A true fin C (us.zip vs) i s:=by
 intro xs
 induction xs with
 |nil=>
  intro ys us vs c i hi h1 h2 hk hf h hC;cases h1;cases h2<;>(cases h;exact kat_nil (by rw[hf];exact hC))
 | cons x xs ih=>
  intro ys us vs c i hi h1 h2 hk hf h hC;cases h1 with
  | cons r1 rr1=>
   cases h2 with
   |nil=>cases h;exact kat_nil (by rw[hf];exact hC)
   | @cons y _ ys _ r2 rr2=>
    obtain⟨he,hl⟩:=hk x mem_cons_self y mem_cons_self _ _ r1 r2;refine kat_cons (he prog w _ _ ?_);unfold eM at h;cases e:cV x y with
    |true=>
     rw[if_pos e]at h;exact kat_yes (ih (i+1) (by omega) rr1 rr2 (fun a ha b hb=>hk a (mem_cons_of_mem _ ha) b (mem_cons_of_mem _ hb)) (by rw[hf];simp) h hC)
    |false=>
     rw[if_neg (by rw[e];exact Bool.false_ne_true)]at h;refine kat_no ?_;have e0:(true && i==0)=false:=by simp;omega
     rw[e0];exact kat_one _ _ (hl c h prog w _ _ hC)
noncomputable def y8 (b:Bool):PV->Bool
 | .tup (.str _::_)=>b
 | .tup (.int _::_)=>!b
 |_=>false
noncomputable def ML (b:Bool):String:=if b then "str"else "int"
theorem RX {b:Bool} {n:Nat} {vs:List Value} (hl:cI s.heap ps vs) (hu:A.units+n<cLine) (led:∀p∈ps,y8 b p=true) (ok:∀p∈ps,lP (n+1) p=true)
  {i j:Nat} {c:Bool} {p q:PV} (hp:ps[i]? =some p) (hq:ps[j]? =some q) (hc:i8 (n+1) p q=some c) (hC:C c s):kas_ask prog w A (tuples' (Value.type (ML b) !=Value.type "tuple")) vs i j C s:=by
 have kt:(Value.type (ML b) !=Value.type "tuple")=true:=by cases b<;>decide
 obtain⟨u,hu1,lu⟩:∃u,vs[i]? =some u/\Lies s.heap p u:=by
  have hlt:i<vs.length:=by rw[<-hl.length];exact(List.getElem?_eq_some_iff.mp hp).1
  obtain⟨p',e,l⟩:=hl.get (getElem?_eq_getElem hlt);rw[hp]at e;cases e
  exact⟨_,getElem?_eq_getElem hlt,l⟩
 obtain⟨v,hv1,lv⟩:∃v,vs[j]? =some v/\Lies s.heap q v:=by
  have hlt:j<vs.length:=by rw[<-hl.length];exact(List.getElem?_eq_some_iff.mp hq).1
  obtain⟨p',e,l⟩:=hl.get (getElem?_eq_getElem hlt);rw[hq]at e;cases e
  exact⟨_,getElem?_eq_getElem hlt,l⟩
 have l1:=led p (mem_of_getElem? hp);have l2:=led q (mem_of_getElem? hq);have o1:=ok p (mem_of_getElem? hp);have o2:=ok q (mem_of_getElem? hq);show wpAny _ _ (keyLt' _ (vs.getD i Value.none) (vs.getD j Value.none)) C _ s;rw[getD_eq_getElem?_getD,hu1,getD_eq_getElem?_getD,hv1,kt];cases lu with
 | @tup _ us xs t1 r1=>
  cases lv with
  | @tup _ vs' ys t2 r2=>
   obtain⟨oa,ga,_,na,da⟩:=t1;obtain⟨ob,gb,_,nb,db⟩:=t2;refine kat_lt ga da gb db ?_;have o1:xs.all (lP n)=true:=o1;have o2:ys.all (lP n)=true:=o2;have key:∀x∈xs,∀y∈ys,∀u v,Lies s.heap x u->Lies s.heap y v->SeqAt.EqAt A s u v (cV x y)/\∀b,i8 n x y=some b->xU A s u v b:=fun x hx y hy u v a b=>
    ⟨uZ n A hu (all_eq_true.mp o1 x hx) (all_eq_true.mp o2 y hy) a b,fun c hc=>HJ n A hu (all_eq_true.mp o1 x hx) (all_eq_true.mp o2 y hy) a b hc⟩
   have hc:eM (i8 n) xs ys=some c:=hc;cases r1 with
   |nil=>cases l1
   | @cons x u0 xs us a1 a2=>
    cases r2 with
    |nil=>cases l2
    | @cons y v0 ys vs' b1 b2=>
     obtain⟨he,_⟩:=key x mem_cons_self y mem_cons_self _ _ a1 b1;refine kat_cons (he prog w _ _ ?_);unfold eM at hc;cases e:cV x y with
     |true=>
      rw[if_pos e]at hc;exact kat_yes (HQ 1 (le_refl _) a2 b2 (fun a ha b hb=>key a (mem_cons_of_mem _ ha) b (mem_cons_of_mem _ hb)) (by simp) hc hC)
     | false=>
      rw[if_neg (by rw[e];exact Bool.false_ne_true)]at hc;refine kat_no ?_;cases x with
      | str x=>
       cases y with
       |str y=>
        have hc:some (decide (x.cps.toList<y.cps.toList))=some c:=by cases n<;>exact hc
        cases hc;cases a1;cases b1;exact oneLt_str hC
       |int y=>cases b<;>cases l1<;>cases l2
       |_=>cases l2
      | int x=>
       cases y with
       |int y=>
        have hc:some (decide (x<y))=some c:=by cases n<;>exact hc
        cases hc;cases a1;cases b1;exact oneLt_int hC
       |str y=>cases b<;>cases l1<;>cases l2
       |_=>cases l2
      |_=>cases l1
  |_=>cases l2
 |_=>cases l1
end
noncomputable def qA:Nat->PV->Bool
 |_,.aZ=>true
 |_,.int _=>true
 |_,.str _=>true
 |n+1,.tup ps=>ps.all (qA n)
 |_,_=>false
theorem vI:∀{n:Nat} {p:PV},qA n p=true->lP n p=true:=by
 intro n
 induction n with
 |zero=>intro p h;cases p<;>first|rfl|cases h
 |succ n ih=>
  intro p h;cases p with
  |tup ps=>exact all_eq_true.mpr fun x hx=>ih (all_eq_true.mp h x hx)
  |lst ps=>cases h
  |AH ps=>cases h
  |ty x=>cases h
  |bl x=>cases h
  |_=>rfl
theorem BK (ih:∀{p q:PV},qA n p=true->qA n q=true->cV p q=true->p=q):∀{xs ys:List PV},xs.all (qA n)=true->ys.all (qA n)=true->fH xs ys=true->xs=ys
 |[],[],_,_,_=>rfl
 |[],_::_,_,_,h=>by simp[fH]at h
 |_::_,[],_,_,h=>by simp[fH]at h
 |x::xs,y::ys,h1,h2,h=>by
  simp only[fH,and_eq_true]at h;rw[all_cons,and_eq_true]at h1 h2;rw[ih h1.1 h2.1 h.1,BK ih h1.2 h2.2 h.2]
theorem z4:∀{n:Nat} {p q:PV},qA n p=true->qA n q=true->cV p q=true->p=q:=by
 intro n
 induction n with
 |zero=>
  intro p q h1 h2 h;cases p<;>cases q<;>first|rfl|(cases h1;done)|(cases h2;done)|(simp[cV]at h;try subst h;try rfl)
 | succ n ih=>
  intro p q h1 h2 h;cases p with
  |tup xs=>
   cases q with
   |tup ys=>rw[mC]at h;rw[BK ih h1 h2 h]
   |_=>simp[cV]at h
  |lst xs=>cases h1
  |AH xs=>cases h1
  |ty xs=>cases h1
  |bl xs=>cases h1
  |aZ=>cases q<;>first|rfl|(simp[cV]at h)
  |int i=>cases q<;>first|(cases h2;done)|(simp[cV]at h;try subst h;try rfl)
  |str i=>cases q<;>first|(cases h2;done)|(simp[cV]at h;try subst h;try rfl)
theorem tQ (ih:∀{p:PV},qA n p=true->cV p p=true):∀{xs:List PV},xs.all (qA n)=true->fH xs xs=true
 |[],_=>by simp[fH]
 |x::xs,h=>by
  rw[all_cons,and_eq_true]at h;simp only[fH,and_eq_true];exact⟨ih h.1,tQ ih h.2⟩
theorem GS:∀{n:Nat} {p:PV},qA n p=true->cV p p=true:=by
 intro n
 induction n with
 |zero=>intro p h;cases p<;>first|(simp[cV];done)|cases h
 |succ n ih=>
  intro p h;cases p with
  |tup xs=>rw[mC];exact tQ ih h
  |lst xs=>cases h
  |AH xs=>cases h
  |ty xs=>cases h
  |bl xs=>cases h
  |_=>simp[cV]
noncomputable def code:Nat->PV->List Int
 |_,.str x=>x.cps.toList.map (fun c:Nat=>(c:Int)+1)++[0]
 |_,.int i=>[i]
 |n+1,.tup xs=>xs.flatMap (fun x=>1::code n x)++[0]
 |_,_=>[0]
noncomputable abbrev g7:List Int->List Int->Bool:=jG AQ
theorem wU (a r r':List Int):g7 (a++r) (a++r')=g7 r r':=by
 induction a with
 |nil=>rfl
 |cons x a ih=>
  show gK AQ x x (g7 (a++r) (a++r'))=_;exact(gM (A:=AQ) (a:=x)).trans ih
theorem iH {x y:Int} {r r':List Int}:g7 (x::r) (y::r')=if x=y then g7 r r' else decide (x<y):=by
 show gK AQ x y (g7 r r')=_;rcases fX (A:=AQ) x y with⟨a,b⟩|⟨a,b⟩|a
 .rw[fB a];have a:=of_decide_eq_true a;rw[if_neg (by omega),decide_eq_true a]
 .rw[jL a];have a:=of_decide_eq_true a;rw[if_neg (by omega),decide_eq_false (by omega)]
 .subst a;rw[if_pos rfl];exact gM (A:=AQ) (a:=x)
theorem B0:∀(a b:List Nat) (r r':List Int),g7 ((a.map fun c:Nat=>(c:Int)+1)++[0]++r) ((b.map fun c:Nat=>(c:Int)+1)++[0]++r')=if a=b then g7 r r' else decide (a<b)
 |[],[],r,r'=>by
  rw[if_pos rfl];exact wU [0] r r'
 |[],y::b,r,r'=>by
  rw[if_neg (by simp)];show g7 (0::r) (((y:Int)+1)::_)=_;rw[iH,if_neg (by omega),decide_eq_true (by omega)];exact(decide_eq_true (by simp)).symm
 |x::a,[],r,r'=>by
  rw[if_neg (by simp)];show g7 (((x:Int)+1)::_) (0::r')=_;rw[iH,if_neg (by omega),decide_eq_false (by omega)];exact(decide_eq_false (by simp)).symm
 | x::a,y::b,r,r'=>by
  show g7 (((x:Int)+1)::((a.map fun c:Nat=>(c:Int)+1)++[0]++r)) (((y:Int)+1)::((b.map fun c:Nat=>(c:Int)+1)++[0]++r'))=_;rw[iH,B0 a b r r']
  by_cases e:x=y
  .subst e;rw[if_pos rfl]
   by_cases e2:a=b
   .subst e2;rw[if_pos rfl,if_pos rfl]
   .rw[if_neg e2,if_neg (by simpa using e2)];congr 1;simp[List.cons_lt_cons_iff]
  .rw[if_neg (by omega),if_neg (by intro z;exact e (List.cons.inj z).1)]
   by_cases h:x<y
   .rw[decide_eq_true (show(x:Int)+1<y+1 by omega)];exact(decide_eq_true (List.cons_lt_cons_iff.mpr (.inl h))).symm
   .rw[decide_eq_false (show¬(x:Int)+1<y+1 by omega)];refine(decide_eq_false fun z=>?_).symm;rcases List.cons_lt_cons_iff.mp z with z|z
    .exact h z
    .exact e z.1
theorem xX (ih:∀{p q:PV} {b:Bool} (r r':List Int),qA n p=true->qA n q=true->i8 n p q=some b->g7 (code n p++r) (code n q++r')=if cV p q=true then g7 r r' else b):
  ∀{xs ys:List PV} {b:Bool} (r r':List Int),xs.all (qA n)=true->ys.all (qA n)=true->eM (i8 n) xs ys=some b->
   g7 (xs.flatMap (fun x=>1::code n x)++[0]++r) (ys.flatMap (fun x=>1::code n x)++[0]++r')=if fH xs ys=true then g7 r r' else b
 |[],[],b,r,r',_,_,h=>by
  rw[if_pos (by simp[fH])];exact wU [0] r r'
 |[],y::ys,b,r,r',_,_,h=>by
  cases h;rw[if_neg (by simp[fH])];show g7 (0::r) (1::_)=_;rw[iH];rfl
 |x::xs,[],b,r,r',_,_,h=>by
  cases h;rw[if_neg (by simp[fH])];show g7 (1::_) (0::r')=_;rw[iH];rfl
 | x::xs,y::ys,b,r,r',h1,h2,h=>by
  rw[all_cons,and_eq_true]at h1 h2;have e1:∀(z:PV) (zs:List PV) (w:List Int),(z::zs).flatMap (fun x=>1::code n x)++[0]++w=1::(code n z++(zs.flatMap (fun x=>1::code n x)++[0]++w)):=fun z zs w=>by simp
  rw[e1,e1,iH,if_pos rfl];unfold eM at h;cases e:cV x y with
  |true=>
   rw[if_pos e]at h;have exy:=z4 h1.1 h2.1 e;subst exy;rw[wU,xX ih r r' h1.2 h2.2 h];simp only[fH,e,Bool.true_and]
  |false=>
   rw[if_neg (by rw[e];exact Bool.false_ne_true)]at h;rw[ih _ _ h1.1 h2.1 h,if_neg (by rw[e];exact Bool.false_ne_true),if_neg (by simp[fH,e])]
theorem JR:∀{n:Nat} {p q:PV} {b:Bool} (r r':List Int),qA n p=true->qA n q=true->i8 n p q=some b->g7 (code n p++r) (code n q++r')=if cV p q=true then g7 r r' else b:=by
 have str:∀{n:Nat} {x y:Str} {b:Bool} (r r':List Int),i8 n (.str x) (.str y)=some b->g7 (code n (.str x)++r) (code n (.str y)++r')=if cV (.str x) (.str y)=true then g7 r r' else b:=fun{n x y b} r r' h=>by
  have h:some (decide (x.cps.toList<y.cps.toList))=some b:=by cases n<;>exact h
  cases h;have e1:∀z:Str,code n (.str z)=z.cps.toList.map (fun c:Nat=>(c:Int)+1)++[0]:=fun z=>by cases n<;>rfl
  rw[e1,e1,B0]
  by_cases e:x=y
  .subst e;rw[if_pos rfl,if_pos (by simp[cV])]
  .rw[if_neg (fun z=>e (BW z)),if_neg (by simpa [cV]using e)]
 have int:∀{n:Nat} {x y:Int} {b:Bool} (r r':List Int),i8 n (.int x) (.int y)=some b->g7 (code n (.int x)++r) (code n (.int y)++r')=if cV (.int x) (.int y)=true then g7 r r' else b:=fun{n x y b} r r' h=>by
  have h:some (decide (x<y))=some b:=by cases n<;>exact h
  cases h;have e1:∀z:Int,code n (.int z)=[z]:=fun z=>by cases n<;>rfl
  rw[e1,e1];show g7 (x::r) (y::r')=_;rw[iH]
  by_cases e:x=y
  .subst e;rw[if_pos rfl,if_pos (by simp[cV])]
  .rw[if_neg e,if_neg (by simpa [cV]using e)]
 intro n
 induction n with
 | zero=>
  intro p q b r r' h1 h2 h;cases p with
  |str x=>cases q with
   |str y=>exact str r r' h
   |_=>cases h
  |int x=>cases q with
   |int y=>exact int r r' h
   |_=>cases h
  |_=>cases q<;>cases h
 | succ n ih=>
  intro p q b r r' h1 h2 h;cases p with
  |str x=>cases q with
   |str y=>exact str r r' h
   |_=>cases h
  |int x=>cases q with
   |int y=>exact int r r' h
   |_=>cases h
  | tup xs=>cases q with
   |tup ys=>
    rw[mC];exact xX ih r r' h1 h2 h
   |_=>cases h
  |_=>cases q<;>cases h
theorem BC (ih:∀{p q:PV},i8 n p q=some false->i8 n q p=some false->cV p q=true) (sym:∀p q:PV,cV p q=cV q p):∀{xs ys:List PV},eM (i8 n) xs ys=some false->eM (i8 n) ys xs=some false->fH xs ys=true
 |[],[],_,_=>by simp[fH]
 |[],_::_,h,_=>by cases h
 |_::_,[],_,h=>by cases h
 | x::xs,y::ys,h,h'=>by
  unfold eM at h h';rw[sym y x]at h';cases e:cV x y with
  |true=>
   rw[if_pos e]at h h';simp only[fH,e,Bool.true_and];exact BC ih sym h h'
  |false=>
   rw[if_neg (by rw[e];exact Bool.false_ne_true)]at h h';rw[ih h h']at e;cases e
mutual
theorem B2:∀p q:PV,cV p q=cV q p
 | .aZ,q=>by cases q<;>simp[cV]
 | .bl a,q=>by cases q<;>simp only[cV]<;>(rw[Bool.eq_iff_iff,beq_iff_eq,beq_iff_eq];exact eq_comm)
 | .int a,q=>by cases q<;>simp only[cV]<;>(rw[Bool.eq_iff_iff,beq_iff_eq,beq_iff_eq];exact eq_comm)
 | .str a,q=>by cases q<;>simp only[cV]<;>(rw[Bool.eq_iff_iff,beq_iff_eq,beq_iff_eq];exact eq_comm)
 | .ty a,q=>by cases q<;>simp[cV]
 | .AH a,q=>by cases q<;>simp[cV]
 | .tup xs,q=>by
  cases q with
  |tup ys=>simp only[cV];exact rP xs ys
  |_=>simp[cV]
 | .lst xs,q=>by
  cases q with
  |lst ys=>simp only[cV];exact rP xs ys
  |_=>simp[cV]
theorem rP:∀xs ys:List PV,fH xs ys=fH ys xs
 |[],ys=>by cases ys<;>simp[fH]
 |x::xs,[]=>by simp[fH]
 |x::xs,y::ys=>by simp only[fH];rw[B2 x y,rP xs ys]
end
theorem SJ:∀{n:Nat} {p q:PV},i8 n p q=some false->i8 n q p=some false->cV p q=true:=by
 have str:∀{x y:Str},¬x.cps.toList<y.cps.toList->¬y.cps.toList<x.cps.toList->cV (.str x) (.str y)=true:=fun h h'=>by
  have e:=List.le_antisymm (not_lt.mp h') (not_lt.mp h);rw[BW e];simp[cV]
 have int:∀{x y:Int},¬x<y->¬y<x->cV (.int x) (.int y)=true:=fun h h'=>by
  have e:_=_:=Int.le_antisymm (Int.not_lt.mp h') (Int.not_lt.mp h);rw[e];simp[cV]
 intro n
 induction n with
 | zero=>
  intro p q h h';cases p with
  |str x=>cases q with
   |str y=>exact str (of_decide_eq_false (Option.some.inj h)) (of_decide_eq_false (Option.some.inj h'))
   |_=>cases h
  |int x=>cases q with
   |int y=>exact int (of_decide_eq_false (Option.some.inj h)) (of_decide_eq_false (Option.some.inj h'))
   |_=>cases h
  |_=>cases q<;>cases h
 | succ n ih=>
  intro p q h h';cases p with
  |str x=>cases q with
   |str y=>exact str (of_decide_eq_false (Option.some.inj h)) (of_decide_eq_false (Option.some.inj h'))
   |_=>cases h
  |int x=>cases q with
   |int y=>exact int (of_decide_eq_false (Option.some.inj h)) (of_decide_eq_false (Option.some.inj h'))
   |_=>cases h
  |tup xs=>cases q with
   |tup ys=>rw[mC];exact BC ih B2 h h'
   |_=>cases h
  |_=>cases q<;>cases h
noncomputable def eI (n:Nat) (ps:List PV):Bool:=ps.all fun p=>qA n p && ps.all fun q=>(i8 n p q).isSome
noncomputable abbrev pA:KeyOrd:=OM AQ
noncomputable def qC (n:Nat) (a b:PV):Bool:=!g7 (code n b) (code n a)
noncomputable def t8 (n:Nat) (ps:List PV):List PV:=ps.mergeSort (qC n)
theorem tE (a b c:PV) (h1:qC n a b=true) (h2:qC n b c=true):qC n a c=true:=by
 unfold qC at*;rw[not_eq_true']at*;exact KeyOrd.kle_trans (O:=pA) h1 h2
theorem C5 {n:Nat} (a b:PV):(qC n a b||qC n b a)=true:=by
 unfold qC;rcases fX (A:=pA) (code n a) (code n b)with⟨x,y⟩|⟨x,y⟩|x
 .rw[show g7 (code n b) (code n a)=false from y];rfl
 .rw[show g7 (code n a) (code n b)=false from y];simp
 .rw[x,show g7 (code n b) (code n b)=false from pA.irrefl _];rfl
theorem dS (n:Nat) (ps:List PV):(t8 n ps).Perm ps:=List.mergeSort_perm ps (qC n)
theorem nX (n:Nat) (ps:List PV):(t8 n ps).Pairwise fun a b=>qC n a b=true:=List.pairwise_mergeSort tE C5 ps
theorem lJ:∀{a b:List PV},a.Pairwise (fun x y=>qC n x y=true)->b.Pairwise (fun x y=>qC n x y=true)->a.Perm b->(∀x∈a,∀y∈a,qC n x y=true->qC n y x=true->x=y)->a=b
 |[],b,_,_,p,_=>List.Perm.nil_eq p
 |x::a,[],_,_,p,_=>absurd p.symm.nil_eq (by simp)
 | x::a,y::b,ha,hb,p,an=>by
  have hx:=(pairwise_cons.mp ha).1;have hy:=(pairwise_cons.mp hb).1;have e:x=y:=by
   rcases mem_cons.mp (p.mem_iff.mp mem_cons_self)with z|z
   .exact z
   .rcases mem_cons.mp (p.mem_iff.mpr mem_cons_self)with w|w
    .exact w.symm
    .exact an x mem_cons_self y (mem_cons_of_mem _ w) (hx y w) (hy x z)
  subst e;rw[lJ (pairwise_cons.mp ha).2 (pairwise_cons.mp hb).2 p.cons_inv fun u hu v hv=>an u (mem_cons_of_mem _ hu) v (mem_cons_of_mem _ hv)]
theorem qM (h:eI n ps=true) {p q:PV} (hp:p∈ps) (hq:q∈ps):i8 n p q=some (g7 (code n p) (code n q)):=by
 have a:=all_eq_true.mp h p hp;have b:=all_eq_true.mp h q hq;rw[and_eq_true]at a b;have c:=all_eq_true.mp a.2 q hq;obtain⟨v,e⟩:=isSome_iff_exists.mp c;have c':=all_eq_true.mp b.2 p hp;obtain⟨v',e'⟩:=isSome_iff_exists.mp c';have k:=JR [] [] a.1 b.1 e;rw[append_nil,append_nil]at k;rw[e,k];cases z:cV p q with
 |false=>rw[if_neg Bool.false_ne_true]
 | true=>
  rw[if_pos rfl];have epq:=z4 a.1 b.1 z;subst epq;rw[e]at e';cases e';show some v=some false;have irr:∀{m:Nat} {p:PV} {v:Bool},qA m p=true->i8 m p p=some v->v=false:=by
   intro m p v hp h;cases v with
   |false=>rfl
   | true=>
    exfalso;cases m with
    |zero=>
     cases p with
     |str x=>exact absurd (of_decide_eq_true (Option.some.inj h)) (List.lt_irrefl _)
     |int x=>exact absurd (of_decide_eq_true (Option.some.inj h)) (by omega)
     |_=>cases h
    | succ m=>
     cases p with
     |str x=>exact absurd (of_decide_eq_true (Option.some.inj h)) (List.lt_irrefl _)
     |int x=>exact absurd (of_decide_eq_true (Option.some.inj h)) (by omega)
     | tup xs=>
      have key:∀{l:List PV},l.all (qA m)=true->eM (i8 m) l l=some false:=by
       intro l
       induction l with
       |nil=>intro _;rfl
       |cons x l ih=>
        intro hl;rw[all_cons,and_eq_true]at hl;unfold eM;rw[if_pos (GS hl.1)];exact ih hl.2
      have:=key (show xs.all (qA m)=true from hp);rw[show eM (i8 m) xs xs=some true from h]at this;cases this
     |_=>cases h
  rw[irr a.1 e]
theorem x2 (h:eI n ps=true) {p q:PV} (hp:p∈ps) (hq:q∈ps) (h1:qC n p q=true) (h2:qC n q p=true):p=q:=by
 have a:=all_eq_true.mp h p hp;have b:=all_eq_true.mp h q hq;rw[and_eq_true]at a b;unfold qC at h1 h2;rw[not_eq_true']at h1 h2;refine z4 a.1 b.1 (SJ (n:=n) ?_ ?_)
 .rw[qM h hp hq,h2]
 .rw[qM h hq hp,h1]
section
variable {X:Cx} {k:Nat}
def MH (K:Frag):List V->Hp->VK->Prop:=fun xs H Q=>∃p ys ps b,xs=[.ref p]/\bJ K H p ys/\gG K A8 H ps ys/\ys.length<64/\(∀x∈ps,y8 b x=true)/\eI 3 ps=true/\
 ∀l (ix:List Nat),ix.Perm (List.range ps.length)->(ix.map fun i=>ps.getD i .aZ).Pairwise (fun a b=>qC 3 a b=true)->H l=none->Q (.ref l) (upd H l (.lst (ix.map fun i=>ys.getD i .aZ)))
theorem tR {b:Bool}:∀{ps:List PV} {vs:List Value},cI s.heap ps vs->(∀x∈ps,y8 b x=true)->∃fs,KatTups s.heap vs fs/\fs.length=vs.length/\∀v∈fs,(∃x t,b=true/\v= .str x t)\/ ∃x t,b=false/\v= .int x t
 |[],_,.nil,_=>⟨[],.nil,rfl,fun _ h=>nomatch h⟩
 | p::ps,_,.cons l r,h=>by
  obtain⟨fs,h1,h2,h3⟩:=tR r fun z hz=>h z (mem_cons_of_mem _ hz)
  have hp:=h p mem_cons_self;cases l with
  | tup t1 r1=>
   obtain⟨o,g1,g2,m,g3⟩:=t1;cases r1 with
   |nil=>cases hp
   | cons a1 a2=>
    cases a1 with
    |str x t=>
     refine⟨.str x t::fs,.cons g1 g2 g3 (by simp) h1,by rw[length_cons,length_cons,h2],fun v hv=>?_⟩;rcases mem_cons.mp hv with e|e
     .exact .inl ⟨x,t,hp,e⟩
     .exact h3 v e
    |int x t=>
     refine⟨.int x t::fs,.cons g1 g2 g3 (by simp) h1,by rw[length_cons,length_cons,h2],fun v hv=>?_⟩;rcases mem_cons.mp hv with e|e
     .exact .inr ⟨x,t,by simpa [y8]using hp,e⟩
     .exact h3 v e
    |_=>cases hp
  |_=>cases hp
theorem GF {P:Program} {b:Bool} {vs:List Value} (hL:cI s.heap ps vs) (hu:A.units+2<cLine) (led:∀x∈ps,y8 b x=true) (ok:∀x∈ps,lP 3 x=true) (cmp:eI 3 ps=true) (h2:2<=vs.length):
  vD P w A vs (fun p=>kA pA (fun i=>code 3 (ps.getD i .aZ)) p vs.length) s:=by
 have hl:=hL.length;obtain⟨fs,k1,k2,k3⟩:=tR hL led;refine⟨tuples' (Value.type (ML b) !=Value.type "tuple"),fun Q E q=>kat_kind k1 (by omega) (fun v hv=>?_) (by cases b<;>decide) q,fun G hG=>oX.run (n:=vs.length) (ans:=CA pA (fun i=>code 3 (ps.getD i .aZ))) (fun i j C hi hj hC=>?_) (fun p h1 h2=>hG p h1 h2) (KH (by omega)) (NT (by omega))⟩
 .rcases k3 v hv with⟨x,t,rfl,rfl⟩|⟨x,t,rfl,rfl⟩
  .exact Looks.of_pure rfl
  .exact Looks.of_pure rfl
 .have e1:ps[i]? =some ps[i]:=getElem?_eq_getElem (by omega);have e2:ps[j]? =some ps[j]:=getElem?_eq_getElem (by omega);refine RX (n:=2) hL hu led ok e1 e2 (qM cmp (getElem_mem _) (getElem_mem _)) ?_;have hC:C (pA.blt (code 3 (ps.getD i .aZ)) (code 3 (ps.getD j .aZ))) _:=hC;rw[getD_eq_getElem?_getD,e1,getD_eq_getElem?_getD,e2]at hC;exact hC
theorem LC {p:Array Nat} {m:Nat} (h:kA pA (fun i=>code 3 (ps.getD i .aZ)) p m) (hm:p.toList.length=m):(p.toList.map fun i=>ps.getD i .aZ).Pairwise (fun a b=>qC 3 a b=true):=by
 rw[List.pairwise_iff_getElem];intro i j hi hj hij;rw[length_map]at hi hj;have h:=h i j (by omega) (by omega);rw[List.getElem_map,List.getElem_map];have ky:∀(i:Nat) (hi:i<p.toList.length),Ky pA (fun i=>code 3 (ps.getD i .aZ)) p i=code 3 (ps.getD p.toList[i] .aZ):=fun i hi=>by
  unfold Ky;rw[Array.getD_eq_getD_getElem?,<-getElem?_toList,getElem?_eq_getElem hi];rfl
 rw[ky i hi,ky j hj]at h;show(!g7 _ _)=true;rw[not_eq_true'];exact h
theorem NX (K:Frag) (hr:fD k X.A) (hK:X.K=K:=by rfl):dR X (.builtin "sorted") (MH K):=by
 subst hK;intro pins s σ H xs us Q I r ⟨p,ys,ps,b,e,hq,rp,h64,led,cmp,q⟩;subst e;obtain⟨u,rfl,rx⟩:=vals1 r;cases rx;obtain⟨vs,rv,pl,hz⟩:=I.list hq;have hlen:=rv.length;have hpl:=rp.length;have ok:∀x∈ps,lP 3 x=true:=fun x hx=>by
  have:=all_eq_true.mp cmp x hx;rw[and_eq_true]at this;exact vI this.1
 refine yA (R:=fun p=>kA pA (fun i=>code 3 (ps.getD i .aZ)) p vs.length) pl.isList (by omega) (fun l2 h' kp=>?_) (fun h2 i j a b=>?_) fun out p h1 h2 h3=>?_
 .have I':=I.kept (t':=s.toks) kp;have hL:cI h' ps vs:=gG.lies I' (n:=3) (all_eq_true.mpr ok) rp rv;exact GF (s:={s with heap:=h'}) hL (by have:=hr.un;show X.A.units+1+1+2<_;omega) led ok cmp l2
 .rw[show i=j by omega];exact KeyOrd.kle_refl _
 .have hp:p.toList.Perm (List.range vs.length):=by simpa using Array.perm_iff_toList_perm.mp h1
  have hlt:∀i∈p.toList,i<vs.length:=fun i hi=>mem_range.mp (hp.mem_iff.mp hi)
  have z2:=m4 rv p.toList hlt;rw[<-h3]at z2;have hpz:p.toList.length=vs.length:=by rw[hp.length_eq,length_range]
  obtain⟨c,hat⟩:=sortedAll_at s.heap vs out;refine⟨.ref (s.heap.objs.size+1),_,I.laid (t':=s.toks) (o:=.lst (p.toList.map fun i=>ys.getD i .aZ)) (fun b o e=>sortedAll_old e) (le_succ _) ⟨by rw[length_map,hpz,<-hlen];exact hz,out.toList,c,z2,hat⟩,rfl,q _ _ (by rw[hpl,hlen];exact hp) (LC h2 hpz) (I.bA.fresh (le_succ _))⟩
end
end Mr
namespace L2
open PySem PySem.Spec PyProof.Rows
variable {d l:Addr} {es:Array DictEntry} {h:Heap} {H:Hp} {a:Key} {xs:List (List NK×Addr×Value)} {kvs:List NE} {ep k m n:Nat} {od:Obj}
inductive NK where
 |k (x:Key)
 |t (xs:List NK)
noncomputable instance:DecidableEq NK:=fun a b=>Classical.propDecidable _
mutual
inductive wZ (h:Heap):NK->Value->Prop
 |k {x:Key} {v:Value}:gU x v=true->wZ h (.k x) v
 |t {xs:List NK} {a:Addr} {us:List Value}:IsTup h a us.toArray->IsL h xs us->wZ h (.t xs) (.ref a)
inductive IsL (h:Heap):List NK->List Value->Prop
 |nil:IsL h [] []
 |cons {x:NK} {v:Value} {xs:List NK} {vs:List Value}:wZ h x v->IsL h xs vs->IsL h (x::xs) (v::vs)
end
mutual
noncomputable def uL:NK->Nat
 | .k _=>0
 | .t xs=>qI xs+1
noncomputable def qI:List NK->Nat
 |[]=>0
 |x::xs=>max (uL x) (qI xs)
end
mutual
noncomputable def nQ (w:World):NK->Int
 | .k x=>PL w x
 | .t xs=>reduceHash (Builtin.Tuple.tupleHashOf (mJ w xs))
noncomputable def mJ (w:World):List NK->List Int
 |[]=>[]
 |x::xs=>nQ w x::mJ w xs
end
mutual
noncomputable def HZ:NK->Nat
 | .k _=>1
 | .t xs=>E1 xs+1
noncomputable def E1:List NK->Nat
 |[]=>0
 |x::xs=>HZ x+E1 xs
end
theorem JJ (w:World) (x:NK) (xs:List NK):mJ w (x::xs)=nQ w x::mJ w xs:=by rw[mJ]
theorem JL (w:World):mJ w []=[]:=by rw[mJ]
theorem P1 (x:NK) (xs:List NK):E1 (x::xs)=HZ x+E1 xs:=by rw[E1]
theorem O0:E1 []=0:=by rw[E1]
theorem K2 (x:NK) (xs:List NK):qI (x::xs)=max (uL x) (qI xs):=by rw[qI]
theorem uI (xs:List NK):uL (.t xs)=qI xs+1:=by rw[uL]
theorem IM (w:World) (xs:List NK):nQ w (.t xs)=reduceHash (Builtin.Tuple.tupleHashOf (mJ w xs)):=by rw[nQ]
theorem OP (xs:List NK):HZ (.t xs)=E1 xs+1:=by rw[HZ]
theorem IsL.length:∀{xs:List NK} {vs:List Value},IsL h xs vs->xs.length=vs.length
 |_,_,.nil=>rfl
 |_,_,.cons _ r=>by rw[length_cons,length_cons,r.length]
theorem IsL.get:∀{xs:List NK} {vs:List Value} {j:Nat} {v:Value},IsL h xs vs->vs[j]? =some v->∃x,xs[j]? =some x/\wZ h x v
 |_,_,_,_,.nil,e=>by simp at e
 |_,_,0,_,.cons i _,e=>by simp at e;subst e;exact⟨_,rfl,i⟩
 |_,_,j+1,_,.cons _ r,e=>by simpa using r.get (j:=j) (by simpa using e)
theorem zV {x:NK}:∀{xs:List NK},x∈xs->uL x<=qI xs
 |y::xs,h=>by
  unfold qI;rcases mem_cons.mp h with rfl|h
  .exact Nat.le_max_left _ _
  .exact le_trans (zV h) (Nat.le_max_right _ _)
theorem FW {a:Addr} {us vs:List Value} (x:IsTup h a us.toArray) (y:IsTup h a vs.toArray):us=vs:=by
 obtain⟨o,e,c,n,d⟩:=x;obtain⟨o',e',c',n',d'⟩:=y;rw[e]at e';cases e'
 rw[d]at d';cases d';rfl
theorem BQ {b:Key} {v:Value} (ha:gU a v=true) (hb:gU b v=true):a=b:=by
 rcases bL ha with⟨i,t,rfl,rfl⟩|⟨x,t,rfl,rfl⟩<;>rcases bL hb with⟨j,u,rfl,e⟩|⟨y,u,rfl,e⟩<;>cases e<;>rfl
theorem oD (h:gU a (.ref l)=true):False:=by rcases bL h with⟨_,_,_,e⟩|⟨_,_,_,e⟩<;>cases e
theorem wZ.inj:∀{n:Nat} {x y:NK} {v:Value},uL x<=n->wZ h x v->wZ h y v->x=y:=by
 intro n
 induction n with
 | zero=>
  intro x y v hd hx hy;cases hx with
  |k hk=>
   cases hy with
   |k hk'=>rw[BQ hk hk']
   |t _ _=>exact(oD hk).elim
  |t p l=>unfold uL at hd;omega
 | succ n ih=>
  intro x y v hd hx hy;cases hx with
  |k hk=>
   cases hy with
   |k hk'=>rw[BQ hk hk']
   |t _ _=>exact(oD hk).elim
  | @t xs a us p l=>
   cases hy with
   |k hk=>exact(oD hk).elim
   | @t ys _ vs p' l'=>
    obtain rfl:=FW p p';have hd':qI xs<=n:=by unfold uL at hd;omega
    have key:∀{xs ys:List NK} {us:List Value},qI xs<=n->IsL h xs us->IsL h ys us->xs=ys:=by
     intro xs
     induction xs with
     |nil=>intro ys us _ l1 l2;cases l1;cases l2;rfl
     | cons x xs ihx=>
      intro ys us hd l1 l2;cases l1 with
      | cons i1 r1=>
       cases l2 with
       |cons i2 r2=>
        unfold qI at hd;rw[ih (by omega) i1 i2,ihx (by omega) r1 r2]
    rw[key hd' l l']
section
variable {prog:Program} {w:World}
theorem JF:∀(n:Nat) {A:Around} {E:Value->Shared->Prop} {s:Shared} {x:NK} {v:Value} {Q:Int->Shared->Prop},uL x<=n->A.units+n<cLine->wZ s.heap x v->Q (nQ w x) {s with toks:=s.toks+HZ x}->wpAny (model prog w) A (pyHash v) Q E s:=by
 intro n
 induction n with
 |zero=>
  intro A E s x v Q hd hu hx h;cases hx with
  |k hk=>exact(bH prog w).pyHash hk (by unfold nQ HZ at h;exact h)
  |t p l=>unfold uL at hd;omega
 | succ n ih=>
  intro A E s x v Q hd hu hx h;cases hx with
  |k hk=>exact(bH prog w).pyHash hk (by unfold nQ HZ at h;exact h)
  | @t xs a us p l=>
   have hT:s.TypeIs (.ref a) "tuple":=let⟨o,e,c,_⟩:=p;⟨o,e,c⟩
   have hd':qI xs<=n:=by unfold uL at hd;omega
   obtain⟨o,ho,_,m,hdt⟩:=p;unfold pyHash
   first|unfold pyHashByItsType|skip
   first|refine wpAny_bind (wpAny_cRoomFor_or (.inr (by omega)) ?_)|skip
   refine wpAny_bind (wpAny_specialOf hT F.slot_tuple_hash.lookup ?_);show wpAny _ _ (if(some (Value.builtin "tuple.__hash__")==some Value.none)=true then _ else _) Q E s;rw[if_neg (show¬((some (Value.builtin "tuple.__hash__")==some Value.none)=true) by rw[beq_builtin_none];exact Bool.false_ne_true)];refine wpAny_bind (wpAny_specialOf hT F.slot_tuple_hash.lookup ?_);show wpAny _ _ (callSpecialIfBoundUnlessNone? (.ref a) "__hash__" _>>=_) Q E s;refine wpAny_bind (wpAny_callSpecialIfBoundUnlessNone?_slot hT F.slot_tuple_hash (wpAny_call_entry F.slot_tuple_hash hT F.entry_tuple_hash ?_ (F.args_tuple_hash_1 _)));show wpAny _ _ (Builtin.Tuple.tupleItemsOf (.ref a)>>=_) _ _ s;refine wpAny_bind (wpAny_tupleItemsOf ho hdt (wpAny_bind ?_));rw[<-Array.forIn_toList];have hin:A.in1.units=A.units+1:=rfl;refine wpAny_forIn_list _ (fun rest (b:Array Int) s'=>∃left,qI left<=n/\IsL s.heap left rest/\mJ w xs=b.toList++mJ w left/\∃tk,s'={s with toks:=tk}/\tk+E1 left=s.toks+E1 xs) _ ?_ ?_ _ _ ⟨xs,hd',l,rfl,s.toks,rfl,rfl⟩
   .rintro y rest b s' ⟨left,hdl,hl,hb,tk,rfl,ht⟩;cases hl with
    | @cons z _ zs _ i r=>
     rw[K2]at hdl;refine wpAny_bind (ih (s:={s with toks:=tk}) (x:=z) (by omega) (by omega) i ?_);rw[JJ]at hb;rw[P1]at ht
     first
      |exact wpAny_pure ⟨zs,by omega,r,by rw[hb,Array.toList_push];simp,tk+HZ z,rfl,by omega⟩
      |exact wpAny_bind (wpAny_pure (wpAny_pure ⟨zs,by omega,r,by rw[hb,Array.toList_push];simp,tk+HZ z,rfl,by omega⟩))
   .rintro b s' ⟨left,hdl,hl,hb,tk,rfl,ht⟩;cases hl;rw[JL,append_nil]at hb;rw[O0]at ht;show wpAny _ _ (retInt (Builtin.Tuple.tupleHashOf b.toList)) _ _ _;rw[IM,OP,hb]at h;unfold reduceHash at h;refine wpAny_ret_mkInt ?_;show wpAny _ _ (if(decide (-(2:Int)^63<=Builtin.Tuple.tupleHashOf b.toList) && decide (Builtin.Tuple.tupleHashOf b.toList<2^63))=true then _ else _) Q E _;have e1:tk+1=s.toks+(E1 xs+1):=by omega
    by_cases hr:(decide (-(2:Int)^63<=Builtin.Tuple.tupleHashOf b.toList) && decide (Builtin.Tuple.tupleHashOf b.toList<2^63))=true
    .rw[if_pos hr]at h⊢
     exact wpAny_pure (by rw[<-e1]at h;exact h)
    .rw[if_neg hr]at h⊢
     exact wpAny_bind (wpAny_rule (wpAny_pure (by rw[<-e1]at h;exact h)))
theorem QO:∀(n:Nat) {A:Around} {s:Shared} {x y:NK} {u v:Value},uL x<=n->uL y<=n->A.units+n<cLine->wZ s.heap x u->wZ s.heap y v->SeqAt.EqAt A s u v (decide (x=y)):=by
 intro n;have flat:∀{A:Around} {s:Shared} {a b:Key} {u v:Value},gU a u=true->gU b v=true->SeqAt.EqAt A s u v (decide (NK.k a=NK.k b)):=by
  intro A s a b u v ha hb prog w E Q q;have e:decide (NK.k a=NK.k b)=decide (a=b):=by
   by_cases h:a=b
   .rw[h];simp
   .rw[decide_eq_false h,decide_eq_false fun z=>h (NK.k.inj z)]
  rw[e]at q;exact(bH prog w).eqBool ha hb q
 have mixL:∀{A:Around} {s:Shared} {a:Key} {xs:List NK} {u:Value} {l:Addr} {us:List Value},A.units<cLine->gU a u=true->IsTup s.heap l us.toArray->SeqAt.EqAt A s u (.ref l) (decide (NK.k a=NK.t xs))/\SeqAt.EqAt A s (.ref l) u (decide (NK.t xs=NK.k a)):=by
  intro A s a xs u l us hu ha p;rw[decide_eq_false (fun z=>nomatch z),decide_eq_false (fun z=>nomatch z)];rcases bL ha with⟨i,t,rfl,rfl⟩|⟨z,t,rfl,rfl⟩
  .exact⟨SeqAt.EqAt.int_tuple i t p hu,SeqAt.EqAt.tuple_int i t p hu⟩
  .exact⟨SeqAt.EqAt.str_tuple z t p hu,SeqAt.EqAt.tuple_str z t p hu⟩
 induction n with
 | zero=>
  intro A s x y u v hx hy hu ix iy;cases ix with
  |k ha=>cases iy with
   |k hb=>exact flat ha hb
   |t p l=>unfold uL at hy;omega
  |t p l=>unfold uL at hx;omega
 | succ n ih=>
  intro A s x y u v hx hy hu ix iy;cases ix with
  |k ha=>cases iy with
   |k hb=>exact flat ha hb
   |t p l=>exact(mixL (by omega) ha p).1
  | @t xs a us p l=>cases iy with
   |k hb=>exact(mixL (by omega) hb p).2
   | @t ys b vs p' l'=>
    have hdx:qI xs<=n:=by unfold uL at hx;omega
    have hdy:qI ys<=n:=by unfold uL at hy;omega
    have hin:A.in1.units=A.units+1:=rfl
    by_cases hab:a=b
    .subst hab;have e:NK.t xs=NK.t ys:=wZ.inj (n:=n+1) hx (.t p l) (.t p' l');rw[decide_eq_true e];exact SeqAt.EqAt.same _
    .have l1:=l.length;have l2:=l'.length;have e:decide (NK.t xs=NK.t ys)=((List.range (min us.toArray.size vs.toArray.size)).all (fun j=>decide (xs[j]? =ys[j]?)) && us.toArray.size==vs.toArray.size):=by
      rw[size_toArray,size_toArray,<-l1,<-l2]
      by_cases hxy:xs=ys
      .subst hxy;simp
      .rw[decide_eq_false fun z=>hxy (NK.t.inj z)];symm;rw[Bool.and_eq_false_iff]
       by_cases hl:xs.length=ys.length
       .left;rw[List.all_eq_false];apply Classical.byContradiction;intro hno;apply hxy;apply List.ext_getElem?;intro j
        by_cases hj:j<xs.length
        .apply Classical.byContradiction;intro hne;exact hno ⟨j,mem_range.mpr (by omega),by simpa using hne⟩
        .rw[List.getElem?_eq_none (by omega),List.getElem?_eq_none (by omega)]
       .right;simpa using hl
     rw[e];refine SeqAt.EqAt.of_refs hab (SeqAt.RcAt.tuples (e:=fun j=>decide (xs[j]? =ys[j]?)) p p' (by omega) fun j h1 h2=>?_);obtain⟨x',ex,jx⟩:=l.get (j:=j) (v:=us.toArray[j]) (by simp at h1⊢);obtain⟨y',ey,jy⟩:=l'.get (j:=j) (v:=vs.toArray[j]) (by simp at h2⊢);have hh:=ih (A:=A.in1) (s:=s) (le_trans (zV (mem_of_getElem? ex)) hdx) (le_trans (zV (mem_of_getElem? ey)) hdy) (by omega) jx jy;have e2:decide (xs[j]? =ys[j]?)=decide (x'=y'):=by rw[ex,ey];simp
     show SeqAt.EqAt A.in1 s _ _ (decide (xs[j]? =ys[j]?));rw[e2];exact hh
end
section
variable {prog:Program} {w:World}
mutual
theorem wZ.keeps {h h':Heap} (k:∀a us,IsTup h a us->IsTup h' a us):∀{x:NK} {v:Value},wZ h x v->wZ h' x v
 |_,_,.k e=>.k e
 |_,_,.t p l=>.t (k _ _ p) (l.keeps k)
theorem IsL.keeps {h h':Heap} (k:∀a us,IsTup h a us->IsTup h' a us):∀{xs:List NK} {vs:List Value},IsL h xs vs->IsL h' xs vs
 |_,_,.nil=>.nil
 |_,_,.cons i r=>.cons (i.keeps k) (r.keeps k)
end
theorem C9 {h':Heap} {o:Obj} {es ep} (ho:h.get? d=some o) (hd:o.data= .dict es ep) (hs:Heap.SameBut d h h') (a:Addr) (us:Array Value) (x:IsTup h a us):IsTup h' a us:=by
 obtain⟨o',ho',hc,n,hd'⟩:=x;have hne:a≠d:=by
  rintro rfl;obtain rfl:o'=o:=Option.some.inj (ho'.symm.trans ho);rw[hd]at hd';exact nomatch hd'
 exact⟨o',(hs.2 a hne).trans ho',hc,n,hd'⟩
theorem EK:∀(m:Nat) {A:Around} {E:Value->Shared->Prop} {s:Shared} {x:NK} {v:Value} {Q:Bool->Shared->Prop},uL x<=m->wZ s.heap x v->Q true s->wpAny (model prog w) A (eqIsQuiet m v) Q E s:=by
 have flat:∀{m:Nat} {A:Around} {E:Value->Shared->Prop} {s:Shared} {x:Key} {v:Value} {Q:Bool->Shared->Prop},gU x v=true->Q true s->wpAny (model prog w) A (eqIsQuiet m v) Q E s:=by
  intro m A E s x v Q hk h;rw[eqIsQuiet_byValue m ((bH prog w).byValue x v hk)];exact wpAny_pure h
 intro m
 induction m with
 |zero=>
  intro A E s x v Q hd hx h;cases hx with
  |k hk=>exact flat hk h
  |t p l=>rw[uI]at hd;omega
 | succ m ih=>
  intro A E s x v Q hd hx h;cases hx with
  |k hk=>exact flat hk h
  | @t xs a us p l=>
   have hT:s.TypeIs (.ref a) "tuple":=let⟨o,e,c,_⟩:=p;⟨o,e,c⟩
   have hd':qI xs<=m:=by rw[uI]at hd;omega
   obtain⟨o,ho,_,n,hdt⟩:=p;unfold eqIsQuiet;refine wpAny_bind (wpAny_specialOf hT F.slot_tuple_eq.lookup ?_);show wpAny _ _ (isInstance (.ref a) (.type "tuple")>>=_) _ _ s;refine wpAny_bind (wpAny_isInstance hT isSubtype_tuple_tuple ?_);simp only[Bool.not_true,false_eq_true,if_false];refine wpAny_bind (wpAny_seqItems ho hdt ?_);refine wpAny_bind ?_;show wpAny _ _ (forIn us.toArray _ _) _ _ s;rw[<-Array.forIn_toList];refine wpAny_forIn_list _ (fun rest r s'=>r.1=none/\s'=s/\∃left,qI left<=m/\IsL s.heap left rest) _ ?_ ?_ _ _ ⟨rfl,rfl,xs,hd',l⟩
   .rintro v rest r s' ⟨hr,rfl,left,hdl,hl⟩;cases hl with
    | @cons z _ zs _ i t=>
     rw[K2]at hdl;refine wpAny_bind (ih (x:=z) (by omega) i ?_);simp only[Bool.not_true,false_eq_true,if_false];exact wpAny_pure ⟨rfl,rfl,zs,by omega,t⟩
   .rintro⟨r1,r2⟩ s' ⟨hr,rfl,_⟩;simp only at hr;subst hr;exact wpAny_pure h
noncomputable def vA (prog:Program) (w:World):HeapKind prog w (List NK)where
 is:=fun h ks a=>wZ h (.t ks) (.ref a)/\qI ks<=4
 hash:=fun ks=>nQ w (.t ks)
 draws:=fun ks=>HZ (.t ks)
 room:=fun A=>A.units+6<cLine
 inj:=fun hx hy=>NK.t.inj (wZ.inj (le_refl _) hx.1 hy.1)
 keeps:=fun x ho hd hs=>⟨x.1.keeps (C9 ho hd hs),x.2⟩
 pyHash:=fun{A} _ _ _ _ _ hu hk h=>JF 5 (by rw[uI];have:=hk.2;omega) (by have:A.units+6<cLine:=hu;omega) hk.1 h
 eqBool:=fun{A E s x y a b Q} hu hx hy h=>by
  have hu:A.units+6<cLine:=hu;refine QO 5 (by rw[uI];have:=hx.2;omega) (by rw[uI];have:=hy.2;omega) (by omega) hx.1 hy.1 prog w E Q ?_;have e:decide (NK.t x=NK.t y)=decide (x=y):=by
   by_cases z:x=y
   .rw[decide_eq_true z,decide_eq_true (congrArg NK.t z)]
   .rw[decide_eq_false z,decide_eq_false fun q=>z (NK.t.inj q)]
  rw[e];exact h
 quiet:=fun hk h=>EK 8 (by rw[uI];have:=hk.2;omega) hk.1 h
end
mutual
inductive LL (H:Hp):NK->V->Prop
 |k {x:Key}:LL H (.k x) (kV x)
 |t {xs:List NK} {a:Addr} {us:List V}:H a=some (.tup us)->M4 H xs us->LL H (.t xs) (.ref a)
inductive M4 (H:Hp):List NK->List V->Prop
 |nil:M4 H [] []
 |cons {x:NK} {v:V} {xs:List NK} {vs:List V}:LL H x v->M4 H xs vs->M4 H (x::xs) (v::vs)
end
section
variable {P:Program} {w:World} {H:Hp} {h:Heap}
mutual
theorem LL.is (ok:kC P w H h):∀{x:NK} {v:V} {u:Value},LL H x v->RelV v u->wZ h x u
 |_,_,_,.k,r=>.k (kX (P:=P) (w:=w) r)
 |_,_,_,.t p l,r=>by
  obtain⟨_,its,rs,q,_⟩:=(show dN P w H h _ (.tup _)from ok _ _ p);cases(show _=Value.ref _ from r);exact .t q (l.is ok rs)
theorem M4.is (ok:kC P w H h):∀{xs:List NK} {vs:List V} {us:List Value},M4 H xs vs->Vals vs us->IsL h xs us
 |_,_,_,.nil,.nil=>.nil
 |_,_,_,.cons i r,.cons a b=>.cons (i.is ok a) (r.is ok b)
end
end
abbrev NE:=List NK×Addr×V
abbrev KN:List NE->List (List NK×Addr×Value)->Prop:=Paired fun p q=>p.1=q.1/\p.2.1=q.2.1/\RelV p.2.2 q.2.2
noncomputable def DN (w:World) (a:Addr) (kvs:List NE) (ep:Nat):HO:=.ext fun h=>(a==sysModules)=false/\kvs.length<=sizeLine/\∃xs,KN kvs xs/\∃o es,h.get? a=some o/\o.ExactDict/\o.data= .dict es ep/\es.toList=xs.map (fun x=>(⟨nQ w (.t x.1),.ref x.2.1,x.2.2⟩:DictEntry))/\(xs.map (·.1)).Nodup
def JC (H:Hp) (kvs:List NE):Prop:=∀kv∈kvs,LL H (.t kv.1) (.ref kv.2.1)/\qI kv.1<=4
noncomputable def LZ (kvs:List NE) (k:List NK):Option V:=(kvs.find? fun x=>decide (x.1=k)).map (·.2.2)
noncomputable def putN (kvs:List NE) (k:List NK) (b:Addr) (v:V):List NE:=if(LZ kvs k).isSome then kvs.map (fun x=>if x.1=k then(x.1,x.2.1,v)else x)else kvs++[(k,b,v)]
theorem KN.val (r:KN kvs xs) (k:List NK):oJ (LZ kvs k) ((atKey xs k).map (·.2)):=by
 induction r with
 |nil=>exact True.intro
 | @cons p q ps qs h t ih=>
  obtain⟨h1,_,h2⟩:=h
  by_cases e:p.1=k
  .have e':q.1=k:=h1.symm.trans e;have b:atKey (q::qs) k=some q.2:=by simp[atKey,find?_cons,e']
   have b2:LZ (p::ps) k=some p.2.2:=by simp[LZ,find?_cons,e]
   rw[b2,b];exact h2
  .have e':¬q.1=k:=fun z=>e (h1.trans z)
   have b:atKey (q::qs) k=atKey qs k:=by simp[atKey,find?_cons,e']
   have b2:LZ (p::ps) k=LZ ps k:=by simp[LZ,find?_cons,e]
   rw[b2,b];exact ih
theorem KN.put (r:KN kvs xs) (k:List NK) (b:Addr) {y:V} {u:Value} (ry:RelV y u):KN (putN kvs k b y) (storedH xs k b u):=by
 have e:(LZ kvs k).isSome=(atKey xs k).isSome:=by rw[(r.val k).hJ,isSome_map]
 unfold putN storedH;rw[e]
 by_cases q:(atKey xs k).isSome=true
 .rw[if_pos q,if_pos q];clear e q
  induction r with
  |nil=>exact .nil
  | @cons p q ps qs h t ih=>
   rw[map_cons,map_cons];refine .cons ?_ ih;obtain⟨h1,h2,h3⟩:=h;unfold putAt
   by_cases e:p.1=k
   .rw[if_pos e,if_pos (h1.symm.trans e)];exact⟨h1,h2,ry⟩
   .rw[if_neg e,if_neg (fun z=>e (h1.trans z))];exact⟨h1,h2,h3⟩
 .rw[if_neg q,if_neg q];exact Paired.snoc r ⟨rfl,rfl,ry⟩
theorem xM (kvs:List NE) (k:List NK) (b:Addr) (v:V):(putN kvs k b v).length<=kvs.length+1:=by
 unfold putN;split
 .rw[length_map];omega
 .rw[length_append];exact le_refl _
section
variable {P:Program} {w:World} {H:Hp} {h:Heap} {a:Addr} {kvs:List NE} {ep:Nat}
theorem P4 (ok:kC P w H h) (e:H a=some (DN w a kvs ep)) (hk:JC H kvs):(a==sysModules)=false/\kvs.length<=sizeLine/\∃xs,KN kvs xs/\h.DictOfH (vA P w) a xs:=by
 obtain⟨z,y,xs,r,o,es,h1,h2,h3,h4,h5⟩:=(show dN P w H h a (DN w a kvs ep)from ok a _ e).1;refine⟨z,y,xs,r,o,es,ep,h1,h2,h3,h4,fun x hx=>?_,h5⟩;have all:∀{l:List NE} {m:List (List NK×Addr×Value)},KN l m->JC H l->∀x∈m,(vA P w).is h x.1 x.2.1:=by
  intro l m q
  induction q with
  |nil=>intro _ x hx;exact nomatch hx
  | @cons p q ps qs hq t ih=>
   intro hk x hx;rcases mem_cons.mp hx with e|hx
   .subst e;obtain⟨g1,g2⟩:=hk p mem_cons_self;rw[<-hq.1,<-hq.2.1];exact⟨g1.is ok rfl,g2⟩
   .exact ih (fun kv h=>hk kv (mem_cons_of_mem _ h)) x hx
 exact all r hk x hx
theorem OT {H:Hp} (z:(a==sysModules)=false) (y:kvs.length<=sizeLine) (r:KN kvs xs) (dd:h.DictOfH (vA P w) a xs):∃ep,dN P w H h a (DN w a kvs ep):=by
 obtain⟨o,es,ep,h1,h2,h3,h4,_,h5⟩:=dd;exact⟨ep,⟨z,y,xs,r,o,es,h1,h2,h3,h4,h5⟩,⟨o,h1⟩,fun g1 g2 ⟨z,y,xs,r,o,es,h1,h⟩ k=>⟨z,y,xs,r,o,es,k _ h1,h⟩⟩
end
def P7 (w:World) (H:Hp) (a:Addr) (y v:V) (Q:Hp->Prop):Prop:=NF H a y v Q\/ ∃kvs ep b ks,H a=some (DN w a kvs ep)/\JC H kvs/\y= .ref b/\LL H (.t ks) (.ref b)/\qI ks<=4/\kvs.length<sizeLine/\∀ep,Q (upd H a (DN w a (putN kvs ks b v) ep))
section
variable {X:Cx} {pins:List (Addr×Obj)} {σ:St} {H:Hp} {s:Shared} {a:Addr} {y v:V} {u r:Value} {A:Around} {E:Value->Shared->Prop}
theorem DD {Z:Hp->Prop} {Q:Unit->Shared->Prop} (hu:A.units+8<cLine) (I:Inv X pins σ H s) (g:P7 X.w H a y v Z) (ry:RelV y u) (rv:RelV v r) (h:∀H' s',Inv X pins σ H' s'->Z H'->Q () s'):
  wpAny (model X.prog X.w) A (setItem (.ref a) u r) Q E s:=by
 rcases g with g|⟨kvs,ep,b,ks,e,hk,ey,hb,hd,hl,q⟩
 .exact tZ (by omega) I g ry rv h
 .subst ey;cases(show u=Value.ref b from ry);obtain⟨z,y,xs,rel,dd⟩:=P4 I.bA e hk;refine wpAny_setItem_heap (knd:=vA X.prog X.w) (hsz:=by rw[<-Paired.length rel];exact y) (show A.in1.units+6<cLine by show A.units+1+6<_;omega) ⟨hb.is I.bA rfl,hd⟩ dd fun h' dd' hs=>?_
  have he:∃q,h'.get? a=some q:=let⟨q,_,_,hq,_⟩:=dd';⟨q,hq⟩
  obtain⟨ep',ok⟩:=OT (H:=upd H a (DN X.w a (putN kvs ks b v) 0)) z (show(putN kvs ks b v).length<=sizeLine by have:=xM kvs ks b v;omega) (rel.put ks b rv) dd';exact h _ _ (j7 I (by rw[e];exact True.intro) hs he (ob:=DN X.w a (putN kvs ks b v) ep') ⟨ok.1,ok.2.1,ok.2.2⟩) (q ep')
end
def pY (w:World) (td ty tv:TE):TS:=fun D σ H=>tv σ H fun v H1=>td σ H1 fun x H2=>ty σ H2 fun y H3=>∃a,x= .ref a/\P7 w H3 a y v (D.nx σ)
def pK (w:World):TE:=fun _ H Q=>(∀p,H p=none->Q (.ref p) (upd H p (.dK [] 0)))\/ ∀p,H p=none->Q (.ref p) (upd H p (DN w p [] 0))
section
variable {X:Cx} {o i value:Expr} {pos pos':Pos} {td ty tv:TE} {k:Nat}
theorem JT (w:World) (hr:fD k X.A) (ho:PE X o td) (hi:PE X i ty) (hv:PE X value tv) (hs:swapsWith value (some (.Subscript o i pos')) pos.line X.env=pure false) (hw:X.w=w:=by rfl):
  PS X (.Assign [.Subscript o i pos'] value pos) (pY w td ty tv):=by
 subst hw;intro pins s σ H D I h;refine wpAny_Assign_Subscript (cE (hv pins s σ H _ I h) fun r s1 ⟨v,H1,I1,rv,q1⟩=>cE (ho pins s1 σ H1 _ I1 q1) fun u s2 ⟨x,H2,I2,rx,q2⟩=>cE (hi pins s2 σ H2 _ I2 q2) fun iv s3 ⟨y,H3,I3,ry,a,ex,g⟩=>?_) hs;subst ex;obtain rfl:u=Value.ref a:=rx;exact DD (by have:=hr.un;omega) I3 g ry rv fun H4 s4 I4 q3=>⟨σ,H4,I4,q3⟩
theorem JK (w:World) (hw:X.w=w:=by rfl):PE X (.Dict [] [] pos) (pK w):=by
 subst hw;intro pins s σ H Q I h;rcases h with h|h
 .exact fF pins s σ H Q I h
 .refine wpAny_Dict_empty ⟨.ref s.heap.objs.size,_,I.laid (a:=s.heap.objs.size) (o:=DN X.w s.heap.objs.size [] 0) (t':=s.toks) (fun _ _ q=>get?_push_of_some _ q) (le_refl _) ?_,rfl,h _ (I.bA.fresh (le_refl _))⟩;have he:(s.heap.push {cls:=.type "dict",data:=.dict #[]}).get? s.heap.objs.size=some {cls:=.type "dict",data:=.dict #[]}:=get?_push_size _ rfl;refine⟨⟨beq_eq_false_iff_ne.mpr (Ne.symm (ne_of_lt I.big)),zero_le _,[],.nil,_, #[],he,⟨rfl,rfl,rfl⟩,rfl,rfl,nodup_nil⟩,⟨_,he⟩,fun g1 g2 ⟨z,y,xs,r,o,es,h1,h⟩ k=>⟨z,y,xs,r,o,es,k _ h1,h⟩⟩
end
section
variable {prog:Program} {w:World} {A:Around} {E:Value->Shared->Prop} {s:Shared}
theorem QI {Q:Value->Shared->Prop} (hd:(d==sysModules)=false) (ho:s.heap.get? d=some od) (hx:od.ExactDict) (hdat:od.data= .dict es ep)
  (hQ:Q (.ref s.heap.objs.size) {s with heap:=s.heap.push {cls:=.type "dict_keyiterator",data:=.fields #[.ref d,.int 0 0,.int es.size 0,.int ep 0]}}):
  wpAny (model prog w) A (pyIter (.ref d)) Q E s:=by
 have hT:s.TypeIs (.ref d) "dict":=⟨od,ho,hx.1⟩;refine wpAny_pyIter_slot hT F.slot_dict_iter (wpAny_call_entry F.slot_dict_iter hT F.entry_dict_iter ?_ (F.args_dict_iter_1 _));unfold Builtin.«dict.__iter__»;refine wpAny_bind ?_;unfold Builtin.Dict.dictSlotNone;refine wpAny_bind (wpAny_notOrdered_dict hT (wpAny_pure ?_));show wpAny _ _ (Builtin.Dict.showsAll d>>=_) _ _ s;unfold Builtin.Dict.showsAll;rw[if_neg (by rw[hd];exact Bool.false_ne_true)];refine wpAny_bind (wpAny_pure (wpAny_bind (wpAny_dictEntries ho hdat (wpAny_bind (wpAny_dictEpoch ho hdat (wpAny_bind (wpAny_newObj_type (wpAny_pure ⟨_,rfl,"dict_keyiterator",_,⟨_,get?_push_size _ rfl,rfl⟩,F.slot_dict_keyiterator_next.lookup,?_⟩))))))));simpa [rawInt]using hQ
theorem nextK {it:Addr} {i:Nat} {Q:Option Value->Shared->Prop} (hh:A.handled=none) (hn:n=es.size) (hit:s.heap.IsKeyIter it d i n ep) (hod:s.heap.get? d=some od) (hdd:od.data= .dict es ep)
  (hQ:∀e h',es[i]? =some e->h'.IsKeyIter it d (i+1) n ep->Heap.SameBut it s.heap h'->Q (some e.key) {s with heap:=h'})
  (hN:es[i]? =none->∀h',Heap.ExtBut it s.heap h'->Q none {s with heap:=h'}):
  wpAny (model prog w) A (pyNext (.ref it)) Q E s:=by
 subst hn;obtain⟨o,ho,hc,hd⟩:=id hit;unfold pyNext;refine wpAny_bind (wpAny_attempt (wpAny_callSpecial?_slot (name:=Str.ofString "__next__") hit.typeIs F.slot_dict_keyiterator_next
  (wpAny_call_entry F.slot_dict_keyiterator_next hit.typeIs F.entry_dict_keyiterator_next ?_ (F.args_dict_keyiterator_next_1 _))))
 refine wpAny_bind (wpAny_pure ?_);refine wpAny_bind ?_;refine wpAny_bind ?_
 first|refine wpAny_bind (wpAny_typeNameOfWhole_keyiter hit.typeIs (wpAny_pure ?_))|refine wpAny_bind (wpAny_typeNameOf_keyiter hit.typeIs (wpAny_pure ?_))
 refine wpAny_bind (wpAny_fieldsOf ho hd ?_);have hown:Builtin.Dict_items.ownsTuple "dict_keyiterator"=false:=by decide
 simp only[hown,false_eq_true,if_false];show wpAny _ _ (if(Value.ref d==Value.none)=true then _ else _) _ _ s;rw[if_neg (show¬((Value.ref d==Value.none)=true)from Bool.false_ne_true)];refine wpAny_bind (wpAny_pure ?_);refine wpAny_bind (wpAny_dictEntries hod hdd ?_);rw[if_neg (by simp)];refine wpAny_bind (wpAny_pure ?_);refine wpAny_bind (wpAny_dictEpoch hod hdd ?_);rw[if_neg (by simp)];refine wpAny_pure ?_
 by_cases hlt:i<es.size
 .simp only[show¬((i:Int)<0)from by omega,if_false,toNat_natCast,Array.getElem?_eq_getElem hlt];refine wpAny_bind ?_
  first|refine wpAny_bind (wpAny_typeNameOfWhole_keyiter hit.typeIs (wpAny_pure ?_))|refine wpAny_bind (wpAny_typeNameOf_keyiter hit.typeIs (wpAny_pure ?_))
  refine wpAny_bind (wpAny_isOneOf_keyiter hit.typeIs ?_);show wpAny _ _ (setField (.ref it) 1 (rawInt ((i:Int)+1))>>=_) _ _ s;refine wpAny_bind (wpAny_setField ho hd (by simp) ?_);have hit':(s.heap.update it (Obj.mapFields (·.setIfInBounds 1 (rawInt ((i:Int)+1))))).IsKeyIter it d (i+1) es.size ep:=
   ⟨_,get?_update_self _ ho (Obj.isFreed_of_fields (Obj.data_mapFields hd _)),(Obj.cls_mapFields ..).trans hc,by rw[Obj.data_mapFields hd];simp[rawInt]⟩
  refine wpAny_bind (wpAny_holding ?_);refine wpAny_bind (wpAny_isOneOf_keyiter (s:={s with heap:=s.heap.update it (Obj.mapFields (·.setIfInBounds 1 (rawInt ((i:Int)+1))))}) hit'.typeIs ?_);show wpAny _ _ (pure es[i].key) _ _ _;exact wpAny_pure (wpAny_pure ⟨_,rfl,wpAny_pure (hQ _ _ (Array.getElem?_eq_getElem hlt) hit' (Heap.SameBut.update ..))⟩)
 .have hge:es.size<=i:=by omega
  simp only[show¬((i:Int)<0)from by omega,if_false,toNat_natCast,getElem?_eq_none hge];refine wpAny_bind ?_
  first|refine wpAny_bind (wpAny_typeNameOfWhole_keyiter hit.typeIs (wpAny_pure ?_))|refine wpAny_bind (wpAny_typeNameOf_keyiter hit.typeIs (wpAny_pure ?_))
  show wpAny _ _ (setField (.ref it) 0 .none>>=_) _ _ s;refine wpAny_bind (wpAny_setField ho hd (by simp) ?_);show wpAny _ _ (newExc (.type "StopIteration") []>>=_) _ _ _;refine wpAny_bind ?_;simp only[newExc,newTuple];refine wpAny_bind (wpAny_newObj_type ?_ (by size_fits));refine wpAny_bind (m:=firstArgMember _ _) (wpAny_of_eq (a:=Value.none) (by first|rfl|(simp only[firstArgMember];rfl)) ?_);refine wpAny_newObj_type ?_ (by size_fits);simp only[raiseNew];refine wpAny_bind (wpAny_handled ?_);rw[show A.in1.handled=none from hh];refine wpAny_bind (wpAny_pure (wpAny_throw ?_));refine wpAny_bind (wpAny_isInstance (T:="StopIteration") (b:=true) ⟨_,get?_push_size _ rfl,rfl⟩ isSubtype_stop ?_);exact wpAny_pure (hN (getElem?_eq_none hge) _ (((Heap.SameBut.update ..).extBut.push _).push _))
end
mutual
inductive JN (H:Hp):PyData->V->Prop
 |aZ:JN H .none .aZ
 |int (i:Int):JN H (.int i) (.int i)
 |str (x:Str):JN H (.str x) (.str x)
 |tup {a:Addr} {us:List V} {ds:List PyData}:H a=some (.tup us)->MS H ds us->JN H (.tuple ds) (.ref a)
inductive MS (H:Hp):List PyData->List V->Prop
 |nil:MS H [] []
 |cons {d:PyData} {v:V} {ds:List PyData} {vs:List V}:JN H d v->MS H ds vs->MS H (d::ds) (v::vs)
end
section
variable {P:Program} {w:World} {H:Hp} {h:Heap}
mutual
theorem JN.reads (ok:kC P w H h):∀{d:PyData} {v:V} {u:Value},JN H d v->RelV v u->∃as,Reads h u d as
 |_,_,_,.aZ,r=>by cases(show _=Value.none from r);exact⟨_,.none⟩
 |_,_,_,.int i,r=>by obtain⟨t,e⟩:=(show∃t,_=Value.int i t from r);subst e;exact⟨_,.int i t⟩
 |_,_,_,.str x,r=>by obtain⟨t,e⟩:=(show∃t,_=Value.str x t from r);subst e;exact⟨_,.str x t⟩
 |_,_,_,.tup p l,r=>by
  obtain⟨_,its,rs,⟨o,h1,h2,n,h3⟩,_⟩:=(show dN P w H h _ (.tup _)from ok _ _ p);cases(show _=Value.ref _ from r);obtain⟨as,q⟩:=l.reads ok rs;exact⟨as,.tuple h1 h2 h3 (by simpa using q)⟩
theorem MS.reads (ok:kC P w H h):∀{ds:List PyData} {vs:List V} {us:List Value},MS H ds vs->Vals vs us->∃as,ReadsAll h us ds as
 |_,_,_,.nil,.nil=>⟨_,.nil⟩
 |_,_,_,.cons i r,.cons a b=>let⟨_,q⟩:=i.reads ok a;let⟨_,q2⟩:=r.reads ok b;⟨_,.cons q q2⟩
end
end
structure Sm (n k:Nat) (d:PyData):Prop where
 len:d.shown.length<=n
 sh:d.showable=true
 nd:d.hasDict=false
 dp:d.depth<=k
theorem Sm.mono {j:Nat} {d:PyData} (h:Sm n k d) (a:n<=m) (b:k<=j):Sm m j d:=⟨le_trans h.len a,h.sh,h.nd,le_trans h.dp b⟩
theorem Sm.aZ:Sm 4 0 .none:=⟨by simp only[PyData.shown];decide,by simp[PyData.showable],by simp only[PyData.hasDict],by simp only[PyData.depth,le_refl]⟩
theorem Sm.str {x:Str} (h:∀c∈x.cps.toList,c<16^8) (hl:x.length<=n):Sm (10*n+2) 0 (.str x):=by
 refine⟨?_,by simp[PyData.showable],by simp only[PyData.hasDict],by simp only[PyData.depth,le_refl]⟩;simp only[PyData.shown];have:=StrLaws.reprText_len x h;omega
theorem uY:∀{ds:List PyData},(∀d∈ds,Sm n k d)->(PyData.showableAll ds=true/\PyData.hasDictAll ds=false/\PyData.depthAll ds<=k)/\(Str.join ", " (PyData.shownAll ds)).length<=ds.length*(n+2)
 |[],_=>by
  refine⟨⟨by simp[PyData.showableAll],by simp only[PyData.hasDictAll],by simp only[PyData.depthAll,zero_le]⟩,?_⟩;simp only[PyData.shownAll,length_nil,Nat.zero_mul];show(Str.join ", " []).length<=0
  decide
 | d::ds,h=>by
  have h1:=h d mem_cons_self;obtain⟨⟨a,b,c⟩,e⟩:=uY fun x hx=>h x (mem_cons_of_mem _ hx)
  have h3:=h1.dp;refine⟨⟨by simp[PyData.showableAll,h1.sh,a],by simp only[PyData.hasDictAll,h1.nd,b,Bool.or_self],by simp only[PyData.depthAll];omega⟩,?_⟩;have h2:=h1.len;cases ds with
  |nil=>
   simp only[PyData.shownAll,length_cons,length_nil];show d.shown.length<=_;omega
  |cons d2 ds=>
   simp only[PyData.shownAll]at e⊢
   show(d.shown++", "++Str.join ", " (d2.shown::PyData.shownAll ds)).length<=_;rw[strLen_append,strLen_append];have e3:(", ":Str).length=2:=by decide
   rw[e3,length_cons,succ_mul];simp only[length_cons]at e⊢
   omega
theorem Sm.tup {ds:List PyData} (h:∀d∈ds,Sm n k d) (hl:ds.length<=m):Sm (m*(n+2)+3) (k+1) (.tuple ds):=by
 obtain⟨⟨a,b,c⟩,e⟩:=uY h;refine⟨?_,by simpa [PyData.showable]using a,by simpa only[PyData.hasDict]using b,by simp only[PyData.depth];omega⟩;simp only[PyData.shown];unfold tupleText;rw[strLen_append,strLen_append];have h1:("(":Str).length=1:=by decide
 have h2:(if((PyData.shownAll ds).length==1)=true then(",)":String)else ")":String).length<=2:=by split<;>decide
 have h3:ds.length*(n+2)<=m*(n+2):=Nat.mul_le_mul_right _ hl;have h4:(Str.ofString (if((PyData.shownAll ds).length==1)=true then(",)":String)else ")":String)).length<=2:=by split<;>decide
 have h5:((if((PyData.shownAll ds).length==1)=true then(",)":String)else ")":String):Str).length<=2:=h4;omega
def eK (H H':Hp):Prop:=∀a us,H a=some (.tup us)->H' a=some (.tup us)
theorem aF.kt {H':Hp} (s:aF H H'):eK H H':=fun a us e=>s a _ e
theorem eK.trans {H1 H2:Hp} (a:eK H H1) (b:eK H1 H2):eK H H2:=fun c us e=>b c us (a c us e)
theorem eK.upd {xs ys:List V} (e:H l=some (.lst xs)):eK H (upd H l (.lst ys)):=fun a us h=>by rw[aM (y4 h e (fun z=>nomatch z))];exact h
section
variable {k:Nat} {cD:List Nat} {g:TG} {tt:TT} {te:TE} {σ:St} {H:Hp} {Q:VK} {l:Addr}
theorem lT {α:Type} (J:It) (es:List α) (x:α->V) (p:α->Bool) (R:Hp->α->V->Prop) (Good:St->Prop) (h0:Good (bO k cD σ)) (hl:H l=none) (hlen:es.length<sizeLine)
  (hstop:∀H',aF H H'->J.stop es.length H') (hgo:∀i H',i<es.length->aF H H'->J.go i H')
  (hyld:∀i H1 v H2,i<es.length->aF H H1->J.AY i H1 v H2->H2=H1/\∃e,es[i]? =some e/\v=x e)
  (m:∀H1 H2 e v,eK H1 H2->R H1 e v->R H2 e v)
  (ht:∀e σ H1 ys (N:St->Hp->Prop),e∈es->Good σ->aF H H1->H1 l=some (.lst ys)->ys.length<sizeLine->(p e=false->∀σ',Good σ'->N σ' H1)->
   (p e=true->∀σ' v H2,Good σ'->aF H1 H2->R H2 e v->N σ' (upd H2 l (.lst (ys++[v]))))->bV g tt te l (x e) σ H1 N)
  (hd:∀H' ys,aF H H'->Paired (R H') (es.filter p) ys->H' l=some (.lst ys)->Q (.ref l) H'):jD J g tt te l (bO k cD σ) (upd H l (.lst [])) Q:=by
 refine nC J es.length (fun i σ' H'=>i<=es.length/\Good σ'/\aF H H'/\∃ys,Paired (R H') ((es.take i).filter p) ys/\H' l=some (.lst ys)) ⟨zero_le _,h0,aF.upd hl,[],.nil,aC⟩
  (fun σ' H' ⟨_,_,s,_⟩=>hstop H' s) (fun i σ' H' hi ⟨_,_,s,_⟩=>hgo i H' hi s) (fun i σ' H' v H'' hi ⟨_,gd,s,ys,py,e⟩ y=>?_) (fun σ' H' ⟨_,_,s,ys,py,e⟩=>?_)
 .obtain⟨e1,en,he,ev⟩:=hyld i H' v H'' hi s y;subst e1 ev;have hz:ys.length<sizeLine:=by
   rw[<-Paired.length py];have a1:=length_filter_le p (es.take i);rw[length_take]at a1;omega
  refine ht en σ' _ ys _ (mem_of_getElem? he) gd s e hz (fun hp σ2 g2=>⟨hi,g2,s,ys,?_,e⟩) (fun hp σ2 v H2 g2 s2 r=>⟨hi,g2,fun b o hb=>?_,ys++[v],?_,aC⟩)
  .rw[iX he,if_neg (by rw[hp];exact Bool.false_ne_true),append_nil];exact py
  .rw[aM (aG hb hl)];exact s2 _ _ (s _ _ hb)
  .rw[iX he,if_pos hp];have k2:=eK.upd (ys:=ys++[v]) (s2 _ _ e);exact Paired.snoc (Paired.cH py fun a b r=>m _ _ a b (s2.kt.trans k2) r) (m _ _ _ _ k2 r)
 .rw[take_length]at py;exact hd H' ys s py e
end
end L2
namespace L2
open PySem PySem.Spec PyProof.Rows Mr
variable {H:Hp} {ps:List PV}
mutual
inductive Tr (H:Hp):PV->V->Prop
 |aZ:Tr H .aZ .aZ
 |bl (b:Bool):Tr H (.bl b) (.bl b)
 |int (i:Int):Tr H (.int i) (.int i)
 |str (x:Str):Tr H (.str x) (.str x)
 |tup {a:Addr} {us:List V} {ps:List PV}:H a=some (.tup us)->jR H ps us->Tr H (.tup ps) (.ref a)
inductive jR (H:Hp):List PV->List V->Prop
 |nil:jR H [] []
 |cons {p:PV} {v:V} {ps:List PV} {vs:List V}:Tr H p v->jR H ps vs->jR H (p::ps) (v::vs)
end
mutual
theorem Tr.kp {H H':Hp} (k:eK H H'):∀{p:PV} {v:V},Tr H p v->Tr H' p v
 |_,_,.aZ=>.aZ
 |_,_,.bl b=>.bl b
 |_,_,.int b=>.int b
 |_,_,.str b=>.str b
 |_,_,.tup h r=>.tup (k _ _ h) (r.kp k)
theorem jR.kp {H H':Hp} (k:eK H H'):∀{p:List PV} {v:List V},jR H p v->jR H' p v
 |_,_,.nil=>.nil
 |_,_,.cons h r=>.cons (h.kp k) (r.kp k)
end
mutual
theorem Tr.rep {K:Frag} {Z:mE} {H:Hp}:∀{p:PV} {v:V},Tr H p v->Rep K Z H p v
 |_,_,.aZ=>.aZ
 |_,_,.bl b=>.bl b
 |_,_,.int b=>.int b
 |_,_,.str b=>.str b
 |_,_,.tup h r=>.tup (.inl h) r.rep
theorem jR.rep {K:Frag} {Z:mE} {H:Hp}:∀{p:List PV} {v:List V},jR H p v->gG K Z H p v
 |_,_,.nil=>.nil
 |_,_,.cons h r=>.cons h.rep r.rep
end
theorem Tr.NI {v:V} (h:Tr H (.tup ps) v):∃a us,v= .ref a/\H a=some (.tup us)/\jR H ps us:=by
 cases h with|tup h r=>exact⟨_,_,rfl,h,r⟩
theorem jR.length:∀{ps:List PV} {vs:List V},jR H ps vs->ps.length=vs.length
 |_,_,.nil=>rfl
 |_,_,.cons _ r=>by rw[length_cons,length_cons,r.length]
theorem jR.get':∀{ps:List PV} {vs:List V} {i:Nat} {p:PV},jR H ps vs->ps[i]? =some p->∃v,vs[i]? =some v/\Tr H p v
 |_,_,_,_,.nil,e=>by simp at e
 |_,_,0,_,.cons h _,e=>by simp at e;subst e;exact⟨_,rfl,h⟩
 |_,_,i+1,p,.cons _ r,e=>by
  obtain⟨v,h1,h2⟩:=r.get' (i:=i) (p:=p) (by simpa using e);exact⟨v,by simpa using h1,h2⟩
theorem jR.strs:∀{xs:List Str},jR H (xs.map PV.str) (xs.map V.str)
 |[]=>.nil
 |x::xs=>.cons (.str x) jR.strs
mutual
noncomputable def rR:PV->NK
 | .str x=>.k (.inr x)
 | .int i=>.k (.inl i)
 | .tup ps=>.t (nK ps)
 |_=>.k (.inl 0)
noncomputable def nK:List PV->List NK
 |[]=>[]
 |p::ps=>rR p::nK ps
end
mutual
noncomputable def keyed:PV->Bool
 | .str _=>true
 | .int _=>true
 | .tup ps=>kN ps
 |_=>false
noncomputable def kN:List PV->Bool
 |[]=>true
 |p::ps=>keyed p && kN ps
end
mutual
theorem Tr.nk {H:Hp}:∀{p:PV} {v:V},Tr H p v->keyed p=true->LL H (rR p) v
 |_,_,.aZ,h=>by simp[keyed]at h
 |_,_,.bl b,h=>by simp[keyed]at h
 |_,_,.int i,_=>by simp only[rR];exact .k (x:=.inl i)
 |_,_,.str x,_=>by simp only[rR];exact .k (x:=.inr x)
 |_,_,.tup h r,q=>by simp only[rR];exact .t h (r.nk (by simpa [keyed]using q))
theorem jR.nk {H:Hp}:∀{p:List PV} {v:List V},jR H p v->kN p=true->M4 H (nK p) v
 |_,_,.nil,_=>by simp only[nK];exact .nil
 |_,_,.cons h r,q=>by
  simp only[kN,and_eq_true]at q;simp only[nK];exact .cons (h.nk q.1) (r.nk q.2)
end
mutual
noncomputable def RB:PV->PyData
 | .str x=>.str x
 | .int i=>.int i
 | .tup ps=>.tuple (KP ps)
 |_=>.none
noncomputable def KP:List PV->List PyData
 |[]=>[]
 |p::ps=>RB p::KP ps
end
mutual
noncomputable def QH:PV->Bool
 | .str _=>true
 | .int _=>true
 | .aZ=>true
 | .tup ps=>E3 ps
 |_=>false
noncomputable def E3:List PV->Bool
 |[]=>true
 |p::ps=>QH p && E3 ps
end
def kZ (K:Frag):List V->Hp->VK->Prop:=fun xs H Q=>∃p ys ps,xs=[.ref p]/\bJ K H p ys/\jR H ps ys/\ys.length<64/\(∀x∈ps,y8 true x=true)/\eI 3 ps=true/\
 ∀l zs,jR H (t8 3 ps) zs->H l=none->Q (.ref l) (upd H l (.lst zs))
theorem jR.pick {ys:List V} (r:jR H ps ys):∀{ix:List Nat},(∀i∈ix,i<ps.length)->jR H (ix.map fun i=>ps.getD i .aZ) (ix.map fun i=>ys.getD i .aZ)
 |[],_=>.nil
 |i::ix,h=>by
  have hi:=h i mem_cons_self;have e:=getElem?_eq_getElem hi;obtain⟨v,ev,rv⟩:=r.get' e;refine .cons ?_ (jR.pick r fun j hj=>h j (mem_cons_of_mem _ hj));dsimp only;rw[getD_eq_getElem?_getD,getD_eq_getElem?_getD,e,ev];exact rv
theorem K4 {X:Cx} {k:Nat} (K:Frag) (hr:fD k X.A) (hK:X.K=K:=by rfl):dR X (.builtin "sorted") (kZ K):=by
 intro pins s σ H xs us Q I r ⟨p,ys,ps,e,hq,rp,h64,led,cmp,q⟩;refine NX K hr hK pins s σ H xs us Q I r ⟨p,ys,ps,true,e,hq,rp.rep,h64,led,cmp,fun l ix h1 h2 hl=>q l _ ?_ hl⟩;have hix:∀i∈ix,i<ps.length:=fun i hi=>mem_range.mp (h1.mem_iff.mp hi)
 have pm:(ix.map fun i=>ps.getD i .aZ).Perm ps:=by
  have:=h1.map fun i=>ps.getD i PV.aZ
  have e:(List.range ps.length).map (fun i=>ps.getD i PV.aZ)=ps:=by
   apply ext_getElem
   .simp
   .intro i a1 a2;simp[getElem?_eq_getElem a2]
  rw[e]at this;exact this
 have es:t8 3 ps=ix.map fun i=>ps.getD i .aZ:=
  lJ (nX 3 ps) h2 ((dS 3 ps).trans pm.symm) fun x hx y hy=>x2 cmp ((dS 3 ps).mem_iff.mp hx) ((dS 3 ps).mem_iff.mp hy)
 rw[es];exact rp.pick hix
noncomputable instance R7:DecidableEq PV:=fun a b=>Classical.propDecidable _
structure En where
 w:Str
 t:PV
 r:List PV
 b:Bool
end L2
namespace L2
open PySem PySem.Spec PyProof.Rows
variable {a p:Addr} {ob:HO} {H H':Hp} {c d:Nat}
def N5 (c:Nat) (o:Option HO):Prop:=∃a b i:Int,o=some (.lst [.int a,.int b,.int i])/\0<=a/\0<=b/\b<2305843009213693951/\0<=i/\i<=c
abbrev Box (c:Nat) (H:Hp) (p:Addr):Prop:=N5 c (H p)
theorem Box.same (h:Box c H p) (s:aF H H'):Box c H' p:=let⟨a,b,i,e,r⟩:=h;⟨a,b,i,s _ _ e,r⟩
theorem Box.up (h:Box c H p) (hl:c<=d):Box d H p:=let⟨a,b,i,e,h1,h2,h3,h4,h5⟩:=h;⟨a,b,i,e,h1,h2,h3,h4,by omega⟩
theorem Box.ne (h:Box c H p) {l:Addr} (n:H l=none):p≠l:=let⟨_,_,_,e,_⟩:=h;aG e n
theorem QR (h:Box c H p) (h':Box d H' p) (b:fQ p H H'):Kp H H':=fun a o e=>by
 by_cases z:a=p
 .subst z;obtain⟨i,j,k,e1,_⟩:=h;obtain⟨i',j',k',e2,_⟩:=h';rw[e1]at e;cases e;exact .inr ⟨_,_,rfl,e2⟩
 .exact .inl (b a o e z)
def CJ:Sp:=fun vs H Q _=>∃(p:Addr) (n:Int) (c:Nat),vs=[.ref p,.int n]/\Box c H p/\c<1000000/\0<n/\n<1073741824/\∀d H',0<=d->d<n->Box (c+1) H' p->fQ p H H'->Q (.int d) H'
section
variable {k:Nat} {cD:List Nat} {gg:TG} {tt:TT} {te:TE} {σ:St} {H:Hp} {Q:VK} {l:Addr}
theorem sF (lo:Int) (n:Nat) (p:Addr) (c wt:Nat) (R:Hp->V->Prop) (Good:St->Prop) (h0:Good (bO k cD σ)) (hp:Box c H p) (hl:H l=none) (hlen:n<=1000000)
  (m:∀H1 H2 y,Kp H1 H2->R H1 y->R H2 y)
  (ht:∀i σ H1 xs (N:St->Hp->Prop),i<n->Good σ->Box (c+wt*i) H1 p->H1 l=some (.lst xs)->xs.length=i->fQ p H H1->
   (∀σ' y H2,Good σ'->R H2 y->Box (c+wt*i+wt) H2 p->fQ p H1 H2->∃xs,H2 l=some (.lst xs)/\xs.length<sizeLine/\N σ' (upd H2 l (.lst (xs++[y]))))->bV gg tt te l (.int (lo+i)) σ H1 N)
  (hd:∀ys H1,ys.length=n->(∀y∈ys,R H1 y)->H1 l=some (.lst ys)->Box (c+wt*n) H1 p->fQ p H H1->Q (.ref l) H1):jD (J2 lo n) gg tt te l (bO k cD σ) (upd H l (.lst [])) Q:=by
 have pl:p≠l:=Box.ne hp hl;refine zR lo n (fun i σ' H'=>Good σ'/\∃ys:List V,H' l=some (.lst ys)/\ys.length=i/\(∀y∈ys,R H' y)/\Box (c+wt*i) H' p/\fQ p H H') ⟨h0,[],aC,rfl,(fun _ h=>nomatch h),Box.same (p:=p) hp (aF.upd hl),fQ.of (aF.upd hl)⟩
  (fun i σ' H' hi ⟨gd,ys,e,hy,hR,hp',b⟩=>?_) (fun σ' H' ⟨_,ys,e,hy,hR,hp',b⟩=>hd ys H' hy hR e hp' b)
 refine ht i σ' H' ys _ hi gd hp' e hy b fun σ2 y H2 g2 ry p2 b2=>?_
 have e2:H2 l=some (.lst ys):=b2 l _ e pl.symm;refine⟨ys,e2,gT (by omega),g2,ys++[y],aC,by simp[hy],fun z hz=>?_,?_,fun d o h n1=>?_⟩
 .rcases mem_append.mp hz with r|r
  .exact m _ _ _ (Kp.lst e2) (m _ _ _ (QR hp' p2 b2) (hR z r))
  .rw[mem_singleton.mp r];exact m _ _ _ (Kp.lst e2) ry
 .show N5 _ (upd H2 l _ p);rw[aM pl,Nat.mul_succ,<-Nat.add_assoc];exact p2
 .rw[aM (aG h hl)];exact b2 d o (b d o h n1) n1
end
theorem Box.kt {c d:Nat} {H H':Hp} {p:Addr} (h:Box c H p) (b:fQ p H H'):eK H H':=fun a us e=>b a _ e fun z=>by subst z;obtain⟨i,j,k,e1,_⟩:=h;rw[e1]at e;cases e
theorem eK.dn {w:World} {kvs:List NE} {ep:Nat} (e:H a=some (DN w a kvs ep)):eK H (L2.upd H a ob):=fun c us h=>by rw[aM (y4 h e (fun z=>by unfold DN at z;cases z))];exact h
theorem eK.dk {kvs:List (Key×V)} (e:bZ H a kvs):eK H (L2.upd H a ob):=fun c us h=>by obtain⟨ep,e⟩:=e;rw[aM (y4 h e (fun z=>nomatch z))];exact h
theorem Paired.iP {α β:Type} {R:α->β->Prop}:∀{xs:List α} {ys:List β} {i:Nat} {y:β},Paired R xs ys->ys[i]? =some y->∃x,xs[i]? =some x/\R x y
 |_,_,_,_,.nil,e=>by simp at e
 |_,_,0,_,.cons h _,e=>by simp at e;subst e;exact⟨_,rfl,h⟩
 |_,_,i+1,y,.cons _ r,e=>by
  obtain⟨x,h1,h2⟩:=Paired.iP (i:=i) (y:=y) r (by simpa using e);exact⟨x,by simpa using h1,h2⟩
end L2
namespace My
open PySem L2 Mr PyProof.Rows PySem.Builtin.Str
noncomputable abbrev S (l:List Nat):Str:=⟨l.toArray⟩
theorem vP (l:List Nat):(S l).cps.toList=l:=rfl
theorem gQ (x:Str):S x.cps.toList=x:=by cases x;simp[S]
theorem fN (l:List Nat):(S l).length=l.length:=by show l.toArray.size=_;simp
theorem LU {a b:List Nat}:S a=S b↔a=b:=⟨fun h=>congrArg (fun s:Str=>s.cps.toList) h,fun h=>by rw[h]⟩
theorem IT (i j n:Nat):strSliceIndices (some (i:Int)) (some (j:Int)) 1 n=strSliceIndices (some ((min i n:Nat):Int)) (some ((max (min i n) (min j n):Nat):Int)) 1 n:=by
 unfold strSliceIndices sliceRange;simp only[show(1:Int)>0 by decide,if_true,show¬((i:Int)<0) by omega,show¬((j:Int)<0) by omega,show¬(((min i n:Nat):Int)<0) by omega,show¬(((max (min i n) (min j n):Nat):Int)<0) by omega,if_false];have e1:max (0:Int) (min (i:Int) n)=((min i n:Nat):Int):=by omega
 have e2:max (0:Int) (min (j:Int) n)=((min j n:Nat):Int):=by omega
 have e3:max (0:Int) (min ((min i n:Nat):Int) n)=((min i n:Nat):Int):=by omega
 have e4:max (0:Int) (min ((max (min i n) (min j n):Nat):Int) n)=((max (min i n) (min j n):Nat):Int):=by omega
 rw[e1,e2,e3,e4];congr 2;split<;>split<;>simp only[Int.ediv_one]<;>omega
theorem QF (l:List Nat) (i j:Nat):Txt.slice (S l) (some (i:Int)) (some (j:Int))=S ((l.drop i).take (j - i)):=by
 have e:Txt.slice (S l) (some (i:Int)) (some (j:Int))=Txt.slice (S l) (some ((min i l.length:Nat):Int)) (some ((max (min i l.length) (min j l.length):Nat):Int)):=by
  unfold Txt.slice;rw[fN,IT]
 rw[e,beq_iff_eq.mp (slice_closes (x:=S l) ⟨by omega,by omega,by rw[vP];omega⟩),vP];refine LU.mpr ?_
 by_cases h:i<=l.length
 .rw[show((min i l.length:Nat):Int).toNat=i by omega]
  by_cases h2:j<=l.length
  .congr 1;omega
  .rw[take_of_length_le (by rw[length_drop];omega),take_of_length_le (by rw[length_drop];omega)]
 .rw[drop_of_length_le (by omega),drop_of_length_le (by omega)];simp
theorem IX (l:List Nat) (i:Nat):Txt.slice (S l) (some (i:Int)) none=S (l.drop i):=by
 by_cases h:i<=l.length
 .rw[slice_from_eq (x:=S l) (b:=l.length) (by omega) (by rw[fN];omega) (by rw[fN]),vP];refine LU.mpr ?_;rw[toNat_natCast,take_of_length_le (by rw[length_drop];omega)]
 .rw[slice_beyond (by rw[fN];omega),drop_of_length_le (by omega)];rfl
theorem KR (l:List Nat) (j:Nat):Txt.slice (S l) none (some (j:Int))=S (l.take j):=by
 have e:Txt.slice (S l) none (some (j:Int))=Txt.slice (S l) (some ((0:Nat):Int)) (some (j:Int)):=by
  unfold Txt.slice;have:strSliceIndices none (some (j:Int)) 1 (S l).length=strSliceIndices (some ((0:Nat):Int)) (some (j:Int)) 1 (S l).length:=by
   unfold strSliceIndices;simp only[show(1:Int)>0 by decide,if_true,show¬(((0:Nat):Int)<0) by omega,if_false];congr 1
  rw[this]
 rw[e,QF,drop_zero,sub_zero]
theorem G6 (l p:List Nat) (i:Nat):Builtin.Str.subAt (S l) (S p) i=decide ((l.drop i).take p.length=p):=by
 unfold Builtin.Str.subAt;rw[fN];show(l.toArray.extract i (i+p.length)==p.toArray)=_;rw[Bool.eq_iff_iff,beq_iff_eq,decide_eq_true_eq,<-Array.toList_inj];simp[List.extract_eq_take_drop]
theorem starts (l p:List Nat):Txt.startswith (S l) (S p)=decide (l.take p.length=p):=by
 unfold Txt.startswith;rw[G6,fN,fN,drop_zero]
 by_cases h:l.take p.length=p
 .have:=congrArg List.length h;rw[length_take]at this;simp[h];omega
 .simp[h]
theorem ends (l p:List Nat):Txt.endswith (S l) (S p)=decide (p.length<=l.length/\l.drop (l.length - p.length)=p):=by
 unfold Txt.endswith;rw[G6,fN,fN]
 by_cases h:p.length<=l.length
 .rw[take_of_length_le (by rw[length_drop];omega)];simp[h]
 .simp[h]
theorem xK (l:List Nat) (i j:Nat):Builtin.Str.strSub (S l) i j=S ((l.drop i).take (j - i)):=by
 refine PM.oO ?_;show(l.toArray.extract i j).toList=_;simp[List.extract_eq_take_drop]
end My
namespace L2
open PySem PySem.Spec PyProof.Rows PySem.W
section
variable {prog:Program} {w:World} {A:Around} {E:Value->Shared->Prop} {s:Shared}
theorem mF.trans {s s1 s2:Shared} (a:mF s s1) (b:mF s1 s2):mF s s2:=by
 obtain⟨h1,t1,d1,rfl,z1,k1⟩:=a;obtain⟨h2,t2,d2,rfl,z2,k2⟩:=b;exact⟨h2,t2,d2,rfl,le_trans z1 z2,fun x o e=>k2 x o (k1 x o e)⟩
theorem qG {v:Value} {Ok:List Value->Shared->Prop} {R:List Value->Array Nat->Prop} {Q:Value->Shared->Prop}
  (hcol:∀(E':Value->Shared->Prop) (Q':List Value->Shared->Prop),(∀vs s1,mF s s1->Ok vs s1->Q' vs s1)->wpAny (model prog w) A.in1 (collect v) Q' E' s) (h64:∀vs s1,Ok vs s1->vs.length<64)
  (hk:∀vs s1,mF s s1->Ok vs s1->2<=vs.length->∀h':Heap,(∀b o,s1.heap.get? b=some o->h'.get? b=some o)->vD prog w A.in1.in1 vs (R vs) {s1 with heap:=h'}) (hR:∀vs s1,Ok vs s1->vs.length<2->R vs (List.range vs.length).toArray)
  (hq:∀(a:Addr) s1 s2 (out:Array Value) c vs (p:Array Nat),mF s s1->Ok vs s1->mF s1 s2->s1.heap.objs.size<=a->s2.heap.get? a=some (seqObj "list" out c)->mN vs.length p->R vs p->out.toList=p.toList.map (fun i=>vs.getD i Value.none)->Q (.ref a) s2):
  wpAny (model prog w) A (call (.builtin "sorted") [v]) Q E s:=by
 refine Calls.call_function_entry kind_sorted plain_sorted entry_sorted (args_sorted1 _) ?_;unfold Builtin.«sorted»;refine wpAny_bind (m:=checkCount "sorted" 1 1 _) (wpAny_pure (wpAny_bind (hcol _ _ fun vs s1 g ok=>?_)));have hl:=h64 vs s1 ok;refine wpAny_bind (wpAny_newList ?_ (by simp only[sizeLine_eq];omega));have e1:(s1.heap.push (seqObj "list" vs.toArray 0)).get? s1.heap.objs.size=some (seqObj "list" vs.toArray 0):=get?_push_size _ rfl;refine wpAny_bind (wpAny_holding (wpAny_call_entry slot_list_sort ⟨_,e1,rfl⟩ entry_list_sort ?bd (args_list_sort _)))
 case bd=>
  refine uP e1 hl (fun l2 h' kp=>hk vs s1 g ok l2 h' fun b o gb=>kp b o (ne_of_lt (lt_size gb)) (get?_push_of_some _ gb)) (hR vs s1 ok) fun out p p1 p2 p3=>⟨_,rfl,wpAny_pure ⟨_,rfl,?_⟩⟩
  obtain⟨c,hc⟩:=sortedHeap_at (out:=out) e1;refine hq s1.heap.objs.size s1 _ out c vs p g ok ?_ (le_refl _) hc p1 p2 p3;refine⟨_,s1.toks,s1.drawn,rfl,le_of_lt (lt_size hc),fun b o e=>?_⟩;have hb:=lt_size e;rw[sortedHeap_old (ne_of_lt hb) (by rw[size_push'];exact lt_succ_of_lt hb)];exact get?_push_of_some _ e
end
section
variable {X:Cx}
noncomputable def LV (v d:Addr):HO:=.ext fun h=>h.IsItemsView v d
def kM (to:TE):TE:=fun σ H Q=>to σ H fun x H1=>∃a kvs,x= .ref a/\ED H1 a kvs/\∀v,H1 v=none->Q (.ref v) (upd H1 v (LV v a))
theorem GQ {o:Expr} {to:TE} {apos cpos:Pos} (ho:PE X o to) (hbase:attributeBase o "items" X.env (eval o X.env)=eval o X.env:=by rfl) (hline:(apos.endLine==cpos.line)=true:=by rfl):
  PE X (.Call (.Attribute o "items" apos) [] [] cpos) (kM to):=by
 intro pins s σ H Q I h;refine wpAny_Call_method0_late hbase hline (cE (ho pins s σ H _ I h) fun v s1 ⟨x,H1,I1,r1,a,kvs,ex,ha,q1⟩=>?_);subst ex;obtain rfl:v=Value.ref a:=r1;obtain⟨hz,hd,vs,rel,dd⟩:=jJ I1.bA ha;refine⟨"dict","dict.items",plainAttrs_dict,PySem.F.slot_dict_items,PySem.F.type_dict_items,dd.typeIs,dd.mapOf.noDict,Calls.callWith_builtin rfl (PySem.evalArgs_none ?_)⟩;refine call_meetsIn PySem.F.slot_dict_items dd.typeIs PySem.F.entry_dict_items (PySem.F.args_dict_items_1 _) (meets_dict_items (bH X.prog X.w) a hd) ⟨⟨vs,dd⟩,?_⟩;have e0:(s1.heap.push {cls:=.type "dict_items",data:=.fields #[.ref a]}).get? s1.heap.objs.size=some {cls:=.type "dict_items",data:=.fields #[.ref a]}:=get?_push_size _ rfl;exact⟨.ref s1.heap.objs.size,_,I1.laid (t':=s1.toks) (o:=LV s1.heap.objs.size a) (fun b u e=>get?_push_of_some _ e) (le_refl _) ⟨⟨_,e0,rfl,rfl⟩,⟨_,e0⟩,fun h1 h2 ⟨u,e,c⟩ k=>⟨u,k u e,c⟩⟩,rfl,q1 _ (I1.bA.fresh (le_refl _))⟩
end
end L2
namespace Mr
open PySem PySem.Spec L2 PyProof.Rows PySem.W
noncomputable def rR:Key->PV
 | .inl i=>.int i
 | .inr x=>.str x
end Mr
namespace L2
open PySem PySem.Spec PyProof.Rows PySem.W
section
variable {prog:Program} {w:World} {A:Around} {R:Result->Shared->Prop} {I:Addr} {fp wr:List Addr} {n:Nat} {Pz:Nat->Value->Prop} {Sz:Nat->Heap->Prop}
def FR (prog:Program) (w:World) (A:Around) (ok:Heap->Prop) (Pz:Nat->Value->Prop) (bt:Nat->Nat->Bool):Prop:=
 ∀i j vi vj (s:Shared) (Q:Value->Shared->Prop) (E:Value->Shared->Prop),ok s.heap->Pz i vi->Pz j vj->Q (.bool (bt i j)) s->wpAny (model prog w) A (richCompare .Lt vi vj) Q E s
theorem o6:(toString "min"++toString ".loop":String)="min.loop":=by decide
theorem y1 {ok:Heap->Prop} (W:Walks prog w A.in1 I fp wr n Pz Sz) (bt:Nat->Nat->Bool) (hcmp:FR prog w A.in1 ok Pz bt) (S:Addr) (nf:S∉fp) (okk:∀h h',ok h->(∀b o,b∉wr->b≠S->h.get? b=some o->h'.get? b=some o)->ok h'):
  ∀(k j:Nat) (s:Shared) (vb:Value) (c:Nat),n - (j+1)=k->j+1<=n->ok s.heap->Sz (j+1) s.heap->Pz (argBest bt j) vb->s.heap.get? S=some {cls:=.type "list",dict:=none,data:=.seq #[vb,vb] c,slots:= #[]}->
  (∀v h' tk,Pz (argBest bt (n - 1)) v->(∀b o,b∉wr->b≠S->s.heap.get? b=some o->h'.get? b=some o)->R (.ok (.ret v)) {s with heap:=h',toks:=tk})->codeAny (model prog w) A (.builtin "min.loop" ⟨[.ref I,.none,.ref S],[]⟩) R s:=by
 have nw:S∉wr:=fun h=>nf (W.sub _ h)
 intro k
 induction k with
 |zero=>
  intro j s vb c hk hj bA st hb gS hR;have e:j+1=n:=by omega
  refine codeAny_builtin F.entry_min_loop ?_;rw[Around.under_plainId F.plain_min_loop _];refine wpAny_bind (m:=seqItems? (.ref S)) (wpAny_seqItems gS rfl ?_);refine wpAny_bind (m:=tryCatch (pyNext (.ref I)) _) (wpAny_tryCatch (W.done s _ _ (e▸st) fun h' tk kp=>?_));have gS':=kp S _ nw gS;refine wpAny_bind (m:=updateSeq S (fun _=> #[])) (wpAny_updateSeq gS' rfl (wpAny_bind (wpAny_letGo (wpAny_pure ?_))));exact hR vb _ tk (by rw[<-e];exact hb) fun b o h1 h2 q=>(get?_update_other _ _ (Ne.symm h2)).trans (kp b o h1 q)
 | succ k ih=>
  intro j s vb c hk hj bA st hb gS hR;have hlt:j+1<n:=by omega
  refine codeAny_builtin F.entry_min_loop ?_;rw[Around.under_plainId F.plain_min_loop _];refine wpAny_bind (m:=seqItems? (.ref S)) (wpAny_seqItems gS rfl ?_);refine wpAny_bind (m:=tryCatch (pyNext (.ref I)) _) (wpAny_tryCatch (W.item (j+1) s _ _ hlt st fun v h' tk hP st' kp=>?_));have gS':=kp S _ nw gS;have ok':ok h':=okk _ _ bA fun b o h1 _ q=>kp b o h1 q
  refine wpAny_bind (m:=tryCatch (holding [v,v] (richCompare .Lt v vb>>=_)) _) (wpAny_tryCatch (wpAny_holding (wpAny_bind (hcmp (j+1) (argBest bt j) v vb {s with heap:=h',toks:=tk} _ _ ok' hP hb ?_))));refine wpAny_bind (wpAny_holding (wpAny_truthy_bool (wpAny_bind (wpAny_letGo (wpAny_pure ?_)))));cases hbt:bt (j+1) (argBest bt j)with
  |true=>
   simp only[if_true];refine wpAny_bind (wpAny_updateSeq gS' rfl (wpAny_bind (wpAny_letGo ?_)));rw[o6];have ne:∀{b:Addr} {o:Obj},b≠S->h'.get? b=some o->(h'.update S (Obj.mapSeq fun _=> #[v,v])).get? b=some o:=fun h q=>(get?_update_other _ _ (Ne.symm h)).trans q
   refine wpAny_pure ⟨plainId_quiet F.plain_min_loop _,ih (j+1) _ v _ (by omega) hlt (okk _ _ ok' fun b o _ h2 q=>ne h2 q) (W.frame _ _ _ st' fun b hbf o q=>ne (fun z=>nf (by rw[<-z];exact hbf)) q) (by simp only[argBest,hbt,if_true];exact hP) (get?_update_self _ gS' rfl) fun v' h2 tk2 hP' kp2=>?_⟩;exact hR v' h2 tk2 hP' fun b o h1 h3 q=>kp2 b o h1 h3 (ne h3 (kp b o h1 q))
  |false=>
   simp only[false_eq_true,if_false];refine wpAny_bind (wpAny_letGo ?_);rw[o6];refine wpAny_pure ⟨plainId_quiet F.plain_min_loop _,ih (j+1) _ vb c (by omega) hlt ok' st' (by simp only[argBest,hbt,false_eq_true,if_false];exact hb) gS' fun v' h2 tk2 hP' kp2=>?_⟩;exact hR v' h2 tk2 hP' fun b o h1 h3 q=>kp2 b o h1 h3 (kp b o h1 q)
theorem min_list {E:Value->Shared->Prop} {s:Shared} {l:Addr} {vs:List Value} {Q:Value->Shared->Prop} {ok:Heap->Prop} (bt:Nat->Nat->Bool) (hh:A.handled=none) (hl:s.heap.IsList l vs.toArray) (hn:0<vs.length)
  (bA:∀h',(∀b o,s.heap.get? b=some o->h'.get? b=some o)->ok h') (okk:∀h h':Heap,ok h->(∀b o,b<s.heap.objs.size->h.get? b=some o->h'.get? b=some o)->ok h') (hcmp:FR prog w A.in1 ok (fun i v=>vs[i]? =some v) bt)
  (hq:∀v h' tk,vs[argBest bt (vs.length - 1)]? =some v->(∀b o,s.heap.get? b=some o->h'.get? b=some o)->Q v {s with heap:=h',toks:=tk}):wpAny (model prog w) A (call (.builtin "min") [.ref l]) Q E s:=by
 have lS:l<s.heap.objs.size:=let⟨_,e,_⟩:=hl;lt_size e
 refine call_function_tree F.kind_min F.plain_min F.entry_min (F.args_min1 _) ?_;refine wpAny_bind (m:=Builtin.Builtins.bindParams "min" ["key","default"] 0 ⟨[],[]⟩) (wpAny_of_eq (show Builtin.Builtins.bindParams "min" ["key","default"] 0 ⟨[],[]⟩=pure [none,none]from rfl) (wpAny_bind (wpAny_pure ?_)));refine wpAny_bind (wpAny_pyIter_list hl ?_);refine wpAny_bind (wpAny_newObj_type ?_);rw[o6];generalize hX:(s.heap.push {cls:=.type "list_iterator",data:=.fields #[.ref l,.int 0 0]})=h1;have z1:h1.objs.size=s.heap.objs.size+1:=by rw[<-hX];exact size_push ..
 have k1:∀b o,s.heap.get? b=some o->h1.get? b=some o:=fun b o e=>by rw[<-hX];exact get?_push_of_some _ e
 have e1:h1.get? s.heap.objs.size=some {cls:=.type "list_iterator",data:=.fields #[.ref l,.int 0 0]}:=by rw[<-hX];exact get?_push_size _ rfl
 have nI:l≠s.heap.objs.size:=ne_of_lt lS;have W:=Walks.list (prog:=prog) (w:=w) (A:=A.in1) (by exact hh) s.heap.objs.size l nI vs.toArray;have gS:(h1.push {cls:=.type "list",data:=.seq ([]:List Value).toArray}).get? h1.objs.size=some {cls:=.type "list",dict:=none,data:=.seq #[] 0,slots:= #[]}:=get?_push_size _ rfl;have nf:h1.objs.size∉[s.heap.objs.size,l]:=by
  rw[z1];simp only[mem_cons,List.not_mem_nil,or_false,not_or];exact⟨ne_of_gt (lt_succ_self _),ne_of_gt (lt_succ_of_lt lS)⟩
 have nw:h1.objs.size∉[s.heap.objs.size]:=fun z=>nf (by simp at z⊢;exact .inl z)
 have st0:(h1.push {cls:=.type "list",data:=.seq ([]:List Value).toArray}).IsListIter s.heap.objs.size l 0/\(h1.push {cls:=.type "list",data:=.seq ([]:List Value).toArray}).IsList l vs.toArray:=by
  refine⟨⟨_,get?_push_of_some _ e1,rfl,rfl⟩,?_⟩;obtain⟨o,e,r⟩:=hl;exact⟨o,get?_push_of_some _ (k1 _ _ e),r⟩
 refine wpAny_pure ⟨plainId_quiet F.plain_min_loop _,?_⟩;refine codeAny_builtin F.entry_min_loop ?_;rw[Around.under_plainId F.plain_min_loop _];refine wpAny_bind (m:=seqItems? (.ref h1.objs.size)) (wpAny_seqItems gS rfl ?_);refine wpAny_bind (m:=tryCatch (pyNext (.ref s.heap.objs.size)) _) (wpAny_tryCatch (W.item 0 {s with heap:=h1.push {cls:=.type "list",data:=.seq ([]:List Value).toArray}} _ _ (by simpa using hn) st0 fun v h' tk hP st' kp=>?_));have gS':=kp h1.objs.size _ nw gS;refine wpAny_bind (m:=updateSeq h1.objs.size (fun _=> #[v,v])) (wpAny_updateSeq gS' rfl ?_);rw[o6];have ne:∀{b:Addr} {o:Obj},b≠h1.objs.size->h'.get? b=some o->(h'.update h1.objs.size (Obj.mapSeq fun _=> #[v,v])).get? b=some o:=fun h q=>(get?_update_other _ _ (Ne.symm h)).trans q
 have ltS:∀{b:Addr} {o:Obj},s.heap.get? b=some o->b∉[s.heap.objs.size]/\b≠h1.objs.size:=fun e=>by
  have:=lt_size e;rw[z1];exact⟨by simp;exact ne_of_lt this,ne_of_lt (lt_succ_of_lt this)⟩
 have kq:∀b o,s.heap.get? b=some o->(h'.update h1.objs.size (Obj.mapSeq fun _=> #[v,v])).get? b=some o:=fun b o e=>ne (ltS e).2 (kp b o (ltS e).1 (get?_push_of_some _ (k1 b o e)))
 refine wpAny_pure ⟨plainId_quiet F.plain_min_loop _,y1 (ok:=ok) W bt (fun i j vi vj s Q E h1 h2 h3 h4=>hcmp i j vi vj s Q E h1 (by simpa using h2) (by simpa using h3) h4) h1.objs.size nf (fun h h2 o k=>okk h h2 o fun b u hb q=>k b u (by simp;exact ne_of_lt hb) (by rw[z1];exact ne_of_lt (lt_succ_of_lt hb)) q) _ 0 _ v _ rfl (by simp;omega) (bA _ kq) (W.frame _ _ _ st' fun b hbf o q=>ne (fun z=>nf (by rw[<-z];exact hbf)) q) (by simpa [argBest]using hP) (get?_update_self _ gS' rfl) fun v' h2 tk2 hP' kp2=>?_⟩;exact hq v' h2 tk2 (by simpa using hP') fun b o e=>kp2 b o (ltS e).1 (ltS e).2 (kq b o e)
end
end L2
namespace Mr
open PySem PySem.Spec L2 PyProof.Rows PySem.W
noncomputable def BB (ps:List PV) (i j:Nat):Bool:=g7 (code 3 (ps.getD i .aZ)) (code 3 (ps.getD j .aZ))
theorem iI (bt:Nat->Nat->Bool):∀k,argBest bt k<=k
 |0=>le_refl _
 |k+1=>by
  have:=iI bt k;unfold argBest;split<;>omega
theorem IS {ps:List PV} {k:Nat} (hk:k<ps.length):∀i,i<=k->qC 3 (ps.getD (argBest (BB ps) k) .aZ) (ps.getD i .aZ)=true:=by
 induction k with
 |zero=>
  intro i hi;have:i=0:=by omega
  subst this;unfold qC argBest;rw[show g7 (code 3 (ps.getD 0 .aZ)) (code 3 (ps.getD 0 .aZ))=false from pA.irrefl _];rfl
 | succ k ih=>
  intro i hi;have ih:=ih (by omega);unfold argBest;cases e:BB ps (k+1) (argBest (BB ps) k)with
  | true=>
   rw[if_pos rfl]
   by_cases h:i=k+1
   .subst h;unfold qC;rw[show g7 (code 3 (ps.getD (k+1) .aZ)) (code 3 (ps.getD (k+1) .aZ))=false from pA.irrefl _];rfl
   .refine tE _ (ps.getD (argBest (BB ps) k) .aZ) _ ?_ (ih i (by omega));unfold qC;rw[show g7 (code 3 (ps.getD (argBest (BB ps) k) .aZ)) (code 3 (ps.getD (k+1) .aZ))=false from u7 (A:=pA) e];rfl
  | false=>
   rw[if_neg Bool.false_ne_true]
   by_cases h:i=k+1
   .subst h;unfold qC;rw[show g7 (code 3 (ps.getD (k+1) .aZ)) (code 3 (ps.getD (argBest (BB ps) k) .aZ))=false from e];rfl
   .exact ih i (by omega)
section
variable {X:Cx} {k:Nat}
def OR (K:Frag):List V->Hp->VK->Prop:=fun xs H Q=>∃p ys ps,xs=[.ref p]/\bJ K H p ys/\gG K A8 H ps ys/\0<ps.length/\eI 3 ps=true/\Q (ys.getD (argBest (BB ps) (ps.length - 1)) .aZ) H
theorem NP (K:Frag) (hr:fD k X.A) (hK:X.K=K:=by rfl) (hc:X.calm=true:=by rfl):dR X (.builtin "min") (OR K):=by
 subst hK;intro pins s σ H xs us Q I r ⟨p,ys,ps,e,hq,rp,h0,cmp,q⟩;subst e;obtain⟨u,rfl,rx⟩:=vals1 r;cases rx;obtain⟨vs,rv,pl,hz⟩:=I.list hq;have hlen:=rv.length;have hpl:=rp.length;have ok:∀x∈ps,lP 3 x=true:=fun x hx=>by
  have:=all_eq_true.mp cmp x hx;rw[and_eq_true]at this;exact vI this.1
 refine min_list (ok:=fun h=>∀b o,s.heap.get? b=some o->h.get? b=some o) (BB ps) (by exact I.ok.hd hc) pl.isList (by omega) (fun h' kp=>kp) (fun h h' o kk b u e=>kk b u (lt_size e) (o b u e)) (fun i j vi vj s' Q E bA h1 h2 hQ=>?_) fun v h' tk hv kp=>?_
 .have hL:cI s'.heap ps vs:=gG.lies (I.kept (t':=s.toks) bA) (n:=3) (all_eq_true.mpr ok) rp rv;obtain⟨p1,e1,l1⟩:=hL.get h1;obtain⟨p2,e2,l2⟩:=hL.get h2;have m1:=mem_of_getElem? e1;have m2:=mem_of_getElem? e2;refine HJ (s:=s') 3 X.A.in1 (by have:=hr.un;show X.A.units+1+3<_;omega) (ok p1 m1) (ok p2 m2) l1 l2 (qM cmp m1 m2) _ _ _ _ ?_;have hQ:Q (.bool (g7 (code 3 (ps.getD i .aZ)) (code 3 (ps.getD j .aZ)))) s':=hQ;rw[getD_eq_getElem?_getD,e1,getD_eq_getElem?_getD,e2]at hQ;exact hQ
 .obtain⟨y,hy,ry⟩:=rv.get' hv;refine⟨y,H,I.kept (t':=tk) kp,ry,?_⟩;rw[getD_eq_getElem?_getD,show ps.length=vs.length by omega,hy]at q;exact q
end
end Mr
namespace L2
open PySem
section
variable {X:Cx} {pins:List (Addr×Obj)} {σ:St} {H:Hp} {s:Shared} {a:Addr} {y d:V} {u r:Value} {A:Around} {E:Value->Shared->Prop}
theorem FU {kvs:List (Key×V)} {k:Key} {Q:Value->Shared->Prop} (I:Inv X pins σ H s) (e:bZ H a kvs) (ry:RelV (kV k) u) (rd:RelV d r) (hz:kvs.length<sizeLine)
  (h1:∀v w' s',bW kvs k=some v->Inv X pins σ H s'->RelV v w'->Q w' s') (h2:∀ep s',bW kvs k=none->Inv X pins σ (upd H a (.dK (putK kvs k d) ep)) s'->Q r s'):
  wpAny (model X.prog X.w) A (call (.builtin "dict.setdefault") [.ref a,u,r]) Q E s:=by
 obtain⟨z,hd,vs,rel,dd⟩:=yD I.bA e;have hz':vs.length<=sizeLine:=by rw[<-rel.length];exact z
 have rv:=rel.val k;refine call_meetsIn PySem.F.slot_dict_setdefault dd.typeIs PySem.F.entry_dict_setdefault (PySem.F.args_dict_setdefault_3 _ _ _) (kt_meets_setdefault (bH X.prog X.w) a (kX ry) hd r) ⟨vs,dd,hz',fun v hv=>?_,fun hn h' dd' hs=>?_⟩
 .rw[hv]at rv;cases c:bW kvs k with
  |none=>rw[c]at rv;exact rv.elim
  |some v'=>rw[c]at rv;exact h1 v' v _ c (I.tok _) rv
 .rw[hn]at rv;cases c:bW kvs k with
  |some v'=>rw[c]at rv;exact rv.elim
  |none=>
   have hl:(putK kvs k d).length<=sizeLine:=by have:=fP kvs k d;omega
   have he:∃q,h'.get? a=some q:=let⟨q,_,_,hq,_⟩:=dd';⟨q,hq⟩
   obtain⟨ep,da⟩:=dd'.dictAt;exact h2 ep _ c (j7 I e.OW hs he (rS hl hd (rel.put k rd) da))
end
def E5 (td ty tx:TE):TE:=fun σ H Q=>td σ H fun x H1=>∃a,x= .ref a/\OO H1 a/\ty σ H1 fun y H2=>tx σ H2 fun z H3=>∃kvs k,bZ H3 a kvs/\y=kV k/\kvs.length<sizeLine/\
 (∀v,bW kvs k=some v->Q v H3)/\(∀ep,bW kvs k=none->Q z (upd H3 a (.dK (putK kvs k z) ep)))
section
variable {X:Cx} {o e f:Expr} {apos cpos:Pos} {td ty tx:TE}
theorem qV (ho:PE X o td) (he:PE X e ty) (hf:PE X f tx) (m:M2 X o "setdefault" apos e f cpos):PE X (.Call (.Attribute o "setdefault" apos) [e,f] [] cpos) (E5 td ty tx):=by
 intro pins s σ H Q I h;refine wpAny_Call_method m.base m.P2 m.line plainAttrs_dict PySem.F.slot_dict_setdefault PySem.F.type_dict_setdefault (cE (ho pins s σ H _ I h) fun u s1 ⟨x,H1,I1,rx,a,ex,d,q1⟩=>?_);subst ex;obtain rfl:u=Value.ref a:=rx;obtain⟨t1,t2,_⟩:=wR I1 d;refine⟨t1,t2,?_⟩;rw[m.trees];refine Calls.callWith_builtin rfl (Calls.evalArgs_plain (Calls.spliced_cons (cE (he pins s1 σ H1 _ I1 q1) fun iv s2 ⟨y,H2,I2,ry,q2⟩=>
  Calls.spliced_cons (cE (hf pins s2 σ H2 _ I2 q2) fun fv s3 ⟨z,H3,I3,rz,kvs,k,ea,ey,hz,g1,g2⟩=>Calls.spliced_nil ?_))))
 subst ey;exact FU I3 ea ry rz hz (fun v w' s' c I' r'=>⟨v,H3,I',r',g1 v c⟩) fun ep s' c I'=>⟨z,_,I',rz,g2 ep c⟩
end
end L2
namespace Mr
open PySem L2
abbrev Tr:=List (Key×Addr×List PV)
end Mr
namespace L2
open PySem
variable {py spos:Pos} {y:Str}
section
variable {prog:Program} {w:World} {A:Around} {R:Result->Shared->Prop} {s:Shared}
theorem uA {kx vx target iter:Expr} {ifs:List Expr} {scope:Scope} {pos:Pos} {it:Value} {D:Addr} {env:Env} (I:Nat->Shared->Prop)
  (turn:∀n s,I n s->wpAny (model prog w) A (pyNext it) (fun r s₁=>match r with
   |none=>R (.ok .next) s₁
   | some v=>wpAny (model prog w) A (letOwnedTupleGo target it v) (fun _ s₁'=>wpAny (model prog w) A (assign target env v) (fun _ s₂=>
     wpAny (model prog w) A (forIn ifs true fun c r=>if r=true then do let ok<-isTrue c env (eval c env);pure (ForInStep.yield ok)else pure (ForInStep.yield r)) (fun ok s₃=>
      if ok=true then wpAny (model prog w) A (eval kx env) (fun kv s₄=>wpAny (model prog w) A (eval vx env) (fun vv s₅=>
       wpAny (model prog w) A (dictSet D kv vv) (fun _ s₆=>∃m,m<n/\I m s₆) (fun _ _=>False) s₅) (fun _ _=>False) s₄) (fun _ _=>False) s₃
      else∃m,m<n/\I m s₃) (fun _ _=>False) s₂) (fun _ _=>False) s₁') (fun _ _=>False) s₁) (fun _ _=>False) s)
  (n:Nat) (h:I n s):
  codeAny (model prog w) A (.compLoop (.DictComp kx vx [⟨target,iter,ifs,0⟩] scope pos) 0 it (.ref D) env) R s:=by
 refine codeAny_loop rfl I (fun n s hI=>?_) n h;show wpAny _ A ((compTurn (.DictComp kx vx [⟨target,iter,ifs,0⟩] scope pos) 0 it (.ref D) env).onRaise (fun x=>do noteFrame x env;theTreesLotGoes x)) _ _ s;refine wpAny_noted ?_;refine wpAny_mono (E:=fun _ _=>False) ?_ (fun _ _ q=>q) (fun _ _ z=>z.elim);rw[compTurn_dict];refine wpAny_bind (wpAny_standAt (wpAny_bind (wpAny_mono (turn n s hI) (fun r s₁ h₁=>?_) fun _ _ h'=>h')));cases r with
 |none=>exact wpAny_pure h₁
 | some v=>
  refine wpAny_bind (wpAny_mono h₁ (fun _ s₁' h₁'=>?_) fun _ _ h'=>h');refine wpAny_bind (wpAny_mono h₁' (fun _ s₂ h₂=>wpAny_bind (wpAny_mono h₂ (fun ok s₃ h₃=>?_) fun _ _ h'=>h')) fun _ _ h'=>h');cases ok with
  |false=>exact wpAny_pure ⟨rfl,h₃⟩
  |true=>
   exact wpAny_bind (wpAny_bind (wpAny_mono h₃ (fun kv s₄ h₄=>wpAny_bind (wpAny_holding (wpAny_mono h₄ (fun vv s₅ h₅=>wpAny_bind (wpAny_standAt (wpAny_holding (wpAny_mono h₅ (fun _ s₆ h₆=>wpAny_pure ⟨rfl,h₆⟩) fun _ _ h'=>h')))) fun _ _ h'=>h'))) fun _ _ h'=>h'))
end
def BN (J:It) (g:TG) (tt:TT) (tk te:TE) (l:Addr) (σ0:St) (H0:Hp) (Q:VK):Prop:=
 ∃W:Nat->Nat->St->Hp->Prop,(∃m,W 0 m σ0 H0)/\
   ∀i m σ' H2,W i m σ' H2->(J.stop i H2/\Q (.ref l) H2)\/ (J.go i H2/\∃N:St->Hp->Prop,(∀σ3 H3,N σ3 H3->∃m',m'<m/\W (i+1) m' σ3 H3)/\
    ∀x H3,J.AY i H2 x H3->g x σ' H3 fun σ4 H4=>tt σ4 H4 fun b H5=>if b=true then tk σ4 H5 fun kv H6=>te σ4 H6 fun y H7=>∃kvs key,bZ H7 l kvs/\kv=kV key/\kvs.length<sizeLine/\∀ep,N σ4 (upd H7 l (.dK (putK kvs key y) ep))else N σ4 H5)
def uX (wi:TI) (k:Nat) (cD:List Nat) (g:TG) (tt:TT) (tk te:TE):TE:=fun σ H Q=>wi σ H fun J H1=>∀l,H1 l=none->BN J g tt tk te l (bO k cD σ) (upd H1 l (.dK [] 0)) Q
section
variable {X:Cx} {kx vx tg iter:Expr} {ifs:List Expr} {scope:Scope} {pos:Pos} {wi:TI} {g:TG} {tt:TT} {tk te:TE} {N:List Str} {k:Nat} {cD:List Nat}
theorem xF {pins:List (Addr×Obj)} {σ:St} {H2:Hp} {s2:Shared} {cl:List (Str×Addr)} {C:Addr} {fp:List Addr} {h1:Heap} {tk:Nat} {m0:Str->Option Value} (S:fO X scope N k cD) (I2:Inv X pins σ H2 s2)
  (hcl1:∀y c,cl.lookup y=some c->X.env.cells.lookup y=some c) (hcl2:∀y,(y,NameKind.free)∈scope.names->(cl.lookup y).isSome=true) (hC:C=s2.heap.objs.size+1)
  (hf:∀b∈fp,mQ X pins H2 b) (ho:∀b∈fp,b<s2.heap.objs.size) (hk:∀b o,s2.heap.get? b=some o->h1.get? b=some o) (hD:h1.get? s2.heap.objs.size=some {cls:=.type "dict",data:=.dict #[]}) (hns:h1.Ns C m0):
  Inv (aR X scope N ⟨cl,C,s2,H2,fp⟩) [] (bO k cD σ) (upd H2 s2.heap.objs.size (.dK [] 0)) {s2 with heap:=h1,toks:=tk}:=by
 have fr:H2 s2.heap.objs.size=none:=I2.bA.fresh (le_refl _);have hCf:H2 C=none:=I2.bA.fresh (hC▸le_succ _);refine⟨oQ S I2 hcl1 hcl2 (hC▸le_succ _) hf ho,rfl,I2.bare,Un.laid hk (le_refl _) fr,⟨m0,hns,fun i y v e1 e2 e3=>?_⟩,fun x c e=>?_,?_,fun x c e=>?_,fun p hp=>absurd (show p∈([]:List (Addr×Obj))from hp) (by simp),I2.bA.laid hk (le_refl _) ?_,?_⟩
 .obtain⟨q,j,rfl,hj,hv⟩:=tY e2;obtain⟨z,hz1,hz2,hz3⟩:=S.cD q j hj;have e1':N[k+q]? =some y:=e1;rw[hz1]at e1';cases e1';obtain⟨m,hn,hl⟩:=I2.loc;have hfr:=S.free (y,.free) (PySem.mem_of_lookup hz3) rfl;obtain⟨u,r,l⟩:=hl j y v hz2 hv (by rcases hfr with z|z;exact .inr (.inl z);exact .inr (.inr z));refine⟨u,r,.inr ⟨fA (env:=X.env) hz3,?_⟩⟩;obtain⟨c,hc⟩:=isSome_iff_exists.mp (hcl2 y (PySem.mem_of_lookup hz3));rcases l with⟨hk',_⟩|⟨_,c',hc',hcell⟩
  .rcases hfr with z|z<;>(rw[hk']at z;cases z)
  .have e:=hcl1 y c hc;rw[hc']at e;cases e;obtain⟨o,ho',hd⟩:=hcell;exact⟨_,hc,o,hk _ _ ho',hd⟩
 .obtain⟨v,o,ho',hd⟩:=I2.cell x c (hcl1 x c e);exact⟨v,o,hk _ _ ho',hd⟩
 .show upd H2 s2.heap.objs.size (.dK [] 0) C=none;rw[aM (ne_of_gt (hC▸lt_succ_self _))];exact hCf
 .have e':=hcl1 x c e;obtain⟨v,q⟩:=I2.cell x c e';rw[aM (ne_of_lt q.lt)];exact I2.kQ x c e'
 .exact⟨zero_le _,beq_eq_false_iff_ne.mpr (Ne.symm (ne_of_lt I2.big)),[],.nil,⟨_, #[],hD,⟨rfl,rfl,rfl⟩,rfl,(fun _ h=>absurd h (by simp)),.nil,nodup_nil⟩⟩
 .show(bO k cD σ).length=N.length;unfold bO;rw[length_append,length_replicate,length_map,S.len]
theorem FL (hc:X.calm=true) (S:fO X scope N k cD) (hi:PI X tg iter wi) (hg:∀c,PG (aR X scope N c) tg g) (ht:∀c,HY (aR X scope N c) ifs tt) (hk:∀c,PE (aR X scope N c) kx tk) (he:∀c,PE (aR X scope N c) vx te)
  (hs:∀x,foldedSetIterable iter X.env x=pure x:=by intro _;rfl):PE X (.DictComp kx vx [⟨tg,iter,ifs,0⟩] scope pos) (uX wi k cD g tt tk te):=by
 intro pins s σ H Q I h;rw[arm_eval_DictComp];obtain⟨cl,hclos,hcl1,hcl2⟩:=gI (scope:=scope) (env:=X.env) (fun p hp hf=>I.ok.has p.1 (S.free p hp hf));refine wpAny_comprehension_free (use:=none) rfl hs hclos S.kind S.names (cE (hi pins s σ H _ I h) fun v s1 h1=>cE h1 fun itv s2 h2=>?_);obtain⟨it,fp,tn,J,H2,e,I2,T,st2,f2,q2⟩:=h2;subst e;obtain⟨W,⟨m0,w0⟩,turn⟩:=q2 s2.heap.objs.size (I2.bA.fresh (le_refl _));have hob:∀b∈fp,b<s2.heap.objs.size:=fun b hb=>let⟨o,e,_⟩:=T.obj _ _ st2 b hb;lt_size e
 refine wpAny_newObj_type (wpAny_newFunctionEnv S.cell (by intro y hy;simp at hy) (fun h₁ hns₁ hsb₁=>?_) S.kind);dsimp only at hns₁ hsb₁⊢
 generalize hHH:s2.heap.push {cls:=.type "dict",dict:=none,data:=.dict #[]}=HH at hns₁ hsb₁⊢
 have hCC:HH.objs.size=s2.heap.objs.size+1:=by rw[<-hHH,size_push]
 have old:∀b o,s2.heap.get? b=some o->h₁.get? b=some o:=fun b o e=>hsb₁.extBut b o (ne_of_lt (hCC▸lt_succ_of_lt (lt_size e))) (get?_push_of_some _ (hHH▸get?_push_of_some _ e))
 have hD:h₁.get? s2.heap.objs.size=some {cls:=.type "dict",data:=.dict #[]}:=hsb₁.extBut _ _ (ne_of_lt (hCC▸lt_succ_self _)) (get?_push_of_some _ (hHH▸get?_push_size _ rfl));have I4:=fun tk=>xF (tk:=tk) S I2 hcl1 hcl2 hCC f2 hob old hD hns₁
 have X':=aR X scope N ⟨cl,HH.objs.size,s2,H2,fp⟩;have stat:∀{H':Hp},(∀b∈fp,H' b=none)->∀b∈fp,mQ (aR X scope N ⟨cl,HH.objs.size,s2,H2,fp⟩) [] H' b:=fun hn b hb=>
  ⟨hn b hb,ne_of_lt (hCC▸lt_succ_of_lt (hob b hb)),(oQ S I2 hcl1 hcl2 (hCC▸le_succ _) f2 hob).wV b hb,.inl hb,fun x c e=>(f2 b hb).2.2.2.2.1 x c (hcl1 x c e),fun p hp=>absurd (show p∈([]:List (Addr×Obj))from hp) (by simp)⟩
 have loop:∀s₃:Shared,s₃={s2 with heap:=h₁,toks:=s2.toks+([]:List (Str×Value)).length}->
   codeAny (model X.prog X.w) X.A (.compLoop (.DictComp kx vx [⟨tg,iter,ifs,0⟩] scope pos) 0 (.ref it) (.ref s2.heap.objs.size) (compEnvC scope cl HH.objs.size X.env))
    (compPost (model X.prog X.w) X.A X.xe none (EP X pins σ Q) (.ref s2.heap.objs.size) HH.objs.size) s₃:=by
  rintro s₃ rfl;refine uA (fun n s'=>∃i σ' H',Inv (aR X scope N ⟨cl,HH.objs.size,s2,H2,fp⟩) [] σ' H' s'/\tn i s'.heap/\(∀b∈fp,H' b=none)/\W i n σ' H') ?_ m0
   ⟨0,bO k cD σ,_,I4 _,T.keep _ _ _ st2 fun b _ o e=>old b o e,fun b hb=>by rw[aM (ne_of_lt (hob b hb))];exact(f2 b hb).1,w0⟩
  rintro n s3 ⟨i,σ3,H3,I3,st3,fr3,w3⟩;rcases turn i n σ3 H3 w3 with⟨stop,qn⟩|⟨go,NN,hN,step⟩
  .refine cE (T.done (aR X scope N ⟨cl,HH.objs.size,s2,H2,fp⟩) rfl rfl rfl hc i [] s3 σ3 H3 _ I3 (stat fr3) st3 stop) fun r s4 ⟨hr,J4⟩=>?_
   subst hr;obtain⟨m,hn,_⟩:=J4.loc;refine⟨m,hn,fun h' hs'=>?_⟩;have keepC:∀b o,b≠HH.objs.size->s4.heap.get? b=some o->h'.get? b=some o:=fun b o hb e=>hs'.extBut b o hb e
   have g7:∀b o,s2.heap.get? b=some o->b≠HH.objs.size:=fun b o e=>ne_of_lt (hCC▸lt_succ_of_lt (lt_size e))
   have u:=J4.base;have u':Un (D5 X.stack) fp H2 H3 s2.heap h':=⟨fun b o q n hb hx=>keepC b o (g7 b o q) (u.keep b o q n hb hx),fun b o q n hb hx=>by
     obtain⟨sl,e⟩:=u.slot b o q n hb hx;exact⟨sl,keepC b _ (g7 b o q) e⟩,u.free,fun b o q hx=>by
     obtain⟨o',e⟩:=u.there b o q hx;exact⟨o',keepC b _ (g7 b o q) e⟩,u.sQ,u.r6,u.sM⟩
   refine⟨.ref s2.heap.objs.size,H3,I2.A6 (ch:=fp) J4.os u' (J4.bA.but J4.free keepC) J4.bare fun b hb=>?_,rfl,qn⟩;obtain⟨_,f1,_,f3,f4,f5⟩:=f2 b hb;exact⟨f3,f1,f4,f5⟩
  .refine cE (T.item (aR X scope N ⟨cl,HH.objs.size,s2,H2,fp⟩) rfl rfl rfl hc i [] s3 σ3 H3 _ I3 (stat fr3) st3 go) fun r s4 ⟨u,hr,h4⟩=>?_
   subst hr;refine cE h4 fun _ s5 ⟨x,H5,I5,r5,y5,st5,fr5⟩=>?_
   have I5':=I5.pinned (stat fr5) (T.obj _ _ st5);have again:∀{s7:Shared} {σ7:St} {H7:Hp},Inv (aR X scope N ⟨cl,HH.objs.size,s2,H2,fp⟩) ([]++lL fp s5.heap) σ7 H7 s7->NN σ7 H7->
     ∃m,m<n/\∃i σ' H',Inv (aR X scope N ⟨cl,HH.objs.size,s2,H2,fp⟩) [] σ' H' s7/\tn i s7.heap/\(∀b∈fp,H' b=none)/\W i m σ' H':=fun{s7 σ7 H7} I7 n7=>by
    obtain⟨m',hm,w7⟩:=hN σ7 H7 n7;refine⟨m',hm,i+1,σ7,H7,I7.iM,T.keep _ _ _ st5 fun b hb o e=>(I7.pin (b,o) (mem_append_right _ (mem_append_right _ (dJ hb e)))).1,fun b hb=>?_,w7⟩;obtain⟨o,e,d⟩:=T.obj _ _ st5 b hb;exact(I7.pin (b,o) (mem_append_right _ (mem_append_right _ (dJ hb e)))).2.1
   refine cE (hg _ _ s5 σ3 H5 x u _ I5' r5 (step x H5 y5)) fun _ s6 ⟨σ6,H6,I6,q6⟩=>?_
   refine cE (ht _ _ s6 σ6 H6 _ I6 q6) fun b s7 ⟨H7,I7,q7⟩=>?_
   cases b with
   |false=>exact again I7 q7
   |true=>
    refine cE (hk _ _ s7 σ6 H7 _ I7 q7) fun kv s8 ⟨kx',H8,I8,r8,q8⟩=>?_
    refine cE (he _ _ s8 σ6 H8 _ I8 q8) fun y s9 ⟨yv,H9,I9,r9,kvs,key,hl,ek,hz,n9⟩=>?_
    subst ek;obtain⟨z,hd,vs,rel,dd⟩:=yD I9.bA hl;have hz':vs.length<=sizeLine:=by rw[<-rel.length];exact z
    have hl':(putK kvs key yv).length<=sizeLine:=by have:=fP kvs key yv;omega
    refine wpAny_dictSet_pairs (hsz:=hz') (kX r8) dd fun h' dd' hs'=>?_
    have hx':∃q,h'.get? s2.heap.objs.size=some q:=let⟨q,_,_,hq,_⟩:=dd';⟨q,hq⟩
    obtain⟨ep,da⟩:=dd'.dictAt;exact again (j7 I9 hl.OW hs' hx' (rS hl' hd (rel.put key r9) da)) (n9 ep)
 exact codeAny_compStart_dict (loop _ rfl) (T.self X.A 0 _ _ _ (T.keep _ _ _ st2 fun b _ o e=>old b o e) (loop _ rfl))
theorem pG (N:List Str) (k:Nat) (cD:List Nat) (XN:List Str) (xs:Scope) (hc:X.calm=true) (hN:X.N=XN) (hx:X.env.scope=xs) (hi:PI X tg iter wi) (chk:lX XN xs scope N k cD=true)
  (hg:∀c,PG (aR X scope N c) tg g) (ht:∀c,HY (aR X scope N c) ifs tt) (hk:∀c,PE (aR X scope N c) kx tk) (he:∀c,PE (aR X scope N c) vx te)
  (hs:∀x,foldedSetIterable iter X.env x=pure x:=by intro _;rfl):PE X (.DictComp kx vx [⟨tg,iter,ifs,0⟩] scope pos) (uX wi k cD g tt tk te):=FL hc (g5 hN hx chk) hi hg ht hk he hs
end
section
variable {X:Cx} {kx vx tg iter:Expr} {ifs:List Expr} {scope:Scope} {pos:Pos} {wi:TI} {g:TG} {tt:TT} {tk te:TE} {N:List Str} {k:Nat} {cD:List Nat}
theorem GY {iy:Nat} (hc:X.calm=true) (hNd:X.N.Nodup) (hiy:X.N[iy]? =some y) (hy:X.env.scope.names.lookup y=some .local)
  (S:fO X scope N k cD) (hi:PI X tg iter wi) (hg:∀c,PG (aR X scope N c) tg g) (ht:∀c,HY (aR X scope N c) ifs tt) (hk:∀c,PE (aR X scope N c) kx tk) (he:∀c,PE (aR X scope N c) vx te)
  (hsw:swapsWith (.DictComp kx vx [⟨tg,iter,ifs,0⟩] scope pos) (some (.Name y py)) spos.line X.env=pure true)
  (hs:∀x,foldedSetIterable iter X.env x=pure x:=by intro _;rfl):PS X (.Assign [.Name y py] (.DictComp kx vx [⟨tg,iter,ifs,0⟩] scope pos) spos) (mD (uX wi k cD g tt tk te) (gN iy)):=by
 intro pins s σ H D I h;rw[exec_Assign_Name_used _ _ _ _ hsw];refine wpAny_bind (wpAny_standAt (wpAny_bind ?_));obtain⟨cl,hclos,hcl1,hcl2⟩:=gI (scope:=scope) (env:=X.env) (fun p hp hf=>I.ok.has p.1 (S.free p hp hf));show wpAny _ X.A (do let _<-comprehension (.DictComp kx vx [⟨tg,iter,ifs,0⟩] scope pos) scope X.env _ newDict false (eval iter X.env) (some (assign (.Name y py) X.env))) _ _ s;refine wpAny_bind (wpAny_mono (wpAny_comprehension_free (use:=some (assign (.Name y py) X.env)) (Q:=fun _ s'=>SP X pins D .next s') rfl hs hclos S.kind S.names (cE (hi pins s σ H _ I h) fun v s1 h1=>cE h1 fun itv s2 h2=>?_)) (fun _ s' hq=>wpAny_pure (wpAny_pure hq)) fun _ _ e=>e);obtain⟨it,fp,tn,J,H2,e,I2,T,st2,f2,q2⟩:=h2;subst e;obtain⟨W,⟨m0,w0⟩,turn⟩:=q2 s2.heap.objs.size (I2.bA.fresh (le_refl _));have hob:∀b∈fp,b<s2.heap.objs.size:=fun b hb=>let⟨o,e,_⟩:=T.obj _ _ st2 b hb;lt_size e
 refine wpAny_newObj_type (wpAny_newFunctionEnv S.cell (by intro y hy;simp at hy) (fun h₁ hns₁ hsb₁=>?_) S.kind);dsimp only at hns₁ hsb₁⊢
 generalize hHH:s2.heap.push {cls:=.type "dict",dict:=none,data:=.dict #[]}=HH at hns₁ hsb₁⊢
 have hCC:HH.objs.size=s2.heap.objs.size+1:=by rw[<-hHH,size_push]
 have old:∀b o,s2.heap.get? b=some o->h₁.get? b=some o:=fun b o e=>hsb₁.extBut b o (ne_of_lt (hCC▸lt_succ_of_lt (lt_size e))) (get?_push_of_some _ (hHH▸get?_push_of_some _ e))
 have hD:h₁.get? s2.heap.objs.size=some {cls:=.type "dict",data:=.dict #[]}:=hsb₁.extBut _ _ (ne_of_lt (hCC▸lt_succ_self _)) (get?_push_of_some _ (hHH▸get?_push_size _ rfl));have I4:=fun tk=>xF (tk:=tk) S I2 hcl1 hcl2 hCC f2 hob old hD hns₁
 have X':=aR X scope N ⟨cl,HH.objs.size,s2,H2,fp⟩;have stat:∀{H':Hp},(∀b∈fp,H' b=none)->∀b∈fp,mQ (aR X scope N ⟨cl,HH.objs.size,s2,H2,fp⟩) [] H' b:=fun hn b hb=>
  ⟨hn b hb,ne_of_lt (hCC▸lt_succ_of_lt (hob b hb)),(oQ S I2 hcl1 hcl2 (hCC▸le_succ _) f2 hob).wV b hb,.inl hb,fun x c e=>(f2 b hb).2.2.2.2.1 x c (hcl1 x c e),fun p hp=>absurd (show p∈([]:List (Addr×Obj))from hp) (by simp)⟩
 have loop:∀s₃:Shared,s₃={s2 with heap:=h₁,toks:=s2.toks+([]:List (Str×Value)).length}->
   codeAny (model X.prog X.w) X.A (.compLoop (.DictComp kx vx [⟨tg,iter,ifs,0⟩] scope pos) 0 (.ref it) (.ref s2.heap.objs.size) (compEnvC scope cl HH.objs.size X.env))
    (compPost (model X.prog X.w) X.A X.xe (some (assign (.Name y py) X.env)) (fun _ s'=>SP X pins D .next s') (.ref s2.heap.objs.size) HH.objs.size) s₃:=by
  rintro s₃ rfl;refine uA (fun n s'=>∃i σ' H',Inv (aR X scope N ⟨cl,HH.objs.size,s2,H2,fp⟩) [] σ' H' s'/\tn i s'.heap/\(∀b∈fp,H' b=none)/\W i n σ' H') ?_ m0
   ⟨0,bO k cD σ,_,I4 _,T.keep _ _ _ st2 fun b _ o e=>old b o e,fun b hb=>by rw[aM (ne_of_lt (hob b hb))];exact(f2 b hb).1,w0⟩
  rintro n s3 ⟨i,σ3,H3,I3,st3,fr3,w3⟩;rcases turn i n σ3 H3 w3 with⟨stop,qn⟩|⟨go,NN,hN,step⟩
  .refine cE (T.done (aR X scope N ⟨cl,HH.objs.size,s2,H2,fp⟩) rfl rfl rfl hc i [] s3 σ3 H3 _ I3 (stat fr3) st3 stop) fun r s4 ⟨hr,J4⟩=>?_
   subst hr;obtain⟨m,hn,_⟩:=J4.loc;obtain⟨oC,es,ep,hoC,hdC,rC⟩:=hn;have g7:∀b o,s2.heap.get? b=some o->b≠HH.objs.size:=fun b o e=>ne_of_lt (hCC▸lt_succ_of_lt (lt_size e))
   have szC:s2.heap.objs.size<=HH.objs.size:=hCC▸le_succ _;have u:=J4.base;have I4x:Inv X pins σ H3 s4:=I2.A6 (ch:=fp) J4.os u J4.bA J4.bare fun b hb=>by
    obtain⟨_,f1,_,f3,f4,f5⟩:=f2 b hb;exact⟨f3,f1,f4,f5⟩
   have lC:HH.objs.size≠X.env.locals:=ne_of_gt (lt_of_lt_of_le I2.lt szC);have I4p:Inv X ((HH.objs.size,oC)::pins) σ H3 s4:=I4x.lY fun p hp=>by
    rcases mem_cons.mp hp with r|r
    .rw[r];exact⟨hoC,J4.free,lC,I2.OE szC,fun v z=>by rw[hdC]at z;cases z⟩
    .exact I4x.pin p (mem_append_right _ r)
   show wpAny _ X.A (assign (.Name y py) X.env (.ref s2.heap.objs.size)) _ _ _;refine wpAny_assign_Name (jH I4p hNd hiy (.inl hy) (v:=.ref s2.heap.objs.size) rfl (fun s5 I5=>?_) (.inr hy));have hC5:=I5.pin (HH.objs.size,oC) (mem_append_right _ mem_cons_self);refine⟨m,⟨oC,es,ep,hC5.1,hdC,rC⟩,fun h' hs'=>⟨_,H3,?_,qn⟩⟩;have I6:Inv X pins (σ.set iy (some (.ref s2.heap.objs.size))) H3 s5:=I5.lY fun p hp=>I5.pin p (mem_append_right _ (mem_cons_of_mem _ hp))
   refine I6.turned (it:=HH.objs.size) (t':=s5.toks) (fun b o hb e=>hs'.extBut b o hb e) J4.free lC (.inr (le_trans I2.sz szC)) (fun x c e=>?_) (fun p hp=>?_)
   .obtain⟨v,q⟩:=I2.cell x c e;exact ne_of_lt (lt_of_lt_of_le q.lt szC)
   .exact g7 p.1 p.2 (I2.pin p hp).1
  .refine cE (T.item (aR X scope N ⟨cl,HH.objs.size,s2,H2,fp⟩) rfl rfl rfl hc i [] s3 σ3 H3 _ I3 (stat fr3) st3 go) fun r s4 ⟨u,hr,h4⟩=>?_
   subst hr;refine cE h4 fun _ s5 ⟨x,H5,I5,r5,y5,st5,fr5⟩=>?_
   have I5':=I5.pinned (stat fr5) (T.obj _ _ st5);have again:∀{s7:Shared} {σ7:St} {H7:Hp},Inv (aR X scope N ⟨cl,HH.objs.size,s2,H2,fp⟩) ([]++lL fp s5.heap) σ7 H7 s7->NN σ7 H7->
     ∃m,m<n/\∃i σ' H',Inv (aR X scope N ⟨cl,HH.objs.size,s2,H2,fp⟩) [] σ' H' s7/\tn i s7.heap/\(∀b∈fp,H' b=none)/\W i m σ' H':=fun{s7 σ7 H7} I7 n7=>by
    obtain⟨m',hm,w7⟩:=hN σ7 H7 n7;refine⟨m',hm,i+1,σ7,H7,I7.iM,T.keep _ _ _ st5 fun b hb o e=>(I7.pin (b,o) (mem_append_right _ (mem_append_right _ (dJ hb e)))).1,fun b hb=>?_,w7⟩;obtain⟨o,e,d⟩:=T.obj _ _ st5 b hb;exact(I7.pin (b,o) (mem_append_right _ (mem_append_right _ (dJ hb e)))).2.1
   refine cE (hg _ _ s5 σ3 H5 x u _ I5' r5 (step x H5 y5)) fun _ s6 ⟨σ6,H6,I6,q6⟩=>?_
   refine cE (ht _ _ s6 σ6 H6 _ I6 q6) fun b s7 ⟨H7,I7,q7⟩=>?_
   cases b with
   |false=>exact again I7 q7
   |true=>
    refine cE (hk _ _ s7 σ6 H7 _ I7 q7) fun kv s8 ⟨kx',H8,I8,r8,q8⟩=>?_
    refine cE (he _ _ s8 σ6 H8 _ I8 q8) fun y s9 ⟨yv,H9,I9,r9,kvs,key,hl,ek,hz,n9⟩=>?_
    subst ek;obtain⟨z,hd,vs,rel,dd⟩:=yD I9.bA hl;have hz':vs.length<=sizeLine:=by rw[<-rel.length];exact z
    have hl':(putK kvs key yv).length<=sizeLine:=by have:=fP kvs key yv;omega
    refine wpAny_dictSet_pairs (hsz:=hz') (kX r8) dd fun h' dd' hs'=>?_
    have hx':∃q,h'.get? s2.heap.objs.size=some q:=let⟨q,_,_,hq,_⟩:=dd';⟨q,hq⟩
    obtain⟨ep,da⟩:=dd'.dictAt;exact again (j7 I9 hl.OW hs' hx' (rS hl' hd (rel.put key r9) da)) (n9 ep)
 exact codeAny_compStart_dict (loop _ rfl) (T.self X.A 0 _ _ _ (T.keep _ _ _ st2 fun b _ o e=>old b o e) (loop _ rfl))
theorem xD {i:Nat} (N:List Str) (k:Nat) (cD:List Nat) (XN:List Str) (xs:Scope) (hc:X.calm=true) (hN:X.N=XN) (hx:X.env.scope=xs) (hNd:X.N.Nodup) (hiy:X.N[i]? =some y) (hy:X.env.scope.names.lookup y=some .local)
  (hi:PI X tg iter wi) (chk:lX XN xs scope N k cD=true) (hg:∀c,PG (aR X scope N c) tg g) (ht:∀c,HY (aR X scope N c) ifs tt) (hk:∀c,PE (aR X scope N c) kx tk) (he:∀c,PE (aR X scope N c) vx te)
  (hsw:swapsWith (.DictComp kx vx [⟨tg,iter,ifs,0⟩] scope pos) (some (.Name y py)) spos.line X.env=pure true:=by rfl)
  (hs:∀x,foldedSetIterable iter X.env x=pure x:=by intro _;rfl):PS X (.Assign [.Name y py] (.DictComp kx vx [⟨tg,iter,ifs,0⟩] scope pos) spos) (mD (uX wi k cD g tt tk te) (gN i)):=
 GY hc hNd hiy hy (g5 hN hx chk) hi hg ht hk he hsw hs
end
end L2
namespace L2
open PySem PyProof.Rows
section
variable {X:Cx}
def JA (K:Frag):V->List V->Hp->VK->Prop:=fun x vs H Q=>∃(l:Addr) (zs:List Str) (y:Str),x= .ref l/\vs=[.str y]/\bJ K H l (zs.map V.str)/\y∈zs/\zs.length<1000000/\Q (.int (zs.idxOf y:Nat)) H
theorem m6 (k:Str):∀{vs:List Value} {ys:List Str},StrsAre vs ys->∀(j:Nat) (h1:j<vs.length) (h2:j<ys.length),isStrOf k vs[j]=(ys[j]==k)
 |_,_,.cons n t h,0,_,_=>rfl
 |_,_,.cons n t h,j+1,h1,h2=>m6 k h j (by simpa using h1) (by simpa using h2)
theorem zC:∀{vs:List Value} {ys:List Str},StrsAre vs ys->vs.length=ys.length
 |_,_,.nil=>rfl
 |_,_,.cons n t h=>by rw[length_cons,length_cons,zC h]
theorem sZ (K:Frag) (hK:X.K=K:=by rfl):EB X "list.index" (JA K):=by
 subst hK;intro pins s σ H x vs v us Q I rx rv h;obtain⟨l,zs,y,rfl,rfl,hq,hy,hz,q⟩:=h;cases rx;obtain⟨u,rfl,t,rfl⟩:=vals1 rv;obtain⟨its,r,pl,_⟩:=I.list hq;have hi:StrsAre its zs:=vZ r;have hl:=pl.isList;obtain⟨⟨cls,dd,data,sl⟩,ho,hc,n,hd⟩:=id hl;simp only at hc hd;subst hc hd;have hlen:=zC hi;have hj:zs.idxOf y<zs.length:=List.idxOf_lt_length_iff.mpr hy;refine call_meets slot_list_index ⟨_,ho,rfl⟩ PySem.F.entry_list_index (PySem.F.args_list_index_2 _ _)
  (SeqAt.list_indexAt l its.toArray n dd sl (.str y t) (isStrOf y) (zs.idxOf y) (by simpa [hlen]using hj) (by omega) ?_ ?_) ⟨ho,fun w hw=>(eq_isStrOf y t hi w (by simpa using hw)).at _ _,⟨.int (zs.idxOf y:Nat),H,I.tok _,⟨_,rfl⟩,q⟩⟩
 .show isStrOf y its[zs.idxOf y]=true;rw[m6 y hi _ (by omega) hj];simpa using List.getElem_idxOf hj
 .intro j hjs hlt;show isStrOf y its[j]=false;rw[m6 y hi j (by simpa using hjs) (by omega)];have:=List.not_of_lt_findIdx (p:=(·==y)) (xs:=zs) (i:=j) hlt;simpa using this
end
end L2
namespace L2
open PySem PySem.Spec PyProof.Rows
variable {l tg:Expr} {elts:List Expr} {K:Frag} {tl:TE} {w:World}
theorem Paired.NG {α β:Type} {F:α->β->Prop}:∀{l:List α} {m:List β} {i:Nat} {x:α},Paired F l m->l[i]? =some x->∃y,m[i]? =some y/\F x y
 |_,_,_,_,.nil,h=>by simp at h
 |_,_,0,_,.cons h _,e=>by simp at e;subst e;exact⟨_,rfl,h⟩
 |_,_,i+1,_,.cons _ r,e=>by
  obtain⟨y,h1,h2⟩:=Paired.NG (i:=i) r (by simpa using e);exact⟨y,by simpa using h1,h2⟩
theorem ET {k:Key} {v:Value} (e:gU k v=true):RelV (kV k) v:=by
 rcases bL e with⟨i,t,rfl,rfl⟩|⟨x,t,rfl,rfl⟩
 .exact⟨t,rfl⟩
 .exact⟨t,rfl⟩
noncomputable def Q5 (a:Addr) (kvs:List (Key×V)) (ep:Nat):It:=
 ⟨fun i H=>Rd H a (.dK kvs ep)/\i<kvs.length,fun i H x H'=>H'=H/\∀kv,kvs[i]? =some kv->x=kV kv.1,fun i H=>Rd H a (.dK kvs ep)/\i=kvs.length⟩
theorem CT {P:Program} (a it:Addr) (kvs:List (Key×V)) (ep:Nat):Turn P w K tg (Q5 a kvs ep) [it] it (fun i h=>h.IsKeyIter it a i kvs.length ep)where
 mem:=by simp
 obj:=fun i h st b hb=>by
  have e:b=it:=by simpa using hb
  subst e;obtain⟨o,e,c,d⟩:=st;exact⟨o,e,fun v z=>by rw[d]at z;cases z⟩
 keep:=fun i h h' st k=>st.at fun o e=>k it (by simp) o e
 item:=by
  intro X hP hw hK hc i pins s σ H E I hf st hg;subst hP hw hK;obtain⟨hr,hi⟩:=hg;obtain⟨_,_,vs,rel,dd⟩:=rF I.bA hr;have hl:kvs.length=vs.length:=Paired.length rel;obtain⟨q,hq,rq⟩:=Paired.NG rel (getElem?_eq_getElem hi);rw[hl]at st;obtain⟨f0,f1,f2,f3,f4,f5⟩:=hf it (by simp);refine wpAny_pyNext_dict_item st dd (k:=q.1) (v:=q.2) hq fun key h' hk st' sb=>?_
  have I1:Inv X pins σ H {s with heap:=h'}:=I.turned (t':=s.toks) (fun b o hb e=>(sb.2 b hb).trans e) f0 f1 f3 f4 f5;obtain⟨o,e,c,d⟩:=id st';rw[<-hl]at st';refine⟨key,rfl,t6 (s:={s with heap:=h'}) e c d (by decide) ⟨kV q.1,H,I1,ET hk,⟨rfl,fun kv hkv=>?_⟩,st',fun b hb=>(hf b hb).1⟩⟩;rw[getElem?_eq_getElem hi]at hkv;cases hkv;rw[rq.1]
 done:=by
  intro X hP hw hK hc i pins s σ H E I hf st hg;subst hP hw hK;obtain⟨hr,hi⟩:=hg;obtain⟨_,_,vs,rel,dd⟩:=rF I.bA hr;have hl:kvs.length=vs.length:=Paired.length rel;rw[hl]at st;obtain⟨f0,f1,f2,f3,f4,f5⟩:=hf it (by simp);exact wpAny_pyNext_dict_end (I.ok.hd hc) st dd (List.getElem?_eq_none_iff.mpr (by omega)) fun h' eb=>⟨rfl,I.turned (t':=s.toks) (fun b o hb e=>eb b o hb e) f0 f1 f3 f4 f5⟩
 self:=fun _ _ _ _ _ st h=>wpAny_pyIter_keyiter st h
noncomputable def RJ (a:Addr) (kvs:List (Key×V)) (ep:Nat):It:=
 ⟨fun i H=>Rd H a (.dK kvs ep)/\i<kvs.length,fun i H v H'=>∃t,H t=none/\v= .ref t/\∀kv,kvs[i]? =some kv->H'=upd H t (.tup [kV kv.1,kv.2]),fun i H=>Rd H a (.dK kvs ep)/\i=kvs.length⟩
theorem AL {P:Program} {x1} {pos:Pos} (a it:Addr) (kvs:List (Key×V)) (ep:Nat):Turn P w K (.Tuple elts x1 pos) (RJ a kvs ep) [it] it (fun i h=>∃ok ov,IsItemIter h it a i kvs.length ep ok ov)where
 mem:=by simp
 obj:=fun i h st b hb=>by
  have e:b=it:=by simpa using hb
  subst e;obtain⟨_,_,e⟩:=st;exact⟨_,e,fun v z=>by cases z⟩
 keep:=fun i h h' st k=>let⟨ok,ov,e⟩:=st;⟨ok,ov,k it (by simp) _ e⟩
 item:=by
  intro X hP hw hK hc i pins s σ H E I hf st hg;subst hP hw hK;obtain⟨hr,hi⟩:=hg;obtain⟨ok,ov,st⟩:=st;obtain⟨_,_,vs,rel,dd⟩:=rF I.bA hr;have hl:kvs.length=vs.length:=Paired.length rel;obtain⟨q,hq,rq⟩:=Paired.NG rel (getElem?_eq_getElem hi);rw[hl]at st;refine wpAny_pyNext_items_item st dd (k:=q.1) (v:=q.2) hq fun key h' hk ho' htup hsz hkp=>?_
  refine⟨_,rfl,wpAny_letOwnedTupleGo_items (s:={s with heap:=h'}) ho' fun h2 he2 sb=>?_⟩;have hT:s.heap.objs.size≠it:=fun z=>by
   have:=lt_size st;rw[<-z]at this;exact lt_irrefl _ this
  have hk2:∀b o,b∉[it]->s.heap.get? b=some o->h2.get? b=some o:=fun b o hb q=>
   sb.extBut b o (fun z=>hb (by simp[z])) (hkp b o (fun z=>hb (by simp[z])) q)
  have hfr:H s.heap.objs.size=none:=I.bA.fresh (le_refl _);have htup2:h2.get? s.heap.objs.size=some {cls:=.type "tuple",data:=.seq #[key,q.2]}:=sb.extBut _ _ hT htup;have I2:Inv X pins σ (upd H s.heap.objs.size (.tup [kV q.1,kvs[i].2])) {s with heap:=h2,toks:=s.toks}:=by
   refine I.R6 hk2 hf hfr (by simp[hT]) ⟨by show 2<=sizeLine;decide,[key,q.2],.cons (ET hk) (.cons rq.2 .nil),oI.of htup2⟩ (fun b hb o q=>?_);have r:b=it:=by simpa using hb
   subst r;exact⟨_,he2⟩
  refine⟨.ref s.heap.objs.size,_,I2,rfl,⟨s.heap.objs.size,hfr,rfl,fun kv hkv=>?_⟩,⟨_,_,by rw[hl];exact he2⟩,fun b hb=>?_⟩
  .rw[getElem?_eq_getElem hi]at hkv;cases hkv;rw[rq.1]
  .have r:b=it:=by simpa using hb
   rw[aM (by rw[r];exact Ne.symm hT)];exact(hf b hb).1
 done:=by
  intro X hP hw hK hc i pins s σ H E I hf st hg;subst hP hw hK;obtain⟨hr,hi⟩:=hg;obtain⟨ok,ov,st⟩:=st;obtain⟨_,_,vs,rel,dd⟩:=rF I.bA hr;have hl:kvs.length=vs.length:=Paired.length rel;rw[hl]at st;obtain⟨f0,f1,f2,f3,f4,f5⟩:=hf it (by simp);exact wpAny_pyNext_items_end (I.ok.hd hc) st dd (List.getElem?_eq_none_iff.mpr (by omega)) fun h' eb=>⟨rfl,I.turned (t':=s.toks) (fun b o hb e=>eb b o hb e) f0 f1 f3 f4 f5⟩
 self:=fun _ _ _ _ _ st h=>by
  obtain⟨_,_,e⟩:=st;exact PySem.W.kcp_self e h
section
variable {X:Cx}
def pM (tl:TE):TI:=fun σ H R=>tl σ H fun x H1=>∃a kvs ep,x= .ref a/\Rd H1 a (.dK kvs ep)/\R (Q5 a kvs ep) H1
theorem wI (hl:PE X l tl):PI X tg l (pM tl):=by
 intro pins s σ H R I h;refine cE (hl pins s σ H _ I h) fun v s1 ⟨x,H1,I1,r1,a,kvs,ep,e,hr,q⟩=>?_
 subst e;cases r1;obtain⟨_,hd,vs,rel,dd⟩:=rF I1.bA hr;refine wpAny_pyIter_dict hd dd ?_;refine⟨s1.heap.objs.size,[s1.heap.objs.size],_,_,H1,rfl,I1.kept (t':=s1.toks) fun b o e=>get?_push_of_some _ e,CT a _ kvs ep,⟨_,get?_push_size _ rfl,rfl,by rw[show kvs.length=vs.length from Paired.length rel];rfl⟩,fun b hb=>?_,q⟩;have e:b=s1.heap.objs.size:=by simpa using hb
 subst e;exact I1.oG (le_refl _) (I1.bA.fresh (le_refl _))
def kW (te:TE):TI:=fun σ H R=>te σ H fun x H1=>∃v a kvs ep,x= .ref v/\H1 v=some (LV v a)/\Rd H1 a (.dK kvs ep)/\R (RJ a kvs ep) H1
theorem EY {x1} {tpos:Pos} (hl:PE X l tl):PI X (.Tuple elts x1 tpos) l (kW tl):=by
 intro pins s σ H R I h;refine cE (hl pins s σ H _ I h) fun v s1 ⟨x,H1,I1,r1,vw,a,kvs,ep,e,hv,hr,q⟩=>?_
 subst e;cases r1;obtain⟨_,hd,vs,rel,dd⟩:=rF I1.bA hr;have vi:s1.heap.IsItemsView vw a:=(show dN X.prog X.w H1 s1.heap vw (LV vw a)from I1.bA vw _ hv).1;refine wpAny_pyIter_items vi dd ?_;refine⟨s1.heap.objs.size,[s1.heap.objs.size],_,_,H1,rfl,I1.kept (t':=s1.toks) fun b o e=>get?_push_of_some _ e,AL a _ kvs ep,⟨.none,.none,by rw[show kvs.length=vs.length from Paired.length rel];exact get?_push_size _ rfl⟩,fun b hb=>?_,q⟩;have e:b=s1.heap.objs.size:=by simpa using hb
 subst e;exact I1.oG (le_refl _) (I1.bA.fresh (le_refl _))
end
end L2
namespace L2
open PySem PySem.Spec PyProof.Rows PySem.W
section
variable {prog:Program} {w:World} {A:Around}
theorem E6 {E:Value->Shared->Prop} {s0:Shared} {x y:Value} {Q:Value->Shared->Prop} {ok:Heap->Prop} (bt:Nat->Nat->Bool) (hh:A.handled=none)
  (bA:∀h',(∀b o,s0.heap.get? b=some o->h'.get? b=some o)->ok h') (okk:∀h h':Heap,ok h->(∀b o,b<s0.heap.objs.size->h.get? b=some o->h'.get? b=some o)->ok h') (hcmp:FR prog w A.in1 ok (fun i v=>[x,y][i]? =some v) bt)
  (hq:∀v h' tk,[x,y][argBest bt ([x,y].length - 1)]? =some v->(∀b o,s0.heap.get? b=some o->h'.get? b=some o)->Q v {s0 with heap:=h',toks:=tk}):wpAny (model prog w) A (call (.builtin "min") [x,y]) Q E s0:=by
 refine call_function_tree F.kind_min F.plain_min F.entry_min (F.args_min2 _ _) ?_;refine wpAny_bind (m:=Builtin.Builtins.bindParams "min" ["key","default"] 0 ⟨[],[]⟩) (wpAny_of_eq (show Builtin.Builtins.bindParams "min" ["key","default"] 0 ⟨[],[]⟩=pure [none,none]from rfl) ?_);show wpAny _ A.in1 (newTuple [x,y]>>=_) _ _ s0;refine wpAny_bind (wpAny_newObj_type ?_)
 let s:Shared:={s0 with heap:=s0.heap.push {cls:=.type "tuple",data:=.seq #[x,y]}}
 let l:Addr:=s0.heap.objs.size
 let vs:List Value:=[x,y]
 have lS0:s0.heap.objs.size<(s0.heap.push {cls:=.type "tuple",data:=.seq #[x,y]}).objs.size:=by rw[size_push];exact lt_succ_self _
 have hl:s.heap.IsTuple l vs.toArray:=⟨_,get?_push_size _ rfl,rfl,0,rfl⟩;have hn:0<vs.length:=by show 0<2;decide
 have hsz:s0.heap.objs.size<s.heap.objs.size:=lS0;have lS:l<s.heap.objs.size:=let⟨_,e,_⟩:=hl;lt_size e
 have k0:∀b o,s0.heap.get? b=some o->s.heap.get? b=some o:=fun b o e=>get?_push_of_some _ e
 refine wpAny_bind (wpAny_pyIter_tuple (s:=s) hl ?_);refine wpAny_bind (wpAny_newObj_type ?_);rw[o6];generalize hX:(s.heap.push {cls:=.type "tuple_iterator",data:=.fields #[.ref l,.int 0 0]})=h1;have z1:h1.objs.size=s.heap.objs.size+1:=by rw[<-hX];exact size_push ..
 have k1:∀b o,s.heap.get? b=some o->h1.get? b=some o:=fun b o e=>by rw[<-hX];exact get?_push_of_some _ e
 have e1:h1.get? s.heap.objs.size=some {cls:=.type "tuple_iterator",data:=.fields #[.ref l,.int 0 0]}:=by rw[<-hX];exact get?_push_size _ rfl
 have nI:l≠s.heap.objs.size:=ne_of_lt lS;have W:=Walks.tuple (prog:=prog) (w:=w) (A:=A.in1) (by exact hh) s.heap.objs.size l nI vs.toArray;have gS:(h1.push {cls:=.type "list",data:=.seq ([]:List Value).toArray}).get? h1.objs.size=some {cls:=.type "list",dict:=none,data:=.seq #[] 0,slots:= #[]}:=get?_push_size _ rfl;have nf:h1.objs.size∉[s.heap.objs.size,l]:=by
  rw[z1];simp only[mem_cons,List.not_mem_nil,or_false,not_or];exact⟨ne_of_gt (lt_succ_self _),ne_of_gt (lt_succ_of_lt lS)⟩
 have nw:h1.objs.size∉[s.heap.objs.size]:=fun z=>nf (by simp at z⊢;exact .inl z)
 have st0:(h1.push {cls:=.type "list",data:=.seq ([]:List Value).toArray}).IsTupleIter s.heap.objs.size l 0/\(h1.push {cls:=.type "list",data:=.seq ([]:List Value).toArray}).IsTuple l vs.toArray:=by
  refine⟨⟨_,get?_push_of_some _ e1,rfl,rfl⟩,?_⟩;obtain⟨o,e,r⟩:=hl;exact⟨o,get?_push_of_some _ (k1 _ _ e),r⟩
 refine wpAny_pure ⟨plainId_quiet F.plain_min_loop _,?_⟩;refine codeAny_builtin F.entry_min_loop ?_;rw[Around.under_plainId F.plain_min_loop _];refine wpAny_bind (m:=seqItems? (.ref h1.objs.size)) (wpAny_seqItems gS rfl ?_);refine wpAny_bind (m:=tryCatch (pyNext (.ref s.heap.objs.size)) _) (wpAny_tryCatch (W.item 0 {s with heap:=h1.push {cls:=.type "list",data:=.seq ([]:List Value).toArray}} _ _ (by simpa using hn) st0 fun v h' tk hP st' kp=>?_));have gS':=kp h1.objs.size _ nw gS;refine wpAny_bind (m:=updateSeq h1.objs.size (fun _=> #[v,v])) (wpAny_updateSeq gS' rfl ?_);rw[o6];have ne:∀{b:Addr} {o:Obj},b≠h1.objs.size->h'.get? b=some o->(h'.update h1.objs.size (Obj.mapSeq fun _=> #[v,v])).get? b=some o:=fun h q=>(get?_update_other _ _ (Ne.symm h)).trans q
 have ltS:∀{b:Addr} {o:Obj},s.heap.get? b=some o->b∉[s.heap.objs.size]/\b≠h1.objs.size:=fun e=>by
  have:=lt_size e;rw[z1];exact⟨by simp;exact ne_of_lt this,ne_of_lt (lt_succ_of_lt this)⟩
 have kq:∀b o,s.heap.get? b=some o->(h'.update h1.objs.size (Obj.mapSeq fun _=> #[v,v])).get? b=some o:=fun b o e=>ne (ltS e).2 (kp b o (ltS e).1 (get?_push_of_some _ (k1 b o e)))
 refine wpAny_pure ⟨plainId_quiet F.plain_min_loop _,y1 (ok:=ok) W bt (fun i j vi vj s Q E h1 h2 h3 h4=>hcmp i j vi vj s Q E h1 (by simpa using h2) (by simpa using h3) h4) h1.objs.size nf (fun h h2 o k=>okk h h2 o fun b u hb q=>k b u (by simp;exact ne_of_lt (lt_trans hb hsz)) (by rw[z1];exact ne_of_lt (lt_succ_of_lt (lt_trans hb hsz))) q) _ 0 _ v _ rfl (by simp;omega) (bA _ fun b o e=>kq b o (k0 b o e)) (W.frame _ _ _ st' fun b hbf o q=>ne (fun z=>nf (by rw[<-z];exact hbf)) q) (by simpa [argBest]using hP) (get?_update_self _ gS' rfl) fun v' h2 tk2 hP' kp2=>?_⟩;exact hq v' h2 tk2 (by have h9:vs[argBest bt (vs.length - 1)]? =some v':=(by simpa using hP');exact h9) fun b o e=>kp2 b o (ltS (k0 b o e)).1 (ltS (k0 b o e)).2 (kq b o (k0 b o e))
end
end L2
namespace My
open PySem L2
variable {A B:Prop}
noncomputable abbrev uE:Str:=Str.ofString "abcdefghijklmnopqrstuvwxyz0123456789"
noncomputable def Q8 (c:Nat):Bool:=!(Builtin.Str.occurrences uE ⟨#[c]⟩ 0 uE.length 1).isEmpty
noncomputable def eJ (x:Str):Bool:=decide (1<=(x.length:Int)) && decide ((x.length:Int)<=12) && x.cps.toList.all Q8
theorem rB (h:A):if(!false)=true then A else B:=by rw[if_pos (show(!false)=true from rfl)];exact h
theorem oR (h:B):if(!true)=true then A else B:=by rw[if_neg (show¬(!true)=true from Bool.false_ne_true)];exact h
theorem sU {c:V} {r:List V}:zO (c::r) 0=some c:=cB (j:=0) rfl
end My
namespace My
open PySem L2 Mr PySem.NumText
variable {x:Str}
structure Lt where
 n:Str
 d:Int
 h:Str
 row:List Str
noncomputable def Lt.P (x:Lt):PV:=.tup [.str x.n,.int x.d,.str x.h,.tup (x.row.map .str)]
theorem vB (c:Nat):Q8 c=true↔c∈uE.cps.toList:=by unfold Q8;rw[StrLaws.found_one];exact decide_eq_true_iff
theorem MM:∀c∈uE.cps.toList,c≠32/\c≠44/\c≠10/\c≠45/\32<=c/\c<=126:=by decide+kernel
theorem GP (h:eJ x=true):∀c∈x.cps.toList,c≠32/\c≠44/\c≠10/\c≠45/\32<=c/\c<=126:=by
 unfold eJ at h;rw[and_eq_true,all_eq_true]at h;exact fun c hc=>MM c ((vB c).mp (h.2 c hc))
theorem oS (h:eJ x=true):1<=x.length/\x.length<=12:=by
 unfold eJ at h;rw[and_eq_true,and_eq_true]at h;have h1:=of_decide_eq_true h.1.1;have h2:=of_decide_eq_true h.1.2;omega
theorem yY (h1:1<=x.length) (h2:x.length<=12) (h:∀c∈x.cps.toList,c∈uE.cps.toList):eJ x=true:=by
 unfold eJ;rw[and_eq_true,and_eq_true,all_eq_true];exact⟨⟨decide_eq_true (by omega),decide_eq_true (by omega)⟩,fun c hc=>(vB c).mpr (h c hc)⟩
theorem iB (y:Str) (ps:List Str):Txt.join y ps=Str.join y ps:=by
 show Builtin.Str.glued _ ps=_;rw[StrLaws.glued_eq_join]
theorem uK (a b:Str):(a++b).cps.toList=a.cps.toList++b.cps.toList:=by rw[Str.cps_append,toList_append]
structure Lt.Ok (x:Lt):Prop where
 nm:eJ x.n=true
 d0:0<=x.d
 d1:x.d<=99999999
 hd:x.h.length<=60/\∀c∈x.h.cps.toList,32<=c/\c<=126
 lr:x.row.length<=9
 w9:∀z∈x.row,eJ z=true
theorem D2 (y:Str):Txt.join y []=Str.empty:=by rw[iB];rfl
theorem mem_join {y:Str} {c:Nat}:∀{ps:List Str},c∈(Txt.join y ps).cps.toList->c∈y.cps.toList\/ ∃p∈ps,c∈p.cps.toList
 |[],h=>by rw[D2]at h;cases h
 |[p],h=>by rw[iB]at h;exact .inr ⟨p,mem_cons_self,h⟩
 | p::q::r,h=>by
  have ih:=mem_join (y:=y) (c:=c) (ps:=q::r);rw[iB]at h ih;have h:c∈(p++y++Str.join y (q::r)).cps.toList:=h;rw[uK,uK,mem_append,mem_append]at h;rcases h with(h|h)|h
  .exact .inr ⟨p,mem_cons_self,h⟩
  .exact .inl h
  .rcases ih h with h|⟨z,h1,h2⟩
   .exact .inl h
   .exact .inr ⟨z,mem_cons_of_mem _ h1,h2⟩
theorem qE (z y:Str):Txt.join y (Txt.split z y)=z:=by rw[iB];exact StrLaws.join_split z y
end My
namespace My
open PySem L2 Mr
variable {H:Hp} {x:Lt} {v:V}
noncomputable abbrev EM:Str:=Str.ofString ""
theorem FY:EM.cps.toList=[]:=by decide+kernel
structure sI (H:Hp) (v:V) (x:Lt):Prop where
 tr:Tr H x.P v
 ok:x.Ok
theorem sI.kp {H':Hp} (h:sI H v x) (k:eK H H'):sI H' v x:=⟨h.tr.kp k,h.ok⟩
theorem rV:∀{row:List Str} {vs:List V},jR H (row.map PV.str) vs->vs=row.map V.str
 |[],_,.nil=>rfl
 |x::xs,_,.cons h r=>by cases h;rw[rV r];rfl
theorem sI.at' (h:sI H v x):∃a r,v= .ref a/\H a=some (.tup [.str x.n,.int x.d,.str x.h,.ref r])/\H r=some (.tup (x.row.map V.str)):=by
 obtain⟨a,us,e,ha,hu⟩:=h.tr.NI;cases hu with
 | cons h1 hu=>cases hu with
  | cons h2 hu=>cases hu with
   | cons h3 hu=>cases hu with
    |cons h4 hu=>
     cases hu;cases h1;cases h2;cases h3
     obtain⟨r,ws,e2,hr,hw⟩:=h4.NI;subst e2;rw[rV hw]at hr;exact⟨a,r,e,ha,hr⟩
theorem sI.of {a r:Addr} (ha:H a=some (.tup [.str x.n,.int x.d,.str x.h,.ref r])) (hr:H r=some (.tup (x.row.map V.str))) (ok:x.Ok):sI H (.ref a) x:=
 ⟨.tup ha (.cons (.str _) (.cons (.int _) (.cons (.str _) (.cons (.tup hr jR.strs) .nil)))),ok⟩
theorem s0:EM.length=0:=by decide+kernel
theorem EX (a b:Str):(a++b).length=a.length+b.length:=strLen_append a b
theorem NC {ys:List Str} {c:Nat} (h:∀y∈ys,y.length<=c):(ys.map (·.length)).sum<=ys.length*c:=by
 induction ys with
 |nil=>simp
 |cons y ys ih=>
  have h1:=ih fun z hz=>h z (mem_cons_of_mem _ hz)
  have h2:=h y mem_cons_self;rw[map_cons,sum_cons,length_cons,succ_mul];omega
theorem join_le (z:Str) (ys:List Str):(Txt.join z ys).length<=(ys.map (·.length)).sum+ys.length*z.length:=by
 rw[iB];exact StrLaws.join_length_le z ys
theorem GL {z:Str} {ys:List Str} (h:ys≠[]) (h1:∀y∈ys,1<=y.length):1<=(Txt.join z ys).length:=by
 rw[iB]
 match ys,h,h1 with
 |[x],_,h1=>exact h1 x mem_cons_self
 |x::y::r,_,h1=>
  show 1<=(x++z++Str.join z (y::r)).length;rw[EX,EX];have:=h1 x mem_cons_self;omega
theorem rZ {Pr:Str->Prop}:∀{ys:List V},(∀y∈ys,∃x:Str,y= .str x/\Pr x)->∃zs:List Str,ys=zs.map V.str/\(∀z∈zs,Pr z)
 |[],_=>⟨[],rfl,fun _ h=>nomatch h⟩
 |y::ys,h=>by
  obtain⟨zs,e,hz⟩:=rZ (ys:=ys) fun z hz=>h z (mem_cons_of_mem _ hz)
  obtain⟨x,rfl,hx⟩:=h y mem_cons_self;refine⟨x::zs,by rw[e];rfl,fun z hz'=>?_⟩;rcases mem_cons.mp hz' with r|r
  .rw[r];exact hx
  .exact hz z r
theorem CQ {Z:Str} {zs:List Str} (hZ:∀c∈Z.cps.toList,c∈uE.cps.toList) (hz:∀z∈zs,z.length=1/\∀c∈z.cps.toList,c∈Z.cps.toList) (h0:1<=zs.length) (h1:zs.length<=12):eJ (Txt.join EM zs)=true:=by
 refine yY (GL (by intro z;rw[z]at h0;simp at h0) fun y hy=>by rw[(hz y hy).1];exact le_refl _) ?_ fun c hc=>?_
 .have h:=join_le EM zs;rw[yE fun y hy=>(hz y hy).1,s0]at h;omega
 .rcases mem_join hc with h|⟨q,hq,h⟩
  .rw[FY]at h;cases h
  .exact hZ c ((hz q hq).2 c h)
theorem strAt {row:List Str} {i:Nat} {x:V} (h:(row.map V.str)[i]? =some x):∃n,row[i]? =some n/\x= .str n:=by
 rw[getElem?_map]at h;cases e:row[i]? with
 |none=>rw[e]at h;cases h
 |some n=>rw[e]at h;exact⟨n,rfl,(Option.some.inj h).symm⟩
theorem QE:qA 3 x.P=true/\lP 8 x.P=true:=by
 have h:∀n,qA (n+2) x.P=true:=fun n=>by
  show([PV.str x.n,PV.int x.d,PV.str x.h,PV.tup (x.row.map PV.str)]).all (qA (n+1))=true;have hr:qA (n+1) (PV.tup (x.row.map PV.str))=true:=all_eq_true.mpr fun p hp=>by obtain⟨z,_,rfl⟩:=mem_map.mp hp;cases n<;>rfl
  simp only[all_cons,List.all_nil,hr,Bool.and_true];rfl
 exact⟨h 1,vI (h 6)⟩
theorem mG (n:Nat):∀xs ys:List Str,(eM (i8 n) (xs.map PV.str) (ys.map PV.str)).isSome=true
 |[],[]=>rfl
 |[],_::_=>rfl
 |_::_,[]=>rfl
 |x::xs,y::ys=>by
  rw[map_cons,map_cons];unfold eM;split
  .exact mG n xs ys
  .cases n<;>rfl
theorem Q1 (l k:Lt):(i8 3 l.P k.P).isSome=true:=by
 show(eM (i8 2) [PV.str l.n,PV.int l.d,PV.str l.h,PV.tup (l.row.map PV.str)] [PV.str k.n,PV.int k.d,PV.str k.h,PV.tup (k.row.map PV.str)]).isSome=true;unfold eM;split
 .unfold eM;split
  .unfold eM;split
   .unfold eM;split
    .rfl
    .exact mG 1 _ _
   .rfl
  .rfl
 .rfl
theorem HE (ls:List Lt):eI 3 (ls.map Lt.P)=true:=all_eq_true.mpr fun p hp=>by
 obtain⟨l,_,rfl⟩:=mem_map.mp hp;rw[and_eq_true];refine⟨QE.1,all_eq_true.mpr fun q hq=>?_⟩;obtain⟨k,_,rfl⟩:=mem_map.mp hq;exact Q1 l k
theorem uB:∀{ps:List PV} {ls:List Lt},ps.Perm (ls.map Lt.P)->∃ks:List Lt,ks.Perm ls/\ps=ks.map Lt.P
 |[],ls,h=>by have:=h.nil_eq;rw[List.eq_nil_of_map_eq_nil this.symm];exact⟨[],.refl _,rfl⟩
 | p::ps,ls,h=>by
  obtain⟨a,l,b,e⟩:∃a l b,ls=a++l::b/\l.P=p:=by
   obtain⟨l,hl,e⟩:=mem_map.mp (h.mem_iff.mp mem_cons_self);obtain⟨a,b,e2⟩:=List.append_of_mem hl;exact⟨a,l,b,e2,e⟩
  obtain⟨e,rfl⟩:=e;have hp:ls.Perm (l::(a++b)):=by rw[e];exact List.perm_middle
  obtain⟨ks,k1,k2⟩:=uB (ps:=ps) (ls:=a++b) ((h.trans (hp.map _)).cons_inv);exact⟨l::ks,(k1.cons l).trans hp.symm,by rw[k2];rfl⟩
theorem AZ (z y:Str):∀p∈Txt.split z y,p.length<=z.length:=by
 intro p hp;have e:=qE z y;rw[iB]at e;have key:∀(ps:List Str),p∈ps->p.length<=(Str.join y ps).length:=by
  intro ps
  induction ps with
  |nil=>intro h;cases h
  | cons a r ih=>
   intro h;cases r with
   |nil=>rw[mem_singleton.mp h];exact le_refl _
   |cons b r=>
    show p.length<=(a++y++Str.join y (b::r)).length;rw[EX,EX];rcases mem_cons.mp h with h|h
    .rw[h];omega
    .have:=ih h;omega
 have:=key _ hp;rw[e]at this;exact this
end My
namespace My
open PySem L2 Mr PySem.Builtin.Str
theorem MT (l:List Nat) (h:1<=l.length):Txt.slice (S l) none (some (-1))=S (l.take (l.length - 1)):=by
 rw[<-KR l (l.length - 1)];unfold Txt.slice;have hl:(S l).length=l.length:=fN l;have:strSliceIndices none (some (-1)) 1 (S l).length=strSliceIndices none (some ((l.length - 1:Nat):Int)) 1 (S l).length:=by
  unfold strSliceIndices;rw[hl];simp only[show(1:Int)>0 by decide,if_true,show¬(((l.length - 1:Nat):Int)<0) by omega,if_false,show((-1:Int)<0) by decide];congr 1
  all_goals first|omega|(simp;omega)
 rw[this]
theorem CS {x:Str} (h:eJ x=true):(Txt.slice x none (some (-1))).length+1<=12/\∀c∈(Txt.slice x none (some (-1))).cps.toList,c∈uE.cps.toList:=by
 have hx:=oS h;have el:x.cps.toList.length=x.length:=by simp[Str.length]
 have e:Txt.slice x none (some (-1))=S (x.cps.toList.take (x.cps.toList.length - 1)):=by
  have:=MT x.cps.toList (by omega);rw[gQ]at this;exact this
 rw[e];refine⟨by rw[fN,length_take];omega,fun c hc=>?_⟩;unfold eJ at h;rw[and_eq_true,all_eq_true]at h;have hc':c∈x.cps.toList.take (x.cps.toList.length - 1):=by simpa [S]using hc
 exact(vB c).mp (h.2 c (mem_of_mem_take hc'))
end My
namespace L2
open PySem PySem.Spec PyProof.Rows PySem.W Mr
section
variable {prog:Program} {w:World} {d:Addr} {es:Array DictEntry} {ep:Nat}
def Q2 (d:Addr) (es:Array DictEntry) (ep:Nat) (h:Heap):Prop:=∃od,h.get? d=some od/\od.ExactDict/\od.data= .dict es ep
theorem Q2.type {s:Shared} (h:Q2 d es ep s.heap):s.TypeIs (.ref d) "dict":=let⟨o,ho,hx,_⟩:=h;⟨o,ho,hx.1⟩
theorem JP (lo:(d==sysModules)=false):KdlSrc prog w "dict" d d es.size (fun i v=>∃e,es[i]? =some e/\v=e.key) (Q2 d es ep)where
 type:=fun _ hm=>hm.type
 there:=fun _ ⟨_,ho,_⟩=>⟨lt_size ho,lt_size ho⟩
 keep:=fun _ _ ⟨o,ho,x⟩ hk=>⟨o,hk d (.inl rfl) o ho,x⟩
 notList:=by decide
 notTuple:=by decide
 hint:=fun _ _ _ _ hm hq=>kdl_hint_dict hm.type hq
 iter:=fun A s hh ⟨od,ho,hx,hd⟩=>⟨_,fun i h=>h.IsKeyIter s.heap.objs.size d i es.size ep/\Q2 d es ep h,(fun _ _ hq=>QI lo ho hx hd hq),{
  sub:=fun b hb=>by simp at hb;simp[hb]
  frame:=fun _ _ _ st hk=>⟨st.1.at fun o e=>hk _ (by simp) o e,let⟨o,h1,h2⟩:=st.2;⟨o,hk d (by simp) o h1,h2⟩⟩
  item:=fun i s1 Q E hi st hQ=>by
   obtain⟨⟨od,ho1,hx1,hd1⟩,hit⟩:=And.intro st.2 st.1;refine nextK hh rfl hit ho1 hd1 (fun e h' he hit' hs'=>?_) fun hn=>?_
   .refine hQ e.key h' s1.toks ⟨e,he,rfl⟩ ⟨hit',od,hs'.extBut d od (ne_of_lt (lt_size ho)) ho1,hx1,hd1⟩ fun b o hb e=>hs'.extBut b o (fun h=>hb (by simp[h])) e
   .rw[Array.getElem?_eq_getElem hi]at hn;cases hn
  done:=fun s1 Q E st hQ=>by
   obtain⟨⟨od,ho1,hx1,hd1⟩,hit⟩:=And.intro st.2 st.1;refine nextK hh rfl hit ho1 hd1 (fun e h' he hit' hs'=>?_) fun hn h' he'=>hQ h' s1.toks fun b o hb e=>he' b o (fun h=>hb (by simp[h])) e
   rw[getElem?_eq_none (le_refl _)]at he;cases he
  self:=fun _ _ _ _ st hQ=>wpAny_pyIter_keyiter st.1 hQ},⟨⟨_,get?_push_size _ rfl,rfl,rfl⟩,od,get?_push_of_some _ ho,hx,hd⟩⟩
end
def lM (w:World):List V->Hp->VK->Prop:=fun xs H Q=>∃a kvs ep ps,xs=[.ref a]/\H a=some (DN w a kvs ep)/\jR H ps (kvs.map fun kv=>V.ref kv.2.1)/\kvs.length<64/\(∀x∈ps,y8 true x=true)/\eI 3 ps=true/\
 ∀l zs,jR H (t8 3 ps) zs->H l=none->Q (.ref l) (L2.upd H l (.lst zs))
theorem uF:∀{kvs:List NE} {xs:List (List NK×Addr×Value)},KN kvs xs->Vals (kvs.map fun kv=>V.ref kv.2.1) (xs.map fun x=>Value.ref x.2.1)
 |_,_,.nil=>.nil
 |_,_,.cons h r=>.cons (by show Value.ref _=_;rw[h.2.1]) (uF r)
theorem QY {X:Cx} {k:Nat} (hr:fD k X.A) (hc:X.calm=true:=by rfl):dR X (.builtin "sorted") (lM X.w):=by
 intro pins s σ H xs us Q I r ⟨a,kvs,ep,ps,e,ha,rp,h64,led,cmp,q⟩;subst e;obtain⟨u,rfl,rx⟩:=vals1 r;cases rx;obtain⟨z,y,xs,rel,o,es,h1,h2,h3,h4,h5⟩:=(show dN X.prog X.w H s.heap a (DN X.w a kvs ep)from I.bA a _ ha).1;have hl:kvs.length=xs.length:=Paired.length rel;have hz:es.size=kvs.length:=by rw[hl,<-length_toList,h4,length_map]
 have rv:=uF rel;have hpl:=rp.length;rw[length_map]at hpl;have ok:∀x∈ps,lP 3 x=true:=fun x hx=>by
  have:=all_eq_true.mp cmp x hx;rw[and_eq_true]at this;exact vI this.1
 refine qG (s:=s) (Ok:=fun ws s1=>ws=xs.map fun x=>Value.ref x.2.1) (R:=fun ws p=>kA pA (fun i=>code 3 (ps.getD i .aZ)) p ws.length) (fun E' Q' kk=>?_) ?_ ?_ ?_ ?_
 .refine lG (JP (es:=es) (ep:=ep) z) (by exact I.ok.hd hc) ⟨o,h1,h2,h3⟩ (by rw[hz];exact y) fun ws s1 g hlw hw=>kk ws s1 g ?_
  apply List.ext_getElem?;intro j;cases ej:ws[j]? with
  |none=>
   have:=List.getElem?_eq_none_iff.mp ej;rw[List.getElem?_eq_none_iff.mpr (by rw[length_map];omega)]
  |some v=>
   obtain⟨e,he,rfl⟩:=hw j v ej;rw[<-getElem?_toList,h4,getElem?_map]at he;obtain⟨x,hx,rfl⟩:=Option.map_eq_some_iff.mp he;rw[getElem?_map,hx];rfl
 .rintro ws s1 rfl;rw[length_map];omega
 .rintro ws s1 gr rfl l2 h' kp;have I':Inv X pins σ H {s1 with heap:=h'}:=(I.QS gr).kept (t':=s1.toks) kp;have hL:cI h' ps _:=gG.lies I' (n:=3) (all_eq_true.mpr ok) (rp.rep (K:=X.K) (Z:=A8)) rv;exact GF (s:={s1 with heap:=h'}) hL (by have:=hr.un;show X.A.units+1+1+2<_;omega) led ok cmp l2
 .rintro ws s1 rfl h2 i j a b;rw[show i=j by omega];exact KeyOrd.kle_refl _
 .rintro l s1 s2 out c ws p gr rfl g2 hla hat e1 e2 e3;have hp:p.toList.Perm (List.range ps.length):=by
   have:=Array.perm_iff_toList_perm.mp e1;rw[length_map,<-hl,<-hpl]at this;simpa using this
  have hlt:∀i∈p.toList,i<ps.length:=fun i hi=>mem_range.mp (hp.mem_iff.mp hi)
  have z2:=m4 rv p.toList fun i hi=>by have:=hlt i hi;rw[length_map];omega
  rw[<-e3]at z2;have hpz:p.toList.length=ps.length:=by rw[hp.length_eq,length_range]
  have hls:s.heap.objs.size<=l:=le_trans gr.size hla;have up:=LC e2 (by rw[hpz,length_map,hpl,hl]);have pm:(p.toList.map fun i=>ps.getD i PV.aZ).Perm ps:=by
   have:=hp.map fun i=>ps.getD i PV.aZ
   have e:(List.range ps.length).map (fun i=>ps.getD i PV.aZ)=ps:=by
    apply ext_getElem
    .simp
    .intro i a1 a2;simp[getElem?_eq_getElem a2]
   rw[e]at this;exact this
  have es':t8 3 ps=p.toList.map fun i=>ps.getD i .aZ:=
   lJ (nX 3 ps) up ((dS 3 ps).trans pm.symm) fun x hx y hy=>x2 cmp ((dS 3 ps).mem_iff.mp hx) ((dS 3 ps).mem_iff.mp hy)
  refine⟨.ref l,_,I.LB (o:=.lst (p.toList.map fun i=>(kvs.map fun kv=>V.ref kv.2.1).getD i .aZ)) (gr.trans g2) hls ⟨by rw[length_map,hpz,hpl];exact y,out.toList,c,z2,by rw[Array.toArray_toList];exact hat⟩,rfl,q l _ ?_ (I.bA.fresh hls)⟩;rw[es'];exact rp.pick hlt
end L2
namespace Rg
variable {α:Type}
noncomputable def gB (up:α->Option α):Nat->α->Option α
 |0,x=>some x
 |n+1,x=>(up x).bind (gB up n)
def pJ (up:α->Option α) (x:α):Prop:=∃n,gB up (n+1) x=some x
def Path (up:α->Option α):List α->Option α->Prop
 |[],_=>True
 |[x],e=>up x=e
 |x::y::l,e=>up x=some y/\Path up (y::l) e
structure Ring (up:α->Option α) (l:List α):Prop where
 ne:l≠[]
 nd:l.Nodup
 path:Path up l l.head?
def sA (up:α->Option α) (T:α->Prop):Prop:=∀x y,T x->up x=some y->T y
variable {up:α->Option α}
theorem iA:∀(m n:Nat) (x:α),gB up (m+n) x=(gB up m x).bind (gB up n)
 |0,n,x=>by rw[zero_add];rfl
 |m+1,n,x=>by
  rw[Nat.add_right_comm];show(up x).bind (gB up (m+n))=((up x).bind (gB up m)).bind (gB up n);cases up x with
  |none=>rfl
  |some y=>exact iA m n y
theorem sA.walk {T:α->Prop} (h:sA up T):∀(n:Nat) {x y:α},T x->gB up n x=some y->T y
 |0,_,_,hx,e=>by cases e;exact hx
 |n+1,x,y,hx,e=>by
  cases c:up x with
  |none=>rw[gB,c]at e;cases e
  |some z=>rw[gB,c]at e;exact h.walk n (h x z hx c) e
theorem BJ {x:α} {n:Nat} (h:gB up n x=some x):∀k,gB up (k*n) x=some x
 |0=>by rw[Nat.zero_mul];rfl
 |k+1=>by rw[succ_mul,iA,BJ h k];exact h
theorem pJ.back {x:α} (h:pJ up x) (m:Nat):∃y j,gB up m x=some y/\gB up j y=some x:=by
 obtain⟨n,h⟩:=h;have k:=BJ h m;have e:m*(n+1)=m+m*n:=by rw[Nat.mul_succ,Nat.add_comm]
 rw[e,iA]at k;cases c:gB up m x with
 |none=>rw[c]at k;cases k
 |some y=>rw[c]at k;exact⟨y,_,rfl,k⟩
theorem Path.xV:∀{l:List α} {e:Option α} {i:Nat} {x:α},Path up l e->l[i]? =some x->gB up (l.length - i) x=e
 |[],_,_,_,_,h=>by simp at h
 |[a],e,0,x,p,h=>by
  cases h;show(up a).bind (gB up 0)=e;rw[show up a=e from p];cases e<;>rfl
 |[a],e,i+1,x,p,h=>by simp at h
 |a::b::l,e,0,x,p,h=>by
  cases h;show(up a).bind (gB up (b::l).length)=e;rw[p.1];exact Path.xV (l:=b::l) (i:=0) p.2 rfl
 |a::b::l,e,i+1,x,p,h=>by
  have:=Path.xV (l:=b::l) (i:=i) p.2 (by simpa using h);simpa using this
theorem Path.drop:∀{l:List α} {e:Option α} (n:Nat),Path up l e->Path up (l.drop n) e
 |_,_,0,p=>p
 |[],_,_+1,p=>p
 |[a],_,n+1,p=>by simp[Path]
 |a::b::l,e,n+1,p=>by
  rw[List.drop_succ_cons];exact Path.drop n p.2
theorem Path.snoc:∀{l:List α} {x:α} {e:Option α},Path up l (some x)->up x=e->Path up (l++[x]) e
 |[],x,e,_,h=>h
 |[a],x,e,p,h=>⟨p,h⟩
 |a::b::l,x,e,p,h=>⟨p.1,Path.snoc (l:=b::l) p.2 h⟩
theorem Path.step:∀{l:List α} {e:Option α} {x:α},Path up l e->x∈l->(∃y∈l,up x=some y)\/ up x=e
 |[],_,_,_,h=>by simp at h
 |[a],e,x,p,h=>by
  rw[mem_singleton.mp h];exact .inr p
 | a::b::l,e,x,p,h=>by
  rcases mem_cons.mp h with rfl|h
  .exact .inl ⟨b,by simp,p.1⟩
  .rcases Path.step (l:=b::l) p.2 h with⟨y,hy,e⟩|e
   .exact .inl ⟨y,mem_cons_of_mem _ hy,e⟩
   .exact .inr e
theorem Path.no {l:List α} {e:Option α} {x:α} (p:Path up l e) (hx:x∈l) (h:∀y,e=some y->∀j,gB up j y≠some x):¬pJ up x:=fun c=>by
 obtain⟨i,hi⟩:=getElem?_of_mem hx;obtain⟨y,j,h1,h2⟩:=c.back (l.length - i);rw[p.xV hi]at h1;exact h y h1 j h2
theorem Ring.closed {l:List α} (r:Ring up l):sA up fun x=>x∈l:=fun x y hx e=>by
 rcases r.path.step hx with⟨z,hz,e'⟩|e'
 .rw[e]at e';cases e';exact hz
 .rw[e]at e';cases l with
  |nil=>exact absurd rfl r.ne
  |cons a l=>cases e';simp
theorem Ring.turn {l:List α} (r:Ring up l) {x:α} (hx:x∈l):gB up l.length x=some x:=by
 cases l with
 |nil=>exact absurd rfl r.ne
 | cons a l=>
  obtain⟨i,hi⟩:=getElem?_of_mem hx;have hl:i<(a::l).length:=(List.getElem?_eq_some_iff.mp hi).1;have h1:=r.path.xV hi;have h0:=r.path.xV (l:=a::l) (i:=0) (x:=a) rfl;have ha:∀j,j<=(a::l).length->∀z,(a::l)[j]? =some z->gB up j a=some z:=by
   intro j
   induction j with
   |zero=>intro _ z hz;cases hz;rfl
   |succ j ih=>
    intro hj z hz;have hj':j<(a::l).length:=by omega
    have e1:=ih (by omega) _ (getElem?_eq_getElem hj');rw[iA j 1,e1];have e2:=r.path.xV (getElem?_eq_getElem hj');have e3:=r.path.xV hz;have hlt:j+1<(a::l).length:=(List.getElem?_eq_some_iff.mp hz).1;have:Path up ((a::l).drop j) (a::l).head?:=r.path.drop j;rw[List.drop_eq_getElem_cons hj',List.drop_eq_getElem_cons hlt]at this;show(up _).bind (gB up 0)=_;rw[this.1];rw[getElem?_eq_getElem hlt]at hz;cases hz;rfl
  have e2:=ha i (by omega) x hi;have e3:gB up ((a::l).length - i+i) x=some x:=by
   rw[iA,h1];exact e2
  have:(a::l).length - i+i=(a::l).length:=by omega
  rw[this]at e3;exact e3
theorem Ring.pJ {l:List α} (r:Ring up l) {x:α} (hx:x∈l):pJ up x:=by
 refine⟨l.length - 1,?_⟩;have:0<l.length:=length_pos_of_mem hx;rw[show l.length - 1+1=l.length by omega];exact r.turn hx
structure Found (up:α->Option α) (S:List α) (F:List (List α)):Prop where
 cl:sA up fun x=>x∈S
 ring:∀R∈F,Ring up R
 sub:∀R∈F,∀x∈R,x∈S
 nd:F.flatten.Nodup
 all:∀x∈S,pJ up x->x∈F.flatten
theorem Found.nil:Found up [] []:=⟨fun x y h=>by simp at h,by simp,by simp,by simp,by simp⟩
theorem Found.out {S:List α} {F:List (List α)} {l:List α} {e:Option α} (f:Found up S F) (p:Path up l e) (hd:∀x∈l,x∉S) (h:∀y,e=some y->y∈S):Found up (S++l) F where
 cl:=fun x y hx u=>by
  rcases mem_append.mp hx with hx|hx
  .exact mem_append_left _ (f.cl x y hx u)
  .rcases p.step hx with⟨z,hz,e'⟩|e'
   .rw[u]at e';cases e';exact mem_append_right _ hz
   .rw[u]at e';exact mem_append_left _ (h y e'.symm)
 ring:=f.ring
 sub:=fun R hR x hx=>mem_append_left _ (f.sub R hR x hx)
 nd:=f.nd
 all:=fun x hx c=>by
  rcases mem_append.mp hx with hx|hx
  .exact f.all x hx c
  .exact absurd c (p.no hx fun y ey j ej=>hd x hx (f.cl.walk j (h y ey) ej))
theorem Found.O7 {S:List α} {F:List (List α)} {p r:List α} (f:Found up S F) (hr:r≠[]) (hp:Path up (p++r) r.head?) (nd:(p++r).Nodup) (hd:∀x∈p++r,x∉S):Found up (S++(p++r)) (F++[r]):=by
 obtain⟨nd1,nd2,nd3⟩:=nodup_append.mp nd;have R:Ring up r:=⟨hr,nd2,by have:=hp.drop p.length;rwa[List.drop_left]at this⟩;refine⟨fun x y hx u=>?_,fun Q hQ=>?_,fun Q hQ x hx=>?_,?_,fun x hx c=>?_⟩
 .rcases mem_append.mp hx with hx|hx
  .exact mem_append_left _ (f.cl x y hx u)
  .rcases hp.step hx with⟨z,hz,e'⟩|e'
   .rw[u]at e';cases e';exact mem_append_right _ hz
   .rw[u]at e';cases r with
    |nil=>exact absurd rfl hr
    |cons a r=>cases e';exact mem_append_right _ (mem_append_right _ (by simp))
 .rcases mem_append.mp hQ with h|h
  .exact f.ring Q h
  .rw[mem_singleton.mp h];exact R
 .rcases mem_append.mp hQ with h|h
  .exact mem_append_left _ (f.sub Q h x hx)
  .rw[mem_singleton.mp h]at hx;exact mem_append_right _ (mem_append_right _ hx)
 .rw[List.flatten_append];refine nodup_append.mpr ⟨f.nd,by simpa using nd2,fun x hx y hy e=>?_⟩;subst e;obtain⟨Q,hQ,hx⟩:=List.mem_flatten.mp hx;exact hd x (mem_append_right _ (by simpa using hy)) (f.sub Q hQ x hx)
 .rw[List.flatten_append];rcases mem_append.mp hx with hx|hx
  .exact mem_append_left _ (f.all x hx c)
  .rcases mem_append.mp hx with hx|hx
   .refine absurd c (Path.no (l:=p++r) hp (mem_append_left _ hx) fun y ey j ej=>?_);have hy:y∈r:=by
     cases r with
     |nil=>cases ey
     |cons a r=>cases ey;simp
    exact nd3 x hx x (R.closed.walk j hy ej) rfl
   .exact mem_append_right _ (by simpa using hx)
end Rg
namespace My
open PySem L2
variable {ab:Hl} {o:Option Str} {x y:Str}
abbrev Hl:=List (Str×Option Str)
noncomputable def oV:Option Str->V
 |none=>.aZ
 |some s=>.str s
theorem N7:∀{a b:Option Str},oV a=oV b->a=b
 |none,none,_=>rfl
 |some _,some _,h=>by cases h;rfl
 |none,some _,h=>by cases h
 |some _,none,h=>by cases h
noncomputable def eL (ab:Hl):List (Key×V):=ab.map fun z=>(Sum.inr z.1,oV z.2)
noncomputable abbrev ks (ab:Hl):List Str:=ab.map (·.1)
noncomputable def dB (ab:Hl) (x:Str):Option Str:=(ab.find? fun z=>decide (z.1=x)).bind (·.2)
noncomputable def gD (ab:Hl) (x:Str) (o:Option Str):Hl:=if x∈ks ab then ab.map (fun z=>if z.1=x then(z.1,o)else z)else ab++[(x,o)]
theorem qN (x:Str):∀ab:Hl,bW (eL ab) (Sum.inr x)=(ab.find? fun z=>decide (z.1=x)).map fun z=>oV z.2
 |[]=>rfl
 |z::ab=>by
  have ih:=qN x ab
  by_cases h:z.1=x
  .rw[show eL (z::ab)=(Sum.inr z.1,oV z.2)::eL ab from rfl,bU (show(Sum.inr z.1:Key)=Sum.inr x by rw[h]),find?_cons,decide_eq_true h];rfl
  .rw[show eL (z::ab)=(Sum.inr z.1,oV z.2)::eL ab from rfl,bF (show¬(Sum.inr z.1:Key)=Sum.inr x from fun e=>h (Sum.inr.inj e)),find?_cons,decide_eq_false h,ih]
theorem BV (x:Str):∀ab:Hl,(ab.find? fun z=>decide (z.1=x)).isSome=decide (x∈ks ab)
 |[]=>rfl
 | z::ab=>by
  rw[find?_cons]
  by_cases h:z.1=x
  .rw[decide_eq_true h,decide_eq_true (show x∈ks (z::ab) by rw[<-h];exact mem_cons_self)];rfl
  .rw[decide_eq_false h];show(ab.find? fun z=>decide (z.1=x)).isSome=_;rw[BV x ab];exact decide_eq_decide.mpr ⟨fun hx=>mem_cons_of_mem _ hx,fun hx=>(mem_cons.mp hx).elim (fun e=>absurd e.symm h) id⟩
theorem qR (ab:Hl) (x:Str):(bW (eL ab) (Sum.inr x)).isSome=decide (x∈ks ab):=by
 rw[qN,isSome_map];exact BV x ab
theorem qK (ab:Hl) (x:Str):(bW (eL ab) (Sum.inr x)).getD .aZ=oV (dB ab x):=by
 rw[qN];unfold dB;cases ab.find? fun z=>decide (z.1=x)<;>rfl
theorem o5 {ab:Hl} {x:Str} (h:x∈ks ab):bW (eL ab) (Sum.inr x)=some (oV (dB ab x)):=by
 have h1:=qR ab x;have h2:=qK ab x;rw[decide_eq_true h]at h1;cases e:bW (eL ab) (Sum.inr x)with
 |none=>rw[e]at h1;cases h1
 |some v=>rw[e]at h2;exact congrArg some h2
theorem nV (ab:Hl) (x:Str) (o:Option Str):putK (eL ab) (Sum.inr x) (oV o)=eL (gD ab x o):=by
 unfold putK gD;have h1:=qR ab x;rw[<-L2.fU]at h1;rw[h1]
 by_cases h:x∈ks ab
 .rw[decide_eq_true h,if_pos rfl,if_pos h];unfold eL;rw[map_map,map_map];refine map_congr_left fun z _=>?_
  show(if(Sum.inr z.1:Key)=Sum.inr x then _ else _)=_
  by_cases e:z.1=x
  .rw[if_pos (by rw[e])];show _=(fun z:Str×Option Str=>((Sum.inr z.1:Key),oV z.2)) (if z.1=x then _ else _);rw[if_pos e]
  .rw[if_neg (fun q=>e (Sum.inr.inj q))];show _=(fun z:Str×Option Str=>((Sum.inr z.1:Key),oV z.2)) (if z.1=x then _ else _);rw[if_neg e]
 .rw[decide_eq_false h,if_neg Bool.false_ne_true,if_neg h];unfold eL;rw[map_append];rfl
theorem iC {ab:Hl} {x:Str} (h:dB ab x=some y):(x,some y)∈ab:=by
 unfold dB at h;cases c:ab.find? fun z=>decide (z.1=x)with
 |none=>rw[c]at h;cases h
 |some z=>
  rw[c]at h;have h1:z.1=x:=of_decide_eq_true (List.find?_some (p:=fun z:Str×Option Str=>decide (z.1=x)) c);have h2:=List.mem_of_find?_eq_some c;obtain⟨a,b⟩:=z;cases h1;have h:b=some y:=h;rw[<-h];exact h2
theorem uS (h:dB ab x=some y):x∈ks ab:=mem_map.mpr ⟨_,iC h,rfl⟩
theorem A0 {ab:Hl} (nd:(ks ab).Nodup) (h:(x,o)∈ab):dB ab x=o:=by
 induction ab with
 |nil=>cases h
 | cons z ab ih=>
  unfold dB;have nd':=nodup_cons.mp nd;rw[find?_cons];rcases mem_cons.mp h with e|h
  .rw[<-e,decide_eq_true rfl];rfl
  .have ne:¬z.1=x:=fun e=>nd'.1 (mem_map.mpr ⟨(x,o),h,e.symm⟩)
   rw[decide_eq_false ne];exact ih nd'.2 h
theorem lW (ab:Hl) (x y:Str) (o:Option Str):dB (gD ab x o) y=if y=x then o else dB ab y:=by
 apply N7;rw[<-qK,<-nV,G5]
 by_cases e:y=x
 .rw[if_pos (by rw[e]),if_pos e];rfl
 .rw[if_neg (fun q=>e (Sum.inr.inj q)),if_neg e,qK]
theorem wL (ab:Hl) (x:Str) (o:Option Str):ks (gD ab x o)=if x∈ks ab then ks ab else ks ab++[x]:=by
 unfold gD
 by_cases h:x∈ks ab
 .rw[if_pos h,if_pos h];unfold ks;rw[map_map];refine map_congr_left fun z _=>?_
  show(if z.1=x then(z.1,o)else z).1=z.1;split<;>rfl
 .rw[if_neg h,if_neg h];unfold ks;rw[map_append];rfl
theorem jU:y∈ks (gD ab x o)↔y∈ks ab\/ y=x:=by
 rw[wL]
 by_cases h:x∈ks ab
 .rw[if_pos h];exact⟨.inl,fun z=>z.elim id fun e=>by rw[e];exact h⟩
 .rw[if_neg h,mem_append,mem_singleton]
theorem MQ (nd:(ks ab).Nodup):(ks (gD ab x o)).Nodup:=by
 rw[wL]
 by_cases h:x∈ks ab
 .rw[if_pos h];exact nd
 .rw[if_neg h];refine nodup_append.mpr ⟨nd,by simp,fun u hu w hw e=>?_⟩;rw[mem_singleton.mp hw]at e;exact h (by rw[<-e];exact hu)
theorem fK {α:Type} [DecidableEq α]:∀{xs ys:List α},xs.Nodup->(∀x∈xs,x∈ys)->xs.length<=ys.length
 |[],_,_,_=>zero_le _
 |x::xs,ys,nd,h=>by
  rw[nodup_cons]at nd;have hx:=h x mem_cons_self;have h1:=fK (xs:=xs) (ys:=ys.erase x) nd.2 fun y hy=>(List.mem_erase_of_ne fun e=>nd.1 (by rw[<-e];exact hy)).mpr (h y (mem_cons_of_mem _ hy))
  rw[List.length_erase_of_mem hx]at h1;have h2:=length_pos_of_mem hx;rw[length_cons];omega
theorem jX (ab:Hl):(eL ab).length=ab.length:=length_map ..
end My
namespace L2
open PySem
section
variable {a:Addr} {kvs:List (Key×V)} {ep:Nat} {g:TG} {tb:TS} {D:Ends} {σ:St} {H:Hp}
def L0 (J:It) (g:TG) (tb:TS) (D:Ends) (σ:St) (H:Hp):Prop:=∃W:Nat->Nat->St->Hp->Prop,(∃m,W 0 m σ H)/\∀i m σ H,W i m σ H->
 (J.stop i H/\D.nx σ H)\/ (J.go i H/\∃N:St->Hp->Prop,(∀σ' H',N σ' H'->∃m',m'<m/\W (i+1) m' σ' H')/\∀x H',J.AY i H x H'->g x σ H' fun σ2 H2=>tb {D with nx:=N,ct:=N,bk:=D.nx} σ2 H2)
theorem BF {J:It} (n:Nat) (Pv:Nat->St->Hp->Prop) (h0:Pv 0 σ H) (hst:∀σ H,Pv n σ H->J.stop n H) (hgo:∀i σ H,i<n->Pv i σ H->J.go i H)
  (hs:∀i x H' σ H,i<n->Pv i σ H->J.AY i H x H'->g x σ H' fun σ2 H2=>tb {D with nx:=Pv (i+1),ct:=Pv (i+1),bk:=D.nx} σ2 H2) (hd:∀σ H,Pv n σ H->D.nx σ H):L0 J g tb D σ H:=by
 refine⟨fun i m σ H=>m=n - i/\i<=n/\Pv i σ H,⟨n,by simp,zero_le _,h0⟩,?_⟩;rintro i m σ H ⟨rfl,hi,p⟩
 by_cases hlt:i<n
 .exact .inr ⟨hgo i σ H hlt p,Pv (i+1),fun σ' H' p'=>⟨n - (i+1),by omega,rfl,hlt,p'⟩,fun x H' y=>hs i x H' σ H hlt p y⟩
 .have e:i=n:=by omega
  subst e;exact .inl ⟨hst σ H p,hd σ H p⟩
theorem yC (Pv:Nat->St->Hp->Prop) (h0:Pv 0 σ H) (hl:∀i σ H,i<=kvs.length->Pv i σ H->Rd H a (.dK kvs ep))
  (hs:∀i kv σ H,kvs[i]? =some kv->Pv i σ H->g (kV kv.1) σ H fun σ2 H2=>tb {D with nx:=Pv (i+1),ct:=Pv (i+1),bk:=D.nx} σ2 H2) (hd:∀σ H,Pv kvs.length σ H->D.nx σ H):L0 (Q5 a kvs ep) g tb D σ H:=by
 refine BF kvs.length Pv h0 (fun σ H p=>⟨hl _ σ H (le_refl _) p,rfl⟩) (fun i σ H hi p=>⟨hl i σ H (le_of_lt hi) p,hi⟩) (fun i x H' σ H hi p ⟨e,y⟩=>?_) hd;subst e;rw[y _ (getElem?_eq_getElem hi)];exact hs i _ σ _ (getElem?_eq_getElem hi) p
theorem CK (Pv:Nat->St->Hp->Prop) (h0:Pv 0 σ H) (hl:∀i σ H,i<=kvs.length->Pv i σ H->Rd H a (.dK kvs ep))
  (hs:∀i kv t σ H,kvs[i]? =some kv->H t=none->Pv i σ H->g (.ref t) σ (upd H t (.tup [kV kv.1,kv.2])) fun σ2 H2=>tb {D with nx:=Pv (i+1),ct:=Pv (i+1),bk:=D.nx} σ2 H2) (hd:∀σ H,Pv kvs.length σ H->D.nx σ H):L0 (RJ a kvs ep) g tb D σ H:=by
 refine BF kvs.length Pv h0 (fun σ H p=>⟨hl _ σ H (le_refl _) p,rfl⟩) (fun i σ H hi p=>⟨hl i σ H (le_of_lt hi) p,hi⟩) (fun i x H' σ H hi p ⟨t,ht,ex,y⟩=>?_) hd;subst ex;rw[y _ (getElem?_eq_getElem hi)];exact hs i _ t σ _ (getElem?_eq_getElem hi) ht p
end
end L2
namespace My
open PySem L2
variable {M ab:Hl} {H H':Hp} {F:List (List Str)} {l ns:List Str} {o:Option Str} {s st x y:Str} {z:Str×Option Str} {u:V}
theorem bY {d:Addr} {kvs:List (Key×V)} (h:bZ H d kvs) (s:aF H H'):bZ H' d kvs:=let⟨ep,e⟩:=h;⟨ep,s _ _ e⟩
noncomputable def i5 (S:List Str):List (Key×V):=S.map fun s=>(Sum.inr s,V.bl true)
noncomputable def kI (S:List Str) (s:Str):List Str:=if s∈S then S else S++[s]
theorem nE (S:List Str):(i5 S).length=S.length:=length_map ..
theorem GD (S:List Str):(i5 S).map (·.1)=S.map Sum.inr:=by
 unfold i5;rw[map_map];rfl
theorem sC (x:Str):∀S:List Str,(bW (i5 S) (Sum.inr x)).isSome=decide (x∈S)
 |[]=>rfl
 | s::S=>by
  by_cases h:s=x
  .rw[show i5 (s::S)=(Sum.inr s,V.bl true)::i5 S from rfl,bU (show(Sum.inr s:Key)=Sum.inr x by rw[h]),decide_eq_true (show x∈s::S by rw[h];exact mem_cons_self)];rfl
  .rw[show i5 (s::S)=(Sum.inr s,V.bl true)::i5 S from rfl,bF (show¬(Sum.inr s:Key)=Sum.inr x from fun e=>h (Sum.inr.inj e)),sC x S];exact decide_eq_decide.mpr ⟨fun hx=>mem_cons_of_mem _ hx,fun hx=>(mem_cons.mp hx).elim (fun e=>absurd e.symm h) id⟩
theorem nW (S:List Str) (s:Str):putK (i5 S) (Sum.inr s) (.bl true)=i5 (kI S s):=by
 unfold putK kI;have h1:=sC s S;rw[<-L2.fU]at h1;rw[h1]
 by_cases h:s∈S
 .rw[decide_eq_true h,if_pos rfl,if_pos h];unfold i5;rw[map_map];refine map_congr_left fun z _=>?_
  show(if(Sum.inr z:Key)=Sum.inr s then((Sum.inr z:Key),V.bl true)else(Sum.inr z,V.bl true))=_;split<;>rfl
 .rw[decide_eq_false h,if_neg Bool.false_ne_true,if_neg h];unfold i5;rw[map_append];rfl
theorem fE {S:List Str}:x∈kI S s↔x∈S\/ x=s:=by
 unfold kI;split
 .exact⟨.inl,fun z=>z.elim id fun e=>by rw[e];assumption⟩
 .rw[mem_append,mem_singleton]
theorem jW {S:List Str} (h:S.Nodup):(kI S s).Nodup:=by
 unfold kI;split
 .exact h
 .rename_i hs;refine nodup_append.mpr ⟨h,by simp,fun u hu w hw e=>?_⟩;rw[mem_singleton.mp hw]at e;exact hs (by rw[<-e];exact hu)
theorem HF {S:List Str} (h:s∉S):(kI S s).length=S.length+1:=by
 unfold kI;rw[if_neg h,length_append];rfl
noncomputable def pO:Option Str->Mr.PV
 |none=>.aZ
 |some s=>.str s
noncomputable def M6 (z:Str×Option Str):Mr.PV:=.tup [.str z.1,pO z.2]
theorem QV:∀o:Option Str,Tr H (pO o) (oV o)
 |none=>.aZ
 |some s=>.str s
theorem PU:∀{o:Option Str} {v:V},Tr H (pO o) v->v=oV o
 |none,_,h=>by cases h;rfl
 |some s,_,h=>by cases h;rfl
theorem N0 (h:Tr H (M6 z) u):∃b,u= .ref b/\H b=some (.tup [.str z.1,oV z.2]):=by
 obtain⟨b,us,rfl,hb,hl⟩:=h.NI;cases hl with
 | cons h1 hl=>
  cases hl with
  |cons h2 hl=>
   cases hl;cases h1;rw[PU h2]at hb;exact⟨b,rfl,hb⟩
theorem z9 {b:Addr} (h:H b=some (.tup [.str z.1,oV z.2])):Tr H (M6 z) (.ref b):=.tup h (.cons (.str _) (.cons (QV _) .nil))
theorem MD (o:Option Str):Mr.cV (pO o) (pO o)=true:=by
 cases o with
 |none=>rfl
 |some s=>show(s==s)=true;exact beq_self_eq_true s
theorem DR (h:∀x∈ab,∀y∈ab,x.1=y.1->x.2=y.2):Mr.eI 3 (ab.map M6)=true:=by
 unfold Mr.eI;rw[all_eq_true];intro p hp;obtain⟨x,hx,rfl⟩:=mem_map.mp hp;rw[and_eq_true,all_eq_true];refine⟨by unfold M6;cases x.2<;>rfl,fun q hq=>?_⟩;obtain⟨y,hy,rfl⟩:=mem_map.mp hq;show(Mr.i8 3 (.tup [.str x.1,pO x.2]) (.tup [.str y.1,pO y.2])).isSome=true;show(Mr.eM (Mr.i8 2) [.str x.1,pO x.2] [.str y.1,pO y.2]).isSome=true
 by_cases e:x.1=y.1
 .rw[<-h x hx y hy e,<-e];show(if Mr.cV (.str x.1) (.str x.1)=true then Mr.eM (Mr.i8 2) [pO x.2] [pO x.2]else _).isSome=true;rw[if_pos (show Mr.cV (.str x.1) (.str x.1)=true from beq_self_eq_true x.1)];show(if Mr.cV (pO x.2) (pO x.2)=true then Mr.eM (Mr.i8 2) [] []else _).isSome=true;rw[if_pos (MD _)];rfl
 .show(if Mr.cV (.str x.1) (.str y.1)=true then _ else Mr.i8 2 (.str x.1) (.str y.1)).isSome=true;rw[if_neg (show¬Mr.cV (.str x.1) (.str y.1)=true from fun z=>e (eq_of_beq (show(x.1==y.1)=true from z)))];rfl
theorem DC (ab:Hl):∀x∈ab.map M6,Mr.y8 true x=true:=fun x hx=>by
 obtain⟨z,_,rfl⟩:=mem_map.mp hx;rfl
theorem pN {α β:Type} {f:α->β} {l:List β} {m:List β} (p:l.Perm m):∀{S:List α},m=S.map f->∃S':List α,S'.Perm S/\l=S'.map f:=by
 induction p with
 |nil=>
  intro S e;cases S with
  |nil=>exact⟨[],.nil,rfl⟩
  |cons a b=>cases e
 | cons x p ih=>
  intro S e;cases S with
  |nil=>cases e
  |cons a S=>
   obtain⟨e1,e2⟩:=List.cons.inj e;obtain⟨S',h1,h2⟩:=ih e2;exact⟨a::S',.cons _ h1,by rw[map_cons,h2,e1]⟩
 | swap x y l=>
  intro S e
  match S,e with
  |a::b::S,e=>
   obtain⟨e1,e2⟩:=List.cons.inj e;obtain⟨e2,e3⟩:=List.cons.inj e2;exact⟨b::a::S,.swap _ _ _,by rw[map_cons,map_cons,e1,e2,e3]⟩
 |trans p q ih1 ih2=>
  intro S e;obtain⟨S1,h1,h2⟩:=ih2 e;obtain⟨S2,h3,h4⟩:=ih1 h2;exact⟨S2,h3.trans h1,h4⟩
def IA (H:Hp) (z:Str×Option Str) (u:V):Prop:=∃b,u= .ref b/\H b=some (.tup [.str z.1,oV z.2])
theorem IA.kt (k:eK H H') (h:IA H z u):IA H' z u:=let⟨b,e,q⟩:=h;⟨b,e,k _ _ q⟩
def nS (ab:Hl):Prop:=∀x y,dB ab x=some y->y∈ks ab
def HB (ab:Hl) (ns:List Str) (x:Str):Prop:=∃n∈ns,∃k,Rg.gB (dB ab) k n=some x
def jV (H:Hp) (v:V) (ab:Hl):Prop:=∃t us,v= .ref t/\H t=some (.tup us)/\Paired (IA H) ab us
theorem jV.kt {v:V} (k:eK H H') (h:jV H v ab):jV H' v ab:=let⟨t,us,e,ht,p⟩:=h;⟨t,us,e,k _ _ ht,L2.Paired.cH p fun _ _ q=>q.kt k⟩
theorem JG {up:Str->Option Str} (m n:Nat) (x:Str):Rg.gB up (m+n) x=(Rg.gB up m x).bind (Rg.gB up n):=Rg.iA m n x
theorem EO {up:Str->Option Str} {n:Nat} {y:Str} (h:Rg.gB up n x=some y):Rg.gB up (n+1) x=up y:=by
 rw[JG,h];show(up y).bind (Rg.gB up 0)=_;cases up y<;>rfl
structure CM (ab M:Hl) (S l:List Str) (st:Str) (o:Option Str):Prop where
 km:ks M=S++l
 path:Rg.Path (dB ab) l o
 nd:(S++l).Nodup
 old:∀x∈S,dB M x≠some st
 new:∀x∈l,dB M x=some st
theorem CM.start {S:List Str} (k:ks M=S) (nd:S.Nodup) (old:∀x∈S,dB M x≠some st):CM ab M S [] st (some st):=
 ⟨by rw[append_nil];exact k,trivial,by rw[append_nil];exact nd,old,fun _ h=>nomatch h⟩
theorem CM.step {S:List Str} (c:CM ab M S l st (some x)) (hx:x∉ks M):CM ab (gD M x (some st)) S (l++[x]) st (dB ab x):=by
 have hS:x∉S:=fun h=>hx (by rw[c.km];exact mem_append_left _ h)
 have hl:x∉l:=fun h=>hx (by rw[c.km];exact mem_append_right _ h)
 refine⟨?_,Rg.Path.snoc c.path rfl,?_,fun y hy=>?_,fun y hy=>?_⟩
 .rw[wL,if_neg hx,c.km,append_assoc]
 .rw[<-append_assoc];refine nodup_append.mpr ⟨c.nd,by simp,fun u hu w hw e=>?_⟩;rw[mem_singleton.mp hw]at e;exact hx (by rw[c.km,<-e];exact hu)
 .rw[lW,if_neg fun e=>hS (by rw[<-e];exact hy)];exact c.old y hy
 .rw[lW];rcases mem_append.mp hy with h|h
  .rw[if_neg fun e=>hl (by rw[<-e];exact h)];exact c.new y h
  .rw[if_pos (mem_singleton.mp h)]
theorem FP {l:List Str} (h:x∈l):∃p r,l=p++x::r/\x∉p:=by
 induction l with
 |nil=>exact absurd h (by simp)
 | cons y l ih=>
  by_cases e:y=x
  .exact⟨[],l,by rw[e];rfl,by simp⟩
  .obtain⟨p,r,e2,n⟩:=ih ((mem_cons.mp h).resolve_left fun z=>e z.symm);exact⟨y::p,r,by rw[e2];rfl,fun z=>(mem_cons.mp z).elim (fun z=>e z.symm) n⟩
theorem CM.ring {S p r:List Str} (c:CM ab M S (p++x::r) st (some x)) (f:Rg.Found (dB ab) S F):Rg.Found (dB ab) (S++(p++x::r)) (F++[x::r]):=by
 obtain⟨n1,n2,n3⟩:=nodup_append.mp c.nd;exact f.O7 (by simp) c.path n2 fun y hy hs=>n3 y hs y hy rfl
theorem CM.out {S:List Str} (c:CM ab M S l st o) (f:Rg.Found (dB ab) S F) (h:∀y,o=some y->y∈S):Rg.Found (dB ab) (S++l) F:=by
 obtain⟨n1,n2,n3⟩:=nodup_append.mp c.nd;exact f.out c.path (fun y hy hs=>n3 y hs y hy rfl) h
theorem CM.met {S:List Str} (c:CM ab M S l st o) (hx:x∈ks M):(dB M x=some st/\x∈l)\/ (dB M x≠some st/\x∈S):=by
 rw[c.km]at hx;rcases mem_append.mp hx with h|h
 .exact .inr ⟨c.old x h,h⟩
 .exact .inl ⟨c.new x h,h⟩
noncomputable def univ (ab:Hl):List Str:=ks ab++ab.filterMap (·.2)
theorem yH (ab:Hl):(univ ab).length<=2*ab.length:=by
 unfold univ;rw[length_append,length_map];have:=List.length_filterMap_le (fun z:Str×Option Str=>z.2) ab;omega
theorem J0 (h:dB ab x=some y):y∈univ ab:=mem_append_right _ (List.mem_filterMap.mpr ⟨_,iC h,rfl⟩)
theorem EH (h:x∈ks ab):x∈univ ab:=mem_append_left _ h
structure uN (ab:Hl) (ns S:List Str) (o:Option Str):Prop where
 nd:S.Nodup
 key:∀x∈S,x∈ks ab
 NM:∀x∈S,HB ab ns x
 cl:∀x∈S,∀y,dB ab x=some y->y∈S\/ o=some y
 nx:∀y,o=some y->HB ab ns y
 all:∀n∈ns,n∈S\/ o=some n
theorem HB.up (h:HB ab ns x) (e:dB ab x=some y):HB ab ns y:=by
 obtain⟨n,hn,k,q⟩:=h;exact⟨n,hn,k+1,by rw[EO q,e]⟩
theorem HB.mono {ms:List Str} (h:HB ab ns x) (s:∀n∈ns,n∈ms):HB ab ms x:=let⟨n,hn,q⟩:=h;⟨n,s n hn,q⟩
theorem uN.nil:uN ab [] [] none:=⟨nodup_nil,(fun _ h=>nomatch h),(fun _ h=>nomatch h),(fun _ h=>nomatch h),(fun _ h=>nomatch h),(fun _ h=>nomatch h)⟩
theorem uN.more {S:List Str} (h:uN ab ns S none) (n:Str):uN ab (ns++[n]) S (some n)where
 nd:=h.nd
 key:=h.key
 NM:=fun x hx=>(h.NM x hx).mono fun m hm=>mem_append_left _ hm
 cl:=fun x hx y e=>.inl ((h.cl x hx y e).elim id fun z=>nomatch z)
 nx:=fun y e=>by cases e;exact⟨n,by simp,0,rfl⟩
 all:=fun m hm=>by
  rcases mem_append.mp hm with h1|h1
  .exact .inl ((h.all m h1).elim id fun z=>nomatch z)
  .rw[mem_singleton.mp h1];exact .inr rfl
theorem uN.step {S:List Str} (h:uN ab ns S (some x)) (hx:x∉S) (hk:x∈ks ab):uN ab ns (kI S x) (dB ab x)where
 nd:=jW h.nd
 key:=fun y hy=>(fE.mp hy).elim (h.key y) fun e=>by rw[e];exact hk
 NM:=fun y hy=>(fE.mp hy).elim (h.NM y) fun e=>by rw[e];exact h.nx x rfl
 cl:=fun y hy z e=>by
  rcases fE.mp hy with h1|h1
  .rcases h.cl y h1 z e with h2|h2
   .exact .inl (fE.mpr (.inl h2))
   .cases h2;exact .inl (fE.mpr (.inr rfl))
  .rw[h1]at e;exact .inr e
 nx:=fun y e=>(h.nx x rfl).up e
 all:=fun m hm=>.inl (fE.mpr ((h.all m hm).elim .inl fun e=>.inr (by cases e;rfl)))
theorem uN.stop {S:List Str} (h:uN ab ns S o) (e:∀y,o=some y->y∈S):uN ab ns S none where
 nd:=h.nd
 key:=h.key
 NM:=h.NM
 cl:=fun x hx y u=>.inl ((h.cl x hx y u).elim id fun z=>e y z)
 nx:=fun _ h=>nomatch h
 all:=fun m hm=>.inl ((h.all m hm).elim id fun z=>e m z)
theorem uN.iff {S:List Str} (h:uN ab ns S none) (x:Str):x∈S↔HB ab ns x:=by
 refine⟨h.NM x,fun⟨n,hn,k,e⟩=>?_⟩;exact Rg.sA.walk (T:=fun y=>y∈S) (fun a b ha e=>(h.cl a ha b e).elim id fun z=>nomatch z) k ((h.all n hn).elim id fun z=>nomatch z) e
theorem uN.len {S:List Str} (h:uN ab ns S o):S.length<=ab.length:=by
 have:=fK h.nd h.key;rwa[length_map]at this
end My
namespace L2
open PySem
section
variable {k:Nat} {cD:List Nat} {g:TG} {tt:TT} {tk te:TE} {σ:St} {H:Hp} {Q:VK} {l:Addr}
def jC (g:TG) (tt:TT) (tk te:TE) (l:Addr) (x:V) (σ:St) (H:Hp) (N:St->Hp->Prop):Prop:=
 g x σ H fun σ4 H4=>tt σ4 H4 fun b H5=>if b=true then tk σ4 H5 fun kv H6=>te σ4 H6 fun y H7=>∃kvs key,bZ H7 l kvs/\kv=kV key/\kvs.length<sizeLine/\∀ep,N σ4 (upd H7 l (.dK (putK kvs key y) ep))else N σ4 H5
end
end L2
namespace My
open PySem L2
variable {c f p:Addr} {M M' ab:Hl} {H H':Hp} {kv:Key×V} {xs:List Lt} {l zs:List Str} {us:List V} {x:Lt} {i:Nat} {o:Option Str} {st:Str} {α β:Type}
section
variable {k:Nat} {cD:List Nat} {g:TG} {tt:TT} {tk te:TE} {σ:St} {H:Hp} {Q:VK} {l:Addr}
theorem J3 {z:Str×Option Str} (h:z.1∉ks ab):putK (eL ab) (Sum.inr z.1) (oV z.2)=eL (ab++[z]):=by
 rw[nV];unfold gD;rw[if_neg h]
theorem RQ {H:Hp} {l:Addr} {o o':HO}:upd (upd H l o) l o'=upd H l o':=by
 funext b
 by_cases e:b=l
 .rw[e,aC,aC]
 .rw[aM e,aM e,aM e]
theorem NH {K:Frag} {a:Addr} (hS:bG K H a us) (hp:Paired (IA H) ab us) (nd:(ks ab).Nodup) (hlen:ab.length<sizeLine) (hl:H l=none) (Good:St->Prop) (h0:Good (bO k cD σ))
  (ht:∀z u σ H1 kvs (N:St->Hp->Prop),Good σ->IA H1 z u->bZ H1 l kvs->kvs.length<sizeLine->(∀σ' ep,Good σ'->N σ' (upd H1 l (.dK (putK kvs (.inr z.1) (oV z.2)) ep)))->jC g tt tk te l u σ H1 N)
  (hd:∀ep,Q (.ref l) (upd H l (.dK (eL ab) ep))):BN (DY K a) g tt tk te l (bO k cD σ) (upd H l (.dK [] 0)) Q:=by
 have hlv:ab.length=us.length:=hp.length;refine⟨fun i m σ' H'=>m=us.length - i/\i<=us.length/\Good σ'/\∃ep,H'=upd H l (.dK (eL (ab.take i)) ep),⟨us.length,by simp,zero_le _,h0,0,rfl⟩,?_⟩;rintro i m σ' H2 ⟨rfl,hi,gd,ep,rfl⟩;have hS2:bG K (upd H l (.dK (eL (ab.take i)) ep)) a us:=hS.G3 hl
 by_cases hlt:i<us.length
 .refine .inr ⟨⟨us,us[i],hS2,by simp[hlt]⟩,fun σ' H'=>i+1<=us.length/\Good σ'/\∃ep,H'=upd H l (.dK (eL (ab.take (i+1))) ep),fun σ3 H3 n=>⟨us.length - (i+1),by omega,rfl,n.1,n.2⟩,fun x H3 y=>?_⟩;obtain⟨e1,hx⟩:=y;subst e1;have hx:=hx us hS2;obtain⟨z,hz,r⟩:=L2.Paired.iP hp hx;have s0:aF H (upd H l (.dK (eL (ab.take i)) ep)):=aF.upd hl;have hnew:z.1∉ks (ab.take i):=fun hm=>by
   have e1:ks (ab.take (i+1))=ks (ab.take i)++[z.1]:=by
    rw[take_succ,hz];unfold ks;rw[map_append];rfl
   have:(ks (ab.take (i+1))).Nodup:=by
    unfold ks;rw[map_take];exact List.Nodup.sublist (take_sublist ..) nd
   rw[e1]at this;exact(nodup_append.mp this).2.2 z.1 hm z.1 (by simp) rfl
  refine ht z x σ' _ (eL (ab.take i)) _ gd (r.kt s0.kt) ⟨ep,aC⟩ ?_ fun σ3 ep3 g3=>⟨hlt,g3,ep3,?_⟩
  .rw[jX,length_take];omega
  .rw[RQ,J3 hnew,take_succ,hz];rfl
 .have e:i=us.length:=by omega
  subst e;refine .inl ⟨⟨us,hS2,le_refl _⟩,?_⟩;rw[<-hlv,take_length];exact hd ep
end
theorem take_snoc {l:List α} {x:α} (h:l[i]? =some x):l.take (i+1)=l.take i++[x]:=by
 rw[take_succ,h];rfl
noncomputable def C6 (acc:List Lt) (x:Lt):List Lt:=if(acc.any fun y=>decide (y.n=x.n))=true then acc else acc++[x]
noncomputable def aQ (xs:List Lt):List Lt:=xs.foldl C6 []
theorem yN (h:xs[i]? =some x):aQ (xs.take (i+1))=C6 (aQ (xs.take i)) x:=by
 unfold aQ;rw[take_snoc h,List.foldl_append];rfl
theorem eP (xs:List Lt):(aQ xs).length<=xs.length:=by
 have key:∀(l:List Lt) (k:List Lt),(l.foldl C6 k).length<=k.length+l.length:=by
  intro l
  induction l with
  |nil=>intro k;exact le_refl _
  | cons x l ih=>
   intro k;have h1:=ih (C6 k x);have h2:(C6 k x).length<=k.length+1:=by
    unfold C6;split
    .omega
    .rw[length_append];exact le_refl _
   rw[foldl_cons,length_cons];omega
 have:=key xs [];simpa [aQ]using this
def oK (H:Hp) (x:Lt) (kv:Key×V):Prop:=kv.1= .inr x.n/\sI H kv.2 x
def iK (H:Hp) (v:V) (xs:List Lt):Prop:=∃a us,v= .ref a/\H a=some (.tup us)/\Paired (fun x u=>sI H u x) xs us/\xs.length<=1000
theorem oK.same (s:aF H H') (h:oK H x kv):oK H' x kv:=⟨h.1,h.2.kp s.kt⟩
theorem oK.any {n:Str}:∀{acc:List Lt} {kvs:List (Key×V)},Paired (oK H) acc kvs->(kvs.any fun kv=>decide (kv.1=Sum.inr n))=acc.any fun y=>decide (y.n=n)
 |_,_,.nil=>rfl
 |_,_,.cons h r=>by
  rw[any_cons,any_cons,oK.any r,h.1];congr 1;exact decide_eq_decide.mpr ⟨fun e=>Sum.inr.inj e,fun e=>congrArg _ e⟩
theorem oK.vals:∀{acc:List Lt} {kvs:List (Key×V)},Paired (oK H) acc kvs->Paired (fun x u=>sI H u x) acc (kvs.map (·.2))
 |_,_,.nil=>.nil
 |_,_,.cons h r=>.cons h.2 (oK.vals r)
theorem oK.snoc {R:α->β->Prop}:∀{xs:List α} {ys zs:List β} {x:α} {y:β},Paired R xs ys->R x y->zs=ys++[y]->Paired R (xs++[x]) zs
 |_,_,_,_,_,.nil,h,e=>by rw[e];exact .cons h .nil
 |_,_,_,_,_,.cons g r,h,e=>by rw[e];exact .cons g (oK.snoc r h rfl)
theorem xT {ab:Hl} {i:Nat} (h:(eL ab)[i]? =some kv):∃x,(ks ab)[i]? =some x/\kv.1= .inr x/\kv.2=oV (ab.map (·.2))[i]?.join:=by
 unfold eL at h;rw[getElem?_map]at h;cases e:ab[i]? with
 |none=>rw[e]at h;cases h
 |some z=>
  rw[e]at h;have h:=Option.some.inj h;subst h;exact⟨z.1,by unfold ks;rw[getElem?_map,e];rfl,rfl,by rw[getElem?_map,e];rfl⟩
structure AV (ab M M':Hl) (us:List V) (p f c:Addr) (st:Str) (H H':Hp) (l:List Str) (o:Option Str):Prop where
 s:aF H H'
 dm:bZ H' p (eL M')
 hu:H' f=some (.lst us)
 hc:H' c=some (.lst (l.map V.str))
 cl:CM ab M' (ks M) l st o
 un:∀x∈ks M',x∈univ ab
 ou:∀y,o=some y->y∈univ ab
 RO:o=some st\/ st∈l
 kp:∀x∈ks M,dB M' x=dB M x
theorem AV.len (w:AV ab M M' us p f c st H H' l o):(ks M').length<=2*ab.length:=
 le_trans (fK (by rw[w.cl.km];exact w.cl.nd) w.un) (yH ab)
theorem AV.step {y:Str} (w:AV ab M M' us p f c st H H' l (some y)) (hy:y∉ks M') (ep:Nat) (hp:H p=none) (hc0:H c=none) (ncp:c≠p) (ncf:c≠f) (npf:p≠f):
  AV ab M (gD M' y (some st)) us p f c st H (upd (upd H' p (.dK (putK (eL M') (.inr y) (.str st)) ep)) c (.lst (l.map V.str++[.str y]))) (l++[y]) (dB ab y)where
 s:=fun b o h=>by
  rw[aM (aG h hc0),aM (aG h hp)];exact w.s b o h
 dm:=⟨ep,by rw[aM ncp.symm,aC];exact congrArg (fun z=>some (HO.dK z ep)) (nV M' y (some st))⟩
 hu:=by rw[aM ncf.symm,aM npf.symm];exact w.hu
 hc:=by rw[aC,map_append];rfl
 cl:=w.cl.step hy
 un:=fun x hx=>(jU.mp hx).elim (w.un x) fun e=>by rw[e];exact w.ou y rfl
 ou:=fun z e=>J0 e
 RO:=.inr (w.RO.elim (fun e=>by cases e;simp) fun h=>mem_append_left _ h)
 kp:=fun x hx=>by
  rw[lW,if_neg fun e=>hy (by rw[w.cl.km,<-e];exact mem_append_left _ hx)];exact w.kp x hx
theorem AV.val {T:List Str} (w:AV ab M M' us p f c st H H' l o) (hval:∀x∈ks M,∃s∈T,dB M x=some s):∀x∈ks M',∃s∈T++[st],dB M' x=some s:=fun x hx=>by
 rw[w.cl.km]at hx;rcases mem_append.mp hx with h|h
 .obtain⟨s,hs,e⟩:=hval x h;exact⟨s,mem_append_left _ hs,by rw[w.kp x h];exact e⟩
 .exact⟨st,by simp,w.cl.new x h⟩
noncomputable def LK (x:Lt) (i:Nat):Str:=(x.row[i]?).getD (Str.ofString "")
noncomputable def keepR (x:Lt) (i:Nat):Bool:=!decide (LK x i=x.n) && !((x.row.drop (i+1)).contains (LK x i))
noncomputable def aX (x:Lt):List Str:=((List.range x.row.length).filter (keepR x)).map (LK x)
theorem CD {xs:List V} {i:Nat}:i4 xs (some (i:Int)) none=xs.drop i:=by
 cases i with
 |zero=>
  unfold i4;rw[HT.x8];show(xs.take xs.length).drop (HT.eZ xs.length 0 (some 0))=_;rw[take_length];unfold HT.eZ;simp
 |succ i=>exact rX
theorem GA:∀{ab:Hl} {us:List V},jR H (ab.map M6) us->Paired (IA H) ab us
 |[],_,.nil=>.nil
 |_::_,_,.cons h r=>.cons (N0 h) (GA r)
theorem oK.val {n:Str}:∀{xs:List Lt} {kvs:List (Key×V)},Paired (oK H) xs kvs->(bW kvs (.inr n)=none/\∀x∈xs,x.n≠n)\/ ∃x∈xs,x.n=n/\∃u,bW kvs (.inr n)=some u/\sI H u x
 |_,_,.nil=>.inl ⟨rfl,fun _ h=>nomatch h⟩
 | x::xs,kv::kvs,.cons h r=>by
  obtain⟨k,v⟩:=kv;have h1:k=Sum.inr x.n:=h.1
  by_cases e:x.n=n
  .exact .inr ⟨x,mem_cons_self,e,v,bU (show(k,v).1=_ by rw[h1,e]),h.2⟩
  .rcases oK.val (n:=n) r with⟨a,b⟩|⟨y,hy,ey,u,hu,hl⟩
   .refine .inl ⟨?_,fun y hy=>(mem_cons.mp hy).elim (fun z=>by rw[z];exact e) (b y)⟩;rw[bF (show¬(k,v).1=Sum.inr n from fun z=>e (Sum.inr.inj (h1.symm.trans z)))];exact a
   .refine .inr ⟨y,mem_cons_of_mem _ hy,ey,u,?_,hl⟩;rw[bF (show¬(k,v).1=Sum.inr n from fun z=>e (Sum.inr.inj (h1.symm.trans z)))];exact hu
theorem iK.kt (k:eK H H') {v:V} (h:iK H v xs):iK H' v xs:=let⟨a,us,e,ha,hp,hl⟩:=h;⟨a,us,e,k _ _ ha,L2.Paired.cH hp fun _ _ q=>q.kp k,hl⟩
theorem IU {xs:List α} {x:α}:zO (xs++[x]) (-1)=some x:=by
 unfold zO IE;have e:(xs++[x]).length=xs.length+1:=by rw[length_append];rfl
 rw[e,if_neg (by decide),if_pos (by omega),show(-1+((xs.length+1:Nat):Int))=(xs.length:Int) by omega];simp
theorem AA {e:Str} (h:e∈aX x):e∈x.row:=by
 unfold aX at h;obtain⟨i,hi,rfl⟩:=mem_map.mp h;have hi:=mem_range.mp (mem_filter.mp hi).1;unfold LK;rw[getElem?_eq_getElem hi];exact getElem_mem hi
theorem AO (x:Lt):(aX x).length<=x.row.length:=by
 unfold aX;rw[length_map];have:=length_filter_le (keepR x) (List.range x.row.length);rwa[length_range]at this
def sJ (zs:List Str) (H:Hp) (x:Lt) (kv:NE):Prop:=sI H (.ref kv.2.1) x/\rR x.P= .t kv.1/\x.n∈zs/\∀r∈x.row,r∈zs
theorem sJ.kt (k:eK H H') {kv:NE} (h:sJ zs H x kv):sJ zs H' x kv:=⟨h.1.kp k,h.2⟩
theorem qB:∀row:List Str,kN (row.map Mr.PV.str)=true
 |[]=>by simp[kN]
 |x::xs=>by simp[kN,keyed,qB xs]
theorem yI (x:Lt):keyed x.P=true:=by
 unfold Lt.P;simp[keyed,kN,qB]
theorem yZ:∀row:List Str,qI (nK (row.map Mr.PV.str))=0
 |[]=>by simp[nK,qI]
 |x::xs=>by simp[nK,rR,qI,uL,yZ xs]
theorem EJ (x:Lt):∃ks,rR x.P= .t ks/\qI ks<=4:=by
 refine⟨_,by unfold Lt.P;simp only[rR];rfl,?_⟩;simp[nK,rR,qI,uL,yZ]
theorem sJ.ks:∀{xs:List Lt} {kvs:List NE},Paired (sJ zs H) xs kvs->JC H kvs
 |_,_,.nil=>fun _ h=>nomatch h
 | x::_,kv::_,.cons h r=>fun k hk=>by
  rcases mem_cons.mp hk with e|hk
  .subst e;obtain⟨h1,h2,_⟩:=h;obtain⟨ks,e1,e2⟩:=EJ x;rw[e1]at h2;have h2:ks=k.1:=NK.t.inj h2;subst h2;refine⟨?_,e2⟩;have:=h1.tr.nk (yI x);rwa[e1]at this
  .exact sJ.ks r k hk
theorem sJ.SA:∀{xs:List Lt} {kvs:List NE},Paired (sJ zs H) xs kvs->jR H (xs.map Lt.P) (kvs.map fun kv=>V.ref kv.2.1)
 |_,_,.nil=>.nil
 |_,_,.cons h r=>.cons h.1.tr (sJ.SA r)
theorem rH {R:α->β->Prop} {f:β->β} (hf:∀a b,R a b->R a (f b)):∀{xs:List α} {ys:List β},Paired R xs ys->Paired R xs (ys.map f)
 |_,_,.nil=>.nil
 |_,_,.cons h r=>.cons (hf _ _ h) (rH hf r)
theorem sJ.put {kvs:List NE} (p:Paired (sJ zs H) xs kvs) {b:Addr} {ks:List NK} (h:sJ zs H x (ks,b,.bl true)):∃xs',Paired (sJ zs H) xs' (putN kvs ks b (.bl true))/\xs'.length<=xs.length+1:=by
 unfold putN;split
 .refine⟨xs,rH (fun a kv r=>?_) p,le_succ _⟩;split
  .exact r
  .exact r
 .exact⟨xs++[x],oK.snoc p h rfl,by rw[length_append];exact le_refl _⟩
theorem GH:∀{xs:List Lt} {kvs:List NE},Paired (sJ zs H) xs kvs->∀x∈xs,x.Ok/\x.n∈zs/\∀r∈x.row,r∈zs
 |_,_,.nil,_,h=>nomatch h
 |_,_,.cons h r,x,hx=>by
  rcases mem_cons.mp hx with e|hx
  .rw[e];exact⟨h.1.ok,h.2.2⟩
  .exact GH r x hx
theorem HL:∀{xs:List Lt} {vs:List V},jR H (xs.map Lt.P) vs->(∀x∈xs,x.Ok)->Paired (fun x u=>sI H u x) xs vs
 |[],_,.nil,_=>.nil
 |_::_,_,.cons h r,k=>.cons ⟨h,k _ mem_cons_self⟩ (HL r fun x hx=>k x (mem_cons_of_mem _ hx))
theorem mY:∀(xs acc:List Lt),(acc.map (·.n)).Nodup->((xs.foldl C6 acc).map (·.n)).Nodup/\∀x∈xs.foldl C6 acc,x∈acc\/ x∈xs
 |[],acc,h=>⟨h,fun _ hx=>.inl hx⟩
 | y::xs,acc,h=>by
  have h2:((C6 acc y).map (·.n)).Nodup:=by
   unfold C6;split
   .exact h
   .rename_i hno;rw[map_append];refine nodup_append.mpr ⟨h,by simp,fun u hu w hw e=>?_⟩;have hw:w=y.n:=by simpa using hw
    obtain⟨z,hz,rfl⟩:=mem_map.mp hu;exact hno (List.any_eq_true.mpr ⟨z,hz,decide_eq_true (e.trans hw)⟩)
  obtain⟨a,b⟩:=mY xs (C6 acc y) h2;refine⟨a,fun x hx=>(b x hx).elim (fun h3=>?_) fun h3=>.inr (mem_cons_of_mem _ h3)⟩;unfold C6 at h3;split at h3
  .exact .inl h3
  .rcases mem_append.mp h3 with h3|h3
   .exact .inl h3
   .exact .inr (by rw[mem_singleton.mp h3];exact mem_cons_self)
theorem lU (xs:List Lt):((aQ xs).map (·.n)).Nodup:=(mY xs [] nodup_nil).1
theorem AF (xs:List Lt):∀x∈aQ xs,x∈xs:=fun x hx=>((mY xs [] nodup_nil).2 x hx).elim (fun h=>nomatch h) id
theorem HR {xs:List V} (k:Nat):i4 xs none (some (k:Int))=xs.take k:=by
 unfold i4;rw[HT.IZ,HT.x8,drop_zero,sub_zero]
 by_cases h:k<=xs.length
 .rw[Nat.min_eq_left h]
 .rw[Nat.min_eq_right (by omega),take_of_length_le (le_refl _),take_of_length_le (by omega)]
end My
namespace L2
open PySem
variable {α:Type}
section
variable {k:Nat} {cD:List Nat} {g:TG} {tt:TT} {tk te:TE} {σ:St} {H:Hp} {Q:VK} {l:Addr}
theorem B1 (J:It) (es:List α) (x:α->V) (key:α->Str) (R:Hp->α->V->Prop) (Good:St->Prop) (h0:Good (bO k cD σ)) (hl:H l=none) (hlen:es.length<sizeLine) (nd:(es.map key).Nodup)
  (hstop:∀H',aF H H'->J.stop es.length H') (hgo:∀i H',i<es.length->aF H H'->J.go i H')
  (hyld:∀i H1 v H2,i<es.length->aF H H1->J.AY i H1 v H2->H2=H1/\∃e,es[i]? =some e/\v=x e)
  (m:∀H1 H2 e v,eK H1 H2->R H1 e v->R H2 e v)
  (ht:∀e σ H1 kvs (N:St->Hp->Prop),e∈es->Good σ->aF H H1->bZ H1 l kvs->kvs.length<sizeLine->
   (∀σ' v H2 ep,Good σ'->aF H1 H2->R H2 e v->N σ' (upd H2 l (.dK (putK kvs (.inr (key e)) v) ep)))->jC g tt tk te l (x e) σ H1 N)
  (hd:∀H' kvs,aF H H'->bZ H' l kvs->Paired (fun e kv=>kv.1=Sum.inr (key e)/\R H' e kv.2) es kvs->Q (.ref l) H'):BN J g tt tk te l (bO k cD σ) (upd H l (.dK [] 0)) Q:=by
 refine⟨fun i n σ' H'=>n=es.length - i/\i<=es.length/\Good σ'/\aF H H'/\∃kvs,bZ H' l kvs/\Paired (fun e kv=>kv.1=Sum.inr (key e)/\R H' e kv.2) (es.take i) kvs,⟨es.length,by simp,zero_le _,h0,aF.upd hl,[],⟨0,aC⟩,.nil⟩,?_⟩;rintro i n σ' H2 ⟨rfl,hi,gd,s2,kvs,hk,pr⟩
 by_cases hlt:i<es.length
 .refine .inr ⟨hgo i H2 hlt s2,fun σ' H'=>i+1<=es.length/\Good σ'/\aF H H'/\∃kvs,bZ H' l kvs/\Paired (fun e kv=>kv.1=Sum.inr (key e)/\R H' e kv.2) (es.take (i+1)) kvs,fun σ3 H3 n=>⟨es.length - (i+1),by omega,rfl,n.1,n.2⟩,fun v H3 y=>?_⟩;obtain⟨rfl,e,he,rfl⟩:=hyld i H2 v H3 hlt s2 y;have hz:kvs.length<sizeLine:=by
   rw[<-Paired.length pr,length_take];omega
  have et:es.take (i+1)=es.take i++[e]:=by rw[take_succ,he];rfl
  have hno:(kvs.any fun kv=>decide (kv.1=Sum.inr (key e)))=false:=by
   rw[Bool.eq_false_iff];intro ha;obtain⟨kv,hkv,hc⟩:=List.any_eq_true.mp ha;have hc:=of_decide_eq_true hc;obtain⟨j,hj⟩:=getElem?_of_mem hkv;obtain⟨e',he',h1,_⟩:=Paired.iP pr hj;have h2:key e'=key e:=Sum.inr.inj (h1.symm.trans hc);have h3:((es.take (i+1)).map key).Nodup:=by
    rw[map_take];exact List.Nodup.sublist (take_sublist ..) nd
   rw[et,map_append]at h3;exact(nodup_append.mp h3).2.2 (key e') (mem_map.mpr ⟨e',mem_of_getElem? he',rfl⟩) (key e) (by simp) h2
  refine ht e σ' _ kvs _ (mem_of_getElem? he) gd s2 hk hz fun σ3 v H3 ep g3 s3 r=>⟨hlt,g3,fun b o h=>?_,_,⟨ep,aC⟩,?_⟩
  .rw[aM (aG h hl)];exact s3 _ _ (s2 _ _ h)
  .have kt:eK H3 (upd H3 l (.dK (putK kvs (.inr (key e)) v) ep)):=by
    obtain⟨e1,h1⟩:=hk;have h2:=s3 _ _ h1;exact fun c us h=>by rw[aM (y4 h h2 (fun z=>nomatch z))];exact h
   have ep2:putK kvs (Sum.inr (key e)) v=kvs++[(Sum.inr (key e),v)]:=by unfold putK;rw[hno,if_neg Bool.false_ne_true]
   rw[ep2]at kt⊢
   rw[et];exact Paired.snoc (Paired.cH pr fun _ _ q=>⟨q.1,m _ _ _ _ (s3.kt.trans kt) q.2⟩) ⟨rfl,m _ _ _ _ kt r⟩
 .have e:i=es.length:=by omega
  subst e;rw[take_length]at pr;exact .inl ⟨hstop H2 s2,hd H2 kvs s2 hk pr⟩
theorem kP {K:Frag} {a:Addr} {us:List V} {es:List α} {P:Hp->α->V->Prop} (hS:bG K H a us) (hp:Paired (P H) es us) (key:α->Str) (R:Hp->α->V->Prop) (Good:St->Prop) (h0:Good (bO k cD σ)) (hl:H l=none) (hlen:es.length<sizeLine) (nd:(es.map key).Nodup)
  (m:∀H1 H2 e v,eK H1 H2->R H1 e v->R H2 e v)
  (ht:∀e u σ H1 kvs (N:St->Hp->Prop),e∈es->P H e u->Good σ->aF H H1->bZ H1 l kvs->kvs.length<sizeLine->
   (∀σ' v H2 ep,Good σ'->aF H1 H2->R H2 e v->N σ' (upd H2 l (.dK (putK kvs (.inr (key e)) v) ep)))->jC g tt tk te l u σ H1 N)
  (hd:∀H' kvs,aF H H'->bZ H' l kvs->Paired (fun e kv=>kv.1=Sum.inr (key e)/\R H' e kv.2) es kvs->Q (.ref l) H'):BN (DY K a) g tt tk te l (bO k cD σ) (upd H l (.dK [] 0)) Q:=by
 have hlv:es.length=us.length:=hp.length;have hzl:(es.zip us).length=es.length:=by rw[length_zip,hlv,min_self]
 have hm1:(es.zip us).map (·.1)=es:=map_fst_zip (by omega);refine B1 (DY K a) (es.zip us) (·.2) (fun z=>key z.1) (fun H z v=>R H z.1 v) Good h0 hl (by omega) (by rw[show(es.zip us).map (fun z=>key z.1)=((es.zip us).map (·.1)).map key from(map_map ..).symm,hm1];exact nd) (fun H' s=>⟨us,hS.same s,by omega⟩) (fun i H' hi s=>⟨us,us[i]'(by omega),hS.same s,by simp⟩) (fun i H1 v H2 hi s y=>?_) (fun _ _ _ _ k r=>m _ _ _ _ k r) (fun z σ H1 kvs N hz gd s hk hzz hN=>?_) (fun H' kvs s hk pr=>hd H' kvs s hk ?_)
 .have hv:=y.2 us (hS.same s);exact⟨y.1,(es[i]'(by omega),us[i]'(by omega)),by rw[getElem?_eq_getElem hi,getElem_zip],by rw[getElem?_eq_getElem (by omega)]at hv;exact(Option.some.inj hv).symm⟩
 .obtain⟨j,hj⟩:=getElem?_of_mem hz;have h1:es[j]? =some z.1/\us[j]? =some z.2:=by rw[List.getElem?_zip_eq_some]at hj;exact hj
  obtain⟨e',he',hP⟩:=Paired.iP hp h1.2;rw[h1.1]at he';cases he';exact ht z.1 z.2 σ H1 kvs N (mem_of_getElem? h1.1) hP gd s hk hzz hN
 .have key2:∀{zs:List (α×V)} {kvs:List (Key×V)},Paired (fun z kv=>kv.1=Sum.inr (key z.1)/\R H' z.1 kv.2) zs kvs->Paired (fun e kv=>kv.1=Sum.inr (key e)/\R H' e kv.2) (zs.map (·.1)) kvs:=by
   intro zs kvs h
   induction h with
   |nil=>exact .nil
   |cons a _ ih=>exact .cons a ih
  have:=key2 pr;rwa[hm1]at this
end
end L2
namespace Rg
variable {α:Type} {up up':α->Option α}
theorem rD (h:∀x y,up' x=some y->up x=some y):∀(n:Nat) {x y:α},gB up' n x=some y->gB up n x=some y
 |0,_,_,e=>e
 | n+1,x,y,e=>by
  cases c:up' x with
  |none=>rw[gB,c]at e;cases e
  |some z=>
   rw[gB,c]at e;show(up x).bind (gB up n)=some y;rw[h x z c];exact rD h n e
theorem pJ.mono (h:∀x y,up' x=some y->up x=some y) {x:α} (c:pJ up' x):pJ up x:=let⟨n,e⟩:=c;⟨n,rD h _ e⟩
theorem Ring.reach {l:List α} (r:Ring up l) {x c:α} (hx:x∈l) (hc:c∈l):∃k,gB up k x=some c:=by
 cases l with
 |nil=>exact absurd rfl r.ne
 | cons a l=>
  obtain⟨i,hi⟩:=getElem?_of_mem hx;obtain⟨j,hj⟩:=getElem?_of_mem hc;have h1:=r.path.xV hi;have ha:∀j,j<=(a::l).length->∀z,(a::l)[j]? =some z->gB up j a=some z:=by
   intro j
   induction j with
   |zero=>intro _ z hz;cases hz;rfl
   |succ j ih=>
    intro hj z hz;have hj':j<(a::l).length:=by omega
    have e1:=ih (by omega) _ (getElem?_eq_getElem hj');rw[iA j 1,e1];have hlt:j+1<(a::l).length:=(List.getElem?_eq_some_iff.mp hz).1;have:Path up ((a::l).drop j) (a::l).head?:=r.path.drop j;rw[List.drop_eq_getElem_cons hj',List.drop_eq_getElem_cons hlt]at this;show(up _).bind (gB up 0)=_;rw[this.1];rw[getElem?_eq_getElem hlt]at hz;cases hz;rfl
  have hjl:j<(a::l).length:=(List.getElem?_eq_some_iff.mp hj).1;refine⟨(a::l).length - i+j,?_⟩;rw[iA,h1];exact ha j (by omega) c hj
theorem II {S:List α} {F:List (List α)} (f:Found up S F) (hS:∀x,pJ up x->x∈S) (h:∀x y,up' x=some y->up x=some y) (hc:∀R∈F,∃c∈R,up' c=none) (x:α):¬pJ up' x:=fun c=>by
 have c1:=c.mono h;obtain⟨R,hR,hx⟩:=List.mem_flatten.mp (f.all x (hS x c1) c1);obtain⟨d,hd,e⟩:=hc R hR;obtain⟨k,hk⟩:=(f.ring R hR).reach hx hd;obtain⟨y,j,h1,_⟩:=c.back k;have h2:=rD h _ h1;rw[hk]at h2;cases h2;obtain⟨z,j2,h3,_⟩:=c.back (k+1);rw[iA,h1]at h3;have:(up' d).bind (gB up' 0)=some z:=h3;rw[e]at this;cases this
theorem Ring.held {l:List α} (r:Ring up l) {hm:α->Option α} (h:∀x∈l,up x=hm x) {x:α} (hx:x∈l):Rg.pJ hm x:=by
 have key:∀(n:Nat) {x:α},x∈l->gB hm n x=gB up n x:=by
  intro n
  induction n with
  |zero=>intro x _;rfl
  |succ n ih=>
   intro x hx;show(hm x).bind (gB hm n)=(up x).bind (gB up n);rw[<-h x hx];cases c:up x with
   |none=>rfl
   |some y=>exact ih (r.closed x y hx c)
 obtain⟨n,e⟩:=r.pJ hx;exact⟨n,by rw[key _ hx];exact e⟩
end Rg
namespace My
open PySem L2
variable {b:Addr} {H:Hp} {n:Str} {α β:Type}
theorem HM:∀{ab:Hl} {kvs:List (Key×V)},Paired (fun(z:Str×Option Str) (kv:Key×V)=>kv.1=Sum.inr z.1/\kv.2=oV z.2) ab kvs->kvs=eL ab
 |_,_,.nil=>rfl
 |z::ab,(k,v)::kvs,.cons h r=>by
  have h1:k=Sum.inr z.1:=h.1;have h2:v=oV z.2:=h.2;rw[h1,h2,HM r];rfl
theorem mO {d:Addr} {H H':Hp} (s:aF H H') (h:H' d=none):H d=none:=by
 cases e:H d with
 |none=>rfl
 |some o=>rw[s _ _ e]at h;cases h
theorem pT:∀ns:List Str,Paired (fun(n:Str) u=>u=V.str n) ns (ns.map V.str)
 |[]=>.nil
 |_::ns=>.cons rfl (pT ns)
theorem oY {f:α->β}:∀{S:List α},(S.map f).Nodup->∀{x y:α},x∈S->y∈S->f x=f y->x=y
 |[],_,_,_,hx,_,_=>nomatch hx
 |z::S,nd,x,y,hx,hy,e=>by
  rw[map_cons,nodup_cons]at nd;rcases mem_cons.mp hx with h1|h1<;>rcases mem_cons.mp hy with h2|h2
  .rw[h1,h2]
  .exact absurd (mem_map.mpr ⟨y,h2,by rw[<-e,h1]⟩) nd.1
  .exact absurd (mem_map.mpr ⟨x,h1,by rw[e,h2]⟩) nd.1
  .exact oY nd.2 h1 h2 e
abbrev B9:=Int×Str×Nat
def lO (H:Hp) (c:B9) (u:V):Prop:=∃b,u= .ref b/\H b=some (.tup [.int c.1,.str c.2.1,.int (c.2.2:Int)])
section
variable {κ:Type} {cR:Hp->κ->V->Prop}
def RC (cR:Hp->κ->V->Prop) (H:Hp) (cs:List κ) (v:V):Prop:=∃l us,v= .ref l/\H l=some (.lst us)/\Paired (cR H) cs us
def zN (cR:Hp->κ->V->Prop) (H:Hp) (z:Str×List κ) (kv:Key×V):Prop:=kv.1= .inr z.1/\RC cR H z.2 kv.2
structure nG (cR:Hp->κ->V->Prop) (H H':Hp) (p:Addr) (kvs:List (Key×V)) (C:List (Str×List κ)):Prop where
 s:aF H H'
 d:bZ H' p kvs
 pr:Paired (zN cR H') C kvs
 nd:(C.map (·.1)).Nodup
 fr:∀kv∈kvs,∀l,kv.2= .ref l->H l=none/\l≠p
 un:(kvs.map (·.2)).Nodup
 ne:∀z∈C,z.2≠[]
noncomputable def qF (C:List (Str×List κ)) (n:Str) (c:κ):List (Str×List κ):=if n∈C.map (·.1)then C.map (fun z=>if z.1=n then(z.1,z.2++[c])else z)else C++[(n,[c])]
theorem p6 {R R':α->β->Prop} {f:α->α}:∀{xs:List α} {ys:List β},Paired R xs ys->(∀x y,x∈xs->y∈ys->R x y->R' (f x) y)->Paired R' (xs.map f) ys
 |_,_,.nil,_=>.nil
 |_,_,.cons h r,k=>.cons (k _ _ mem_cons_self mem_cons_self h) (p6 r fun x y hx hy=>k x y (mem_cons_of_mem _ hx) (mem_cons_of_mem _ hy))
theorem zN.keys:∀{C:List (Str×List κ)} {kvs:List (Key×V)},Paired (zN cR H) C kvs->kvs.map (·.1)=(C.map (·.1)).map Sum.inr
 |_,_,.nil=>rfl
 |_,_,.cons h r=>by rw[map_cons,map_cons,map_cons,h.1,zN.keys r]
theorem zN.val {n:Str}:∀{C:List (Str×List κ)} {kvs:List (Key×V)},Paired (zN cR H) C kvs->(bW kvs (.inr n)=none/\n∉C.map (·.1))\/ ∃z∈C,z.1=n/\∃kv∈kvs,kv.1= .inr n/\bW kvs (.inr n)=some kv.2/\RC cR H z.2 kv.2
 |_,_,.nil=>.inl ⟨rfl,fun h=>nomatch h⟩
 | x::xs,(k,v)::kvs,.cons ⟨h1,h2⟩ r=>by
  by_cases e:x.1=n
  .exact .inr ⟨x,mem_cons_self,e,(k,v),mem_cons_self,by rw[h1,e],bU (show(k,v).1=_ by rw[h1,e]),h2⟩
  .have ne:¬(k,v).1=Sum.inr n:=fun z=>e (Sum.inr.inj (h1.symm.trans z))
   rcases zN.val (n:=n) r with⟨a,b⟩|⟨y,hy,ey,kv,hkv,e2,hu,ht'⟩
   .exact .inl ⟨by rw[bF ne];exact a,fun hm=>(mem_cons.mp hm).elim (fun z=>e z.symm) b⟩
   .exact .inr ⟨y,mem_cons_of_mem _ hy,ey,kv,mem_cons_of_mem _ hkv,e2,by rw[bF ne];exact hu,ht'⟩
theorem nG.nil {p:Addr} (hp:H p=none):nG cR H (upd H p (.dK [] 0)) p [] []:=⟨aF.upd hp,⟨0,aC⟩,.nil,nodup_nil,(fun _ h=>nomatch h),nodup_nil,fun _ h=>nomatch h⟩
section
variable {H H':Hp} {p:Addr} {kvs:List (Key×V)} {C:List (Str×List κ)} (m:∀{H H':Hp} {c:κ} {u:V},eK H H'->cR H c u->cR H' c u)
include m
theorem nG.same {H2:Hp} (i:nG cR H H' p kvs C) (s2:aF H' H2):nG cR H H2 p kvs C:=
 ⟨i.s.trans s2,bY i.d s2,L2.Paired.cH i.pr fun _ _ ⟨e,l,us,e2,h,q⟩=>⟨e,l,us,e2,s2 _ _ h,L2.Paired.cH q fun _ _ r=>m s2.kt r⟩,i.nd,i.fr,i.un,i.ne⟩
theorem nG.old (i:nG cR H H' p kvs C) {z:Str×List κ} {kv:Key×V} {l:Addr} {us:List V} {c:κ} (hz:z∈C) (hkv:kv∈kvs) (hk:kv.1= .inr z.1) (hl:kv.2= .ref l) (hus:H' l=some (.lst us)) (hc:cR H' c (.ref b)):
  nG cR H (upd H' l (.lst (us++[.ref b]))) p kvs (qF C z.1 c):=by
 obtain⟨hl0,hlp⟩:=i.fr kv hkv l hl;have kt:eK H' (upd H' l (.lst (us++[.ref b]))):=eK.upd hus;have ndk:(kvs.map (·.1)).Nodup:=by
  rw[zN.keys i.pr];exact List.Pairwise.map _ (fun a b h e=>h (Sum.inr.inj e)) i.nd
 unfold qF;rw[if_pos (mem_map.mpr ⟨z,hz,rfl⟩)];refine⟨fun a o h=>by rw[aM (aG h hl0)];exact i.s a o h,?_,p6 i.pr fun x kx hx hkx r=>?_,?_,i.fr,i.un,fun x hx=>?_⟩
 .obtain⟨ep,e⟩:=i.d;exact⟨ep,by rw[aM hlp.symm];exact e⟩
 .obtain⟨e1,l2,us2,e2,h2,q⟩:=r
  by_cases ex:x.1=z.1
  .rw[if_pos ex];have:kx=kv:=oY ndk hkx hkv (by rw[e1,hk,ex]);subst this;have:l2=l:=by rw[e2]at hl;exact V.ref.inj hl
   subst this;rw[hus]at h2;cases h2;exact⟨e1,l2,_,e2,aC,oK.snoc (L2.Paired.cH q fun _ _ r=>m kt r) (m kt hc) rfl⟩
  .rw[if_neg ex];have ne:l2≠l:=fun e=>by
    have:kx=kv:=oY i.un hkx hkv (by rw[e2,hl,e]);rw[this,hk]at e1;exact ex (Sum.inr.inj e1).symm
   exact⟨e1,l2,us2,e2,by rw[aM ne];exact h2,L2.Paired.cH q fun _ _ r=>m kt r⟩
 .rw[map_map];rw[show C.map ((fun x=>x.1)∘fun x=>if x.1=z.1 then(x.1,x.2++[c])else x)=C.map (·.1)from map_congr_left fun x _=>by show(if x.1=z.1 then(x.1,x.2++[c])else x).1=x.1;split<;>rfl];exact i.nd
 .obtain⟨y,hy,rfl⟩:=mem_map.mp hx;split
  .simp
  .exact i.ne y hy
theorem nG.new (i:nG cR H H' p kvs C) (hp:H p=none) {l:Addr} {c:κ} (hn:n∉C.map (·.1)) (hv:bW kvs (.inr n)=none) (hl:H' l=none) {H1:Hp} {ep:Nat} (h1:∀a o,H' a=some o->a≠p->H1 a=some o) (h2:H1 p=some (.dK (putK kvs (.inr n) (.ref l)) ep)) (h3:H1 l=some (.lst [])) (hc:cR H1 c (.ref b)):
  nG cR H (upd H1 l (.lst [.ref b])) p (kvs++[(.inr n,.ref l)]) (qF C n c):=by
 have hl0:=mO i.s hl;obtain⟨e0,hd0⟩:=i.d;have hlp:l≠p:=(aG hd0 hl).symm;have kt:eK H' (upd H1 l (.lst [.ref b])):=fun a us h=>by
  have ha:a≠p:=fun e=>by rw[e,hd0]at h;cases h
  rw[aM (aG h hl)];exact h1 a _ h ha
 have kt1:eK H1 (upd H1 l (.lst [.ref b])):=eK.upd h3;have epk:putK kvs (Sum.inr n) (V.ref l)=kvs++[(Sum.inr n,V.ref l)]:=by
  unfold putK;rw[fU,hv];rfl
 unfold qF;rw[if_neg hn];refine⟨fun a o h=>?_,⟨ep,?_⟩,oK.snoc (L2.Paired.cH i.pr fun x kx ⟨e1,l2,us2,e2,hh,q⟩=>?_) ⟨rfl,l,_,rfl,aC,.cons (m kt1 hc) .nil⟩ rfl,?_,fun kv hkv l2 e=>?_,?_,fun x hx=>?_⟩
 .rw[aM (aG h hl0)];exact h1 a o (i.s a o h) (aG h hp)
 .rw[aM hlp.symm,h2,epk]
 .have ne:l2≠l:=aG hh hl;have n2:l2≠p:=fun e=>by rw[e,hd0]at hh;cases hh
  exact⟨e1,l2,us2,e2,by rw[aM ne];exact h1 _ _ hh n2,L2.Paired.cH q fun _ _ r=>m kt r⟩
 .rw[map_append];refine nodup_append.mpr ⟨i.nd,by simp,fun a ha b hb e=>?_⟩;have hb:b=n:=by simpa using hb
  exact hn (by rw[<-hb,<-e];exact ha)
 .rcases mem_append.mp hkv with h|h
  .exact i.fr kv h l2 e
  .rw[mem_singleton.mp h]at e;have e:l=l2:=V.ref.inj e;subst e;exact⟨hl0,hlp⟩
 .rw[map_append];refine nodup_append.mpr ⟨i.un,by simp,fun a ha b hb e=>?_⟩;have hb:b=V.ref l:=by simpa using hb
  obtain⟨kx,hkx,rfl⟩:=mem_map.mp ha;obtain⟨x,_,_,l2,us2,e2,hh,_⟩:∃x,x∈C/\zN cR H' x kx:=by
   obtain⟨j,hj⟩:=getElem?_of_mem hkx;obtain⟨x,hx,r⟩:=L2.Paired.iP i.pr hj;exact⟨x,mem_of_getElem? hx,r⟩
  rw[e2,hb]at e;have e:=V.ref.inj e;rw[e,hl]at hh;cases hh
 .rcases mem_append.mp hx with h|h
  .exact i.ne x h
  .rw[mem_singleton.mp h];simp
end
theorem qS {C:List (Str×List κ)} {k:Str} {c d:κ}:(∃z∈qF C n c,z.1=k/\d∈z.2)↔(∃z∈C,z.1=k/\d∈z.2)\/ (k=n/\d=c):=by
 unfold qF
 by_cases h:n∈C.map (·.1)
 .rw[if_pos h];constructor
  .rintro⟨z,hz,e,hd⟩;obtain⟨y,hy,rfl⟩:=mem_map.mp hz
   by_cases ey:y.1=n
   .rw[if_pos ey]at e hd;rcases mem_append.mp hd with h1|h1
    .exact .inl ⟨y,hy,e,h1⟩
    .exact .inr ⟨e.symm.trans ey,mem_singleton.mp h1⟩
   .rw[if_neg ey]at e hd;exact .inl ⟨y,hy,e,hd⟩
  .rintro(⟨z,hz,e,hd⟩|⟨rfl,rfl⟩)
   .by_cases ez:z.1=n
    .exact⟨(z.1,z.2++[c]),mem_map.mpr ⟨z,hz,if_pos ez⟩,e,mem_append_left _ hd⟩
    .exact⟨z,mem_map.mpr ⟨z,hz,if_neg ez⟩,e,hd⟩
   .obtain⟨z,hz,ez⟩:=mem_map.mp h;exact⟨(z.1,z.2++[d]),mem_map.mpr ⟨z,hz,if_pos ez⟩,ez,by simp⟩
 .rw[if_neg h];constructor
  .rintro⟨z,hz,e,hd⟩;rcases mem_append.mp hz with h1|h1
   .exact .inl ⟨z,h1,e,hd⟩
   .rw[mem_singleton.mp h1]at e hd;exact .inr ⟨e.symm,mem_singleton.mp hd⟩
  .rintro(⟨z,hz,e,hd⟩|⟨rfl,rfl⟩)
   .exact⟨z,mem_append_left _ hz,e,hd⟩
   .exact⟨_,mem_append_right _ (mem_singleton.mpr rfl),rfl,by simp⟩
end
end My
namespace L2
open PySem
theorem uO {K:Frag} {a:Addr} {xs:List V} {g:TG} {tb:TS} {D:Ends} {σ:St} {H:Hp} (Pv:Nat->St->Hp->Prop) (h0:Pv 0 σ H) (hl:∀i σ H,i<=xs.length->Pv i σ H->bG K H a xs)
  (hs:∀i x t σ H,xs[i]? =some x->H t=none->Pv i σ H->g (.ref t) σ (upd H t (.tup [.int i,x])) fun σ2 H2=>tb {D with nx:=Pv (i+1),ct:=Pv (i+1),bk:=D.nx} σ2 H2) (hd:∀σ H,Pv xs.length σ H->D.nx σ H):
  ∃W:Nat->Nat->St->Hp->Prop,(∃m,W 0 m σ H)/\∀i m σ H,W i m σ H->
   ((MB K a).stop i H/\D.nx σ H)\/ ((MB K a).go i H/\∃N:St->Hp->Prop,(∀σ' H',N σ' H'->∃m',m'<m/\W (i+1) m' σ' H')/\∀x H',(MB K a).AY i H x H'->g x σ H' fun σ2 H2=>tb {D with nx:=N,ct:=N,bk:=D.nx} σ2 H2):=by
 refine⟨fun i m σ H=>m=xs.length - i/\i<=xs.length/\Pv i σ H,⟨xs.length,by simp,zero_le _,h0⟩,?_⟩;rintro i m σ H ⟨rfl,hi,p⟩;have q:=hl i σ H hi p
 by_cases hlt:i<xs.length
 .refine .inr ⟨⟨xs,xs[i],q,by simp[hlt]⟩,Pv (i+1),fun σ' H' p'=>⟨xs.length - (i+1),by omega,rfl,hlt,p'⟩,fun x H' y=>?_⟩;obtain⟨t,ht,rfl,y⟩:=y;obtain⟨x,hx,rfl⟩:=y xs q;exact hs i x t σ H hx ht p
 .have e:i=xs.length:=by omega
  subst e;exact .inl ⟨⟨xs,q,rfl⟩,hd σ H p⟩
end L2
namespace My
open PySem L2
theorem x4 {κ:Type} {C:List (Str×List κ)} {n:Str} {c:κ} {m:Nat} (h:∀z∈C,z.2.length<=m) (hC:C.length<=m):(∀z∈qF C n c,z.2.length<=m+1)/\(qF C n c).length<=m+1:=by
 unfold qF;split
 .refine⟨fun z hz=>?_,by rw[length_map];omega⟩;obtain⟨y,hy,rfl⟩:=mem_map.mp hz;have:=h y hy;split
  .rw[length_append];show y.2.length+1<=_;omega
  .omega
 .refine⟨fun z hz=>?_,by rw[length_append];show C.length+1<=_;omega⟩;rcases mem_append.mp hz with h1|h1
  .have:=h z h1;omega
  .rw[mem_singleton.mp h1];show 1<=m+1;omega
end My
namespace My
open PySem L2 Mr PyProof.Rows PySem.Builtin.Str
variable {s y:Str}
theorem len_from (s:Str) (i:Nat):(Txt.slice s (some (i:Int)) none).length=s.length - i:=by
 rw[<-gQ s,IX,fN,fN,length_drop]
theorem M7 (s:Str) (j:Nat):(Txt.slice s none (some (j:Int))).length=min j s.length:=by
 rw[<-gQ s,KR,fN,fN,length_take]
theorem m7 (h:Txt.startswith s y=true):y.length<=s.length:=by
 rw[<-gQ s,<-gQ y,starts,decide_eq_true_eq]at h;rw[<-gQ s,<-gQ y,fN,fN];have:=congrArg List.length h;rw[length_take]at this;omega
theorem FF (h:Txt.endswith s y=true):y.length<=s.length:=by
 rw[<-gQ s,<-gQ y,ends,decide_eq_true_eq]at h;rw[<-gQ s,<-gQ y,fN,fN];exact h.1
theorem GU (s y:Str):(Txt.partition s y).1.length<=s.length/\(Txt.partition s y).2.2.length<=s.length:=by
 rw[<-gQ s];rcases partition_whole (S s.cps.toList) y with⟨e,hn⟩|⟨i,e,hi,hn⟩
 .rw[e];exact⟨le_refl _,zero_le _⟩
 .rw[e];show(strSub _ _ _).length<=_/\(strSub _ _ _).length<=_;rw[xK,xK];simp only[fN,length_take,length_drop];omega
theorem qH {c:Bool} {A B:Prop} (h1:c=true->A) (h2:c=false->B):if c=true then A else B:=by
 cases c
 .exact nM (h2 rfl)
 .exact mW (h1 rfl)
theorem DI (s y:Str):(Txt.stripChars s y).length<=s.length:=len_stripChars s y
theorem CN {x:Str} (hA:∀c∈x.cps.toList,c<128):(Txt.lower x).length=x.length:=by
 rw[lower_ascii hA];show(Array.map lo1 x.cps).size=x.cps.size;simp
end My
namespace My
open PySem L2
variable {f p:Addr} {H H1:Hp} {pp rr:List Str} {o:Option Str} {y:Str}
def SI (H:Hp) (p f:Addr) (R:List Str) (u:V):Prop:=∃b,u= .ref b/\H b=some (.lst (R.map V.str))/\b≠p/\b≠f
structure EN (ab:Hl) (H H':Hp) (p f:Addr) (i:Nat) (F:List (List Str)) (M:Hl) (us:List V):Prop where
 s:aF H H'
 dm:bZ H' p (eL M)
 hu:H' f=some (.lst us)
 pr:Paired (SI H' p f) F us
 fi:F.length<=i
 fd:Rg.Found (dB ab) (ks M) F
 nd:(ks M).Nodup
 st:∀x∈(ks ab).take i,x∈ks M
 vl:∀x∈ks M,∃s∈(ks ab).take i,dB M x=some s
 un:∀x∈ks M,x∈univ ab
noncomputable def kF (H:Hp) (p f:Addr):Hp:=fun b=>if b=p\/ b=f then none else H b
theorem nU {b:Addr} (h1:b≠p) (h2:b≠f):kF H p f b=H b:=if_neg fun h=>h.elim h1 h2
theorem sH (s:aF H H1) (hp:H p=none) (hf:H f=none):aF H (kF H1 p f):=fun b o h=>by
 rw[nU (aG h hp) (aG h hf)];exact s b o h
theorem CP (b:Addr) (o:HO) (h:kF H1 p f b=some o):H1 b=some o:=by
 unfold kF at h;split at h
 .cases h
 .exact h
section
variable {ab M M':Hl} {us:List V} {F:List (List Str)} {p f c:Addr} {st:Str} {H H1 H':Hp} {l:List Str} {i:Nat}
theorem EN.more (k:EN ab H H1 p f i F M us) (s:aF (kF H1 p f) H'):Paired (SI H' p f) F us:=
 L2.Paired.cH k.pr fun _ _ ⟨b,e,h,n1,n2⟩=>⟨b,e,s _ _ (by rw[nU n1 n2];exact h),n1,n2⟩
theorem EN.all (k:EN ab H H1 p f i F M us) (w:AV ab M M' us p f c st (kF H1 p f) H' l o) (ho:∀y,o=some y->y∈ks M\/ y∈l) (hst0:(ks ab)[i]? =some st):∀x∈(ks ab).take (i+1),x∈ks M':=fun x hx=>by
 have kk:=w.cl.km;rw[take_succ,hst0]at hx;rw[kk,mem_append];rcases mem_append.mp hx with h|h
 .exact .inl (k.st x h)
 .have e:x=st:=by simpa using h
  subst e;exact w.RO.elim (fun h=>ho _ h) .inr
theorem EN.end (k:EN ab H H1 p f i F M us) (w:AV ab M M' us p f c st (kF H1 p f) H' l o) (hp:H p=none) (hf:H f=none) (ho:∀y,o=some y->y∈ks M) (hst0:(ks ab)[i]? =some st)
  (hval:∀x∈ks M',∃s∈(ks ab).take (i+1),dB M' x=some s):EN ab H H' p f (i+1) F M' us:=
 ⟨(sH k.s hp hf).trans w.s,w.dm,w.hu,k.more w.s,le_succ_of_le k.fi,by rw[w.cl.km];exact w.cl.out k.fd ho,by rw[w.cl.km];exact w.cl.nd,k.all w (fun y e=>.inl (ho y e)) hst0,hval,w.un⟩
theorem EN.ring (k:EN ab H H1 p f i F M us) (w:AV ab M M' us p f c st (kF H1 p f) H' l (some y)) (hp:H p=none) (hf:H f=none) (npf:p≠f) (hy:y∈l) (hst0:(ks ab)[i]? =some st)
  (hval:∀x∈ks M',∃s∈(ks ab).take (i+1),dB M' x=some s) {r:Addr} (el:l=pp++y::rr) (hr:H' r=none):
  EN ab H (upd (upd H' r (.lst ((y::rr).map V.str))) f (.lst (us++[.ref r]))) p f (i+1) (F++[y::rr]) M' (us++[.ref r]):=by
 subst el;obtain⟨ep,em⟩:=w.dm;have hrf:=aG w.hu hr;have hrp:=aG em hr;refine⟨fun b o h=>?_,⟨ep,?_⟩,aC,oK.snoc (L2.Paired.cH (k.more w.s) fun _ _ ⟨b,e,h,n1,n2⟩=>⟨b,e,?_,n1,n2⟩) ⟨r,rfl,?_,hrp.symm,hrf.symm⟩ rfl,by rw[length_append];have:=k.fi;show F.length+1<=_;omega,by rw[w.cl.km];exact w.cl.ring k.fd,by rw[w.cl.km];exact w.cl.nd,k.all w (fun z e=>.inr (by cases e;exact hy)) hst0,hval,w.un⟩
 .have h2:=((sH k.s hp hf).trans w.s) b o h;rw[aM (aG h hf),aM (aG h2 hr)];exact h2
 .rw[aM npf,aM hrp];exact em
 .rw[aM n2,aM (aG h hr)];exact h
 .rw[aM hrf.symm];exact aC
end
theorem BP {l:List Str} (e:l=pp++y::rr) (n:y∉pp):i4 (l.map V.str) (some (l.idxOf y:Int)) none=(y::rr).map V.str:=by
 rw[CD];subst e;have hi:(pp++y::rr).idxOf y=pp.length:=by
  rw[List.idxOf_append,if_neg n,List.idxOf_cons_self,zero_add]
 rw[hi,<-map_drop,List.drop_left]
end My
namespace L2
open PySem
section
variable {k:Nat} {cD:List Nat} {g:TG} {tt:TT} {te:TE} {σ:St} {H:Hp} {Q:VK} {l:Addr}
theorem g9 {K:Frag} {a:Addr} {ss:List Str} (hS:bJ K H a (ss.map V.str)) (p:Str->Bool) (R:Hp->Str->V->Prop) (Good:St->Prop) (h0:Good (bO k cD σ)) (hl:H l=none) (hlen:ss.length<sizeLine)
  (m:∀H1 H2 e v,eK H1 H2->R H1 e v->R H2 e v)
  (ht:∀n σ H1 ys (N:St->Hp->Prop),n∈ss->Good σ->aF H H1->H1 l=some (.lst ys)->ys.length<sizeLine->(p n=false->∀σ',Good σ'->N σ' H1)->
   (p n=true->∀σ' v H2,Good σ'->aF H1 H2->R H2 n v->N σ' (upd H2 l (.lst (ys++[v]))))->bV g tt te l (.str n) σ H1 N)
  (hd:∀H' ys,aF H H'->Paired (R H') (ss.filter p) ys->H' l=some (.lst ys)->Q (.ref l) H'):jD (IF K a) g tt te l (bO k cD σ) (upd H l (.lst [])) Q:=by
 refine lT (IF K a) ss V.str p R Good h0 hl hlen (fun H' s=>⟨_,hS.same s,by rw[length_map];exact le_refl _⟩) (fun i H' hi s=>⟨_,.str ss[i],hS.same s,by rw[getElem?_map,getElem?_eq_getElem hi];rfl⟩) (fun i H1 v H2 hi s y=>⟨y.1,ss[i],getElem?_eq_getElem hi,?_⟩) m ht hd;have h1:=y.2 _ (hS.same s);rw[getElem?_map,getElem?_eq_getElem hi]at h1;exact(Option.some.inj h1).symm
end
section
variable {X:Cx} {pins:List (Addr×Obj)} {σ:St} {H:Hp} {s:Shared} {a b:Addr} {A:Around} {E:Value->Shared->Prop}
theorem PB {kvs more:List (Key×V)} {Q:Value->Shared->Prop} (I:Inv X pins σ H s) (e:bZ H a kvs) (g:ED H b more) (n:a≠b) (hz:kvs.length+more.length<=sizeLine)
  (h:∀ep s',Inv X pins σ (upd H a (.dK (fL kvs more) ep)) s'->Q .none s'):
  wpAny (model X.prog X.w) A (call (.builtin "dict.update") [.ref a,.ref b]) Q E s:=by
 obtain⟨z,hd,vs,rel,dd⟩:=yD I.bA e;obtain⟨z2,hd2,ws,rel2,dd2⟩:=jJ I.bA g;have hz':vs.length+ws.length<=sizeLine:=by rw[<-rel.length,<-rel2.length];exact hz
 refine call_meetsIn PySem.F.slot_dict_update dd.typeIs PySem.F.entry_dict_update (PySem.F.args_dict_update_2 _ _) (meets_dict_update (bH X.prog X.w) a b n hd2) ⟨vs,ws,dd,dd2,hz',fun h' dd' _ hs=>?_⟩;have hl:(fL kvs more).length<=sizeLine:=le_trans (mH more kvs) hz;have he:∃q,h'.get? a=some q:=let⟨q,_,_,hq,_⟩:=dd';⟨q,hq⟩
 obtain⟨ep,da⟩:=dd'.dictAt;exact h ep _ (j7 I e.OW hs he (rS hl hd (KV.merge rel2 rel) da))
end
def QG (td ty:TE):TE:=fun σ H Q=>td σ H fun x H1=>∃a,x= .ref a/\OO H1 a/\ty σ H1 fun y H2=>∃b kvs more,y= .ref b/\bZ H2 a kvs/\ED H2 b more/\a≠b/\kvs.length+more.length<=sizeLine/\∀ep,Q .aZ (upd H2 a (.dK (fL kvs more) ep))
section
variable {X:Cx} {o e:Expr} {apos cpos:Pos} {td ty:TE}
theorem KI (ho:PE X o td) (he:PE X e ty) (m:M1 X o "update" apos e cpos):PE X (.Call (.Attribute o "update" apos) [e] [] cpos) (QG td ty):=by
 intro pins s σ H Q I h;refine wpAny_Call_method m.base m.P2 m.line plainAttrs_dict PySem.F.slot_dict_update PySem.F.type_dict_update (cE (ho pins s σ H _ I h) fun u s1 ⟨x,H1,I1,rx,a,ex,d,q1⟩=>?_);subst ex;obtain rfl:u=Value.ref a:=rx;obtain⟨t1,t2,_⟩:=wR I1 d;refine⟨t1,t2,?_⟩;rw[m.trees];refine Calls.callWith_builtin rfl (Calls.evalArgs_plain (Calls.spliced_cons (cE (he pins s1 σ H1 _ I1 q1) fun iv s2 ⟨y,H2,I2,ry,b,kvs,more,ey,ea,eb,n,hz,g⟩=>Calls.spliced_nil ?_)));subst ey;obtain rfl:iv=Value.ref b:=ry;exact PB I2 ea eb n hz fun ep s' I'=>⟨.aZ,_,I',rfl,g ep⟩
end
end L2
namespace Mr
open PySem PySem.Spec L2 PyProof.Rows PySem.W
variable {s:Shared}
noncomputable def ltQ:Nat->PV->PV->Option Bool
 |_,.str a,.str b=>some (decide (a.cps.toList<b.cps.toList))
 |_,.int a,.int b=>some (decide (a<b))
 |_,.bl a,.bl b=>some (decide (b2i a<b2i b))
 |n+1,.tup xs,.tup ys=>eM (ltQ n) xs ys
 |_,_,_=>none
theorem MA:∀(n:Nat) (A:Around) {p q:PV} {v u:Value} {b:Bool},A.units+n<cLine->lP n p=true->lP n q=true->Lies s.heap p v->Lies s.heap q u->ltQ n p q=some b->xU A s v u b:=by
 intro n
 induction n with
 | zero=>
  intro A p q v u b hu o1 o2 h1 h2 h;cases p with
  |str x=>cases q with
   |str y=>cases h;cases h1;cases h2;exact fun prog w E Q q=>PySem.P.lt_str q
   |_=>cases h
  |int x=>cases q with
   |int y=>cases h;cases h1;cases h2;exact fun prog w E Q q=>PyProof.Rows.lt_int q
   |_=>cases h
  |bl x=>cases q with
   |bl y=>cases h;cases h1;cases h2;exact fun prog w E Q q=>PyProof.Rows.lt_bool q
   |_=>cases h
  |_=>cases q<;>cases h
 | succ n ih=>
  intro A p q v u b hu o1 o2 h1 h2 h;cases p with
  |str x=>cases q with
   |str y=>cases h;cases h1;cases h2;exact fun prog w E Q q=>PySem.P.lt_str q
   |_=>cases h
  |int x=>cases q with
   |int y=>cases h;cases h1;cases h2;exact fun prog w E Q q=>PyProof.Rows.lt_int q
   |_=>cases h
  |bl x=>cases q with
   |bl y=>cases h;cases h1;cases h2;exact fun prog w E Q q=>PyProof.Rows.lt_bool q
   |_=>cases h
  | tup xs=>
   cases q with
   | tup ys=>
    cases h1 with
    | tup t1 l1=>
     cases h2 with
     |tup t2 l2=>
      have hin:A.in1.units=A.units+1:=rfl;have o1:xs.all (lP n)=true:=o1;have o2:ys.all (lP n)=true:=o2;refine GR t1 t2 (by omega) ?_;simpa using EI (A:=A.in1) (s:=s) l1 l2 (fun x hx y hy u v a b=>⟨uZ n A.in1 (by omega) (all_eq_true.mp o1 x hx) (all_eq_true.mp o2 y hy) a b,fun c hc=>ih A.in1 (by omega) (all_eq_true.mp o1 x hx) (all_eq_true.mp o2 y hy) a b hc⟩) rfl h
   |_=>cases h
  |_=>cases q<;>cases h
def FG (ps:List PV):Prop:=∀p∈ps,lP 3 p=true/\∀q∈ps,(ltQ 3 p q).isSome=true
noncomputable def EA (ps:List PV) (i j:Nat):Bool:=(ltQ 3 (ps.getD i .aZ) (ps.getD j .aZ)).getD false
section
variable {X:Cx} {k:Nat}
theorem A9 {pins:List (Addr×Obj)} {σ:L2.St} {H:Hp} {s':Shared} {ps:List PV} {ys:List V} {vs:List Value} (hr:fD k X.A) (I:Inv X pins σ H s) (rp:gG X.K A8 H ps ys) (rv:Vals ys vs) (cmp:FG ps) (bA:∀b o,s.heap.get? b=some o->s'.heap.get? b=some o) {i j:Nat} {vi vj:Value} (h1:vs[i]? =some vi) (h2:vs[j]? =some vj):xU X.A.in1 s' vi vj (EA ps i j):=by
 have hL:cI s'.heap ps vs:=gG.lies (I.kept (t':=s.toks) bA) (n:=3) (all_eq_true.mpr fun x hx=>(cmp x hx).1) rp rv;obtain⟨p1,e1,l1⟩:=hL.get h1;obtain⟨p2,e2,l2⟩:=hL.get h2;have m1:=mem_of_getElem? e1;have m2:=mem_of_getElem? e2;obtain⟨b,hb⟩:=isSome_iff_exists.mp ((cmp p1 m1).2 p2 m2);have e:EA ps i j=b:=by unfold EA;rw[getD_eq_getElem?_getD,e1,getD_eq_getElem?_getD,e2];show(ltQ 3 p1 p2).getD false=b;rw[hb];rfl
 rw[e];exact MA (s:=s') 3 X.A.in1 (by have:=hr.un;show X.A.units+1+3<_;omega) (cmp p1 m1).1 (cmp p2 m2).1 l1 l2 hb
def QP (K:Frag):List V->Hp->VK->Prop:=fun xs H Q=>∃p ys ps,xs=[.ref p]/\bJ K H p ys/\gG K A8 H ps ys/\0<ps.length/\FG ps/\Q (ys.getD (argBest (EA ps) (ps.length - 1)) .aZ) H
theorem QU (K:Frag) (hr:fD k X.A) (hK:X.K=K:=by rfl) (hc:X.calm=true:=by rfl):dR X (.builtin "min") (QP K):=by
 subst hK;intro pins s σ H xs us Q I r ⟨p,ys,ps,e,hq,rp,h0,cmp,q⟩;subst e;obtain⟨u,rfl,rx⟩:=vals1 r;cases rx;obtain⟨vs,rv,pl,hz⟩:=I.list hq;have hlen:=rv.length;have hpl:=rp.length;refine min_list (ok:=fun h=>∀b o,s.heap.get? b=some o->h.get? b=some o) (EA ps) (by exact I.ok.hd hc) pl.isList (by omega) (fun h' kp=>kp) (fun h h' o kk b u e=>kk b u (lt_size e) (o b u e)) (fun i j vi vj s' Q E bA h1 h2 hQ=>A9 hr I rp rv cmp bA h1 h2 _ _ _ _ hQ) fun v h' tk hv kp=>?_
 obtain⟨y,hy,ry⟩:=rv.get' hv;refine⟨y,H,I.kept (t':=tk) kp,ry,?_⟩;rw[getD_eq_getElem?_getD,show ps.length=vs.length by omega,hy]at q;exact q
def MZ (K:Frag):List V->Hp->VK->Prop:=fun xs H Q=>∃x y p q,xs=[x,y]/\gG K A8 H [p,q] [x,y]/\FG [p,q]/\Q (if EA [p,q] 1 0=true then y else x) H
theorem MN (K:Frag) (hr:fD k X.A) (hK:X.K=K:=by rfl) (hc:X.calm=true:=by rfl):dR X (.builtin "min") (MZ K):=by
 subst hK;intro pins s σ H xs us Q I r ⟨x,y,p,q,e,rp,cmp,qq⟩;subst e;obtain⟨u,v,rfl,rx,ry⟩:=vals2 r;have rv:Vals [x,y] [u,v]:=.cons rx (.cons ry .nil);refine E6 (ok:=fun h=>∀b o,s.heap.get? b=some o->h.get? b=some o) (EA [p,q]) (by exact I.ok.hd hc) (fun h' kp=>kp) (fun h h' o kk b u e=>kk b u (lt_size e) (o b u e)) (fun i j vi vj s' Q E bA h1 h2 hQ=>A9 hr I rp rv cmp bA h1 h2 _ _ _ _ hQ) fun w h' tk hv kp=>?_
 have hv:[u,v][if EA [p,q] 1 0 then 1 else 0]? =some w:=hv;refine⟨if EA [p,q] 1 0=true then y else x,H,I.kept (t':=tk) kp,?_,qq⟩
 by_cases hb:EA [p,q] 1 0=true
 .rw[if_pos hb]at hv⊢
  cases hv;exact ry
 .rw[if_neg hb]at hv⊢
  cases hv;exact rx
end
end Mr
namespace L2
open PySem PySem.Spec PyProof.Rows
variable {k n:Nat}
theorem BX:∀{ds:List PyData},(∀d∈ds,Sm n k d)->((PyData.shownAll ds).map (·.length)).sum+2*(PyData.shownAll ds).length<=ds.length*(n+2)
 |[],_=>by simp only[PyData.shownAll];exact zero_le _
 |d::ds,h=>by
  have h1:=(h d mem_cons_self).len;have h2:=BX fun x hx=>h x (mem_cons_of_mem _ hx)
  simp only[PyData.shownAll,map_cons,sum_cons,length_cons];rw[show(ds.length+1)*(n+2)=ds.length*(n+2)+(n+2)from succ_mul ..];omega
theorem Sm.lst {ds:List PyData} {m:Nat} (h:∀d∈ds,Sm n k d) (hl:ds.length<=m):Sm (m*(n+2)+3) (k+1) (.list ds):=by
 obtain⟨⟨a,b,c⟩,e⟩:=uY h;refine⟨?_,by simpa [PyData.showable]using a,by simpa only[PyData.hasDict]using b,by simp only[PyData.depth];omega⟩;simp only[PyData.shown];unfold listText;rw[strLen_append];have h1:("[":Str).length=1:=by decide
 have h2:("]":Str).length=1:=by decide
 have h3:ds.length*(n+2)<=m*(n+2):=Nat.mul_le_mul_right _ hl;have h4:=textFrom_len_le (PyData.shownAll ds) 0 "[";have h5:=BX h;omega
def MO (K:Frag):List V->Hp->VK->Prop:=fun xs H Q=>∃a us ds,xs=[.ref a]/\bJ K H a us/\MS H ds us/\Sm 16000000 40 (.list ds)/\Q (.str (PyData.list ds).shown) H
theorem rW {X:Cx} (K:Frag) (hr:fD k X.A) (hK:X.K=K:=by rfl):dR X (.builtin "repr") (MO K):=by
 subst hK;intro pins s σ H xs us Q I r h;obtain⟨a,ys,ds,rfl,hy,hd,hs,q⟩:=h;obtain⟨u,rfl,ru⟩:=vals1 r;cases ru;obtain⟨vs,rv,⟨o,n,h1,h2,_,h3⟩,hz⟩:=I.list hy;obtain⟨as,rd⟩:=hd.reads I.bA rv;have h4:=hs.dp;have h5:=hr.un;have h6:=hs.len;refine repr_of_reads' (.list h1 h2 h3 (by simpa using rd)) hs.sh (PyData.noDict_hsm hs.nd) hr.gd (by omega) (fun _ _ e=>e) (fun h' u tk hk=>⟨.str (PyData.list ds).shown,H,I.kept (t':=tk) hk,⟨_,rfl⟩,q⟩) (le_trans h6 (by unfold sizeLine;decide))
end L2
namespace My
open PySem L2
variable {a b p t:Addr} {f:Bool} {D:Ends} {ab hm:Hl} {H H':Hp} {c:IV} {d:Int} {kv:Key×V} {kvs:List (Key×V)} {rs rv:List (Str×Str)} {us:List V} {K:Frag} {l:PySem.W.OpenLaw} {n x:Str} {α β:Type} {r u v:V}
local macro_rules | `(tactic| walk_at "vc0") => `(tactic| simp only [xY, mD, mT, KU, tC, eG, rI, y6, rU, ID, jK, rQ, vX, wW, x3, gN, vN, jB, nP, oB, nD, KQ, zA, sL, KL, tB, p8, LF, p9, iQ, IY, zK, wG, rM, x9, xW, wX, FZ, zM, pH, pW, xC, zB, pI, kL, lN, LG, LS, rJoin, yS, lH, gX, pL, xP, vG, pV, zH, IC, L2.start, mV, iL, gt_iff_lt, ge_iff_le, map_cons, map_nil, cons_append, nil_append, length_cons, length_nil, List.replicate, getElem?_cons_zero, getElem?_cons_succ, set_cons_zero, set_cons_succ, Option.some.injEq, V.int.injEq, V.str.injEq, V.bl.injEq, V.ref.injEq, V.ty.injEq, List.cons.injEq, and_true, true_and, exists_eq_left, exists_eq_left', exists_eq_right, exists_and_left, exists_and_right, exists_eq_or_imp, exists_const, Nat.reduceAdd, Nat.reduceSub, ite_true, ite_false, false_eq_true, if_true, if_false, and_assoc, Bool.not_true, Bool.not_false, Bool.true_and, Bool.false_and, decide_true, decide_false, reduceCtorEq, false_and, exists_false, or_false, false_or, pY, pK, lD, kZ, j4, Mr.pX, pM, kW, pQ, kM, lM, jT, i0])
local macro_rules | `(tactic| walk_at "vc1") => `(tactic| simp only [xY, mD, mT, KU, tC, eG, rI, y6, rU, ID, jK, rQ, vX, wW, x3, gN, vN, jB, nP, oB, nD, KQ, zA, sL, KL, tB, p8, LF, p9, iQ, IY, zK, wG, rM, x9, xW, wX, FZ, zM, pH, pW, xC, zB, pI, kL, lN, LG, LS, rJoin, yS, lH, gX, pL, xP, vG, pV, zH, IC, L2.start, mV, iL, gt_iff_lt, ge_iff_le, map_cons, map_nil, cons_append, nil_append, length_cons, length_nil, List.replicate, getElem?_cons_zero, getElem?_cons_succ, set_cons_zero, set_cons_succ, Option.some.injEq, V.int.injEq, V.str.injEq, V.bl.injEq, V.ref.injEq, V.ty.injEq, List.cons.injEq, and_true, true_and, exists_eq_left, exists_eq_left', exists_eq_right, exists_and_left, exists_and_right, exists_eq_or_imp, exists_const, Nat.reduceAdd, Nat.reduceSub, ite_true, ite_false, false_eq_true, if_true, if_false, and_assoc, Bool.not_true, Bool.not_false, Bool.true_and, Bool.false_and, decide_true, decide_false, reduceCtorEq, false_and, exists_false, or_false, false_or, pY, pK, lD, kZ, j4, Mr.pX, pM, kW, pQ, kM, lM, jT, i0, tV])
local macro_rules | `(tactic| walk_at "vc2") => `(tactic| simp only [xY, mD, mT, KU, tC, eG, rI, y6, rU, ID, jK, rQ, vX, wW, x3, gN, vN, jB, nP, oB, nD, KQ, zA, sL, KL, tB, p8, LF, p9, iQ, IY, zK, wG, rM, x9, xW, wX, FZ, zM, pH, pW, xC, zB, pI, kL, lN, LG, LS, rJoin, yS, lH, gX, pL, xP, vG, pV, zH, IC, L2.start, mV, iL, gt_iff_lt, ge_iff_le, map_cons, map_nil, cons_append, nil_append, length_cons, length_nil, List.replicate, getElem?_cons_zero, getElem?_cons_succ, set_cons_zero, set_cons_succ, Option.some.injEq, V.int.injEq, V.str.injEq, V.bl.injEq, V.ref.injEq, V.ty.injEq, List.cons.injEq, and_true, true_and, exists_eq_left, exists_eq_left', exists_eq_right, exists_and_left, exists_and_right, exists_eq_or_imp, exists_const, Nat.reduceAdd, Nat.reduceSub, ite_true, ite_false, false_eq_true, if_true, if_false, and_assoc, Bool.not_true, Bool.not_false, Bool.true_and, Bool.false_and, decide_true, decide_false, reduceCtorEq, false_and, exists_false, or_false, false_or, pY, pK, lD, kZ, j4, Mr.pX, pM, kW, pQ, kM, lM, jT, i0, LJ])
local macro_rules | `(tactic| walk_at "vc3") => `(tactic| simp only [xY, mD, mT, KU, tC, eG, rI, y6, rU, ID, jK, rQ, vX, wW, x3, gN, vN, jB, nP, oB, nD, KQ, zA, sL, KL, tB, p8, LF, p9, iQ, IY, zK, wG, rM, x9, xW, wX, FZ, zM, pH, pW, xC, zB, pI, kL, lN, LG, LS, rJoin, yS, lH, gX, pL, xP, vG, pV, zH, IC, L2.start, mV, iL, gt_iff_lt, ge_iff_le, map_cons, map_nil, cons_append, nil_append, length_cons, length_nil, List.replicate, getElem?_cons_zero, getElem?_cons_succ, set_cons_zero, set_cons_succ, Option.some.injEq, V.int.injEq, V.str.injEq, V.bl.injEq, V.ref.injEq, V.ty.injEq, List.cons.injEq, and_true, true_and, exists_eq_left, exists_eq_left', exists_eq_right, exists_and_left, exists_and_right, exists_eq_or_imp, exists_const, Nat.reduceAdd, Nat.reduceSub, ite_true, ite_false, false_eq_true, if_true, if_false, and_assoc, Bool.not_true, Bool.not_false, Bool.true_and, Bool.false_and, decide_true, decide_false, reduceCtorEq, false_and, exists_false, or_false, false_or, pY, pK, lD, kZ, j4, Mr.pX, pM, kW, pQ, kM, lM, jT, i0, i0])
local macro_rules | `(tactic| walk_at "vc4") => `(tactic| simp only [xY, mD, mT, KU, tC, eG, rI, y6, rU, ID, jK, rQ, vX, wW, x3, gN, vN, jB, nP, oB, nD, KQ, zA, sL, KL, tB, p8, LF, p9, iQ, IY, zK, wG, rM, x9, xW, wX, FZ, zM, pH, pW, xC, zB, pI, kL, lN, LG, LS, rJoin, yS, lH, gX, pL, xP, vG, pV, zH, IC, L2.start, mV, iL, gt_iff_lt, ge_iff_le, map_cons, map_nil, cons_append, nil_append, length_cons, length_nil, List.replicate, getElem?_cons_zero, getElem?_cons_succ, set_cons_zero, set_cons_succ, Option.some.injEq, V.int.injEq, V.str.injEq, V.bl.injEq, V.ref.injEq, V.ty.injEq, List.cons.injEq, and_true, true_and, exists_eq_left, exists_eq_left', exists_eq_right, exists_and_left, exists_and_right, exists_eq_or_imp, exists_const, Nat.reduceAdd, Nat.reduceSub, ite_true, ite_false, false_eq_true, if_true, if_false, and_assoc, Bool.not_true, Bool.not_false, Bool.true_and, Bool.false_and, decide_true, decide_false, reduceCtorEq, false_and, exists_false, or_false, false_or, pY, pK, lD, kZ, j4, Mr.pX, pM, kW, pQ, kM, lM, jT, i0, E5])
local macro_rules | `(tactic| walk_at "vc5") => `(tactic| simp only [xY, mD, mT, KU, tC, eG, rI, y6, rU, ID, jK, rQ, vX, wW, x3, gN, vN, jB, nP, oB, nD, KQ, zA, sL, KL, tB, p8, LF, p9, iQ, zK, wG, rM, x9, xW, wX, FZ, zM, pH, pW, xC, zB, pI, kL, lN, LG, LS, rJoin, yS, lH, gX, pL, xP, vG, pV, zH, IC, L2.start, mV, iL, gt_iff_lt, ge_iff_le, map_cons, map_nil, cons_append, nil_append, length_cons, length_nil, List.replicate, getElem?_cons_zero, getElem?_cons_succ, set_cons_zero, set_cons_succ, Option.some.injEq, V.int.injEq, V.str.injEq, V.bl.injEq, V.ref.injEq, V.ty.injEq, List.cons.injEq, and_true, true_and, exists_eq_left, exists_eq_left', exists_eq_right, exists_and_left, exists_and_right, exists_eq_or_imp, exists_const, Nat.reduceAdd, Nat.reduceSub, ite_true, ite_false, false_eq_true, if_true, if_false, and_assoc, Bool.not_true, Bool.not_false, Bool.true_and, Bool.false_and, decide_true, decide_false, reduceCtorEq, false_and, exists_false, or_false, false_or, pY, pK, lD, kZ, j4, Mr.pX, pM, kW, pQ, kM, lM, jT, i0])
local macro_rules | `(tactic| walk_at "vc6") => `(tactic| simp only [xY, mD, mT, KU, tC, eG, rI, y6, rU, ID, jK, rQ, vX, wW, x3, gN, vN, jB, nP, oB, nD, KQ, zA, sL, KL, tB, p8, LF, p9, iQ, IY, zK, wG, rM, x9, xW, wX, FZ, zM, pH, pW, xC, zB, pI, kL, lN, LG, LS, rJoin, yS, lH, gX, pL, xP, vG, pV, zH, IC, L2.start, mV, iL, gt_iff_lt, ge_iff_le, map_cons, map_nil, cons_append, nil_append, length_cons, length_nil, List.replicate, getElem?_cons_zero, getElem?_cons_succ, set_cons_zero, set_cons_succ, Option.some.injEq, V.int.injEq, V.str.injEq, V.bl.injEq, V.ref.injEq, V.ty.injEq, List.cons.injEq, and_true, true_and, exists_eq_left, exists_eq_left', exists_eq_right, exists_and_left, exists_and_right, exists_eq_or_imp, exists_const, Nat.reduceAdd, Nat.reduceSub, ite_true, ite_false, false_eq_true, if_true, if_false, and_assoc, Bool.not_true, Bool.not_false, Bool.true_and, Bool.false_and, decide_true, decide_false, reduceCtorEq, false_and, exists_false, or_false, false_or, pY, pK, lD, kZ, j4, Mr.pX, pM, kW, pQ, kM, lM, jT, i0, tV, i0])
noncomputable def top (i:Nat):Stmt:=PySem.Challenge.pw_answertrees_k59_wishes_of_forests.main.body.getD i (.Pass ⟨0,0,0,0⟩)
noncomputable abbrev fI:Stmt:=top 1
noncomputable abbrev d7:Stmt:=top 2
noncomputable abbrev eB:Stmt:=top 3
noncomputable abbrev dW:Stmt:=top 5
noncomputable abbrev cO:Stmt:=top 6
noncomputable abbrev eE:Stmt:=top 7
noncomputable abbrev eA:Stmt:=top 8
noncomputable abbrev gH:Stmt:=top 10
noncomputable abbrev dM:Stmt:=top 13
noncomputable abbrev bT:Stmt:=top 14
noncomputable abbrev bS:Stmt:=top 15
noncomputable abbrev bM:Stmt:=top 16
noncomputable abbrev dE:Stmt:=top 17
noncomputable abbrev dC:Stmt:=top 18
noncomputable abbrev fZ:Stmt:=top 19
noncomputable abbrev jY:Stmt:=top 20
noncomputable abbrev cN:Stmt:=top 21
noncomputable abbrev eD:Stmt:=top 23
noncomputable abbrev dF:Stmt:=top 24
noncomputable abbrev fS:Stmt:=top 25
noncomputable abbrev dO:Stmt:=top 26
noncomputable abbrev fW:Stmt:=top 28
noncomputable abbrev cX:Stmt:=top 29
noncomputable abbrev cM:Stmt:=top 30
noncomputable abbrev cA:Stmt:=top 31
noncomputable abbrev dI:Stmt:=top 32
noncomputable abbrev fC:Stmt:=top 34
noncomputable abbrev bQ:Stmt:=top 36
noncomputable abbrev bR:Stmt:=top 37
noncomputable abbrev gW:Stmt:=top 38
noncomputable abbrev fG:Stmt:=top 39
noncomputable abbrev eC:Stmt:=top 41
noncomputable abbrev dY:Stmt:=top 43
noncomputable abbrev dZ:Stmt:=top 44
noncomputable abbrev cS:Stmt:=top 45
noncomputable abbrev cY:Stmt:=top 46
noncomputable abbrev cG:Stmt:=top 47
noncomputable abbrev dX:Stmt:=top 48
noncomputable abbrev dA:Stmt:=top 49
noncomputable abbrev cP:Stmt:=top 50
noncomputable abbrev hV:Stmt:=top 51
structure Txt (K:Frag) (mg:Str->Option Value) (fs:Nat->Addr) (fds:Nat->FuncData) (tc:Nat->Addr) (u:Nat->Value):Prop where
 nN:Def K mg "elders" fI ["letter"] (fs 0) (fds 0)
 eO:Def K mg "standing" d7 ["pack"] (fs 1) (fds 1)
 tH:Def K mg "days_of" eB ["pack"] (fs 2) (fds 2)
 sG:Def K mg "rings_in" dW ["above"] (fs 3) (fds 3)
 lK:Def K mg "elders_in" cO ["ties"] (fs 4) (fds 4)
 tD:Def K mg "ties_in" eE ["ties"] (fs 5) (fds 5)
 rG:Def K mg "roots_in" eA ["above"] (fs 6) (fds 6)
 vE:Def K mg "plain" gH ["head"] (fs 7) (fds 7)
 q0:Def K mg "is_count" dM ["text"] (fs 8) (fds 8)
 kG:Def K mg "without_ahead" bT ["text","word"] (fs 9) (fds 9)
 kE:Def K mg "without_label" bS ["text","word"] (fs 10) (fds 10)
 jN:Def K mg "without_behind" bM ["text","word"] (fs 11) (fds 11)
 p0:Def K mg "taken_off" dE ["text","rule"] (fs 12) (fds 12)
 lA:Def K mg "next_step" dC ["text","rules"] (fs 13) (fds 13)
 qZ:Def K mg "peeled" fZ ["head","rules"] (fs 14) (fds 14)
 GG:Def K mg "bare" jY ["head","rules"] (fs 15) (fds 15)
 pS:Def K mg "is_answer" cN ["head","rules"] (fs 16) (fds 16)
 uD:Def K mg "rows_of" eD ["pack"] (fs 17) (fds 17)
 p4:Def K mg "claims_of" dF ["pack"] (fs 18) (fds 18)
 zF:Def K mg "choice" fS ["held","rows","claimed","name"] (fs 19) (fds 19)
 tT:Def K mg "choices" dO ["pack","marks","names"] (fs 20) (fds 20)
 y3:Def K mg "places" fW ["pack","marks"] (fs 21) (fds 21)
 tM:Def K mg "cut_one" cX ["ring","held","days"] (fs 22) (fds 22)
 n4:Def K mg "begun_with" cM ["ring","name"] (fs 23) (fds 23)
 pU:Def K mg "cut_rings" cA ["pack","marks","ties"] (fs 24) (fds 24)
 mU:Def K mg "by_names" dI ["pack","marks"] (fs 25) (fds 25)
 y9:Def K mg "voices" fC ["pack","marks"] (fs 26) (fds 26)
 mI:Def K mg "alike_trees" bQ ["pack","marks","rules"] (fs 27) (fds 27)
 kH:Def K mg "ties_by_heads" bR ["pack","marks","rules"] (fs 28) (fds 28)
 B3:Def K mg "shown" gW ["pack","above"] (fs 29) (fds 29)
 qY:Def K mg "forest" fG ["pack","marks","rules"] (fs 30) (fds 30)
 pB:Def K mg "wish_of" eC ["forest"] (fs 31) (fds 31)
 rO:Def K mg "_law_hand" dY ["_law_script","_law_k"] (fs 32) (fds 32)
 bK:Def K mg "_law_take" dZ ["_law_hand_here","_law_many"] (fs 33) (fds 33)
 rL:Def K mg "_law_name" cS ["_law_hand_here","_law_used"] (fs 34) (fds 34)
 pF:Def K mg "_law_names" cY ["_law_hand_here","_law_many"] (fs 35) (fds 35)
 nH:Def K mg "_law_letter" cG ["_law_hand_here","_law_name_here","_law_names_here"] (fs 36) (fds 36)
 qX:Def K mg "_law_pack" dX ["_law_hand_here","_law_names_here"] (fs 37) (fds 37)
 pZ:Def K mg "_law_marks" dA ["_law_hand_here","_law_names_here"] (fs 38) (fds 38)
 pR:Def K mg "_law_right" cP ["_law_hand_here"] (fs 39) (fds 39)
 PK:Def K mg "law" hV ["_law_script"] (fs 40) (fds 40)
 cT:mg "tuple"=none
 eQ:mg "enumerate"=none
 zL:mg "all"=none
 jA:mg "len"=none
 mK:mg "min"=none
 yT:mg "int"=none
 eN:mg "sorted"=none
 g6:mg "range"=none
 xO:mg "any"=none
 o7:mg "repr"=none
 yJ:mg "max"=none
 C7:mg "FIGURES"=some (u 0)
 CW:RelV (.str "0123456789") (u 0)
theorem PC:IntMulOk ((10:Int)^Int.toNat 60) ((10:Int)^Int.toNat 30):=by unfold IntMulOk;decide+kernel
theorem K7:(0:Int)<(10:Int)^Int.toNat 60*(10:Int)^Int.toNat 30:=by decide+kernel
def OS (K:Frag):Sp:=fun vs H Q _=>∃(a:Addr) (ns:List Int) (k:Int),vs=[.ref a,.int k]/\bJ K H a (ns.map V.int)/\0<=k/\k<=63/\∀p H',H p=none->Box 0 H' p->aF H H'->Q (.ref p) H'
def iU:Sp:=fun vs H Q _=>∃v xs,vs=[v]/\iK H v xs/\∀b ws H',aF H H'->H' b=some (.tup ws)->Paired (fun x u=>sI H' u x) (aQ xs) ws->Q (.ref b) H'
theorem z8 {xs:List Lt} (ha:H a=some (.tup us)) (hp:Paired (fun x u=>sI H u x) xs us) (hl:xs.length<=1000) (hp0:H p=none)
  (q:∀kvs ep H' v2,aF H H'->H' p=some (.dK kvs ep)->Paired (oK H') (aQ xs) kvs->D.nx [some (.ref a),some (.ref p),v2] H'):
  PY (IK K (eG 0)) (gN 2)
   (vN (jB (mT (Mr.G1 true) (mT (rM K) (eG 2) (tC (V.int 0))) (eG 1)))
    (tV (eG 1) (mT (rM K) (eG 2) (tC (V.int 0))) (eG 2)) nP) D [some (.ref a),some (.ref p),none] (upd H p (.dK [] 0)):=by
 have hlv:xs.length=us.length:=hp.length;refine⟨_,rfl,a,rfl,⟨_,bG.of (aF.upd hp0 _ _ ha)⟩,gZ (K:=K) (a:=a) (xs:=us) (fun i σ H'=>aF H H'/\(∃kvs ep,H' p=some (.dK kvs ep)/\Paired (oK H') (aQ (xs.take i)) kvs)/\∃v2,σ=[some (.ref a),some (.ref p),v2]) ⟨aF.upd hp0,⟨[],0,aC,.nil⟩,_,rfl⟩ (fun i σ H' _ ⟨s',_⟩=>(bG.of ha).same s') ?_ ?_⟩
 .rintro i x σ H1 hx ⟨s1,⟨kvs,ep,hf1,pr⟩,v2,rfl⟩;obtain⟨y,hy,hL⟩:=L2.Paired.iP hp hx;obtain⟨t,r,rfl,ht,hr⟩:=(hL.kp s1.kt).at';have hst:=yN hy;have hany:=oK.any (n:=y.n) pr;have hlen:kvs.length<=1000:=by
   have h1:=pr.length;have h2:=eP (xs.take i);rw[length_take]at h2;omega
  have hs:(bW kvs (Sum.inr y.n)).isSome=(aQ (xs.take i)).any fun z=>decide (z.n=y.n):=by rw[<-fU];exact hany
  walk_at "vc0";refine⟨_,bG.of ht,_,sU,p,kvs,.inr y.n,rfl,⟨ep,.inl hf1⟩,rfl,_,rfl,?_⟩;unfold C6 at hst;cases hc:(aQ (xs.take i)).any fun z=>decide (z.n=y.n)with
  |true=>
   rw[if_neg (by rw[if_pos rfl,hs,hc];decide)];rw[hc,if_pos rfl]at hst;exact⟨s1,⟨kvs,⟨ep,hf1⟩,by rw[hst];exact pr⟩,_,rfl⟩
  | false=>
   rw[if_pos (by rw[if_pos rfl,hs,hc];rfl)];rw[hc,if_neg Bool.false_ne_true]at hst;walk_at "vc1";have kt:∀ep',eK H1 (upd H1 p (.dK (putK kvs (Sum.inr y.n) (.ref t)) ep')):=fun ep'=>eK.dk ⟨ep,hf1⟩
   refine⟨_,bG.of ht,_,sU,.inl ⟨kvs,.inr y.n,⟨ep,hf1⟩,rfl,gT (by omega),fun ep'=>⟨fun b o h=>by rw[aM (aG h hp0)];exact s1 b o h,⟨_,⟨ep',aC⟩,?_⟩,_,rfl⟩⟩⟩;rw[hst];have e2:putK kvs (Sum.inr y.n) (V.ref t)=kvs++[(Sum.inr y.n,V.ref t)]:=by
    unfold putK;rw[hany,hc,if_neg Bool.false_ne_true]
   refine oK.snoc (L2.Paired.cH pr fun _ _ h=>⟨h.1,h.2.kp (kt ep')⟩) ?_ e2;exact⟨rfl,(hL.kp s1.kt).kp (kt ep')⟩
 .rintro σ H1 ⟨s1,⟨kvs,ep,hf1,pr⟩,v2,rfl⟩;rw[<-hlv,take_length]at pr;exact q kvs ep H1 v2 s1 hf1 pr
structure K0 (H:Hp) (l:Addr) (zs:List Str):Prop where
 el:H l=some (.lst (zs.map V.str))
 nm:∀z∈zs,eJ z=true
 le:zs.length<=9
theorem HP [DecidableEq α]:∀{xs ys:List α},xs.Nodup->(∀x∈xs,x∈ys)->xs.length<=ys.length
 |[],_,_,_=>zero_le _
 |x::xs,ys,nd,h=>by
  rw[nodup_cons]at nd;have hx:=h x mem_cons_self;have h1:=HP (xs:=xs) (ys:=ys.erase x) nd.2 fun y hy=>(List.mem_erase_of_ne fun e=>nd.1 (by rw[<-e];exact hy)).mpr (h y (mem_cons_of_mem _ hy))
  rw[List.length_erase_of_mem hx]at h1;have h2:=length_pos_of_mem hx;rw[length_cons];omega
def EL:Sp:=fun vs H Q _=>∃(p l:Addr) (zs:List Str) (n:Str) (c:Nat),vs=[.ref p,.str n,.ref l]/\Box c H p/\c<800000/\K0 H l zs/\1<=zs.length/\l≠p/\eJ n=true/\∀v x H',sI H' v x->x.n=n->(∀r∈x.row,r∈zs)->Box (c+30) H' p->fQ p H H'->Q v H'
def O3:Sp:=fun vs H Q _=>∃(p l:Addr) (zs:List Str) (c:Nat),vs=[.ref p,.ref l]/\Box c H p/\c<400000/\K0 H l zs/\1<=zs.length/\l≠p/\∀v xs H',iK H' v xs->xs.length<=18->(∀x∈xs,x.n∈zs/\∀r∈x.row,r∈zs)->Box (c+600) H' p->fQ p H H'->Q v H'
def PJ:Sp:=fun vs H Q _=>∃(v:V) (d:Addr) (xs:List Lt) (ab:Hl),vs=[v,.ref d]/\iK H v xs/\bZ H d (eL ab)/\(ks ab).Nodup/\nS ab/\ab.length<=1000/\(∀x∈aQ xs,x.n∈ks ab)/\∀f S H',aF H H'->H f=none->bZ H' f (i5 S)->S.Nodup->(∀x,x∈S↔HB ab ((aQ xs).map (·.n)) x)->Q (.ref f) H'
theorem FO {M:Hl} {d f c:Addr} {st:Str} {H1:Hp} {ep0:Nat} (e0:H d=some (.dK (eL ab) ep0)) (hp:H p=none) (hc0:H c=none) (ncp:c≠p) (ncf:c≠f) (npf:p≠f) (hl:ab.length<=1000)
  (w0:AV ab M M us p f c st H H1 [] (some st))
  (rest:∀l o M' H',AV ab M M' us p f c st H H' l o->(∀y,o=some y->y∈ks M')->D.nx [some (.ref d),some (.ref p),some (.ref f),some (.str st),some (.ref c),some (oV o)] H'):
  wO (sL (jB (mT (fun x y H Q=>y=V.aZ/\Q (V.bl !decide (x=V.aZ)) H) (eG 5) (tC V.aZ))) (jB (mT (Mr.G1 true) (eG 5) (eG 1))))
   (CI (tV (eG 1) (eG 5) (eG 3)) (CI (oB (IY K "list" gX (eG 4) (jK (eG 5) rQ))) (mD (jT (eG 0) (eG 5)) (gN 5)))) D
   [some (.ref d),some (.ref p),some (.ref f),some (.str st),some (.ref c),some (.str st)] H1:=by
 refine⟨fun m σ' H'=>∃l o M',m=2*ab.length - (ks M').length/\σ'=[some (V.ref d),some (.ref p),some (.ref f),some (.str st),some (.ref c),some (oV o)]/\AV ab M M' us p f c st H H' l o,⟨_,[],some st,M,rfl,rfl,w0⟩,?_⟩;rintro m σ' H2 ⟨l,o,M',rfl,rfl,w⟩;obtain⟨em,hM⟩:=id w.dm;have hlen:=w.len;have hkl:(eL M').length=(ks M').length:=by rw[jX,length_map]
 cases o with
 |none=>
  walk_at "vc0";exact oR (rest l none M' H2 w fun _ h=>nomatch h)
 | some y=>
  walk_at "vc0";refine rB ⟨p,eL M',.inr y,rfl,⟨em,.inl hM⟩,rfl,_,rfl,?_⟩
  by_cases hy:y∈ks M'
  .rw[if_neg (by rw[if_pos rfl,qR,decide_eq_true hy];decide)];exact rest l (some y) M' H2 w fun z e=>by cases e;exact hy
  .rw[if_pos (by rw[if_pos rfl,qR,decide_eq_false hy];rfl)];refine⟨fun σ3 H3=>σ3=[some (V.ref d),some (.ref p),some (.ref f),some (.str st),some (.ref c),some (oV (dB ab y))]/\AV ab M (gD M' y (some st)) us p f c st H H3 (l++[y]) (dB ab y),?_,?_⟩
   .rintro σ3 H3 ⟨rfl,w3⟩;have h3:=w3.len;have h4:(ks (gD M' y (some st))).length=(ks M').length+1:=by rw[wL,if_neg hy,length_append];rfl
    exact⟨_,by omega,_,_,_,rfl,rfl,w3⟩
   .refine aI ?_;walk_at "vc1"
    refine .inl ⟨eL M',.inr y,⟨em,hM⟩,rfl,gT (by omega),fun ep=>?_⟩;have n1:∀o,upd H2 p o c=H2 c:=fun o=>aM ncp
    refine aI ?_;walk_at "vc0"
    refine⟨.inl ⟨_,bJ.of (by rw[n1];exact w.hc)⟩,l.map V.str,by rw[n1];exact w.hc,gT ?_,?_⟩
    .rw[length_map];have h5:(ks M').length=(ks M).length+l.length:=by rw[w.cl.km,length_append]
     omega
    have w3:=w.step hy ep hp hc0 ncp ncf npf;exact⟨.inl ⟨eL ab,ep0,.inl (w3.s _ _ e0)⟩,_,.inl ⟨eL ab,.inr y,⟨ep0,.inl (w3.s _ _ e0)⟩,rfl,rfl⟩,qK ab y,w3⟩
theorem sh_whileP {K:Frag} {ab:Hl} {ns S0:List Str} {d p:Addr} {n:Str} {H H1:Hp} {D:Ends} {ep0:Nat} {v u3:V} (e0:H d=some (.dK (eL ab) ep0)) (hp:H p=none) (hcl:nS ab) (hl:ab.length<=1000) (hn:n∈ks ab) (s1:aF H H1) (d1:bZ H1 p (i5 S0)) (w0:uN ab ns S0 (some n))
  (rest:∀S o H',aF H H'->eK H1 H'->bZ H' p (i5 S)->uN ab ns S none->D.nx [some v,some (V.ref d),some (.ref p),some u3,some (oV o)] H'):
  wO (sL (jB (mT (fun x y H Q=>y=V.aZ/\Q (V.bl !decide (x=V.aZ)) H) (eG 4) (tC V.aZ))) (jB (mT (Mr.G1 true) (eG 4) (eG 2))))
   (CI (tV (eG 2) (eG 4) (tC (V.bl true))) (mD (mT Mr.P8 (eG 1) (eG 4)) (gN 4))) D [some v,some (V.ref d),some (.ref p),some u3,some (.str n)] H1:=by
 refine⟨fun m σ' H'=>∃S o,m=ab.length - S.length/\σ'=[some v,some (V.ref d),some (.ref p),some u3,some (oV o)]/\aF H H'/\eK H1 H'/\bZ H' p (i5 S)/\uN ab ns S o/\∀y,o=some y->y∈ks ab,⟨_,S0,some n,rfl,rfl,s1,(fun _ _ h=>h),d1,w0,fun y e=>by cases e;exact hn⟩,?_⟩;rintro m σ' H2 ⟨S,o,rfl,rfl,s2,t2,⟨em,hM⟩,w,hk⟩;have hlen:=w.len;cases o with
 |none=>
  walk_at "vc0";exact oR (rest S none H2 s2 t2 ⟨em,hM⟩ w)
 | some y=>
  walk_at "vc0";refine rB ⟨p,i5 S,.inr y,rfl,⟨em,.inl hM⟩,rfl,_,rfl,?_⟩
  by_cases hy:y∈S
  .rw[if_neg (by rw[if_pos rfl,sC,decide_eq_true hy];decide)];exact rest S (some y) H2 s2 t2 ⟨em,hM⟩ (w.stop fun z e=>by cases e;exact hy)
  .rw[if_pos (by rw[if_pos rfl,sC,decide_eq_false hy];rfl)];have hky:=hk y rfl;have w3:=w.step hy hky;have hl3:=w3.len;have hl4:=HF hy;refine⟨fun σ3 H3=>σ3=[some v,some (V.ref d),some (.ref p),some u3,some (oV (dB ab y))]/\aF H H3/\eK H1 H3/\bZ H3 p (i5 (kI S y)),?_,?_⟩
   .rintro σ3 H3 ⟨rfl,s3,t3,d3⟩;exact⟨_,by omega,kI S y,rfl,dB ab y,rfl,s3,t3,d3,w3,fun z e=>hcl y z e⟩
   .refine aI ?_;walk_at "vc1"
    refine .inl ⟨i5 S,.inr y,⟨em,hM⟩,rfl,gT (by rw[nE];omega),fun ep=>?_⟩;have s3:∀o,aF H (upd H2 p o):=fun o b z h=>by rw[aM (aG h hp)];exact s2 b z h
    walk_at "vc0";exact⟨d,eL ab,.inr y,_,rfl,⟨ep0,.inl (s3 _ _ _ e0)⟩,rfl,o5 hky,rfl,s3 _,t2.trans (eK.dk ⟨em,hM⟩),⟨ep,by rw[aC,nW]⟩⟩
theorem DS {d:Addr} {H:Hp} (s:aF H H') (h:H' d=none):H d=none:=by
 cases e:H d with
 |none=>rfl
 |some o=>rw[s _ _ e]at h;cases h
def MV (H:Hp) (z:Str×Option Str) (u:V):Prop:=∃b r,u= .ref b/\H b=some (.tup [.str z.1,oV z.2,r])
def lF (H:Hp) (v:V) (ab:Hl):Prop:=∃t us,v= .ref t/\H t=some (.tup us)/\Paired (MV H) ab us
def iF (H:Hp) (z:Str×Option Str) (kv:Key×V):Prop:=kv.1= .inr z.1/\∃t r,kv.2= .ref t/\H t=some (.tup [oV z.2,r])
def BL (H:Hp) (d:Addr) (ab:Hl):Prop:=∃kvs,bZ H d kvs/\Paired (iF H) ab kvs
def AD (H:Hp) (x:Lt) (kv:Key×V):Prop:=kv.1= .inr x.n/\∃t,kv.2= .ref t/\H t=some (.tup ((aX x).map V.str))
def OF (_H:Hp) (x:Lt) (kv:Key×V):Prop:=kv.1= .inr x.n/\kv.2= .int x.d
def u6:Sp:=fun vs H Q _=>∃v x,vs=[v]/\sI H v x/\∀t H',aF H H'->H' t=some (.tup ((aX x).map V.str))->Q (.ref t) H'
def GC:Sp:=fun vs H Q _=>∃v xs,vs=[v]/\iK H v xs/\∀d kvs H',aF H H'->bZ H' d kvs->Paired (OF H') (aQ xs) kvs->Q (.ref d) H'
def BR:Sp:=fun vs H Q _=>∃v xs,vs=[v]/\iK H v xs/\∀d kvs H',aF H H'->bZ H' d kvs->Paired (AD H') (aQ xs) kvs->Q (.ref d) H'
def AU:Sp:=fun vs H Q _=>∃v ab,vs=[v]/\lF H v ab/\(ks ab).Nodup/\ab.length<=1000/\∀d H',aF H H'->H d=none->bZ H' d (eL ab)->Q (.ref d) H'
def ES:Sp:=fun vs H Q _=>∃v ab,vs=[v]/\lF H v ab/\(ks ab).Nodup/\ab.length<=1000/\∀d H',aF H H'->H d=none->BL H' d ab->Q (.ref d) H'
abbrev RN (H:Hp) (cs:List B9) (v:V):Prop:=RC lO H cs v
abbrev tK (H:Hp) (z:Str×List B9) (kv:Key×V):Prop:=zN lO H z kv
def rY (S:List Lt) (n:Str) (c:B9):Prop:=∃y∈S,c.1=y.d/\c.2.1=y.n/\0<c.2.2/\(aX y)[c.2.2]? =some n
structure KZ (S:List Lt) (C:List (Str×List B9)):Prop where
 nd:(C.map (·.1)).Nodup
 ne:∀z∈C,z.2≠[]
 sd:∀z∈C,∀c∈z.2,rY S z.1 c
 all:∀n c,rY S n c->∃z∈C,z.1=n/\c∈z.2
noncomputable def kJ (c:B9):Mr.PV:=.tup [.int c.1,.str c.2.1,.int (c.2.2:Int)]
def R5 (hm:Hl) (S:List Lt) (n:Str) (e:Option Str):Prop:=
 (n∈ks hm/\e=dB hm n)\/ (n∉ks hm/\((∃y∈S,y.n=n/\e=(aX y).getLast?)\/ ((∀y∈S,y.n≠n)/\
  ((∃y∈S,∃i,(aX y)[i+1]? =some n/\e=(aX y)[i]?/\∀c,rY S n c->Mr.qC 3 (kJ (y.d,y.n,i+1)) (kJ c)=true)\/ ((∀c,¬rY S n c)/\e=none)))))
def LI:Sp:=fun vs H Q _=>∃v xs,vs=[v]/\iK H v xs/\xs.length<=100/\∀d kvs C H',aF H H'->bZ H' d kvs->Paired (tK H') C kvs->KZ (aQ xs) C->(∀z∈C,z.2.length<=1000)->Q (.ref d) H'
def LX:Sp:=fun vs H Q _=>∃(h r c:Addr) (n:Str) (hm:Hl) (S:List Lt) (kr kc:List (Key×V)) (C:List (Str×List B9)),vs=[.ref h,.ref r,.ref c,.str n]/\bZ H h (eL hm)/\bZ H r kr/\Paired (AD H) S kr/\(S.map (·.n)).Nodup/\bZ H c kc/\Paired (tK H) C kc/\KZ S C/\(∀z∈C,z.2.length<=1000)/\
 ∀t rr e H',aF H H'->H' t=some (.tup [oV e,rr])->R5 hm S n e->Q (.ref t) H'
def K3:Sp:=fun vs H Q _=>∃(v mv:V) (t:Addr) (xs:List Lt) (hm:Hl) (ns:List Str),vs=[v,mv,.ref t]/\iK H v xs/\xs.length<=100/\jV H mv hm/\(ks hm).Nodup/\hm.length<=1000/\H t=some (.tup (ns.map V.str))/\ns.Nodup/\ns.length<=1000/\
 ∀d ab H',aF H H'->H d=none->BL H' d ab->ks ab=ns->(∀z∈ab,R5 hm (aQ xs) z.1 z.2)->Q (.ref d) H'
def gC (S:List Lt) (hm:Hl) (x:Str):Prop:=(∃y∈S,x=y.n\/ x∈aX y)\/ ∃z∈hm,x=z.1\/ z.2=some x
def KW:Sp:=fun vs H Q _=>∃(v mv:V) (xs:List Lt) (hm:Hl) (zs:List Str),vs=[v,mv]/\iK H v xs/\jV H mv hm/\zs.length<=60/\(∀x,gC (aQ xs) hm x->x∈zs)/\
 ∀t ns H',aF H H'->H' t=some (.tup (ns.map V.str))->ns.Nodup->PyProof.Rows.sortedS ns=true->(∀x,x∈ns↔gC (aQ xs) hm x)->Q (.ref t) H'
def yV (h:Str):Prop:=h.length<=60/\∀c∈h.cps.toList,c<128
def R8 (H:Hp) (r:Str×Str) (u:V):Prop:=∃b,u= .ref b/\H b=some (.tup [.str r.1,.str r.2])
def EE (H:Hp) (v:V) (rs:List (Str×Str)):Prop:=∃t us,v= .ref t/\H t=some (.tup us)/\Paired (R8 H) rs us/\rs.length<=10/\∀r∈rs,r.2.length<=20
def RY (H:Hp) (n m:Nat) (r:V):Prop:=r=oV none\/ ∃(t:Addr) (i:Nat) (l:Str),r= .ref t/\H t=some (.tup [.int i,.str l])/\i<n/\l.length<m
def DT (H:Hp) (n:Nat) (u:V):Prop:=∃(t:Addr) (i:Nat) (l:Str),u= .ref t/\H t=some (.tup [.int i,.str l])/\i<n/\l.length<=200
def HI:Sp:=fun vs H Q _=>∃h:Str,vs=[.str h]/\yV h/\∀s H',aF H H'->s.length<=200->Q (.str s) H'
def LM:Sp:=fun vs H Q _=>∃s:Str,vs=[.str s]/\s.length<=200/\∀b H',aF H H'->Q (.bl b) H'
def tJ:Sp:=fun vs H Q _=>∃s y:Str,vs=[.str s,.str y]/\s.length<=200/\y.length<=20/\∀r H',aF H H'->(∀l,r=some l->l.length<s.length)->Q (oV r) H'
def LW:Sp:=fun vs H Q _=>∃(s:Str) (v:V) (r:Str×Str),vs=[.str s,v]/\s.length<=200/\R8 H r v/\r.2.length<=20/\∀r H',aF H H'->(∀l,r=some l->l.length<s.length)->Q (oV r) H'
def P9:Sp:=fun vs H Q _=>∃(s:Str) (v:V) (rs:List (Str×Str)),vs=[.str s,v]/\s.length<=200/\EE H v rs/\∀r H',aF H H'->RY H' rs.length s.length r->Q r H'
def M8:Sp:=fun vs H Q _=>∃(h:Str) (v:V) (rs:List (Str×Str)),vs=[.str h,v]/\yV h/\EE H v rs/\∀t us H',aF H H'->H' t=some (.tup us)->us.length<=201->(∀u∈us,DT H' rs.length u)->Q (.ref t) H'
def OQ:Sp:=fun vs H Q _=>∃(h:Str) (v:V) (rs:List (Str×Str)),vs=[.str h,v]/\yV h/\EE H v rs/\∀s H',aF H H'->s.length<=200->Q (.str s) H'
def QM:Sp:=fun vs H Q _=>∃(h:Str) (v:V) (rs:List (Str×Str)),vs=[.str h,v]/\yV h/\EE H v rs/\∀b H',aF H H'->Q (.bl b) H'
def RS (H:Hp) (rs:List (Str×Str)) (u:V):Prop:=∃(b:Addr) (i:Nat) (l:Str) (r:Str×Str),u= .ref b/\H b=some (.tup [.int i,.str l])/\rs[i]? =some r/\r.1=Str.ofString "ahead"
theorem EE.kt (k:eK H H') (h:EE H v rs):EE H' v rs:=let⟨t,us,e,ht,hp,a,b⟩:=h;⟨t,us,e,k _ _ ht,L2.Paired.cH hp fun _ _ ⟨b,e,h⟩=>⟨b,e,k _ _ h⟩,a,b⟩
theorem DT.kt (k:eK H H') {n:Nat} (h:DT H n u):DT H' n u:=let⟨t,i,l,e,ht,r⟩:=h;⟨t,i,l,e,k _ _ ht,r⟩
def RI (H:Hp) (R:List Str) (u:V):Prop:=∃b,u= .ref b/\H b=some (.lst (R.map V.str))
def QZ:Sp:=fun vs H Q _=>∃(d:Addr) (ab:Hl),vs=[.ref d]/\bZ H d (eL ab)/\(ks ab).Nodup/\ab.length<=1000/\∀l us F S H',aF H H'->H l=none->H' l=some (.lst us)->Paired (RI H') F us->Rg.Found (dB ab) S F->(∀x∈ks ab,x∈S)->F.length<=ab.length->(∀R∈F,R.length<=2000)->Q (.ref l) H'
def QK:Sp:=fun vs H Q _=>∃(a:Addr) (R:List Str) (c:Str),vs=[.ref a,.str c]/\H a=some (.lst (R.map V.str))/\c∈R/\R.length<=2000/\∀t T H',aF H H'->H' t=some (.tup ((c::T).map V.str))->(c::T).length=R.length->Q (.ref t) H'
def QX:Sp:=fun vs H Q _=>∃(a hd dy:Addr) (R hk:List Str) (kd:List (Key×V)) (S:List Lt),vs=[.ref a,.ref hd,.ref dy]/\H a=some (.lst (R.map V.str))/\R.length<=2000/\bZ H hd (i5 hk)/\hk.length<=1000/\bZ H dy kd/\Paired (OF H) S kd/\S.length<=1000/\(∃x∈R,x∉hk)/\∀c H',aF H H'->c∈R->Q (.str c) H'
theorem mP:∀{ns:List Str} {ys:List V},Paired (fun(n:Str) v=>v=V.str n) ns ys->ys=ns.map V.str
 |_,_,.nil=>rfl
 |_,_,.cons h r=>by rw[h,mP r];rfl
theorem BE {n:Str}:∀{S:List Lt} {kd:List (Key×V)},Paired (OF H) S kd->(bW kd (.inr n)=none/\∀y∈S,y.n≠n)\/ ∃y∈S,y.n=n/\bW kd (.inr n)=some (.int y.d)
 |_,_,.nil=>.inl ⟨rfl,fun _ h=>nomatch h⟩
 | x::xs,(k,v)::kvs,.cons ⟨h1,h2⟩ r=>by
  by_cases e:x.n=n
  .exact .inr ⟨x,mem_cons_self,e,by rw[bU (show(k,v).1=_ by rw[h1,e])];exact congrArg some h2⟩
  .have ne:¬(k,v).1=Sum.inr n:=fun z=>e (Sum.inr.inj (h1.symm.trans z))
   rcases BE (n:=n) r with⟨a,b⟩|⟨y,hy,ey,hu⟩
   .exact .inl ⟨by rw[bF ne];exact a,fun y hy=>(mem_cons.mp hy).elim (fun z=>by rw[z];exact e) (b y)⟩
   .exact .inr ⟨y,mem_cons_of_mem _ hy,ey,by rw[bF ne];exact hu⟩
theorem vU:∀ns:List Str,jR H (ns.map Mr.PV.str) (ns.map V.str)
 |[]=>.nil
 |_::ns=>.cons (.str _) (vU ns)
theorem FX (ns:List Str):Mr.eI 3 (ns.map Mr.PV.str)=true:=by
 unfold Mr.eI;rw[all_eq_true];intro p hp;obtain⟨x,hx,rfl⟩:=mem_map.mp hp;rw[and_eq_true,all_eq_true];refine⟨rfl,fun q hq=>?_⟩;obtain⟨y,hy,rfl⟩:=mem_map.mp hq;rfl
noncomputable def OK (z:Int×Str):Mr.PV:=.tup [.int z.1,.str z.2]
theorem N1 (cs:List (Int×Str)):Mr.eI 3 (cs.map OK)=true:=by
 unfold Mr.eI;rw[all_eq_true];intro p hp;obtain⟨x,hx,rfl⟩:=mem_map.mp hp;rw[and_eq_true,all_eq_true];refine⟨rfl,fun q hq=>?_⟩;obtain⟨y,hy,rfl⟩:=mem_map.mp hq;show(if Mr.cV (.int x.1) (.int y.1)=true then Mr.eM (Mr.i8 2) [.str x.2] [.str y.2]else Mr.i8 2 (.int x.1) (.int y.1)).isSome=true;split
 .show(if Mr.cV (.str x.2) (.str y.2)=true then Mr.eM (Mr.i8 2) [] []else Mr.i8 2 (.str x.2) (.str y.2)).isSome=true;split<;>rfl
 .rfl
theorem LR:∀{ns:List Str} {ys:List V},Paired (fun(n:Str) v=>∃(b:Addr) (d:Int),v= .ref b/\H b=some (.tup [.int d,.str n])) ns ys->∃cs:List (Int×Str),cs.map (·.2)=ns/\jR H (cs.map OK) ys
 |_,_,.nil=>⟨[],rfl,.nil⟩
 |n::_,_,.cons ⟨b,d,e,h⟩ r=>by
  obtain⟨cs,e1,h1⟩:=LR r;subst e;exact⟨(d,n)::cs,by rw[<-e1];rfl,.cons (.tup h (.cons (.int _) (.cons (.str _) .nil))) h1⟩
def KG (H:Hp) (T:List Str) (u:V):Prop:=∃b,u= .ref b/\H b=some (.tup (T.map V.str))
structure xN (F Rs:List (List Str)):Prop where
 hd:∀T∈Rs,∃c r,T=c::r/\∃R∈F,c∈R
 al:∀R∈F,∃T∈Rs,∃c r,T=c::r/\c∈R
 ln:∀T∈Rs,T.length<=2000
def OY:Sp:=fun vs H Q _=>∃(v mv:V) (d:Addr) (xs:List Lt) (hm ab:Hl),vs=[v,mv,.ref d]/\iK H v xs/\jV H mv hm/\(ks hm).Nodup/\hm.length<=1000/\BL H d ab/\(ks ab).Nodup/\ab.length<=60/\(∀z∈ab,z.1∈ks hm->z.2=dB hm z.1)/\(∀x,¬Rg.pJ (dB hm) x)/\
 ∀t us F S Rs H',aF H H'->H' t=some (.tup us)->Paired (KG H') Rs us->xN F Rs->Rg.Found (dB ab) S F->(∀x∈ks ab,x∈S)->us.length<=60->Q (.ref t) H'
noncomputable def N6 (T:List Str):Mr.PV:=.tup (T.map Mr.PV.str)
theorem zD:∀xs ys:List Str,(Mr.eM (Mr.i8 2) (xs.map Mr.PV.str) (ys.map Mr.PV.str)).isSome=true
 |[],[]=>rfl
 |[],_::_=>rfl
 |_::_,[]=>rfl
 |x::xs,y::ys=>by
  show(if Mr.cV (.str x) (.str y)=true then Mr.eM (Mr.i8 2) (xs.map Mr.PV.str) (ys.map Mr.PV.str)else Mr.i8 2 (.str x) (.str y)).isSome=true;split
  .exact zD xs ys
  .rfl
theorem IP (Ts:List (List Str)):Mr.eI 3 (Ts.map N6)=true:=by
 unfold Mr.eI;rw[all_eq_true];intro p hp;obtain⟨x,hx,rfl⟩:=mem_map.mp hp;rw[and_eq_true,all_eq_true];refine⟨?_,fun q hq=>?_⟩
 .show(x.map Mr.PV.str).all (Mr.qA 2)=true;rw[all_eq_true];intro z hz;obtain⟨s,_,rfl⟩:=mem_map.mp hz;rfl
 .obtain⟨y,hy,rfl⟩:=mem_map.mp hq;exact zD x y
theorem HN:∀{Rs:List (List Str)} {us:List V},Paired (KG H) Rs us->jR H (Rs.map N6) us
 |_,_,.nil=>.nil
 |T::_,_,.cons ⟨b,e,h⟩ r=>by
  subst e;exact .cons (.tup h (vU T)) (HN r)
theorem GV:∀{Rs:List (List Str)} {us:List V},jR H (Rs.map N6) us->Paired (KG H) Rs us
 |[],_,h=>by cases h;exact .nil
 | T::_,_,h=>by
  cases h with
  |cons h r=>
   cases h with
   |tup h hs=>exact .cons ⟨_,rfl,by rw[h,rV hs]⟩ (GV r)
theorem z6 {f:α->Str}:∀{es:List α} {kvs:List (Key×V)},Paired (fun(e:α) (kv:Key×V)=>kv.1=Sum.inr (f e)/\kv.2=V.bl true) es kvs->kvs=i5 (es.map f)
 |_,_,.nil=>rfl
 |e::_,(k,v)::_,.cons ⟨h1,h2⟩ r=>by
  rw[z6 r];cases h1;cases h2;rfl
theorem qO {z:Str×Option Str}:∀{ab:Hl} {kvs:List (Key×V)},Paired (iF H) ab kvs->(ks ab).Nodup->z∈ab->∃t r,bW kvs (.inr z.1)=some (.ref t)/\H t=some (.tup [oV z.2,r])
 | x::ab,(k,v)::kvs,.cons ⟨h1,t,r,h2,h3⟩ rr,nd,hz=>by
  by_cases e:x.1=z.1
  .have ez:x=z:=(mem_cons.mp hz).elim (fun h=>h.symm) fun h=>absurd (mem_map.mpr ⟨z,h,e.symm⟩) (nodup_cons.mp nd).1
   subst ez;exact⟨t,r,by rw[bU (show(k,v).1=_ from h1)];exact congrArg some h2,h3⟩
  .have ne:¬(k,v).1=Sum.inr z.1:=fun y=>e (Sum.inr.inj (h1.symm.trans y))
   obtain⟨t',r',h4,h5⟩:=qO rr (nodup_cons.mp nd).2 ((mem_cons.mp hz).resolve_left fun y=>e (by rw[y]));exact⟨t',r',by rw[bF ne];exact h4,h5⟩
def QJ (H:Hp) (z:List Str×V) (v:V):Prop:=∃(b:Addr) (c:Str) (T:List Str),v= .ref b/\H b=some (.tup ((c::T).map V.str))/\c∈z.1/\(c::T).length=z.1.length
theorem GI:∀{zs:List (List Str×V)} {ys:List V},Paired (QJ H) zs ys->(∀z∈zs,z.1.length<=2000)->∃Rs,Paired (KG H) Rs ys/\xN (zs.map (·.1)) Rs
 |_,_,.nil,_=>⟨[],.nil,⟨(fun _ h=>nomatch h),(fun _ h=>nomatch h),(fun _ h=>nomatch h)⟩⟩
 | z::zs,_::_,.cons ⟨b,c,T,e,h,hc,hl⟩ r,k=>by
  obtain⟨Rs,p,o⟩:=GI r fun z hz=>k z (mem_cons_of_mem _ hz)
  refine⟨(c::T)::Rs,.cons ⟨b,e,h⟩ p,⟨fun T' hT=>?_,fun R hR=>?_,fun T' hT=>?_⟩⟩
  .rcases mem_cons.mp hT with e2|h2
   .exact⟨c,T,e2,z.1,mem_cons_self,hc⟩
   .obtain⟨c',r',e3,R,hR,hc'⟩:=o.hd T' h2;exact⟨c',r',e3,R,mem_cons_of_mem _ hR,hc'⟩
  .rcases mem_cons.mp hR with e2|h2
   .exact⟨c::T,mem_cons_self,c,T,rfl,by rw[e2];exact hc⟩
   .obtain⟨T',hT,c',r',e3,hc'⟩:=o.al R h2;exact⟨T',mem_cons_of_mem _ hT,c',r',e3,hc'⟩
  .rcases mem_cons.mp hT with e2|h2
   .rw[e2,hl];exact k z mem_cons_self
   .exact o.ln T' h2
theorem qP {R:α->β->Prop} {xs:List α} {us:List β} (h:Paired R xs us) {z:α×β} (hz:z∈xs.zip us):R z.1 z.2/\z.1∈xs:=by
 obtain⟨j,hj⟩:=getElem?_of_mem hz;have h1:xs[j]? =some z.1/\us[j]? =some z.2:=by rw[List.getElem?_zip_eq_some]at hj;exact hj
 obtain⟨e',he',hP⟩:=L2.Paired.iP h h1.2;rw[h1.1]at he';cases he';exact⟨hP,mem_of_getElem? h1.1⟩
theorem D8 {ab:Hl} {R:List Str} (r:Rg.Ring (dB ab) R) (nd:(ks ab).Nodup) (hsub:∀z∈ab,z.1∈ks hm->z.2=dB hm z.1) (sT:∀x,¬Rg.pJ (dB hm) x):∃x∈R,x∉ks hm:=Classical.byContradiction fun hno=>by
 have hall:∀x∈R,x∈ks hm:=fun x hx=>Classical.byContradiction fun h=>hno ⟨x,hx,h⟩
 obtain⟨x,hx⟩:=List.exists_mem_of_ne_nil R r.ne;refine sT x (r.held (fun y hy=>?_) hx);obtain⟨n,e⟩:=r.pJ hy;cases hu:dB ab y with
 |none=>rw[Rg.gB,hu]at e;cases e
 |some w=>exact hsub (y,some w) (iC hu) (hall y hy)
theorem xN.perm {F Rs Ts:List (List Str)} (o:xN F Rs) (p:Ts.Perm Rs):xN F Ts:=⟨fun T hT=>o.hd T (p.mem_iff.mp hT),fun R hR=>let⟨T,hT,r⟩:=o.al R hR;⟨T,p.mem_iff.mpr hT,r⟩,fun T hT=>o.ln T (p.mem_iff.mp hT)⟩
def FQ:Sp:=fun vs H Q _=>∃(v mv:V) (xs:List Lt) (hm:Hl) (zs:List Str),vs=[v,mv]/\iK H v xs/\xs.length<=100/\jV H mv hm/\(ks hm).Nodup/\hm.length<=1000/\(∀x,¬Rg.pJ (dB hm) x)/\zs.length<=60/\(∀x,gC (aQ xs) hm x->x∈zs)/\
 ∀w ab H',aF H H'->lF H' w ab->(ks ab).Nodup->(∀x,x∈ks ab↔gC (aQ xs) hm x)->nS ab->(∀x,¬Rg.pJ (dB ab) x)->ab.length<=60->Q w H'
theorem BI (ht:H t=some (.tup [.aZ,r])):∀{ab:Hl} {kvs:List (Key×V)},Paired (iF H) ab kvs->Paired (iF H) (ab.map fun z=>if z.1=n then(z.1,none)else z) (kvs.map fun kv=>if kv.1=Sum.inr n then(kv.1,V.ref t)else kv)
 |_,_,.nil=>.nil
 | z::_,(k,v)::_,.cons ⟨h1,t',r',h2,h3⟩ rr=>by
  refine .cons ?_ (BI ht rr);have h1:k=Sum.inr z.1:=h1;subst h1;show iF H (if z.1=n then(z.1,none)else z) (if(Sum.inr z.1:Key)=Sum.inr n then(Sum.inr z.1,V.ref t)else(Sum.inr z.1,v))
  by_cases e:z.1=n
  .rw[if_pos (congrArg Sum.inr e),if_pos e];exact⟨rfl,t,r,rfl,ht⟩
  .rw[if_neg fun y=>e (Sum.inr.inj y),if_neg e];exact⟨rfl,t',r',h2,h3⟩
theorem xJ:∀{ab:Hl} {kvs:List (Key×V)},Paired (iF H) ab kvs->n∈ks ab->(kvs.any fun kv=>decide (kv.1=Sum.inr n))=true
 |z::_,(k,v)::_,.cons ⟨h1,_⟩ rr,h=>by
  rw[any_cons,Bool.or_eq_true,decide_eq_true_eq];rcases mem_cons.mp h with e|h
  .exact .inl (by rw[e];exact h1)
  .exact .inr (xJ rr h)
theorem IJ (ht:H t=some (.tup [.aZ,r])) (p:Paired (iF H) ab kvs) (hn:n∈ks ab):Paired (iF H) (gD ab n none) (putK kvs (.inr n) (.ref t)):=by
 unfold gD putK;rw[if_pos hn,if_pos (xJ p hn)];exact BI ht p
theorem J8 (hn:n∈ks ab):ks (gD ab n none)=ks ab:=by
 unfold gD;rw[if_pos hn];unfold ks;rw[map_map];exact map_congr_left fun z _=>by show(if z.1=n then(z.1,none)else z).1=z.1;split<;>rfl
theorem wJ:∀{ns:List Str} {ys:List V},Paired (fun(n:Str) v=>∃(b:Addr) (o:Option Str) (r:V),v= .ref b/\H b=some (.tup [.str n,oV o,r])/\(n,o)∈ab) ns ys->∃zs:Hl,ks zs=ns/\Paired (MV H) zs ys/\∀z∈zs,z∈ab
 |_,_,.nil=>⟨[],rfl,.nil,fun _ h=>nomatch h⟩
 |n::_,_,.cons ⟨b,o,r,e,h,hm⟩ rr=>by
  obtain⟨zs,e1,p,q⟩:=wJ rr;exact⟨(n,o)::zs,by rw[<-e1];rfl,.cons ⟨b,r,e,h⟩ p,fun z hz=>(mem_cons.mp hz).elim (fun e=>by rw[e];exact hm) (q z)⟩
theorem jZ:∀{ab:Hl} {kvs:List (Key×V)},Paired (iF H) ab kvs->kvs.map (·.1)=(ks ab).map Sum.inr
 |_,_,.nil=>rfl
 |z::_,(k,v)::_,.cons ⟨h1,_⟩ rr=>by
  rw[map_cons,jZ rr];show k::_=_;have h1:k=Sum.inr z.1:=h1;rw[h1];rfl
def PD:Sp:=fun vs H Q _=>∃v ab,vs=[v]/\lF H v ab/\ab.length<=1000/\∀w H',aF H H'->jV H' w ab->Q w H'
def P0:Sp:=fun vs H Q _=>∃(d:Addr) (ab:Hl),vs=[.ref d]/\bZ H d (eL ab)/\(ks ab).Nodup/\ab.length<=60/\nS ab/\(∀x,¬Rg.pJ (dB ab) x)/\∀f rt H',aF H H'->H f=none->bZ H' f (eL rt)->(ks rt).Nodup->(∀x∈ks ab,∃r∈ks ab,dB rt x=some r)->(∀x∈ks rt,x∈ks ab)->Q (.ref f) H'
theorem AB {γ:Type} {R:α->γ->Prop}:∀{zs:List (α×β)} {ys:List γ},Paired (fun(z:α×β) y=>R z.1 y) zs ys->Paired R (zs.map (·.1)) ys
 |_,_,.nil=>.nil
 |_,_,.cons h r=>.cons h (AB r)
theorem w5 {b:Bool} {X C:Prop} (hC:C) (hX:b=true->C->X):if b=true then X else C:=by
 cases b
 .exact nM hC
 .exact mW (hX rfl hC)
theorem FH {rt:Hl} {r:Str} (hnd:(ks rt).Nodup) (h:∀z∈ks rt,z∈ks ab/\∃w∈ks ab,dB rt z=some w) (hx:x∈ks ab) (hr:r∈ks ab):(ks (gD rt x (some r))).Nodup/\∀z∈ks (gD rt x (some r)),z∈ks ab/\∃w∈ks ab,dB (gD rt x (some r)) z=some w:=by
 refine⟨MQ hnd,fun z hz=>?_⟩
 .rw[lW];rcases jU.mp hz with h1|h1
  .refine⟨(h z h1).1,?_⟩;split
   .exact⟨r,hr,rfl⟩
   .exact(h z h1).2
  .rw[h1,if_pos rfl];exact⟨hx,r,hr,rfl⟩
def SG (H:Hp) (z:Str×Str) (u:V):Prop:=∃b,u= .ref b/\H b=some (.tup [.str z.1,.str z.2])
def vR (H:Hp) (z:Str×Str) (kv:Key×V):Prop:=kv.1= .inr z.1/\∃(b:Addr) (f:Bool) (d:Int),kv.2= .ref b/\H b=some (.tup [.bl f,.int d,.str z.2])
def QD:Sp:=fun vs H Q _=>∃(v mv:V) (xs:List Lt) (hm:Hl) (zs:List Str),vs=[v,mv]/\iK H v xs/\xs.length<=100/\jV H mv hm/\(ks hm).Nodup/\hm.length<=1000/\(∀x,¬Rg.pJ (dB hm) x)/\zs.length<=60/\(∀x,gC (aQ xs) hm x->x∈zs)/\
 ∀t us rv H',aF H H'->H' t=some (.tup us)->Paired (SG H') rv us->(rv.map (·.1)).Nodup->(∀z∈rv,gC (aQ xs) hm z.1/\∃x∈aQ xs,x.n=z.2)->rv.length<=60->Q (.ref t) H'
theorem nO:∀{rv:List (Str×Str)} {kvs:List (Key×V)},Paired (vR H) rv kvs->kvs.map (·.1)=(rv.map (·.1)).map Sum.inr
 |_,_,.nil=>rfl
 |z::_,(k,v)::_,.cons ⟨h1,_⟩ rr=>by
  rw[map_cons,nO rr];show k::_=_;have h1:k=Sum.inr z.1:=h1;rw[h1];rfl
theorem wM {z:Str×Str}:∀{rv:List (Str×Str)} {kvs:List (Key×V)},Paired (vR H) rv kvs->(rv.map (·.1)).Nodup->z∈rv->∃b f d,bW kvs (.inr z.1)=some (.ref b)/\H b=some (.tup [.bl f,.int d,.str z.2])
 | x::rv,(k,v)::kvs,.cons ⟨h1,b,f,d,h2,h3⟩ rr,nd,hz=>by
  by_cases e:x.1=z.1
  .have ez:x=z:=(mem_cons.mp hz).elim (fun h=>h.symm) fun h=>absurd (mem_map.mpr ⟨z,h,e.symm⟩) (nodup_cons.mp nd).1
   subst ez;exact⟨b,f,d,by rw[bU (show(k,v).1=_ from h1)];exact congrArg some h2,h3⟩
  .have ne:¬(k,v).1=Sum.inr z.1:=fun y=>e (Sum.inr.inj (h1.symm.trans y))
   obtain⟨b',f',d',h4,h5⟩:=wM rr (nodup_cons.mp nd).2 ((mem_cons.mp hz).resolve_left fun y=>e (by rw[y]));exact⟨b',f',d',by rw[bF ne];exact h4,h5⟩
theorem GO:∀{ns:List Str} {ys:List V},Paired (fun(n:Str) v=>∃(b:Addr) (o:Str),v= .ref b/\H b=some (.tup [.str n,.str o])/\(n,o)∈rv) ns ys->∃zs:List (Str×Str),zs.map (·.1)=ns/\Paired (SG H) zs ys/\∀z∈zs,z∈rv
 |_,_,.nil=>⟨[],rfl,.nil,fun _ h=>nomatch h⟩
 |n::_,_,.cons ⟨b,o,e,h,hm⟩ rr=>by
  obtain⟨zs,e1,p,q⟩:=GO rr;exact⟨(n,o)::zs,by rw[<-e1];rfl,.cons ⟨b,e,h⟩ p,fun z hz=>(mem_cons.mp hz).elim (fun e=>by rw[e];exact hm) (q z)⟩
abbrev IV:=Bool×Int×Str×Str
def fT (H:Hp) (c:IV) (u:V):Prop:=∃b,u= .ref b/\H b=some (.tup [.bl c.1,.int c.2.1,.str c.2.2.1,.str c.2.2.2])
theorem fT.kt (k:eK H H') (h:fT H c u):fT H' c u:=let⟨b,e,q⟩:=h;⟨b,e,k _ _ q⟩
structure LO (H:Hp) (v mv rl:V) (xs:List Lt) (hm:Hl) (zs:List Str) (rs:List (Str×Str)):Prop where
 P:iK H v xs
 mX:xs.length<=100
 M:jV H mv hm
 sV:(ks hm).Nodup
 t4:hm.length<=1000
 sT:∀x,¬Rg.pJ (dB hm) x
 hz:zs.length<=60
 sub:∀x,gC (aQ xs) hm x->x∈zs
 R:EE H rl rs
theorem LO.kt (k:eK H H') {mv rl:V} {xs:List Lt} {zs:List Str} (h:LO H v mv rl xs hm zs rs):LO H' v mv rl xs hm zs rs:=⟨h.P.kt k,h.mX,jV.kt k h.M,h.sV,h.t4,h.sT,h.hz,h.sub,EE.kt k h.R⟩
def ON:Sp:=fun vs H Q _=>∃(v mv rl:V) (xs:List Lt) (hm:Hl) (zs:List Str) (rs:List (Str×Str)),vs=[v,mv,rl]/\LO H v mv rl xs hm zs rs/\
 ∀d kvs C H',aF H H'->H d=none->bZ H' d kvs->Paired (zN fT H') C kvs->(∀z∈C,z.2≠[]/\z.2.length<=60/\∀c∈z.2,gC (aQ xs) hm c.2.2.2)->C.length<=60->Q (.ref d) H'
def KO:Sp:=fun vs H Q _=>∃(v mv rl:V) (xs:List Lt) (hm:Hl) (zs:List Str) (rs:List (Str×Str)),vs=[v,mv,rl]/\LO H v mv rl xs hm zs rs/\
 ∀d ab H',aF H H'->H d=none->BL H' d ab->ab.length<=4000->(∀z∈ab,gC (aQ xs) hm z.1/\∀y,z.2=some y->gC (aQ xs) hm y)->Q (.ref d) H'
def EZ:Sp:=fun vs H Q _=>∃(v mv rl:V) (xs:List Lt) (hm:Hl) (zs:List Str) (rs:List (Str×Str)),vs=[v,mv,rl]/\LO H v mv rl xs hm zs rs/\
 ∀w ab H',aF H H'->lF H' w ab->ab.length<=60->(∀z∈ab,gC (aQ xs) hm z.1/\∀y,z.2=some y->gC (aQ xs) hm y)->Q w H'
theorem any_keys:∀{kvs:List (Key×V)} {ns:List Str},kvs.map (·.1)=ns.map Sum.inr->(kvs.any fun kv=>decide (kv.1=Sum.inr n))=decide (n∈ns)
 |[],[],_=>by simp
 |(k,v)::kvs,m::ns,h=>by
  have h1:k=Sum.inr m:=(List.cons.inj h).1;rw[any_cons,any_keys (List.cons.inj h).2,h1];rw[show decide ((Sum.inr m:Key)=Sum.inr n)=decide (n=m)from decide_eq_decide.mpr ⟨fun h=>(Sum.inr.inj h).symm,fun h=>by rw[h]⟩];simp
theorem KA {ro:Str} (hb:H b=some (.tup [.bl f,.int d,.str n])) (p:Paired (vR H) rv kvs) (nd:(rv.map (·.1)).Nodup):∃rv',Paired (vR H) rv' (putK kvs (.inr ro) (.ref b))/\(rv'.map (·.1)).Nodup/\∀z∈rv',z∈rv\/ z=(ro,n):=by
 unfold putK;rw[any_keys (nO p)]
 by_cases hi:ro∈rv.map (·.1)
 .rw[if_pos (decide_eq_true hi)];have key:∀{rv:List (Str×Str)} {kvs:List (Key×V)},Paired (vR H) rv kvs->Paired (vR H) (rv.map fun z=>if z.1=ro then(z.1,n)else z) (kvs.map fun kv=>if kv.1=Sum.inr ro then(kv.1,V.ref b)else kv):=by
   intro rv kvs h
   induction h with
   |nil=>exact .nil
   | @cons z kv _ _ hz _ ih=>
    refine .cons ?_ ih;obtain⟨h1,h2⟩:=hz;show vR H (if z.1=ro then(z.1,n)else z) (if kv.1=Sum.inr ro then(kv.1,V.ref b)else kv)
    by_cases e:z.1=ro
    .rw[if_pos e,if_pos (by rw[h1,e])];exact⟨h1,b,f,d,rfl,hb⟩
    .rw[if_neg e,if_neg (by rw[h1];exact fun y=>e (Sum.inr.inj y))];exact⟨h1,h2⟩
  refine⟨_,key p,?_,fun z hz=>?_⟩
  .rw[map_map,show rv.map ((fun x=>x.1)∘fun z=>if z.1=ro then(z.1,n)else z)=rv.map (·.1)from map_congr_left fun z _=>by show(if z.1=ro then(z.1,n)else z).1=z.1;split<;>rfl];exact nd
  .obtain⟨y,hy,rfl⟩:=mem_map.mp hz;split
   .rename_i e;exact .inr (by rw[e])
   .exact .inl hy
 .rw[if_neg (by rw[decide_eq_false hi];exact Bool.false_ne_true)];refine⟨rv++[(ro,n)],oK.snoc p ⟨rfl,b,f,d,rfl,hb⟩ rfl,?_,fun z hz=>(mem_append.mp hz).imp id mem_singleton.mp⟩;rw[map_append];exact nodup_append.mpr ⟨nd,by simp,fun a ha c hc e=>hi (by rw[List.map_singleton,mem_singleton]at hc;rw[<-show c=ro from hc,<-e];exact ha)⟩
theorem oP {lt:Mr.PV->Mr.PV->Option Bool}:∀{xs ys:List Mr.PV},Paired (fun x y=>(lt x y).isSome=true) xs ys->(Mr.eM lt xs ys).isSome=true
 |_,_,.nil=>rfl
 |_,_,.cons h r=>by
  unfold Mr.eM;split
  .exact oP r
  .exact h
noncomputable def EC (z:Bool×Int×Str):Mr.PV:=.tup [.bl z.1,.int z.2.1,.str z.2.2]
theorem JB (x y:Bool×Int×Str):(Mr.ltQ 3 (EC x) (EC y)).isSome=true:=oP (.cons rfl (.cons rfl (.cons rfl .nil)))
theorem QB (x y:Bool×Int×Str):Mr.FG [EC x,EC y]:=by
 intro p hp;have key:∀p∈[EC x,EC y],∃z,p=EC z:=fun p hp=>by
  simp only[mem_cons,mem_nil_iff,or_false]at hp;rcases hp with h|h<;>exact⟨_,h⟩
 obtain⟨z,rfl⟩:=key p hp;refine⟨rfl,fun q hq=>?_⟩;obtain⟨w,rfl⟩:=key q hq;exact JB z w
theorem LN (h:H b=some (.tup [.bl f,.int d,.str n])):Tr H (EC (f,d,n)) (.ref b):=.tup h (.cons (.bl _) (.cons (.int _) (.cons (.str _) .nil)))
theorem yX {e:Option Str} (ht:H t=some (.tup [oV e,r])) (p:Paired (iF H) ab kvs):∃ab',Paired (iF H) ab' (putK kvs (.inr n) (.ref t))/\(n∈ks ab->ks ab'=ks ab)/\(∀z∈ab',z∈ab\/ z=(n,e))/\ab'.length<=ab.length+1:=by
 unfold putK;rw[any_keys (jZ p)]
 by_cases hi:n∈ks ab
 .rw[if_pos (decide_eq_true hi)];have key:∀{ab:Hl} {kvs:List (Key×V)},Paired (iF H) ab kvs->Paired (iF H) (ab.map fun z=>if z.1=n then(z.1,e)else z) (kvs.map fun kv=>if kv.1=Sum.inr n then(kv.1,V.ref t)else kv):=by
   intro ab kvs h
   induction h with
   |nil=>exact .nil
   | @cons z kv _ _ hz _ ih=>
    refine .cons ?_ ih;obtain⟨h1,h2⟩:=hz;show iF H (if z.1=n then(z.1,e)else z) (if kv.1=Sum.inr n then(kv.1,V.ref t)else kv)
    by_cases c:z.1=n
    .rw[if_pos c,if_pos (by rw[h1,c])];exact⟨h1,t,r,rfl,ht⟩
    .rw[if_neg c,if_neg (by rw[h1];exact fun y=>c (Sum.inr.inj y))];exact⟨h1,h2⟩
  refine⟨_,key p,fun _=>?_,fun z hz=>?_,by rw[length_map];omega⟩
  .unfold ks;rw[map_map,show ab.map ((fun x=>x.1)∘fun z=>if z.1=n then(z.1,e)else z)=ab.map (·.1)from map_congr_left fun z _=>by show(if z.1=n then(z.1,e)else z).1=z.1;split<;>rfl]
  .obtain⟨y,hy,rfl⟩:=mem_map.mp hz;split
   .rename_i c;exact .inr (by rw[c])
   .exact .inl hy
 .rw[if_neg (by rw[decide_eq_false hi];exact Bool.false_ne_true)];exact⟨ab++[(n,e)],oK.snoc p ⟨rfl,t,r,rfl,ht⟩ rfl,fun h=>absurd h hi,fun z hz=>(mem_append.mp hz).imp id mem_singleton.mp,by rw[length_append];exact le_refl _⟩
theorem sD:∀{ab2:Hl} {more:List (Key×V)} {ab:Hl} {kvs:List (Key×V)},Paired (iF H) ab2 more->Paired (iF H) ab kvs->(∀z∈ab2,z.1∈ks ab)->∃ab',Paired (iF H) ab' (fL kvs more)/\ks ab'=ks ab/\∀z∈ab',z∈ab\/ z∈ab2
 |_,_,ab,kvs,.nil,p,_=>⟨ab,p,rfl,fun _ h=>.inl h⟩
 | z::ab2,(k,v)::more,ab,kvs,.cons ⟨h1,t,r,h2,h3⟩ rr,p,hk=>by
  have h1:k=Sum.inr z.1:=h1;have h2:v= .ref t:=h2;subst h1;subst h2;obtain⟨ab1,p1,k1,m1,_⟩:=yX (n:=z.1) h3 p;have k1:=k1 (hk z mem_cons_self);obtain⟨ab',p',k',m'⟩:=sD rr p1 fun y hy=>by rw[k1];exact hk y (mem_cons_of_mem _ hy)
  refine⟨ab',p',k'.trans k1,fun y hy=>?_⟩;rcases m' y hy with h|h
  .rcases m1 y h with h|h
   .exact .inl h
   .rw[h];exact .inr mem_cons_self
  .exact .inr (mem_cons_of_mem _ h)
noncomputable def wF (z:IV):Mr.PV:=.tup [.bl z.1,.int z.2.1,.str z.2.2.1,.str z.2.2.2]
theorem zW (h:fT H c u):Tr H (wF c) u:=by
 obtain⟨b,rfl,h⟩:=h;exact .tup h (.cons (.bl _) (.cons (.int _) (.cons (.str _) (.cons (.str _) .nil))))
theorem B4:∀{cs:List IV} {us:List V},Paired (fT H) cs us->jR H (cs.map wF) us
 |_,_,.nil=>.nil
 |_,_,.cons h r=>.cons (zW h) (B4 r)
theorem EG (cs:List IV):Mr.FG (cs.map wF):=by
 intro p hp;obtain⟨z,_,rfl⟩:=mem_map.mp hp;refine⟨rfl,fun q hq=>?_⟩;obtain⟨w,_,rfl⟩:=mem_map.mp hq;exact oP (.cons rfl (.cons rfl (.cons rfl (.cons rfl .nil))))
theorem HU {bt:Nat->Nat->Bool} {cs:List IV} (h:Paired (fT H) cs us) (hne:cs≠[]):∃c∈cs,fT H c (us.getD (PySem.argBest bt ((cs.map wF).length - 1)) .aZ):=by
 have hl:=h.length;have h0:0<cs.length:=List.length_pos_iff.mpr hne;have h1:=Mr.iI bt ((cs.map wF).length - 1);rw[length_map]at h1⊢
 have h2:PySem.argBest bt (cs.length - 1)<us.length:=by omega
 obtain⟨c,hc,hr⟩:=L2.Paired.iP h (getElem?_eq_getElem h2);exact⟨c,mem_of_getElem? hc,by rw[getD_eq_getElem?_getD,getElem?_eq_getElem h2];exact hr⟩
theorem J1 {ab:Hl} {ns:List Str} (hcl:nS ab) (hns:∀n∈ns,n∈ks ab) (h:HB ab ns x):x∈ks ab:=by
 obtain⟨n,hn,k,e⟩:=h;have key:∀(k:Nat) {n:Str},n∈ks ab->Rg.gB (dB ab) k n=some x->x∈ks ab:=by
  intro k
  induction k with
  |zero=>intro n hn e;cases e;exact hn
  |succ k ih=>
   intro n hn e;cases c:dB ab n with
   |none=>rw[Rg.gB,c]at e;cases e
   |some y=>rw[Rg.gB,c]at e;exact ih (hcl n y c) e
 exact key k (hns n hn) e
theorem BM {P:Str->Option Str->Prop}:∀{ns:List Str} {kvs:List (Key×V)},Paired (fun(n:Str) (kv:Key×V)=>kv.1=Sum.inr n/\∃t r e,kv.2= .ref t/\H t=some (.tup [oV e,r])/\P n e) ns kvs->∃ab:Hl,ks ab=ns/\Paired (iF H) ab kvs/\∀z∈ab,P z.1 z.2
 |_,_,.nil=>⟨[],rfl,.nil,fun _ h=>nomatch h⟩
 |n::_,_,.cons ⟨h1,t,r,e,h2,h3,h4⟩ rr=>by
  obtain⟨ab,e1,p,q⟩:=BM rr;refine⟨(n,e)::ab,by rw[<-e1];rfl,.cons ⟨h1,t,r,h2,h3⟩ p,fun z hz=>?_⟩;rcases mem_cons.mp hz with e|hz
  .rw[e];exact h4
  .exact q z hz
theorem AD.kt (k:eK H H') {x:Lt} (h:AD H x kv):AD H' x kv:=let⟨e,t,e2,h3⟩:=h;⟨e,t,e2,k _ _ h3⟩
theorem lO.kt (k:eK H H') {c:B9} (h:lO H c u):lO H' c u:=let⟨b,e,q⟩:=h;⟨b,e,k _ _ q⟩
theorem tK.same (s:aF H H') {z:Str×List B9} (h:tK H z kv):tK H' z kv:=let⟨e,l,us,e2,h3,p⟩:=h;⟨e,l,us,e2,s _ _ h3,L2.Paired.cH p fun _ _ q=>q.kt s.kt⟩
theorem vC {n:Str}:∀{S:List Lt} {kr:List (Key×V)},Paired (AD H) S kr->(bW kr (.inr n)=none/\∀y∈S,y.n≠n)\/ ∃y∈S,y.n=n/\∃t,bW kr (.inr n)=some (.ref t)/\H t=some (.tup ((aX y).map V.str))
 |_,_,.nil=>.inl ⟨rfl,fun _ h=>nomatch h⟩
 | x::xs,(k,v)::kvs,.cons ⟨h1,t,h2,h3⟩ r=>by
  by_cases e:x.n=n
  .exact .inr ⟨x,mem_cons_self,e,t,by rw[bU (show(k,v).1=_ by rw[h1,e])];exact congrArg some h2,h3⟩
  .have ne:¬(k,v).1=Sum.inr n:=fun z=>e (Sum.inr.inj (h1.symm.trans z))
   rcases vC (n:=n) r with⟨a,b⟩|⟨y,hy,ey,t',hu,ht'⟩
   .exact .inl ⟨by rw[bF ne];exact a,fun y hy=>(mem_cons.mp hy).elim (fun z=>by rw[z];exact e) (b y)⟩
   .exact .inr ⟨y,mem_cons_of_mem _ hy,ey,t',by rw[bF ne];exact hu,ht'⟩
theorem B5 {n:Str}:∀{C:List (Str×List B9)} {kc:List (Key×V)},Paired (tK H) C kc->(bW kc (.inr n)=none/\∀z∈C,z.1≠n)\/ ∃z∈C,z.1=n/\∃v,bW kc (.inr n)=some v/\RN H z.2 v
 |_,_,.nil=>.inl ⟨rfl,fun _ h=>nomatch h⟩
 | x::xs,(k,v)::kvs,.cons ⟨h1,h2⟩ r=>by
  by_cases e:x.1=n
  .exact .inr ⟨x,mem_cons_self,e,v,bU (show(k,v).1=_ by rw[h1,e]),h2⟩
  .have ne:¬(k,v).1=Sum.inr n:=fun z=>e (Sum.inr.inj (h1.symm.trans z))
   rcases B5 (n:=n) r with⟨a,b⟩|⟨y,hy,ey,t',hu,ht'⟩
   .exact .inl ⟨by rw[bF ne];exact a,fun y hy=>(mem_cons.mp hy).elim (fun z=>by rw[z];exact e) (b y)⟩
   .exact .inr ⟨y,mem_cons_of_mem _ hy,ey,t',by rw[bF ne];exact hu,ht'⟩
theorem GN:∀{cs:List B9} {us:List V},Paired (lO H) cs us->jR H (cs.map kJ) us
 |_,_,.nil=>.nil
 |_,_,.cons ⟨b,e,h⟩ r=>by
  subst e;exact .cons (.tup h (.cons (.int _) (.cons (.str _) (.cons (.int _) .nil)))) (GN r)
theorem JV (cs:List B9):Mr.eI 3 (cs.map kJ)=true:=by
 unfold Mr.eI;rw[all_eq_true];intro p hp;obtain⟨x,hx,rfl⟩:=mem_map.mp hp;rw[and_eq_true,all_eq_true];refine⟨rfl,fun q hq=>?_⟩;obtain⟨y,hy,rfl⟩:=mem_map.mp hq;show(if Mr.cV (.int x.1) (.int y.1)=true then Mr.eM (Mr.i8 2) [.str x.2.1,.int x.2.2] [.str y.2.1,.int y.2.2]else Mr.i8 2 (.int x.1) (.int y.1)).isSome=true;split
 .show(if Mr.cV (.str x.2.1) (.str y.2.1)=true then Mr.eM (Mr.i8 2) [.int x.2.2] [.int y.2.2]else Mr.i8 2 (.str x.2.1) (.str y.2.1)).isSome=true;split
  .show(if Mr.cV (.int x.2.2) (.int y.2.2)=true then Mr.eM (Mr.i8 2) [] []else Mr.i8 2 (.int x.2.2) (.int y.2.2)).isSome=true;split<;>rfl
  .rfl
 .rfl
theorem qT {H2:Hp} {C:List (Str×List B9)} (i:nG lO H H' p kvs C) (s2:aF H' H2):nG lO H H2 p kvs C:=nG.same (cR:=lO) (fun k h=>lO.kt k h) i s2
theorem BD {e:Str} {c:B9} {y:Lt} {j:Nat} (hj:0<j) (he:(aX y)[j]? =some e) {A:Prop}:((A\/ (c.1=y.d/\c.2.1=y.n/\0<c.2.2/\(aX y)[c.2.2]? =some n/\c.2.2<j))\/ (n=e/\c=(y.d,y.n,j)))↔A\/ (c.1=y.d/\c.2.1=y.n/\0<c.2.2/\(aX y)[c.2.2]? =some n/\c.2.2<j+1):=by
 constructor
 .rintro((h|⟨h1,h2,h3,h4,h5⟩)|⟨rfl,rfl⟩)
  .exact .inl h
  .exact .inr ⟨h1,h2,h3,h4,by omega⟩
  .exact .inr ⟨rfl,rfl,hj,he,lt_succ_self j⟩
 .rintro(h|⟨h1,h2,h3,h4,h5⟩)
  .exact .inl (.inl h)
  .by_cases e2:c.2.2=j
   .rw[e2,he]at h4;obtain⟨a,b,k⟩:=c;exact .inr ⟨(Option.some.inj h4).symm,by rw[<-h1,<-h2,<-e2]⟩
   .exact .inl (.inr ⟨h1,h2,h3,h4,by omega⟩)
def K5:Sp:=fun vs H Q _=>∃(p l:Addr) (zs:List Str) (c:Nat),vs=[.ref p,.ref l]/\Box c H p/\c<800000/\K0 H l zs/\l≠p/\∀x H',eJ x=true->x∉zs->Box (c+14) H' p->fQ p H H'->Q (.str x) H'
def LY:Sp:=fun vs H Q _=>∃(p:Addr) (m c:Nat),vs=[.ref p,.int (m:Int)]/\Box c H p/\c<700000/\m<=9/\∀l zs H',H l=none->l≠p->K0 H' l zs->zs.Nodup->zs.length=m->Box (c+14*m) H' p->fQ p H H'->Q (.ref l) H'
def PX:Sp:=fun vs H Q _=>∃(p l:Addr) (zs:List Str) (c:Nat),vs=[.ref p,.ref l]/\Box c H p/\c<900000/\K0 H l zs/\zs.Nodup/\2<=zs.length/\l≠p/\∀v hm H',jV H' v hm->hm.length<=2->(ks hm).Nodup->(∀x,¬Rg.pJ (dB hm) x)->(∀z∈hm,z.1∈zs/\∀y,z.2=some y->y∈zs)->Box (c+1) H' p->fQ p H H'->Q v H'
noncomputable def MI (a b:Str):List Hl:=[[],[(a,none)],[(a,some b),(b,none)],[(b,none)]]
theorem OZ {hm:Hl} {a b:Str} (ne:a≠b) (h:∀y w,dB hm y=some w->y=a/\w=b/\dB hm b=none) (x:Str):¬Rg.pJ (dB hm) x:=fun⟨n,e⟩=>by
 cases c:dB hm x with
 |none=>rw[Rg.gB,c]at e;cases e
 | some w=>
  obtain⟨rfl,rfl,h2⟩:=h x w c;rw[Rg.gB,c]at e;cases n with
  |zero=>cases e;exact ne rfl
  |succ n=>
   have e:(dB hm w).bind (Rg.gB (dB hm) n)=some x:=e;rw[h2]at e;cases e
theorem E8 {a b:Str} (ne:a≠b) {ab0:Hl} (h0:ab0∈MI a b) (p:hm.Perm ab0):hm.length<=2/\(ks hm).Nodup/\(∀x,¬Rg.pJ (dB hm) x)/\∀z∈hm,(z.1=a\/ z.1=b)/\∀y,z.2=some y->y=b:=by
 have h0:ab0=[]\/ ab0=[(a,none)]\/ ab0=[(a,some b),(b,none)]\/ ab0=[(b,none)]:=by simpa [MI]using h0
 have nd:(ks hm).Nodup:=(p.map (·.1)).nodup_iff.mpr (by rcases h0 with rfl|rfl|rfl|rfl<;>simp[ne]);have hz:∀z∈hm,(z.1=a\/ z.1=b)/\∀y,z.2=some y->y=b/\z.1=a/\(b,none)∈hm:=fun z hz=>by
  have hz:=p.mem_iff.mp hz;rcases h0 with rfl|rfl|rfl|rfl
  .cases hz
  .rw[mem_singleton.mp hz];exact⟨.inl rfl,fun y e=>nomatch e⟩
  .rcases mem_cons.mp hz with e|hz
   .rw[e];exact⟨.inl rfl,fun y e=>⟨(Option.some.inj e).symm,rfl,p.mem_iff.mpr (by simp)⟩⟩
   .rw[mem_singleton.mp hz];exact⟨.inr rfl,fun y e=>nomatch e⟩
  .rw[mem_singleton.mp hz];exact⟨.inr rfl,fun y e=>nomatch e⟩
 refine⟨by rw[p.length_eq];rcases h0 with rfl|rfl|rfl|rfl<;>simp,nd,OZ ne fun y w e=>?_,fun z h=>⟨(hz z h).1,fun y e=>((hz z h).2 y e).1⟩⟩;obtain⟨_,h2⟩:=hz _ (iC e);obtain⟨h3,h4,h5⟩:=h2 w rfl;exact⟨h4,h3,A0 nd h5⟩
def K1:Sp:=fun vs H Q _=>∃(p:Addr) (c:Nat),vs=[.ref p]/\Box c H p/\c<1000/\∀H',fQ p H H'->Q (.bl true) H'
section
variable {k:Nat} {cD:List Nat} {g:TG} {tt:TT} {te:TE} {σ:L2.St} {H:Hp} {Q:VK} {l:Addr}
theorem tX {es:List α} {P:α->V->Prop} (hS:bG K H a us) (hp:Paired P es us) (R:Hp->α->V->Prop) (Good:L2.St->Prop) (h0:Good (bO k cD σ)) (hl:H l=none) (hlen:es.length<sizeLine)
  (m:∀H1 H2 e v,eK H1 H2->R H1 e v->R H2 e v)
  (ht:∀e u σ H1 ys (N:L2.St->Hp->Prop),e∈es->P e u->Good σ->aF H H1->H1 l=some (.lst ys)->ys.length<sizeLine->(∀σ' v H2,Good σ'->aF H1 H2->R H2 e v->N σ' (upd H2 l (.lst (ys++[v]))))->bV g tt te l u σ H1 N)
  (hd:∀H' ys,aF H H'->Paired (R H') es ys->H' l=some (.lst ys)->Q (.ref l) H'):jD (DY K a) g tt te l (bO k cD σ) (upd H l (.lst [])) Q:=by
 have hul:=hp.length;have hzf:(es.zip us).map (·.1)=es:=map_fst_zip (by omega);have hzl:(es.zip us).length=es.length:=by rw[length_zip,hul,min_self]
 refine lT (DY K a) (es.zip us) (·.2) (fun _=>true) (fun H z v=>R H z.1 v) Good h0 hl (by omega) (fun H' s=>⟨us,hS.same s,by omega⟩) (fun i H' hi s=>⟨us,us[i]'(by omega),hS.same s,by simp⟩) (fun i H5 v H6 hi s y=>?_) (fun _ _ _ _ k r=>m _ _ _ _ k r) (fun z σ H1 ys N hz hg s e hy _ hN=>?_) (fun H' ys s hpr e=>?_)
 .have hv:=y.2 us (hS.same s);exact⟨y.1,(es[i]'(by omega),us[i]'(by omega)),by rw[getElem?_eq_getElem hi,getElem_zip],by rw[getElem?_eq_getElem (by omega)]at hv;exact(Option.some.inj hv).symm⟩
 .obtain⟨h1,h2⟩:=qP hp hz;exact ht z.1 z.2 σ H1 ys N h2 h1 hg s e hy (hN rfl)
 .rw[show(es.zip us).filter (fun _=>true)=es.zip us from filter_eq_self.mpr (by simp)]at hpr;have hpr2:=AB hpr;rw[hzf]at hpr2;exact hd H' ys s hpr2 e
end
theorem lF.kt (k:eK H H') (h:lF H v ab):lF H' v ab:=let⟨t,us,e,ht,hp⟩:=h;⟨t,us,e,k _ _ ht,L2.Paired.cH hp fun _ _ ⟨b,r,e,h⟩=>⟨b,r,e,k _ _ h⟩⟩
noncomputable def R9:Option Str->PyData
 |none=>.none
 |some x=>.str x
noncomputable def pairD (z:Str×Option Str):PyData:=.tuple [.str z.1,R9 z.2]
noncomputable def zE (ab:Hl):PyData:=.tuple (ab.map pairD)
theorem PH:∀o,JN H (R9 o) (oV o)
 |none=>.aZ
 |some x=>.str x
theorem u4 (h:jV H v ab):JN H (zE ab) v:=by
 obtain⟨t,us,rfl,ht,hp⟩:=h;refine .tup ht ?_;clear ht
 induction hp with
 |nil=>exact .nil
 | @cons z _ _ _ hz _ ih=>obtain⟨b,rfl,hb⟩:=hz;exact .cons (.tup hb (.cons (.str _) (.cons (PH _) .nil))) ih
theorem HD (hl:ab.length<=60) (h:∀z∈ab,eJ z.1=true/\∀y,z.2=some y->eJ y=true):Sm 20000 3 (zE ab):=by
 have key:∀n,eJ n=true->Sm 122 0 (.str n):=fun n hn=>Sm.str (n:=12) (fun c hc=>lt_of_le_of_lt (GP hn c hc).2.2.2.2.2 (by decide)) (oS hn).2
 refine(Sm.tup (n:=251) (k:=1) (m:=60) (fun d hd=>?_) (by rw[length_map];exact hl)).mono (by decide) (by decide);obtain⟨z,hz,rfl⟩:=mem_map.mp hd;obtain⟨h1,h2⟩:=h z hz;refine(Sm.tup (n:=122) (k:=0) (m:=2) (fun d hd=>?_) (by simp)).mono (by decide) (by decide);simp only[mem_cons,mem_nil_iff,or_false]at hd;rcases hd with rfl|rfl
 .exact key _ h1
 .cases e:z.2 with
  |none=>exact Sm.aZ.mono (by decide) (by decide)
  |some y=>exact key y (h2 y e)
theorem pD {R:α->β->Prop}:∀(n:Nat) {xs:List α} {ys:List β},Paired R xs ys->Paired R (xs.drop n) (ys.drop n)
 |0,_,_,h=>h
 |_+1,_,_,.nil=>.nil
 |n+1,_,_,.cons _ r=>pD n r
section
variable {P:Program} {w:World} {K:Frag} {mg:Str->Option Value} {base:Heap} {fs:Nat->Addr} {fds:Nat->FuncData} {tc:Nat->Addr} {u:Nat->Value}
theorem o8:aU ["letter","own","row"] ["letter"] (aB fI):=⟨rfl,rfl,rfl,by decide+kernel,rfl,by decide+kernel,by decide+kernel⟩
set_option maxHeartbeats 4000000 in
theorem DO (T:Txt K mg fs fds tc u):aV P w K mg base cJ 1 (fs 0) (fds 0) ["letter"] u6:=by
 refine T.nN.F.ok o8 (fun vs H Q E h=>?_) (fun cdv A outer s H vs Q E hr h=>?_)
 .obtain⟨v,x,rfl,hL,q⟩:=h;rfl
 .obtain⟨v,x,rfl,hL,q⟩:=h;refine⟨_,(aE (aP (i:=1) o8.nd rfl (Or.inr rfl) (aT (j8 K) (pv 0) aH (fun _ _=>rfl)))
   (aE (aP (i:=2) o8.nd rfl (Or.inr rfl) (aT (j8 K) (pv 0) aH (fun _ _=>rfl)))
   (aN (aY (cF (oN K) (by rfl) T.cT dG (aA (jM ["at","name","own","row"] 2 [1,2] ["letter","own","row"] (aB fI) rfl rfl rfl (wD K rfl T.eQ (aA (pv 2) aD)) (by decide+kernel) (fun _=>(dH (n:=2) K rfl (aS (aO (i:=0) (show(["at","name","own","row"]:List Str).Nodup by decide+kernel) rfl (Or.inl rfl)) (aS (aO (i:=1) (show(["at","name","own","row"]:List Str).Nodup by decide+kernel) rfl (Or.inl rfl)) dD)))) (fun _=>(oA (PW.pt (m3 (bD x6 (pv 1) (pv 2) (cL _)) (j9 (bD (E2 K) (pv 1) (cK wA (pv 3) (cZ (bI fY (pv 0) aH)) dU) (by rfl))))))) (fun _=>(pv 1))) aD)))))),?_⟩
  obtain⟨t,r,rfl,ht,hr⟩:=hL.at';have hlr:=hL.ok.lr;have t4:(x.row.map V.str).length=x.row.length:=length_map ..;refine aI ?_;walk_at "vc0"
  refine⟨_,bG.of ht,_,sU,?_⟩;refine aI ?_;walk_at "vc0"
  refine⟨_,bG.of ht,_,cB (j:=3) rfl,?_⟩;refine⟨_,rfl,.inl ⟨r,_,rfl,bG.of hr,fun l hl0=>DJ (bG.of hr) (keepR x) (fun i=>.str (LK x i)) (fun σ=>∃o1 o2,σ=[o1,o2,some (.str x.n),some (.ref r)]) ⟨_,_,rfl⟩ hl0 (gT (by omega)) ?_ ?_⟩⟩
  .rintro i u t2 σ H1 ys N hxi ⟨o1,o2,rfl⟩ s1 ht0 htl hz tl hN;obtain⟨e,he,rfl⟩:=strAt hxi;have eg:LK x i=e:=by unfold LK;rw[he];rfl
   have hr2:=aF.upd (o:=.tup [.int i,.str e]) ht0 _ _ (s1 _ _ hr);have et2:=aC (H:=H1) (a:=t2) (o:=.tup [.int i,.str e]);generalize upd H1 t2 (.tup [.int i,.str e])=H2 at hr2 et2 htl hN⊢
   unfold bV;walk_at "vc0";refine⟨_,bG.of et2,rfl,_,_,rfl,_,_,rfl,rfl,?_⟩;refine⟨rfl,?_⟩
   by_cases en:LK x i=x.n
   .have ep:keepR x i=false:=by unfold keepR;rw[decide_eq_true en];rfl
    rw[ep]at hN;rw[if_neg (by rw[decide_eq_true (by rw[<-eg,en])];decide)];exact hN _ _ ⟨_,_,rfl⟩ fQ.refl (by rw[if_neg Bool.false_ne_true];exact htl)
   .rw[if_pos (by rw[decide_eq_false (fun z=>en (by rw[eg];exact V.str.inj z))];rfl)];refine⟨_,rfl,_,hr2,fun p H' s' hp'=>⟨_,.inr (bG.of hp'),rfl,?_,?_⟩⟩
    .rw[rX,<-map_drop];exact oW
    rw[rX,<-map_drop,vT];cases ec:(x.row.drop (i+1)).contains e with
    |true=>
     have ep:keepR x i=false:=by unfold keepR;rw[eg,ec,Bool.not_true,Bool.and_false]
     rw[ep]at hN;exact nM (hN _ _ ⟨_,_,rfl⟩ (fQ.of s') (by rw[if_neg Bool.false_ne_true];exact s' _ _ htl))
    |false=>
     have ep:keepR x i=true:=by unfold keepR;rw[decide_eq_false en,eg,ec];rfl
     rw[ep]at hN;refine mW ⟨ys,s' _ _ htl,hz,?_⟩;exact hN _ _ ⟨_,_,rfl⟩ ((fQ.of s').trans fQ.upd) (by rw[if_pos rfl,aC,eg])
  .intro H1 s1 e1;walk_at "vc0";exact⟨_,bJ.of e1,fun t2 ht2=>q t2 _ (s1.trans (aF.upd ht2)) (by rw[aC];unfold aX;rw[length_map,map_map];rfl)⟩
theorem lQ:aU ["pack","first","letter"] ["pack"] (aB d7):=⟨rfl,rfl,rfl,by decide+kernel,rfl,by decide+kernel,by decide+kernel⟩
set_option maxHeartbeats 4000000 in
theorem yW (T:Txt K mg fs fds tc u):aV P w K mg base cJ 1 (fs 1) (fds 1) ["pack"] iU:=by
 refine T.eO.F.ok lQ (fun vs H Q E h=>?_) (fun cdv A outer s H vs Q E hr h=>?_)
 .obtain⟨v,xs,rfl,⟨a,us,rfl,ha,hp,hl⟩,q⟩:=h;rfl
 .obtain⟨v,xs,rfl,⟨a,us,rfl,ha,hp,hl⟩,q⟩:=h;refine⟨_,(aE (aP (i:=1) lQ.nd rfl (Or.inl rfl) fF)
   (aE (dP PassesOwn.never rfl (cW K (pv 0)) (aO (i:=2) lQ.nd rfl (Or.inl rfl)) (aN (fR (bD (Mr.m8 hr) (aT (j8 K) (pv 2) aH (fun _ _=>rfl)) (pv 1) (by rfl)) (aN (fJ (iE hr) (pv 1) (aT (j8 K) (pv 2) aH (fun _ _=>rfl)) (pv 2) rfl)) cU)))
   (aN (aY (cF RH (by rfl) T.cT dG (aA (JW (pv 1)) aD)))))),?_⟩
  refine aI ?_;walk_at "vc0"
  refine fun p hp0=>aI (z8 ha hp hl hp0 fun kvs ep H1 v2 s1 h1 pr=>?_)
  walk_at "vc0";refine⟨⟨kvs,ep,.inl h1⟩,fun v hv=>⟨v,p,kvs,rfl,aC,⟨ep,.inl (by rw[aM (aG h1 hv)];exact h1)⟩,fun l hl=>?_⟩⟩;have s2:=(aF.upd (o:=JY v p) hv).trans (aF.upd (o:=.tup (kvs.map (·.2))) hl);exact q l _ _ (s1.trans s2) aC (oK.vals (L2.Paired.cH pr fun _ _ h=>h.same s2))
theorem eU:aU ["above","met","found","start","climbed","name"] ["above"] (aB dW):=⟨rfl,rfl,rfl,by decide+kernel,rfl,by decide+kernel,by decide+kernel⟩
set_option maxHeartbeats 4000000 in
theorem yF (T:Txt K mg fs fds tc u):aV P w K mg base cJ 1 (fs 3) (fds 3) ["above"] QZ:=by
 refine T.sG.F.ok eU (fun vs H Q E h=>?_) (fun cdv A outer s H vs Q E hr h=>?_)
 .obtain⟨d,ab,rfl,hd,nd,hl,q⟩:=h;rfl
 .obtain⟨d,ab,rfl,hd,nd,hl,q⟩:=h;refine⟨_,(aE (aP (i:=1) eU.nd rfl (Or.inl rfl) fF)
   (aE (aP (i:=2) eU.nd rfl (Or.inl rfl) (gR aD))
   (aE (dP PassesOwn.never rfl (wI (pv 0)) (aO (i:=3) eU.nd rfl (Or.inl rfl)) (aE (aP (i:=4) eU.nd rfl (Or.inl rfl) (gR aD))
   (aE (aP (i:=5) eU.nd rfl (Or.inl rfl) (pv 3))
   (aE (nJ PassesOwn.never (PW.pt (m3 (bD kB (pv 5) d9 (cL _)) (j9 (bD (Mr.m8 hr) (pv 5) (pv 1) (by rfl))))) (aE (fJ (iE hr) (pv 1) (pv 5) (pv 3) rfl)
   (aE (iV (eF K plainAttrs_list PySem.F.slot_list_append PySem.F.type_list_append eY (pv 4) (aA (pv 5) aD)))
   (aN (aP (i:=5) eU.nd rfl (Or.inl rfl) (HC (iE hr) (pv 0) (pv 5) ⟨rfl,by rfl,rfl,rfl⟩))))))
   (aN (fR (PW.pt (m3 (bD kB (pv 5) d9 (cL _)) (j9 (bD tS (aT (Mr.yM hr) (pv 1) (pv 5) (fun _ _=>rfl)) (pv 3) (cL _))))) (aN (iV (eF K plainAttrs_list PySem.F.slot_list_append PySem.F.type_list_append eY (pv 2) (aA (cK (M0 K) (pv 4) (cZ (eF K plainAttrs_list slot_list_index PySem.F.type_list_index (sZ K) (pv 4) (aA (pv 5) aD))) dU) aD)))) cU))))))
   (aN (aY (pv 2)))))),?_⟩
  obtain⟨ep0,e0⟩:=hd;have nu:=yH ab;refine aI ?_;walk_at "vc0"
  refine fun p hp=>?_
  refine aI ?_;walk_at "vc0"
  refine⟨zero_le _,fun f hf=>?_⟩;have s0:aF H (upd (upd H p (HO.dK [] 0)) f (.lst [])):=(aF.upd hp).trans (aF.upd hf);have npf:p≠f:=fun e=>by rw[e,aC]at hf;cases hf
  have hf0:H f=none:=by rw[aM npf.symm]at hf;exact hf
  refine aI ⟨_,rfl,d,eL ab,ep0,rfl,.inl (s0 _ _ e0),yC (fun i σ H'=>(∃F M us,EN ab H H' p f i F M us)/\∃v3 v4 v5,σ=[some (V.ref d),some (.ref p),some (.ref f),v3,v4,v5]) ⟨⟨[],[],[],s0,⟨0,by rw[aM npf];exact aC⟩,aC,.nil,le_refl _,Rg.Found.nil,nodup_nil,(fun _ h=>nomatch h),(fun _ h=>nomatch h),(fun _ h=>nomatch h)⟩,_,_,_,rfl⟩ (fun i σ H' _ ⟨⟨_,_,_,k⟩,_⟩=>.inl (k.s _ _ e0)) ?_ ?_⟩
  .rintro i kv σ H1 hkv ⟨⟨F,M,us,k⟩,v3,v4,v5,rfl⟩;obtain⟨st,hst0,e1,_⟩:=xT hkv;obtain⟨em,hM⟩:=id k.dm;have hu:=k.hu;have s1:=k.s;have hul:=k.pr.length;have hFi:=k.fi;rw[e1];have hti:=take_snoc hst0;have hstk:st∈ks ab:=mem_of_getElem? hst0;have hnst:st∉(ks ab).take i:=fun hm=>by
    have h1:((ks ab).take (i+1)).Nodup:=List.Nodup.sublist (take_sublist ..) nd;rw[hti]at h1;exact(nodup_append.mp h1).2.2 st hm st (by simp) rfl
   have hil:i<ab.length:=by
    have:=(List.getElem?_eq_some_iff.mp hst0).1;rwa[length_map]at this
   have hnp:∀{b:Addr},H1 b=none->b≠p/\b≠f:=fun h=>⟨fun e=>(by rw[e,hM]at h;cases h),fun e=>(by rw[e,hu]at h;cases h)⟩
   walk_at "vc0";refine aI ?_;walk_at "vc0"
   refine⟨zero_le _,fun c hc=>?_⟩;obtain⟨ncp,ncf⟩:=hnp hc;refine aI ?_;walk_at "vc0"
   have kt:aF H1 (upd H1 c (.lst [])):=aF.upd hc;have w0:AV ab M M us p f c st (kF H1 p f) (upd H1 c (.lst [])) [] (some st):=⟨fun b o h=>kt _ _ (CP b o h),⟨em,kt _ _ hM⟩,kt _ _ hu,aC,CM.start rfl k.nd (fun x hx e=>by
    obtain⟨w,hw,e2⟩:=k.vl x hx;rw[e]at e2;cases e2;exact hnst hw),k.un,(fun y e=>by cases e;exact EH hstk),.inl rfl,fun _ _=>rfl⟩
   have hp2:kF H1 p f p=none:=if_pos (.inl rfl);have hc2:kF H1 p f c=none:=by rw[nU ncp ncf];exact hc
   have e02:kF H1 p f d=some (.dK (eL ab) ep0):=by
    rw[nU (aG e0 hp) (aG e0 hf0)];exact s1 _ _ e0
   refine aI (FO e02 hp2 hc2 ncp ncf npf hl w0 fun l o M' H2 w ho=>?_);have hv:=w.val k.vl;rw[<-hti]at hv;cases o with
   |none=>
    walk_at "vc0";exact oR ⟨⟨F,M',us,k.end w hp hf0 (fun _ h=>nomatch h) hst0 hv⟩,_,rfl⟩
   | some y=>
    walk_at "vc0";obtain⟨em2,hM2⟩:=id w.dm;obtain⟨s',hs',e'⟩:=hv y (ho y rfl);refine rB ⟨p,eL M',.inr y,_,rfl,⟨em2,.inl hM2⟩,rfl,o5 (ho y rfl),?_⟩;rw[e'];refine⟨rfl,OU (fun es=>?_) (fun es=>?_)⟩
    .have es:=V.str.inj es;subst es;have hy:y∈l:=(w.cl.met (ho y rfl)).elim (·.2) fun z=>absurd e' z.1
     obtain⟨pp,rr,el,hnpp⟩:=FP hy;refine⟨.inl ⟨us,bJ.of w.hu⟩,.inl ⟨_,bJ.of w.hc⟩,c,l,y,rfl,rfl,bJ.of w.hc,hy,?_,_,rfl,_,bJ.of w.hc,fun r hr=>⟨us,?_,gT ?_,?_,_,rfl⟩⟩
     .have h5:(ks M').length=(ks M).length+l.length:=by rw[w.cl.km,length_append]
      have:=w.len;omega
     .rw[aM (aG w.hu hr)];exact w.hu
     .omega
     .rw[BP el hnpp];exact⟨_,_,_,k.ring w hp hf0 npf hy hst0 hv el hr⟩
    .have hy:y∈ks M:=(w.cl.met (ho y rfl)).elim (fun z=>absurd (by rw[e']at z;have:=Option.some.inj z.1;rw[this];rfl) es) (·.2);exact⟨⟨F,M',us,k.end w hp hf0 (fun z e=>by cases e;exact hy) hst0 hv⟩,_,rfl⟩
  .rintro σ H1 ⟨⟨F,M,us,k⟩,v3,v4,v5,rfl⟩;have hst:=k.st;rw[jX,show ab.length=(ks ab).length from(length_map ..).symm,take_length]at hst;have hFi:=k.fi;rw[jX]at hFi;walk_at "vc0";refine q f us F _ H1 k.s hf0 k.hu (L2.Paired.cH k.pr fun _ _ ⟨b,e,h,_⟩=>⟨b,e,h⟩) k.fd hst (by omega) fun R hR=>?_
   have h5:=k.un;have h6:=fK ((k.fd.ring R hR).nd) fun x hx=>h5 x (k.fd.sub R hR x hx)
   omega
theorem uW:aU ["ties"] ["ties"] (aB cO):=⟨rfl,rfl,rfl,by decide+kernel,rfl,by decide+kernel,by decide+kernel⟩
set_option maxHeartbeats 4000000 in
theorem vH (T:Txt K mg fs fds tc u):aV P w K mg base cJ 1 (fs 4) (fds 4) ["ties"] AU:=by
 refine T.lK.F.ok uW (fun vs H Q E h=>?_) (fun cdv A outer s H vs Q E hr h=>?_)
 .obtain⟨v,ab,rfl,hv,nd,hl,q⟩:=h;rfl
 .obtain⟨v,ab,rfl,hv,nd,hl,q⟩:=h;refine⟨_,(aN (aY (pG ["name","elder","reason"] 3 [] ["ties"] (aB cO) rfl rfl rfl (cW K (pv 0)) (by decide+kernel) (fun _=>(dH (n:=3) K rfl (aS (aO (i:=0) (show(["name","elder","reason"]:List Str).Nodup by decide+kernel) rfl (Or.inl rfl)) (aS (aO (i:=1) (show(["name","elder","reason"]:List Str).Nodup by decide+kernel) rfl (Or.inl rfl)) (aS (aO (i:=2) (show(["name","elder","reason"]:List Str).Nodup by decide+kernel) rfl (Or.inl rfl)) dD))))) (fun _=>cC) (fun _=>(pv 0)) (fun _=>(pv 1))))),?_⟩;obtain⟨t,us,rfl,ht,hp⟩:=hv;walk_at "vc0";refine⟨_,rfl,t,rfl,⟨us,bG.of ht⟩,fun l hl0=>kP (bG.of ht) hp (·.1) (fun _ z v=>v=oV z.2) (fun σ=>∃o1 o2 o3,σ=[o1,o2,o3]) ⟨_,_,_,rfl⟩ hl0 (gT (by omega)) nd (fun _ _ _ _ _ h=>h) ?_ (fun H2 kvs s2 hk pr=>q l H2 s2 hl0 (by rw[<-HM pr];exact hk))⟩;rintro z u σ H2 kvs N hz' ⟨b,r,rfl,hb⟩ ⟨o1,o2,o3,rfl⟩ s2 hk hz hN;unfold jC;walk_at "vc2";exact⟨_,bG.of (s2 _ _ hb),rfl,_,_,rfl,_,_,rfl,_,_,rfl,rfl,kvs,hk,.inr z.1,rfl,hz,fun ep=>hN _ _ _ ep ⟨_,_,_,rfl⟩ (aF.refl _) rfl⟩
theorem AG:aU ["ties"] ["ties"] (aB eE):=⟨rfl,rfl,rfl,by decide+kernel,rfl,by decide+kernel,by decide+kernel⟩
set_option maxHeartbeats 4000000 in
theorem z3 (T:Txt K mg fs fds tc u):aV P w K mg base cJ 1 (fs 5) (fds 5) ["ties"] ES:=by
 refine T.tD.F.ok AG (fun vs H Q E h=>?_) (fun cdv A outer s H vs Q E hr h=>?_)
 .obtain⟨v,ab,rfl,hv,nd,hl,q⟩:=h;rfl
 .obtain⟨v,ab,rfl,hv,nd,hl,q⟩:=h;refine⟨_,(aN (aY (pG ["name","elder","reason"] 3 [] ["ties"] (aB eE) rfl rfl rfl (cW K (pv 0)) (by decide+kernel) (fun _=>(dH (n:=3) K rfl (aS (aO (i:=0) (show(["name","elder","reason"]:List Str).Nodup by decide+kernel) rfl (Or.inl rfl)) (aS (aO (i:=1) (show(["name","elder","reason"]:List Str).Nodup by decide+kernel) rfl (Or.inl rfl)) (aS (aO (i:=2) (show(["name","elder","reason"]:List Str).Nodup by decide+kernel) rfl (Or.inl rfl)) dD))))) (fun _=>cC) (fun _=>(pv 0)) (fun _=>(bE (aA (pv 1) (aA (pv 2) aD))))))),?_⟩;obtain⟨t,us,rfl,ht,hp⟩:=hv;walk_at "vc0";refine⟨_,rfl,t,rfl,⟨us,bG.of ht⟩,fun l hl0=>kP (bG.of ht) hp (·.1) (fun H z v=>∃t r,v= .ref t/\H t=some (.tup [oV z.2,r])) (fun σ=>∃o1 o2 o3,σ=[o1,o2,o3]) ⟨_,_,_,rfl⟩ hl0 (gT (by omega)) nd (fun _ _ _ _ k ⟨t,r,e,h⟩=>⟨t,r,e,k _ _ h⟩) ?_ (fun H2 kvs s2 hk pr=>q l H2 s2 hl0 ⟨kvs,hk,pr⟩)⟩;rintro z u σ H2 kvs N hz' ⟨b,r,rfl,hb⟩ ⟨o1,o2,o3,rfl⟩ s2 hk hz hN;unfold jC;walk_at "vc2";exact⟨_,bG.of (s2 _ _ hb),rfl,_,_,rfl,_,_,rfl,_,_,rfl,rfl,e9 (by decide),fun t2 ht2=>⟨kvs,bY hk (aF.upd ht2),.inr z.1,rfl,hz,fun ep=>hN _ _ _ ep ⟨_,_,_,rfl⟩ (aF.upd ht2) ⟨t2,r,rfl,aC⟩⟩⟩
theorem dQ:aU ["above","found","start","passed","name","root","one"] ["above"] (aB eA):=⟨rfl,rfl,rfl,by decide+kernel,rfl,by decide+kernel,by decide+kernel⟩
set_option maxHeartbeats 4000000 in
theorem zJ (T:Txt K mg fs fds tc u):aV P w K mg base cJ 1 (fs 6) (fds 6) ["above"] P0:=by
 refine T.rG.F.ok dQ (fun vs H Q E h=>?_) (fun cdv A outer s H vs Q E hr h=>?_)
 .obtain⟨d,ab,rfl,hd,nd,hl,hcl,sT,q⟩:=h;rfl
 .obtain⟨d,ab,rfl,hd,nd,hl,hcl,sT,q⟩:=h;refine⟨_,(aE (aP (i:=1) dQ.nd rfl (Or.inl rfl) fF)
   (aE (dP PassesOwn.never rfl (wI (pv 0)) (aO (i:=2) dQ.nd rfl (Or.inl rfl)) (aE (aP (i:=3) dQ.nd rfl (Or.inl rfl) (gR aD))
   (aE (aP (i:=4) dQ.nd rfl (Or.inl rfl) (pv 2))
   (aE (nJ PassesOwn.never (PW.pt (m3 (bD (Mr.m8 hr) (pv 4) (pv 1) (by rfl)) (j9 (bD kB (aT (Mr.yM hr) (pv 0) (pv 4) (fun _ _=>rfl)) d9 (cL _))))) (aE (iV (eF K plainAttrs_list PySem.F.slot_list_append PySem.F.type_list_append eY (pv 3) (aA (pv 4) aD)))
   (aN (aP (i:=4) dQ.nd rfl (Or.inl rfl) (aT (Mr.yM hr) (pv 0) (pv 4) (fun _ _=>rfl))))))
   (aE (aP (i:=5) dQ.nd rfl (Or.inl rfl) (yO (iE hr) (pv 1) (pv 4) (pv 4) ⟨rfl,by rfl,rfl,rfl⟩))
   (aE (fJ (iE hr) (pv 1) (pv 4) (pv 5) rfl)
   (aN (dP PassesOwn.never rfl (iG K (pv 3)) (aO (i:=6) dQ.nd rfl (Or.inl rfl)) (aN (fJ (iE hr) (pv 1) (pv 6) (pv 5) rfl))))))))))
   (aN (aY (pv 1))))),?_⟩
  obtain⟨ep0,e0⟩:=hd;refine aI ?_;walk_at "vc0"
  refine fun p hp=>?_
  have s0:=aF.upd (o:=.dK [] 0) hp;have ep:upd H p (.dK [] 0) p=some (.dK [] 0):=aC;generalize upd H p (.dK [] 0)=H0 at s0 ep⊢
  have b0:fQ p H H0:=fun b o h _=>s0 b o h
  refine aI ⟨_,rfl,d,eL ab,ep0,rfl,.inl (s0 _ _ e0),yC (fun i σ H'=>fQ p H H'/\(∃rt,bZ H' p (eL rt)/\(ks rt).Nodup/\(∀x∈(ks ab).take i,x∈ks rt)/\(∀x∈ks rt,x∈ks ab/\∃r∈ks ab,dB rt x=some r))/\∃v2 v3 v4 v5 v6,σ=[some (V.ref d),some (V.ref p),v2,v3,v4,v5,v6]) ⟨b0,⟨[],⟨0,ep⟩,nodup_nil,(fun x h=>by simp at h),(fun _ h=>nomatch h)⟩,_,_,_,_,_,rfl⟩ (fun i σ H' _ ⟨b,_⟩=>.inl (b _ _ e0 (aG e0 hp))) ?_ ?_⟩
  .rintro i kv σ H1 hkv ⟨b1,⟨rt,⟨e1,hr⟩,ndr,hst,hrt⟩,v2,v3,v4,v5,v6,rfl⟩;obtain⟨st,hst0,ek,_⟩:=xT hkv;rw[ek];have hstk:st∈ks ab:=mem_of_getElem? hst0;have hti:=take_snoc hst0;have hd1:=b1 _ _ e0 (aG e0 hp);walk_at "vc0";refine aI ?_;walk_at "vc0"
   refine⟨zero_le _,fun c hc=>?_⟩;have hcp:c≠p:=(aG hr hc).symm;have hcd:c≠d:=(aG hd1 hc).symm;have s2:=aF.upd (o:=.lst []) hc;have ec:upd H1 c (.lst []) c=some (.lst (([]:List Str).map V.str)):=aC;have hr2:=s2 _ _ hr;have hd2:=s2 _ _ hd1;have hb2:∀b o,H1 b=some o->b≠c->upd H1 c (.lst []) b=some o:=fun b o h _=>s2 _ _ h
   generalize upd H1 c (.lst [])=H2 at ec hr2 hd2 hb2⊢
   refine aI ?_;walk_at "vc0"
   refine aI (yG (fun σ H'=>∃l y,σ=[some (V.ref d),some (V.ref p),some (.str st),some (.ref c),some (.str y),v5,v6]/\H' c=some (.lst (l.map V.str))/\(∀b o,H1 b=some o->b≠c->H' b=some o)/\l.Nodup/\y∉l/\(∀z∈l,z∈ks ab)/\y∈ks ab/\(st=y\/ st∈l)/\∀z∈l,∃k,Rg.gB (dB ab) (k+1) z=some y) (fun σ H'=>match H' c with|some (.lst us)=>ab.length - us.length|_=>0) ⟨[],st,rfl,ec,hb2,nodup_nil,(fun h=>nomatch h),(fun _ h=>nomatch h),hstk,.inl rfl,fun _ h=>nomatch h⟩ ?_ ?_)
   .rintro σ H3 ⟨l,y,rfl,hc3,b3,ndl,hyl,hlk,hyk,hst3,hgo⟩;have hd3:=b3 _ _ hd1 hcd.symm;have hr3:=b3 _ _ hr hcp.symm;have hlen:l.length+1<=(ks ab).length:=fK (xs:=y::l) (nodup_cons.mpr ⟨hyl,ndl⟩) fun z hz=>(mem_cons.mp hz).elim (fun e=>by rw[e];exact hyk) (hlk z)
    have hyv:bW (eL ab) (.inr y)=some (oV (dB ab y)):=o5 hyk;walk_at "vc0";refine⟨p,eL rt,.inr y,rfl,⟨e1,.inl hr3⟩,rfl,_,rfl,?_⟩;refine w5 ?_ (fun _ fin=>⟨d,eL ab,.inr y,_,rfl,⟨ep0,.inl hd3⟩,rfl,hyv,?_⟩)
    .refine aI ?_;walk_at "vc3"
     obtain⟨r,hrk,o,hog,hoe⟩:∃r∈ks ab,∃o,rT H3 p (V.str y) o/\o.getD (V.str y)=V.str r:=by
      by_cases hy:y∈ks rt
      .obtain⟨_,r,hr1,hr2⟩:=hrt y hy;exact⟨r,hr1,some (.str r),.inl ⟨eL rt,.inr y,⟨e1,.inl hr3⟩,rfl,by rw[o5 hy,hr2];rfl⟩,rfl⟩
      .exact⟨y,hyk,none,.inl ⟨eL rt,.inr y,⟨e1,.inl hr3⟩,rfl,by rw[qN,List.find?_eq_none.mpr (fun z hz e=>hy (mem_map.mpr ⟨z,hz,of_decide_eq_true e⟩))];rfl⟩,rfl⟩
     refine⟨.inl ⟨_,e1,.inl hr3⟩,o,hog,?_⟩;rw[hoe];refine aI ?_;walk_at "vc1"
     have hrl:(ks rt).length<=(ks ab).length:=fK ndr fun x hx=>(hrt x hx).1
     have hkl:(ks ab).length<=60:=by unfold ks;rw[length_map];exact hl
     refine .inl ⟨eL rt,.inr y,⟨e1,hr3⟩,rfl,gT (by rw[jX];unfold ks at hrl hkl;rw[length_map]at hrl;omega),fun ep4=>?_⟩;rw[show putK (eL rt) (.inr y) (V.str r)=eL (gD rt y (some r))from nV rt y (some r)];obtain⟨nd4,hrt4⟩:=FH ndr hrt hyk hrk;have b4:fQ p H (upd H3 p (.dK (eL (gD rt y (some r))) ep4)):=fun b o h n=>by rw[aM n];exact b3 _ _ (b1 b o h n) (aG (b1 b o h n) hc)
     have hc4:upd H3 p (.dK (eL (gD rt y (some r))) ep4) c=some (.lst (l.map V.str)):=by rw[aM hcp];exact hc3
     have hp4:upd H3 p (.dK (eL (gD rt y (some r))) ep4) p=some (.dK (eL (gD rt y (some r))) ep4):=aC;generalize upd H3 p (.dK (eL (gD rt y (some r))) ep4)=H4 at b4 hc4 hp4⊢
     refine⟨_,rfl,c,rfl,⟨_,bJ.of hc4⟩,q5 (K:=K) (fun j σ H'=>fQ p H H'/\H' c=some (.lst (l.map V.str))/\(∃rt',bZ H' p (eL rt')/\(ks rt').Nodup/\(∀z∈ks rt',z∈ks ab/\∃w∈ks ab,dB rt' z=some w)/\(∀z∈ks rt,z∈ks rt')/\y∈ks rt'/\∀z∈l.take j,z∈ks rt')/\∃o,σ=[some (V.ref d),some (V.ref p),some (V.str st),some (V.ref c),some (V.str y),some (V.str r),o]) ⟨b4,hc4,⟨_,⟨ep4,hp4⟩,nd4,hrt4,fun z hz=>jU.mpr (.inl hz),jU.mpr (.inr rfl),fun z hz=>by simp at hz⟩,_,rfl⟩ (fun j σ H' _ ⟨_,h,_⟩=>bJ.of h) ?_ ?_⟩
     .rintro j u σ H5 hu ⟨b5,hc5,⟨rt',⟨e5,h5⟩,nd5,hrt5,hsub5,hy5,ht5⟩,o,rfl⟩;obtain⟨z,hz,rfl⟩:=strAt hu;obtain⟨nd6,hrt6⟩:=FH nd5 hrt5 (hlk z (mem_of_getElem? hz)) hrk;have hrl5:(ks rt').length<=(ks ab).length:=fK nd5 fun x hx=>(hrt5 x hx).1
      walk_at "vc1";refine .inl ⟨eL rt',.inr z,⟨e5,h5⟩,rfl,gT (by rw[jX];unfold ks at hrl5 hkl;rw[length_map]at hrl5;omega),fun ep6=>⟨fun b o h n=>by rw[aM n];exact b5 b o h n,by rw[aM hcp];exact hc5,⟨gD rt' z (some r),⟨ep6,?_⟩,nd6,hrt6,fun x hx=>jU.mpr (.inl (hsub5 x hx)),jU.mpr (.inl hy5),fun x hx=>?_⟩,_,rfl⟩⟩
      .rw[aC];exact congrArg (fun q=>some (HO.dK q ep6)) (nV rt' z (some r))
      .rw[take_snoc hz]at hx;exact jU.mpr ((mem_append.mp hx).imp (ht5 x) mem_singleton.mp)
     .rintro σ H5 ⟨b5,hc5,⟨rt',h5,nd5,hrt5,hsub5,hy5,ht5⟩,o,rfl⟩;rw[length_map,take_length]at ht5;refine⟨b5,⟨rt',h5,nd5,fun x hx=>?_,hrt5⟩,_,_,_,_,_,rfl⟩;rw[hti]at hx;rcases mem_append.mp hx with h|h
      .exact hsub5 x (hst x h)
      .rw[mem_singleton.mp h];exact hst3.elim (fun e=>by rw[e];exact hy5) (ht5 st)
    .cases hu:dB ab y with
     |none=>exact nM fin
     | some w=>
      refine mW ?_;have e4:upd H3 c (.lst (l.map V.str++[.str y])) c=some (.lst ((l++[y]).map V.str)):=by rw[aC,map_append];rfl
      have b4:∀b o,H1 b=some o->b≠c->upd H3 c (.lst (l.map V.str++[.str y])) b=some o:=fun b o h n=>by rw[aM n];exact b3 b o h n
      have hd4:upd H3 c (.lst (l.map V.str++[.str y])) d=some (.dK (eL ab) ep0):=b4 _ _ hd1 hcd.symm;refine aI ?_;walk_at "vc0"
      refine⟨.inl ⟨_,bJ.of hc3⟩,_,hc3,gT (by rw[length_map];unfold ks at hlen;rw[length_map]at hlen;omega),?_⟩;refine⟨d,eL ab,.inr y,_,rfl,⟨ep0,.inl hd4⟩,rfl,hyv,⟨l++[y],w,by rw[hu];rfl,e4,b4,nodup_append.mpr ⟨ndl,by simp,fun a ha b hb e=>hyl (by rw[<-mem_singleton.mp hb,<-e];exact ha)⟩,fun hw=>?_,fun z hz=>?_,hcl y w hu,.inr ?_,fun z hz=>?_⟩,?_⟩
      .rcases mem_append.mp hw with h|h
       .obtain⟨k,hk⟩:=hgo w h;refine sT w ⟨k+1,?_⟩;rw[Rg.iA (k+1) 1,hk];show(dB ab y).bind (Rg.gB (dB ab) 0)=some w;rw[hu];rfl
       .have e:=mem_singleton.mp h;subst e;exact sT w ⟨0,by show(dB ab w).bind (Rg.gB (dB ab) 0)=some w;rw[hu];rfl⟩
      .rcases mem_append.mp hz with h|h
       .exact hlk z h
       .rw[mem_singleton.mp h];exact hyk
      .rcases hst3 with e|h
       .rw[e];simp
       .exact mem_append_left _ h
      .rcases mem_append.mp hz with h|h
       .obtain⟨k,hk⟩:=hgo z h;refine⟨k+1,?_⟩;rw[Rg.iA (k+1) 1,hk];show(dB ab y).bind (Rg.gB (dB ab) 0)=some w;rw[hu];rfl
       .rw[mem_singleton.mp h];exact⟨0,by show(dB ab y).bind (Rg.gB (dB ab) 0)=some w;rw[hu];rfl⟩
      .rw[e4,hc3];show ab.length - ((l++[y]).map V.str).length<ab.length - (l.map V.str).length;unfold ks at hlen;rw[length_map]at hlen;rw[length_map,length_map,length_append];show ab.length - (l.length+1)<_;omega
   .exact fun σ H Q Q' k ⟨v,hv,v2,hv2,a,kvs,kk,e1,e2,e3,c,ec,h⟩=>by
     refine⟨v,hv,v2,hv2,a,kvs,kk,e1,e2,e3,c,ec,?_⟩;cases c with
     |false=>exact nM (k _ _ (by rwa[if_neg Bool.false_ne_true]at h))
     |true=>
      rw[if_pos rfl]at h;obtain⟨v3,hv3,v4,hv4,a',kvs',k',w,f1,f2,f3,f4,f5,c2,ec2,h2⟩:=h;exact mW ⟨v3,hv3,v4,hv4,a',kvs',k',w,f1,f2,f3,f4,f5,c2,ec2,k _ _ h2⟩
  .rintro σ H1 ⟨b1,⟨rt,hr,ndr,hst,hrt⟩,v2,v3,v4,v5,v6,rfl⟩;rw[jX,show ab.length=(ks ab).length from(length_map ..).symm,take_length]at hst;walk_at "vc0";exact q p rt H1 (fun b o h=>b1 b o h (aG h hp)) hp hr ndr (fun x hx=>(hrt x (hst x hx)).2) fun x hx=>(hrt x hx).1
theorem yP:aU ["head","words"] ["head"] (aB gH):=⟨rfl,rfl,rfl,by decide+kernel,rfl,by decide+kernel,by decide+kernel⟩
set_option maxHeartbeats 4000000 in
theorem HS (T:Txt K mg fs fds tc u):aV P w K mg base cJ 1 (fs 7) (fds 7) ["head"] HI:=by
 refine T.vE.F.ok yP (fun vs H Q E h=>?_) (fun cdv A outer s H vs Q E hr h=>?_)
 .obtain⟨h,rfl,hh,q⟩:=h;rfl
 .obtain⟨h,rfl,hh,q⟩:=h;refine⟨_,(aE (aP (i:=1) yP.nd rfl (Or.inl rfl) (eF K plainAttrs_str PySem.F.slot_str_split PySem.F.type_str_split EV (NU plainAttrs_str PySem.F.slot_str_lower PySem.F.type_str_lower FD (pv 0)) (aA bP aD)))
   (aN (aY (eF K plainAttrs_str slot_str_join type_str_join (K6 K) bP (aA (jM ["word"] 1 [] ["head","words"] (aB gH) rfl rfl rfl (iG K (pv 1)) (by decide+kernel) (fun _=>(aO (i:=0) (show(["word"]:List Str).Nodup by decide+kernel) rfl (Or.inl rfl))) (fun _=>(oA (bD x6 (pv 0) bP (cL _)))) (fun _=>(pv 0))) aD))))),?_⟩
  have e1:=CN hh.2;have e2:=PM.split_len (Txt.lower h);have e3:=PM.C3 (Txt.lower h);have hh1:=hh.1;refine aI ?_;walk_at "vc0"
  refine⟨by omega,by decide+kernel,by omega,le_trans e2 (by omega),le_trans e3 (e9 (by omega)),fun l hl=>?_⟩;have e0:upd H l (.lst ((Txt.split (Txt.lower h) (Str.ofString " ")).map V.str)) l=some (.lst ((Txt.split (Txt.lower h) (Str.ofString " ")).map V.str)):=aC;have s1:=aF.upd (o:=.lst ((Txt.split (Txt.lower h) (Str.ofString " ")).map V.str)) hl;generalize upd H l (.lst ((Txt.split (Txt.lower h) (Str.ofString " ")).map V.str))=H1 at*;unfold rA;refine⟨_,rfl,l,rfl,⟨_,bJ.of e0⟩,fun l2 hl2=>AX hl2 (bJ.of e0) (fun v=>match v with| .str y=>!decide (y=Str.ofString "")|_=>false) id (fun σ=>∃o,σ=[o]) ⟨_,rfl⟩ (gT (by rw[length_map];exact lt_of_le_of_lt e2 (by omega))) ?_ ?_⟩
  .rintro x σ xs N hx hz ⟨o,rfl⟩ hN;obtain⟨y,_,rfl⟩:=mem_map.mp hx;unfold bV;walk_at "vc0";refine⟨rfl,?_⟩
   by_cases he:y=Str.ofString ""
   .rw[if_neg (by simp[he])];rw[if_neg (by simp[he])]at hN;exact hN _ ⟨_,rfl⟩
   .rw[if_pos (by simp[he])];rw[if_pos (by simp[he])]at hN;refine⟨xs,aC,hz,?_⟩;rw[wC];exact hN _ ⟨_,rfl⟩
  .have ef:(((Txt.split (Txt.lower h) (Str.ofString " ")).map V.str).filter fun v=>match v with| .str y=>!decide (y=Str.ofString "")|_=>false)=((Txt.split (Txt.lower h) (Str.ofString " ")).filter fun y=>!decide (y=Str.ofString "")).map V.str:=List.filter_map ..;rw[ef,List.map_id];have eW:=PM.FJ hh.2;have hW:(PM.W h).length<=2*h.length:=by
    have:=PM.qW h.cps.toList [] false;simp at this;unfold PM.W;show(PM.walk PyProof.Rows.lo1 h.cps.toList [] false).toArray.size<=2*h.cps.size;simpa using this
   have hsum:=NC (ys:=(Txt.split (Txt.lower h) (Str.ofString " ")).filter fun y=>!decide (y=Str.ofString "")) (c:=60) fun p hp=>le_trans (AZ _ _ p (mem_filter.mp hp).1) (by omega)
   have hlf:=length_filter_le (fun y=>!decide (y=Str.ofString "")) (Txt.split (Txt.lower h) (Str.ofString " "));have eS:(Str.ofString " ").length=1:=by decide+kernel
   have e2':(Txt.split (Txt.lower h) (Str.ofString " ")).length<=(Txt.lower h).length+2:=e2;have hm:=Nat.mul_le_mul_right 60 (le_trans hlf e2');exact⟨l2,rfl,_,bJ.of aC,by rw[eS];omega,q _ _ (s1.trans (aF.upd hl2)) (by rw[show Txt.join (Str.ofString " ") _=_ from eW];omega)⟩
theorem zI:aU ["text"] ["text"] (aB dM):=⟨rfl,rfl,rfl,by decide+kernel,rfl,by decide+kernel,by decide+kernel⟩
set_option maxHeartbeats 4000000 in
theorem xE (T:Txt K mg fs fds tc u):aV P w K mg base cJ 1 (fs 8) (fds 8) ["text"] LM:=by
 refine T.q0.F.ok zI (fun vs H Q E h=>?_) (fun cdv A outer s H vs Q E hr h=>?_)
 .obtain⟨s,rfl,hs,q⟩:=h;rfl
 .obtain⟨s,rfl,hs,q⟩:=h;refine⟨_,(aN (aY (NA (lV x6 (pv 0) bP (cL _)) (L9 (bB (Q9 K rfl) (by rfl) T.zL MU (aA (jM ["sign"] 1 [] ["text"] (aB dM) rfl rfl rfl (FC (pv 0)) (by decide+kernel) (fun _=>(aO (i:=0) (show(["sign"]:List Str).Nodup by decide+kernel) rfl (Or.inl rfl))) (fun _=>cC) (fun _=>(lV DH (pv 0) (IL (v:=.str "0123456789") rfl T.C7 T.CW) (by rfl)))) aD)))))),?_⟩;walk_at "vc0";refine⟨rfl,qH (fun h=>?_) (fun h=>?_)⟩
  rotate_left
  .exact q _ H (aF.refl _)
  .unfold rA;refine⟨_,rfl,s,rfl,fun l hl0=>uJ s (fun _=>true) (fun v=>match v with| .str z=>.bl (!(Builtin.Str.occurrences (Str.ofString "0123456789") z 0 (Str.ofString "0123456789").length 1).isEmpty)|_=>.bl false) (fun σ=>∃o,σ=[o]) ⟨_,rfl⟩ (gT (by omega)) ?_ ?_⟩
   .rintro c σ xs N hc hz ⟨o,rfl⟩ hN;rw[if_pos rfl]at hN;unfold bV;walk_at "vc2";refine⟨xs,aC,hz,?_⟩;rw[wC];exact hN _ ⟨_,rfl⟩
   .refine⟨l,rfl,s.cps.toList.map fun c=>!(Builtin.Str.occurrences (Str.ofString "0123456789") ⟨#[c]⟩ 0 (Str.ofString "0123456789").length 1).isEmpty,bJ.of ?_,q _ _ (aF.upd hl0)⟩;rw[aC];unfold vQ;rw[show∀ys:List V,ys.filter (fun _=>true)=ys from fun ys=>filter_eq_self.mpr (by simp),map_map,map_map];rfl
theorem jI:aU ["text","word","mark"] ["text","word"] (aB bS):=⟨rfl,rfl,rfl,by decide+kernel,rfl,by decide+kernel,by decide+kernel⟩
set_option maxHeartbeats 4000000 in
theorem oF (T:Txt K mg fs fds tc u):aV P w K mg base cJ 1 (fs 10) (fds 10) ["text","word"] tJ:=by
 refine T.kE.F.ok jI (fun vs H Q E h=>?_) (fun cdv A outer s H vs Q E hr h=>?_)
 .obtain⟨s,y,rfl,hs,hy,q⟩:=h;rfl
 .obtain⟨s,y,rfl,hs,hy,q⟩:=h;refine⟨_,(aE (aP (i:=2) jI.nd rfl (Or.inl rfl) (bI eR (bI eR bP (pv 1)) bP))
   (aN (aY (kY (gL (eF K plainAttrs_str slot_str_startswith type_str_startswith Mr.i7 (pv 0) (aA (pv 2) aD)) (fun _=>rfl)) (cK oM (pv 0) (cZ (bB gA (by rfl) T.jA j5 (aA (pv 2) aD))) dU) d9)))),?_⟩
  have c1:(Str.ofString "[").length=1:=by decide+kernel
  have c2:(Str.ofString "]").length=1:=by decide+kernel
  have cl:(Str.ofString "["++y++Str.ofString "]").length=y.length+2:=by rw[Str.length_append,Str.length_append];omega
  refine aI ?_;walk_at "vc0"
  refine⟨e9 (by omega),e9 (by rw[Str.length_append];omega),_,_,rfl,rfl,_,rfl,qH (fun h1=>?_) (fun h1=>?_)⟩
  .have h2:=m7 h1;exact⟨e9 (by omega),e9 (by omega),q (some _) H (aF.refl _) fun l e=>by cases e;rw[len_from];omega⟩
  .exact q none H (aF.refl _) fun l e=>by cases e
theorem iY:aU ["text","word","mark"] ["text","word"] (aB bM):=⟨rfl,rfl,rfl,by decide+kernel,rfl,by decide+kernel,by decide+kernel⟩
set_option maxHeartbeats 4000000 in
theorem nY (T:Txt K mg fs fds tc u):aV P w K mg base cJ 1 (fs 11) (fds 11) ["text","word"] tJ:=by
 refine T.jN.F.ok iY (fun vs H Q E h=>?_) (fun cdv A outer s H vs Q E hr h=>?_)
 .obtain⟨s,y,rfl,hs,hy,q⟩:=h;rfl
 .obtain⟨s,y,rfl,hs,hy,q⟩:=h;refine⟨_,(aE (aP (i:=2) iY.nd rfl (Or.inl rfl) (bI eR (bI eR bP (pv 1)) bP))
   (aN (aY (kY (gL (eF K plainAttrs_str PySem.F.slot_str_endswith PySem.F.type_str_endswith Mr.y7 (pv 0) (aA (pv 2) aD)) (fun _=>rfl)) (cK oM (pv 0) dU (cZ (bI z5 (bB gA (by rfl) T.jA j5 (aA (pv 0) aD)) (bB gA (by rfl) T.jA j5 (aA (pv 2) aD))))) d9)))),?_⟩
  have c1:(Str.ofString "(").length=1:=by decide+kernel
  have c2:(Str.ofString ")").length=1:=by decide+kernel
  have cl:(Str.ofString "("++y++Str.ofString ")").length=y.length+2:=by rw[Str.length_append,Str.length_append];omega
  refine aI ?_;walk_at "vc0"
  refine⟨e9 (by omega),e9 (by rw[Str.length_append];omega),_,_,rfl,rfl,_,rfl,qH (fun h1=>?_) (fun h1=>?_)⟩
  .have h2:=FF h1;refine⟨e9 (by omega),e9 (by omega),e9 (by omega),q (some _) H (aF.refl _) fun l e=>?_⟩;cases e;rw[cl,show(s.length:Int) - ((y.length+2:Nat):Int)=((s.length - (y.length+2):Nat):Int) by omega,M7];omega
  .exact q none H (aF.refl _) fun l e=>by cases e
theorem i9:aU ["held","rows","claimed","name","row","day","one","at"] ["held","rows","claimed","name"] (aB fS):=⟨rfl,rfl,rfl,by decide+kernel,rfl,by decide+kernel,by decide+kernel⟩
set_option maxHeartbeats 4000000 in
theorem DA (T:Txt K mg fs fds tc u):aV P w K mg base cJ 1 (fs 19) (fds 19) ["held","rows","claimed","name"] LX:=by
 refine T.zF.F.ok i9 (fun vs H Q E h=>?_) (fun cdv A outer s H vs Q E hr h=>?_)
 .obtain⟨h,r,c,n,hm,S,kr,kc,C,rfl,hh,hr1,hR,ndS,hc1,hC,bA,hcl,q⟩:=h;rfl
 .obtain⟨h,r,c,n,hm,S,kr,kc,C,rfl,hh,hr1,hR,ndS,hc1,hC,bA,hcl,q⟩:=h;refine⟨_,(aE (fR (bD (Mr.inD hr) (pv 3) (pv 0) (by rfl)) (aN (aY (bE (aA (aT (Mr.yM hr) (pv 0) (pv 3) (fun _ _=>rfl)) (aA (bE (aA bP aD)) aD))))) cU)
   (aE (fR (bD (Mr.inD hr) (pv 3) (pv 1) (by rfl)) (aE (aP (i:=4) i9.nd rfl (Or.inl rfl) (aT (Mr.yM hr) (pv 1) (pv 3) (fun _ _=>rfl)))
   (aN (aY (kY (gL (pv 4) (fun _=>rfl)) (bE (aA (aT (j8 K) (pv 4) (BY uT aH) (fun _ _=>rfl)) (aA (bE (aA bP aD)) aD))) (bE (aA d9 (aA (bE (aA bP aD)) aD))))))) cU)
   (aE (fR (bD (Mr.inD hr) (pv 3) (pv 2) (by rfl)) (aE (oE (bB (Mr.NP K hr) (by rfl) T.mK o9 (aA (aT (Mr.yM hr) (pv 2) (pv 3) (fun _ _=>rfl)) aD)) (dH (n:=3) K rfl (aS (aO (i:=5) i9.nd rfl (Or.inl rfl)) (aS (aO (i:=6) i9.nd rfl (Or.inl rfl)) (aS (aO (i:=7) i9.nd rfl (Or.inl rfl)) dD)))))
   (aN (aY (bE (aA (aT (j8 K) (aT (Mr.yM hr) (pv 1) (pv 6) (fun _ _=>rfl)) (bI z5 (pv 7) aH) (fun _ _=>rfl)) (aA (bE (aA bP (aA (pv 6) (aA (pv 7) aD)))) aD)))))) cU)
   (aN (aY (bE (aA d9 (aA (bE (aA bP aD)) aD)))))))),?_⟩
  obtain⟨eh,heh⟩:=hh;obtain⟨er,her⟩:=hr1;obtain⟨ec,hec⟩:=hc1;refine aI ?_;walk_at "vc0"
  refine⟨h,eL hm,.inr n,rfl,⟨eh,.inl heh⟩,rfl,_,rfl,?_⟩;rw[if_neg Bool.false_ne_true,qR]
  by_cases hn:n∈ks hm
  .rw[decide_eq_true hn];exact mW ⟨h,eL hm,.inr n,_,rfl,⟨eh,.inl heh⟩,rfl,o5 hn,e9 (by decide),fun t1 ht1=>⟨e9 (by decide),fun t2 ht2=>q t2 _ (dB hm n) _ ((aF.upd ht1).trans (aF.upd ht2)) aC (.inl ⟨hn,rfl⟩)⟩⟩
  rw[decide_eq_false hn];refine nM ?_;have last:∀(H':Hp) (_:aF H H'),(∀y∈S,y.n≠n)->(∀c,¬rY S n c)->∀t1 (_:H' t1=none) (a:V) t2 (_:upd H' t1 (.tup [a]) t2=none),Q (.ref t2) (upd (upd H' t1 (.tup [a])) t2 (.tup [.aZ,.ref t1])):=fun H' s' h1 h2 t1 ht1 a t2 ht2=>
   q t2 _ none _ ((s'.trans (aF.upd ht1)).trans (aF.upd ht2)) aC (.inr ⟨hn,.inr ⟨h1,.inr ⟨h2,rfl⟩⟩⟩)
  refine aI ?_;walk_at "vc0"
  rcases vC (n:=n) hR with⟨hv,hno⟩|⟨y,hy,en,tr,hv,htr⟩
  .refine⟨r,kr,.inr n,rfl,⟨er,.inl her⟩,rfl,_,rfl,?_⟩;rw[if_neg Bool.false_ne_true,hv];refine nM ?_;refine aI ?_;walk_at "vc0";rcases B5 (n:=n) hC with⟨hcv,hcno⟩|⟨z,hz,ez,lv,hcv,l,us,rfl,hl,hcs⟩
   .refine⟨c,kc,.inr n,rfl,⟨ec,.inl hec⟩,rfl,_,rfl,?_⟩;rw[if_neg Bool.false_ne_true,hcv];refine nM ⟨e9 (by decide),fun t1 h1=>⟨e9 (by decide),fun t2 h2=>last H (aF.refl _) hno (fun cc hcc=>?_) t1 h1 _ t2 h2⟩⟩;obtain⟨z,hz,e,_⟩:=bA.all n cc hcc;exact hcno z hz e
   .refine⟨c,kc,.inr n,rfl,⟨ec,.inl hec⟩,rfl,_,rfl,?_⟩;rw[if_neg Bool.false_ne_true,hcv];refine mW ?_;have hlz:=hcs.length;have hz0:0<z.2.length:=List.length_pos_iff.mpr (bA.ne z hz);refine aI ?_;walk_at "vc0"
    refine⟨c,kc,.inr n,_,rfl,⟨ec,.inl hec⟩,rfl,hcv,l,us,z.2.map kJ,rfl,bJ.of hl,(GN hcs).rep,by rw[length_map];exact hz0,JV z.2,?_⟩;have hle:=Mr.iI (Mr.BB (z.2.map kJ)) ((z.2.map kJ).length - 1);have hmin:=Mr.IS (ps:=z.2.map kJ) (k:=(z.2.map kJ).length - 1) (by rw[length_map];omega);generalize argBest (Mr.BB (z.2.map kJ)) ((z.2.map kJ).length - 1)=j at hle hmin⊢
    rw[length_map]at hle hmin;have hjl:j<us.length:=by omega
    have huj:us[j]? =some us[j]:=getElem?_eq_getElem hjl;obtain⟨cj,hcj,b,eb,hb⟩:=L2.Paired.iP hcs huj;rw[getD_eq_getElem?_getD,huj,eb];obtain⟨y,hy,e1,e2,e3,e4⟩:=bA.sd z hz cj (mem_of_getElem? hcj);obtain⟨i,hi⟩:∃i,cj.2.2=i+1:=⟨cj.2.2 - 1,by omega⟩;rw[hi]at e4;have hil:i<(aX y).length:=by have:=(List.getElem?_eq_some_iff.mp e4).1;omega
    have hei:(aX y)[i]? =some (aX y)[i]:=getElem?_eq_getElem hil;rcases vC (n:=cj.2.1) hR with⟨_,hno2⟩|⟨y',hy',en',tr,hv2,htr⟩
    .exact absurd e2.symm (hno2 y hy)
    have ey:y'=y:=oY ndS hy' hy (by rw[en',e2]);subst ey;refine⟨b,rfl,_,bG.of hb,rfl,_,_,rfl,_,_,rfl,_,_,rfl,rfl,r,kr,.inr cj.2.1,.ref tr,rfl,⟨er,.inl her⟩,rfl,hv2,_,rfl,tr,rfl,_,bG.of htr,.str (aX y')[i],?_,e9 (by decide),fun t1 h1=>⟨e9 (by decide),fun t2 h2=>q t2 _ (some (aX y')[i]) _ ((aF.upd h1).trans (aF.upd h2)) aC (.inr ⟨hn,.inr ⟨hno,.inl ⟨y',hy,i,by rw[<-ez];exact e4,hei.symm,fun cc hcc=>?_⟩⟩⟩)⟩⟩
    .rw[hi,show(((i+1:Nat):Int) - 1)=(i:Int) by omega];exact cB (by rw[getElem?_map,hei];rfl)
    .obtain⟨z',hz',ez',hcz'⟩:=bA.all n cc hcc;have e5:z'=z:=oY bA.nd hz' hz (by rw[ez',ez]);subst e5;obtain⟨ix,hix⟩:=getElem?_of_mem hcz';have hixl:=(List.getElem?_eq_some_iff.mp hix).1;have h3:=hmin ix (by omega);have g1:(z'.2.map kJ).getD j .aZ=kJ cj:=by rw[getD_eq_getElem?_getD,getElem?_map,hcj];rfl
     have g2:(z'.2.map kJ).getD ix .aZ=kJ cc:=by rw[getD_eq_getElem?_getD,getElem?_map,hix];rfl
     rw[g1,g2]at h3;have g3:kJ (y'.d,y'.n,i+1)=kJ cj:=by unfold kJ;rw[e1,e2,hi]
     rw[g3];exact h3
  .refine⟨r,kr,.inr n,rfl,⟨er,.inl her⟩,rfl,_,rfl,?_⟩;rw[if_neg Bool.false_ne_true,hv];refine mW ?_;refine aI ?_;walk_at "vc0"
   refine⟨r,kr,.inr n,_,rfl,⟨er,.inl her⟩,rfl,hv,_,.inr (.inl ⟨_,bG.of htr,rfl⟩),?_⟩;rcases List.eq_nil_or_concat (aX y)with h0|⟨l',w,h0⟩
   .rw[h0];exact nM ⟨e9 (by decide),fun t1 h1=>⟨e9 (by decide),fun t2 h2=>q t2 _ none _ ((aF.upd h1).trans (aF.upd h2)) aC (.inr ⟨hn,.inl ⟨y,hy,en,by rw[h0];rfl⟩⟩)⟩⟩
   .rw[List.concat_eq_append]at h0;have hne:(!((aX y).map V.str).isEmpty)=true:=by rw[h0,map_append];cases l'.map V.str<;>rfl
    rw[hne];exact mW ⟨tr,rfl,_,bG.of htr,.str w,by rw[h0,map_append];exact IU,e9 (by decide),fun t1 h1=>⟨e9 (by decide),fun t2 h2=>q t2 _ (some w) _ ((aF.upd h1).trans (aF.upd h2)) aC (.inr ⟨hn,.inl ⟨y,hy,en,by rw[h0];simp⟩⟩)⟩⟩
theorem m9:aU ["ring","held","days","free","empty"] ["ring","held","days"] (aB cX):=⟨rfl,rfl,rfl,by decide+kernel,rfl,by decide+kernel,by decide+kernel⟩
set_option maxHeartbeats 4000000 in
theorem A4 (T:Txt K mg fs fds tc u):aV P w K mg base cJ 1 (fs 22) (fds 22) ["ring","held","days"] QX:=by
 refine T.tM.F.ok m9 (fun vs H Q E h=>?_) (fun cdv A outer s H vs Q E hr h=>?_)
 .obtain⟨a,hd,dy,R,hk,kd,S,rfl,ha,hl,hhd,hkl,hdy,hS,hSl,hfree,q⟩:=h;rfl
 .obtain⟨a,hd,dy,R,hk,kd,S,rfl,ha,hl,hhd,hkl,hdy,hS,hSl,hfree,q⟩:=h;refine⟨_,(aE (nL (i:=3) ["name","held"] 1 [1] ["ring","held","days","free","empty"] (aB cX) rfl rfl rfl m9.nd rfl rfl (iG K (pv 0)) (by decide+kernel) (fun _=>(aO (i:=0) (show(["name","held"]:List Str).Nodup by decide+kernel) rfl (Or.inl rfl))) (fun _=>(oA (bD (Mr.m8 hr) (pv 0) (pv 1) (by rfl)))) (fun _=>(pv 0)))
   (aE (nL (i:=4) ["name","days"] 1 [2] ["ring","held","days","free","empty"] (aB cX) rfl rfl rfl m9.nd rfl rfl (iG K (pv 3)) (by decide+kernel) (fun _=>(aO (i:=0) (show(["name","days"]:List Str).Nodup by decide+kernel) rfl (Or.inl rfl))) (fun _=>(oA (bD (Mr.m8 hr) (pv 0) (pv 1) (by rfl)))) (fun _=>(pv 0)))
   (aE (fR (gL (pv 4) (fun _=>rfl)) (aN (aY (bB (Mr.NP K hr) (by rfl) T.mK o9 (aA (pv 4) aD)))) cU)
   (aN (aY (aT (j8 K) (bB (Mr.NP K hr) (by rfl) T.mK o9 (aA (jM ["name","days"] 1 [2] ["ring","held","days","free","empty"] (aB cX) rfl rfl rfl (iG K (pv 3)) (by decide+kernel) (fun _=>(aO (i:=0) (show(["name","days"]:List Str).Nodup by decide+kernel) rfl (Or.inl rfl))) (fun _=>cC) (fun _=>(bE (aA (aT (Mr.yM hr) (pv 1) (pv 0) (fun _ _=>rfl)) (aA (pv 0) aD))))) aD)) aH (fun _ _=>rfl))))))),?_⟩
  obtain⟨eh,ehd⟩:=hhd;obtain⟨ed,edy⟩:=hdy;obtain⟨x0,hx0,hx1⟩:=hfree;refine aI ?_;walk_at "vc0"
  refine⟨_,rfl,a,rfl,⟨_,bJ.of ha⟩,fun l1 hl1=>g9 (bJ.of ha) (fun n=>!decide (n∈hk)) (fun _ n v=>v=V.str n) (fun σ=>∃o,σ=[o,some (.ref hd)]) ⟨_,rfl⟩ hl1 (gT (by omega)) (fun _ _ _ _ _ h=>h) ?_ ?_⟩
  .rintro n σ H1 ys N hn ⟨o,rfl⟩ s1 e1 hz hN1 hN2;unfold bV;walk_at "vc0";refine⟨hd,i5 hk,.inr n,rfl,⟨eh,.inl (s1 _ _ ehd)⟩,rfl,?_⟩;refine⟨_,rfl,?_⟩;rw[if_pos rfl,sC];cases e:(!decide (n∈hk))with
   |false=>exact nM (hN1 e _ ⟨_,rfl⟩)
   |true=>exact mW ⟨ys,e1,hz,hN2 e _ _ _ ⟨_,rfl⟩ (aF.refl _) rfl⟩
  .intro H1 ys s1 hpr e1;have ey:=mP hpr;subst ey;have hFl:=length_filter_le (fun n=>!decide (n∈hk)) R;have hFr:∀n∈R.filter (fun n=>!decide (n∈hk)),n∈R:=fun n h=>(mem_filter.mp h).1
   have hF0:x0∈R.filter (fun n=>!decide (n∈hk)):=mem_filter.mpr ⟨hx0,by simp[hx1]⟩;generalize R.filter (fun n=>!decide (n∈hk))=F at e1 hFl hFr hF0;refine aI ?_;walk_at "vc0"
   refine⟨_,rfl,l1,rfl,⟨_,bJ.of e1⟩,fun l2 hl2=>g9 (bJ.of e1) (fun n=>(bW kd (.inr n)).isNone) (fun _ n v=>v=V.str n) (fun σ=>∃o,σ=[o,some (.ref dy)]) ⟨_,rfl⟩ hl2 (gT (by omega)) (fun _ _ _ _ _ h=>h) ?_ ?_⟩
   .rintro n σ H2 ys N hn ⟨o,rfl⟩ s2 e2 hz hN1 hN2;unfold bV;walk_at "vc0";refine⟨dy,kd,.inr n,rfl,⟨ed,.inl (s2 _ _ (s1 _ _ edy))⟩,rfl,?_⟩;refine⟨_,rfl,?_⟩;rw[if_pos rfl];cases e:bW kd (.inr n)with
    |some v=>exact nM (hN1 (by rw[e];rfl) _ ⟨_,rfl⟩)
    |none=>exact mW ⟨ys,e2,hz,hN2 (by rw[e];rfl) _ _ _ ⟨_,rfl⟩ (aF.refl _) rfl⟩
   .intro H2 ys s2 hpr e2;have ey:=mP hpr;subst ey;have hEl:=length_filter_le (fun n=>(bW kd (.inr n)).isNone) F;have hEr:∀n∈F.filter (fun n=>(bW kd (.inr n)).isNone),n∈R:=fun n h=>hFr n (mem_filter.mp h).1
    have hE0:F.filter (fun n=>(bW kd (.inr n)).isNone)=[]->∀n∈F,∃v,bW kd (.inr n)=some v:=fun h n hn=>by
     cases e:bW kd (.inr n)with
     |some v=>exact⟨v,rfl⟩
     |none=>exact absurd e (by have:=List.filter_eq_nil_iff.mp h n hn;rw[e]at this;exact absurd rfl this)
    generalize F.filter (fun n=>(bW kd (.inr n)).isNone)=E at e2 hEl hEr hE0;refine aI ?_;walk_at "vc0"
    refine⟨_,.inl ⟨_,bJ.of e2,rfl⟩,?_⟩;cases E with
    |cons n0 E=>
     refine mW ?_;refine⟨l2,_,_,rfl,bJ.of e2,(vU (n0::E)).rep,by simp,FX (n0::E),?_⟩;have hle:=Mr.iI (Mr.BB ((n0::E).map Mr.PV.str)) (((n0::E).map Mr.PV.str).length - 1);generalize argBest (Mr.BB ((n0::E).map Mr.PV.str)) (((n0::E).map Mr.PV.str).length - 1)=j at hle⊢
     rw[length_map]at hle;have hjl:j<(n0::E).length:=by have:(n0::E).length=E.length+1:=rfl;omega
     rw[getD_eq_getElem?_getD,getElem?_map,getElem?_eq_getElem hjl];exact q _ H2 (s1.trans s2) (hEr _ (getElem_mem hjl))
    | nil=>
     refine nM ?_;have hv:=hE0 rfl;refine⟨_,rfl,l1,rfl,⟨_,bJ.of (s2 _ _ e1)⟩,fun l3 hl3=>g9 (bJ.of (s2 _ _ e1)) (fun _=>true) (fun H n v=>∃b d,v= .ref b/\H b=some (.tup [.int d,.str n])) (fun σ=>∃o,σ=[o,some (.ref dy)]) ⟨_,rfl⟩ hl3 (gT (by omega)) (fun _ _ _ _ k ⟨b,d,e,h⟩=>⟨b,d,e,k _ _ h⟩) ?_ ?_⟩
     .rintro n σ H3 ys N hn ⟨o,rfl⟩ s3 e3 hz hN1 hN2;obtain⟨v,hnv⟩:=hv n hn;rcases BE (n:=n) hS with⟨h0,_⟩|⟨y,hy,ey,hyv⟩
      .rw[h0]at hnv;cases hnv
      unfold bV;walk_at "vc2";refine⟨dy,kd,.inr n,_,rfl,⟨ed,.inl (s3 _ _ (s2 _ _ (s1 _ _ edy)))⟩,rfl,hyv,e9 (by decide),fun t ht=>⟨ys,aF.upd ht _ _ e3,hz,hN2 rfl _ _ _ ⟨_,rfl⟩ (aF.upd ht) ⟨t,y.d,rfl,aC⟩⟩⟩
     .intro H3 ys s3 hpr e3;rw[show F.filter (fun _=>true)=F from filter_eq_self.mpr (by simp)]at hpr;obtain⟨cs,hcs,htr⟩:=LR hpr;refine⟨l3,ys,_,rfl,bJ.of e3,htr.rep,?_,N1 cs,?_⟩
      .rw[length_map,<-length_map (f:=fun z:Int×Str=>z.2),hcs];exact length_pos_of_mem hF0
      have hcl:cs.length=F.length:=by rw[<-hcs,length_map]
      have hFp:0<F.length:=length_pos_of_mem hF0;have hyl:=hpr.length;have hle:=Mr.iI (Mr.BB (cs.map OK)) ((cs.map OK).length - 1);generalize argBest (Mr.BB (cs.map OK)) ((cs.map OK).length - 1)=j at hle⊢
      rw[length_map]at hle;have hjl:j<ys.length:=by omega
      have huj:ys[j]? =some ys[j]:=getElem?_eq_getElem hjl;obtain⟨n,hnj,b,d,eb,hb⟩:=L2.Paired.iP hpr huj;rw[getD_eq_getElem?_getD,huj,eb];exact⟨b,rfl,_,bG.of hb,_,cB (j:=1) rfl,q n H3 ((s1.trans s2).trans s3) (hFr n (mem_of_getElem? hnj))⟩
theorem mM:aU ["ring","name","at"] ["ring","name"] (aB cM):=⟨rfl,rfl,rfl,by decide+kernel,rfl,by decide+kernel,by decide+kernel⟩
set_option maxHeartbeats 4000000 in
theorem sN (T:Txt K mg fs fds tc u):aV P w K mg base cJ 1 (fs 23) (fds 23) ["ring","name"] QK:=by
 refine T.n4.F.ok mM (fun vs H Q E h=>?_) (fun cdv A outer s H vs Q E hr h=>?_)
 .obtain⟨a,R,c,rfl,ha,hc,hl,q⟩:=h;rfl
 .obtain⟨a,R,c,rfl,ha,hc,hl,q⟩:=h;refine⟨_,(aE (aP (i:=2) mM.nd rfl (Or.inl rfl) (eF K plainAttrs_list slot_list_index PySem.F.type_list_index (sZ K) (pv 0) (aA (pv 1) aD)))
   (aN (aY (cF (oN K) (by rfl) T.cT dG (aA (bI L4 (cK (M0 K) (pv 0) (cZ (pv 2)) dU) (cK (M0 K) (pv 0) dU (cZ (pv 2)))) aD))))),?_⟩
  obtain⟨pp,rr,el,hn⟩:=My.FP hc;refine aI ?_;walk_at "vc0"
  refine⟨.inl ⟨_,bJ.of ha⟩,a,R,c,rfl,rfl,bJ.of ha,hc,by omega,_,rfl,_,bJ.of ha,fun p hp=>?_⟩;rw[BP el hn];have e0:upd H p (.lst ((c::rr).map V.str)) p=some (.lst ((c::rr).map V.str)):=aC;have s0:=aF.upd (o:=.lst ((c::rr).map V.str)) hp;generalize upd H p (.lst ((c::rr).map V.str))=H1 at e0 s0⊢
  refine⟨_,rfl,_,bJ.of (s0 _ _ ha),fun p1 hp1=>?_⟩;rw[show i4 (R.map V.str) none (some ((R.idxOf c:Nat):Int))=(R.take (R.idxOf c)).map V.str by rw[HR,map_take]];have htl:(R.take (R.idxOf c)).length<=R.length:=by rw[length_take];omega
  have hRl:R.length=pp.length+(rr.length+1):=by rw[el];simp
  have hix:R.idxOf c=pp.length:=by rw[el,List.idxOf_append,if_neg hn,List.idxOf_cons_self,zero_add]
  have e1:=aF.upd (o:=.lst ((R.take (R.idxOf c)).map V.str)) hp1;refine⟨_,e1 _ _ e0,_,aC,e9 (by simp;omega),fun p2 hp2=>⟨(c::rr).map V.str++(R.take (R.idxOf c)).map V.str,bJ.of aC,fun l hl=>?_⟩⟩;have e3:=((s0.trans e1).trans (aF.upd (o:=.lst ((c::rr).map V.str++(R.take (R.idxOf c)).map V.str)) hp2)).trans (aF.upd (o:=.tup ((c::rr).map V.str++(R.take (R.idxOf c)).map V.str)) hl);refine q l (rr++R.take (R.idxOf c)) _ e3 ?_ ?_
  .rw[aC,<-map_append];rfl
  .rw[hix,el];simp;omega
theorem iR:aU ["_law_script","_law_k","_law_cell","_law_great"] ["_law_script","_law_k"] (aB dY):=⟨rfl,rfl,rfl,by decide+kernel,rfl,by decide+kernel,by decide+kernel⟩
set_option maxHeartbeats 4000000 in
theorem xZ (T:Txt K mg fs fds tc u):aV P w K mg base cJ 1 (fs 32) (fds 32) ["_law_script","_law_k"] (OS K):=by
 refine T.rO.F.ok iR (fun vs H Q E h=>?_) (fun cdv A outer s H vs Q E hr h=>?_)
 .obtain⟨a,ns,k,rfl,hS,hk0,hk,q⟩:=h;rfl
 .obtain ⟨a,ns,k,rfl,hS,hk0,hk,q⟩:=h;refine⟨_,(aE (aP (i:=2) iR.nd rfl (Or.inl rfl) aH)
   (aE (fR (bD O8 (pv 1) (bB (NL K) (by rfl) T.jA j5 (aA (pv 0) aD)) (cL _)) (aN (aP (i:=2) iR.nd rfl (Or.inl rfl) (aT (wY K) (pv 0) (pv 1) (fun _ _=>rfl)))) cU)
   (aE (aP (i:=3) iR.nd rfl (Or.inl rfl) (bI kR (bI lE (pv 2) (bI IW (bI vJ aH aH) (bI vJ aH aH))) (cF DB (by rfl) T.yT MF (aA (lV PQ (pv 2) (bI vJ aH aH) (cL _)) aD))))
   (aN (aY (gR (aA (pv 3) (aA (bI lE (bI fY (bI fY (bI lE (pv 2) aH) (bI kR aH (pv 1))) aH) aH) (aA aH aD))))))))),?_⟩
  have fin:∀c:Int,CI
     (mD
      (mT (rI C2 fun i j=>V.int (i*j))
       (mT (rI (fun x j=>0<j) fun i j=>V.int (i % j)) (eG 2)
        (mT (rI IntMulOk fun i j=>V.int (i*j))
         (mT (rI (fun i j=>0<=j/\↑(Builtin.Int.intBits i)*j<=2^27) fun i j=>V.int (i^j.toNat)) (tC (V.int 10)) (tC (V.int 60)))
         (mT (rI (fun i j=>0<=j/\↑(Builtin.Int.intBits i)*j<=2^27) fun i j=>V.int (i^j.toNat)) (tC (V.int 10)) (tC (V.int 30)))))
       (ID (fun xs H Q=>(∃i,xs=[V.int i]/\Q (V.int i) H)\/ ∃k,xs=[V.bl k]/\Q (V.int (if k=true then 1 else 0)) H)
        (jK (mT (y6 fun i j=>V.bl (decide (j<=i))) (eG 2) (mT (rI (fun i j=>0<=j/\↑(Builtin.Int.intBits i)*j<=2^27) fun i j=>V.int (i^j.toNat)) (tC (V.int 10)) (tC (V.int 18)))) rQ)))
      (gN 3))
     (vX
      (wW
       (jK (eG 3)
        (jK
         (mT (rI (fun x j=>0<j) fun i j=>V.int (i % j))
          (mT (y6 fun i j=>V.int (i+j))
           (mT (y6 fun i j=>V.int (i+j)) (mT (rI (fun x j=>0<j) fun i j=>V.int (i % j)) (eG 2) (tC (V.int 2305843009213693951))) (mT (rI C2 fun i j=>V.int (i*j)) (tC (V.int 7919)) (eG 1)))
           (tC (V.int 3)))
          (tC (V.int 2305843009213693951)))
         (jK (tC (V.int 0)) rQ)))))
     {nx:=fun x H'=>Q V.aZ H',rt:=Q} [some (.ref a),some (.int k),some (.int c),none] H:=fun c=>by
   refine aI ?_;walk_at "vc0"
   refine⟨by decide,by decide+kernel,by decide,by decide+kernel,PC,K7,by decide,by decide+kernel,HX,by decide,.inl ⟨by decide,by decide⟩,by decide,by decide,fun p hp=>q p _ hp ⟨_,_,_,aC,Int.mul_nonneg (emod_nonneg _ (Int.ne_of_gt K7)) QW,emod_nonneg _ (by decide),Int.emod_lt_of_pos _ (by decide),by decide,by decide⟩ (aF.upd hp)⟩
  refine aI ?_;walk_at "vc0"
  refine aI ?_;walk_at "vc0"
  refine⟨_,hS,?_⟩;refine QT (fun hlt=>?_) (fun _=>fin 0);obtain⟨c,hc⟩:=G7 hk0 (by simpa using hlt);exact⟨_,hS,_,hc,fin c⟩
theorem gJ:aU ["_law_hand_here","_law_many","_law_digit","_law_mixed"] ["_law_hand_here","_law_many"] (aB dZ):=⟨rfl,rfl,rfl,by decide+kernel,rfl,by decide+kernel,by decide+kernel⟩
set_option maxHeartbeats 4000000 in
theorem xR (T:Txt K mg fs fds tc u):aV P w K mg base cJ 1 (fs 33) (fds 33) ["_law_hand_here","_law_many"] CJ:=by
 refine T.bK.F.ok gJ (fun vs H Q E h=>?_) (fun cdv A outer s H vs Q E hr h=>?_)
 .obtain⟨p,n,c,rfl,hp,hc,hn0,hn,q⟩:=h;rfl
 .obtain⟨p,n,c,rfl,hp,hc,hn0,hn,q⟩:=h;refine⟨_,(aE (fR (bD LP (aT (wY K) (pv 0) aH (fun _ _=>rfl)) aH (cL _)) (aE (aP (i:=2) gJ.nd rfl (Or.inl rfl) (bI lE (aT (wY K) (pv 0) aH (fun _ _=>rfl)) (pv 1)))
   (aE (oE (bI rE (aT (wY K) (pv 0) aH (fun _ _=>rfl)) (pv 1)) (FT (pv 0) aH set_list))
   (aN (aY (pv 2))))) cU)
   (aE (oE (bI fY (aT (wY K) (pv 0) aH (fun _ _=>rfl)) aH) (FT (pv 0) aH set_list))
   (aE (aP (i:=3) gJ.nd rfl (Or.inl rfl) (bI fY (bI fY (aT (wY K) (pv 0) aH (fun _ _=>rfl)) (bI kR (bI kR aH (aT (wY K) (pv 0) aH (fun _ _=>rfl))) (aT (wY K) (pv 0) aH (fun _ _=>rfl)))) aH))
   (aE (aP (i:=3) gJ.nd rfl (Or.inl rfl) (bI lE (bI kR (pv 3) (bI fY aH (bI kR aH (aT (wY K) (pv 0) aH (fun _ _=>rfl))))) aH))
   (aE (aP (i:=3) gJ.nd rfl (Or.inl rfl) (bI lE (bI kR (pv 3) (bI fY (bI lE (pv 3) aH) (bI kR aH (aT (wY K) (pv 0) aH (fun _ _=>rfl))))) aH))
   (aN (aY (bI lE (bI fY (bI rE (pv 3) aH) (bI rE (pv 3) aH)) (pv 1))))))))),?_⟩
  obtain⟨a,b,i,he,ha,hb0,hb,hi0,hi⟩:=hp;refine aI ?_;walk_at "vc0"
  refine⟨_,bJ.of he,_,rfl,_,rfl,?_⟩;refine QT (fun _=>?_) (fun _=>?_)
  .refine aI ?_;walk_at "vc0"
   refine⟨_,bJ.of he,_,rfl,_,rfl,hn0,?_⟩;refine aI ?_;walk_at "vc0"
   refine⟨_,bJ.of he,_,rfl,_,rfl,⟨hn0,Int.lt_trans hn (by decide)⟩,_,he,_,rfl,?_⟩;exact q _ _ (emod_nonneg _ (by omega)) (Int.emod_lt_of_pos _ hn0) ⟨_,_,_,aC,Int.ediv_nonneg ha (by omega),hb0,hb,hi0,by omega⟩ fQ.upd
  .refine aI ?_;walk_at "vc0"
   refine⟨_,bJ.of he,_,rfl,_,rfl,_,he,_,rfl,?_⟩;have hu:upd H p (HO.lst ([V.int a,V.int b,V.int i].set (Int.toNat 2) (V.int (i+1)))) p=some (.lst [.int a,.int b,.int (i+1)]):=aC;refine aI ?_;walk_at "vc0"
   refine⟨_,bJ.of hu,_,rfl,_,bJ.of hu,_,rfl,_,rfl,.inr ⟨by omega,by omega⟩,_,bJ.of hu,_,rfl,_,rfl,.inr ⟨by omega,by omega⟩,_,rfl,?_⟩;generalize b+65537*(i+1)*(i+1)+11=O;refine aI ?_;walk_at "vc0"
   refine⟨_,bJ.of hu,_,rfl,_,rfl,.inl ⟨by decide,by decide⟩,.inr ⟨by omega,by omega⟩,by decide,?_⟩;have o0:0<=O*(48271+2*(i+1)) % 2305843009213693921:=emod_nonneg _ (by decide);have o1:O*(48271+2*(i+1)) % 2305843009213693921<2305843009213693921:=Int.emod_lt_of_pos _ (by decide);generalize O*(48271+2*(i+1)) % 2305843009213693921=O2 at o0 o1;refine aI ?_;walk_at "vc0"
   refine⟨by decide,_,bJ.of hu,_,rfl,_,rfl,.inl ⟨by decide,by decide⟩,.inl ⟨by omega,by omega⟩,by decide,?_⟩;refine⟨⟨by decide,by decide⟩,⟨by decide,by decide⟩,hn0,?_⟩;exact q _ _ (emod_nonneg _ (by omega)) (Int.emod_lt_of_pos _ hn0) ⟨_,_,_,hu,ha,hb0,hb,by omega,by omega⟩ fQ.upd
theorem zS:aU ["pack"] ["pack"] (aB eB):=⟨rfl,rfl,rfl,by decide+kernel,rfl,by decide+kernel,by decide+kernel⟩
set_option maxHeartbeats 4000000 in
theorem AM (T:Txt K mg fs fds tc u) (G_standing:aV P w K mg base cJ 1 (fs 1) (fds 1) ["pack"] iU):aV P w K mg base cJ 2 (fs 2) (fds 2) ["pack"] GC:=by
 refine T.tH.F.ok zS (fun vs H Q E h=>?_) (fun cdv A outer s H vs Q E hr h=>?_)
 .obtain⟨v,xs,rfl,hP,q⟩:=h;rfl
 .obtain⟨v,xs,rfl,hP,q⟩:=h;refine⟨_,(aN (aY (pG ["letter"] 1 [] ["pack"] (aB eB) rfl rfl rfl (cW K (aW T.eO G_standing hr (by decide) rfl (aA (pv 0) aD))) (by decide+kernel) (fun _=>(aO (i:=0) (show(["letter"]:List Str).Nodup by decide+kernel) rfl (Or.inl rfl))) (fun _=>cC) (fun _=>(aT (j8 K) (pv 0) aH (fun _ _=>rfl))) (fun _=>(aT (j8 K) (pv 0) aH (fun _ _=>rfl)))))),?_⟩;obtain⟨a,us,rfl,ha,hp,h1000⟩:=hP;walk_at "vc0";refine⟨_,rfl,.ref a,xs,rfl,⟨a,us,rfl,ha,hp,h1000⟩,fun b ws H1 s1 hb hws=>⟨b,rfl,⟨ws,bG.of hb⟩,fun l hl0=>kP (P:=fun H x u=>sI H u x) (bG.of hb) hws (fun x=>x.n) (fun _ x v=>v=V.int x.d) (fun σ=>∃o,σ=[o]) ⟨_,rfl⟩ hl0 (gT (by have:=eP xs;omega)) (lU xs) (fun _ _ _ _ _ h=>h) ?_ (fun H2 kvs s2 hk pr=>q l kvs H2 (s1.trans s2) hk pr)⟩⟩;rintro x u σ H2 kvs N hx hL ⟨o,rfl⟩ s2 hk hz hN;obtain⟨t,r,rfl,ht,hr⟩:=(hL.kp s2.kt).at';unfold jC;walk_at "vc2";exact⟨_,bG.of ht,_,sU,_,bG.of ht,_,cB (j:=1) rfl,kvs,hk,.inr x.n,rfl,hz,fun ep=>hN _ _ _ ep ⟨_,rfl⟩ (aF.refl _) rfl⟩
theorem eV:aU ["text","word","count","mark","left"] ["text","word"] (aB bT):=⟨rfl,rfl,rfl,by decide+kernel,rfl,by decide+kernel,by decide+kernel⟩
set_option maxHeartbeats 4000000 in
theorem o4 (T:Txt K mg fs fds tc u) (G_is_count:aV P w K mg base cJ 1 (fs 8) (fds 8) ["text"] LM):aV P w K mg base cJ 2 (fs 9) (fds 9) ["text","word"] tJ:=by
 refine T.kG.F.ok eV (fun vs H Q E h=>?_) (fun cdv A outer s H vs Q E hr h=>?_)
 .obtain⟨s,y,rfl,hs,hy,q⟩:=h;rfl
 .obtain⟨s,y,rfl,hs,hy,q⟩:=h;refine⟨_,(aE (fR (gL (eF K plainAttrs_str slot_str_startswith type_str_startswith Mr.i7 (pv 0) (aA (bI eR (pv 1) bP) aD)) (fun _=>rfl)) (aN (aY (cK oM (pv 0) (cZ (bI fY (bB gA (by rfl) T.jA j5 (aA (pv 1) aD)) aH)) dU))) cU)
   (aE (fR (z7 (gL (eF K plainAttrs_str slot_str_startswith type_str_startswith Mr.i7 (pv 0) (aA (bI eR (pv 1) bP) aD)) (fun _=>rfl))) (aN (aY d9)) cU)
   (aE (oE (eF K plainAttrs_str PySem.F.slot_str_partition PySem.F.type_str_partition Mr.u5 (cK oM (pv 0) (cZ (bI fY (bB gA (by rfl) T.jA j5 (aA (pv 1) aD)) aH)) dU) (aA bP aD)) (dH (n:=3) K rfl (aS (aO (i:=2) eV.nd rfl (Or.inl rfl)) (aS (aO (i:=3) eV.nd rfl (Or.inl rfl)) (aS (aO (i:=4) eV.nd rfl (Or.inl rfl)) dD)))))
   (aE (fR (PW.pt (QA (bD tS (pv 3) bP (cL _)) (NR (z7 (GB (aW T.q0 G_is_count hr (by decide) rfl (aA (pv 2) aD))))))) (aN (aY d9)) cU)
   (aN (aY (pv 4))))))),?_⟩
  have c1:(Str.ofString ":").length=1:=by decide+kernel
  have c2:(Str.ofString "[").length=1:=by decide+kernel
  have c3:((Str.ofString "]:").length==0)=false:=by decide+kernel
  have ef:(Txt.slice s (some ((y.length:Int)+1)) none).length=s.length - (y.length+1):=len_from s (y.length+1);refine aI ?_;walk_at "vc0"
  refine⟨e9 (by omega),_,_,rfl,rfl,_,rfl,qH (fun h1=>?_) (fun h1=>?_)⟩
  .have h2:=m7 h1;rw[Str.length_append]at h2;exact⟨e9 (by omega),e9 (by omega),q (some _) H (aF.refl _) fun l e=>by cases e;omega⟩
  .refine aI ?_;walk_at "vc0"
   refine⟨e9 (by omega),_,_,rfl,rfl,_,rfl,?_⟩;refine qH (fun _=>q none H (aF.refl _) fun l e=>by cases e) (fun h3=>?_);have h4:Txt.startswith s (y++Str.ofString "[")=true:=by simpa using h3
   have h5:=m7 h4;rw[Str.length_append]at h5;have hp:=GU (Txt.slice s (some ((y.length:Int)+1)) none) (Str.ofString "]:");refine aI ?_;walk_at "vc0"
   refine⟨e9 (by omega),e9 (by omega),c3,e9 (by omega),fun p hp0=>?_⟩;have s1:=aF.upd (o:=.tup [.str (Txt.partition (Txt.slice s (some ((y.length:Int)+1)) none) (Str.ofString "]:")).1,.str (Txt.partition (Txt.slice s (some ((y.length:Int)+1)) none) (Str.ofString "]:")).2.1,.str (Txt.partition (Txt.slice s (some ((y.length:Int)+1)) none) (Str.ofString "]:")).2.2]) hp0;refine⟨_,bG.of aC,rfl,_,_,rfl,_,_,rfl,_,_,rfl,rfl,?_⟩;generalize upd H p _=H1 at s1⊢
   generalize Txt.partition (Txt.slice s (some ((y.length:Int)+1)) none) (Str.ofString "]:")=P3 at hp⊢
   have fin:Q (.str P3.2.2) H1:=q (some _) H1 s1 fun l e=>by cases e;omega
   have fin0:∀H2,aF H1 H2->Q .aZ H2:=fun H2 s2=>q none H2 (s1.trans s2) fun l e=>by cases e
   refine aI ?_;walk_at "vc0"
   refine⟨rfl,qH (fun _=>fin0 H1 (aF.refl _)) fun _=>⟨_,rfl,by omega,fun b H2 s2=>⟨_,rfl,qH (fun _=>fin0 H2 s2) fun _=>q (some _) H2 (s1.trans s2) fun l e=>by cases e;omega⟩⟩⟩
theorem AW:aU ["pack"] ["pack"] (aB eD):=⟨rfl,rfl,rfl,by decide+kernel,rfl,by decide+kernel,by decide+kernel⟩
set_option maxHeartbeats 4000000 in
theorem AN (T:Txt K mg fs fds tc u) (G_elders:aV P w K mg base cJ 1 (fs 0) (fds 0) ["letter"] u6) (G_standing:aV P w K mg base cJ 1 (fs 1) (fds 1) ["pack"] iU):aV P w K mg base cJ 2 (fs 17) (fds 17) ["pack"] BR:=by
 refine T.uD.F.ok AW (fun vs H Q E h=>?_) (fun cdv A outer s H vs Q E hr h=>?_)
 .obtain⟨v,xs,rfl,hP,q⟩:=h;rfl
 .obtain⟨v,xs,rfl,hP,q⟩:=h;refine⟨_,(aN (aY (pG ["letter"] 1 [] ["pack"] (aB eD) rfl rfl rfl (cW K (aW T.eO G_standing hr (by decide) rfl (aA (pv 0) aD))) (by decide+kernel) (fun _=>(aO (i:=0) (show(["letter"]:List Str).Nodup by decide+kernel) rfl (Or.inl rfl))) (fun _=>cC) (fun _=>(aT (j8 K) (pv 0) aH (fun _ _=>rfl))) (fun _=>(aW T.nN G_elders hr (by decide) rfl (aA (pv 0) aD)))))),?_⟩;obtain⟨a,us,rfl,ha,hp,h1000⟩:=hP;walk_at "vc0";refine⟨_,rfl,.ref a,xs,rfl,⟨a,us,rfl,ha,hp,h1000⟩,fun b ws H1 s1 hb hws=>⟨b,rfl,⟨ws,bG.of hb⟩,fun l hl0=>kP (P:=fun H x u=>sI H u x) (bG.of hb) hws (fun x=>x.n) (fun H x v=>∃t,v= .ref t/\H t=some (.tup ((aX x).map V.str))) (fun σ=>∃o,σ=[o]) ⟨_,rfl⟩ hl0 (gT (by have:=eP xs;omega)) (lU xs) (fun _ _ _ _ k ⟨t,e,h⟩=>⟨t,e,k _ _ h⟩) ?_ (fun H2 kvs s2 hk pr=>q l kvs H2 (s1.trans s2) hk pr)⟩⟩;rintro x u σ H2 kvs N hx hL ⟨o,rfl⟩ s2 hk hz hN;have hL2:=hL.kp s2.kt;obtain⟨t,r,rfl,ht,hr⟩:=hL2.at';unfold jC;walk_at "vc2";exact⟨_,bG.of ht,_,sU,_,x,rfl,hL2,fun t2 H3 s3 ht3=>⟨kvs,bY hk s3,.inr x.n,rfl,hz,fun ep=>hN _ _ _ ep ⟨_,rfl⟩ s3 ⟨t2,rfl,ht3⟩⟩⟩
theorem fV:aU ["pack","found","letter","at","name"] ["pack"] (aB dF):=⟨rfl,rfl,rfl,by decide+kernel,rfl,by decide+kernel,by decide+kernel⟩
set_option maxHeartbeats 4000000 in
theorem vY (T:Txt K mg fs fds tc u) (G_standing:aV P w K mg base cJ 1 (fs 1) (fds 1) ["pack"] iU) (G_elders:aV P w K mg base cJ 1 (fs 0) (fds 0) ["letter"] u6):aV P w K mg base cJ 2 (fs 18) (fds 18) ["pack"] LI:=by
 refine T.p4.F.ok fV (fun vs H Q E h=>?_) (fun cdv A outer s H vs Q E hr h=>?_)
 .obtain⟨v,xs,rfl,hP,mX,q⟩:=h;rfl
 .obtain⟨v,xs,rfl,hP,mX,q⟩:=h;refine⟨_,(aE (aP (i:=1) fV.nd rfl (Or.inl rfl) fF)
   (aE (dP PassesOwn.never rfl (cW K (aW T.eO G_standing hr (by decide) rfl (aA (pv 0) aD))) (aO (i:=2) fV.nd rfl (Or.inl rfl)) (aN (dP PassesOwn.never rfl (wD K rfl T.eQ (aA (aW T.nN G_elders hr (by decide) rfl (aA (pv 2) aD)) aD)) (dH (n:=2) K rfl (aS (aO (i:=3) fV.nd rfl (Or.inl rfl)) (aS (aO (i:=4) fV.nd rfl (Or.inl rfl)) dD))) (aN (fR (bD LP (pv 3) aH (cL _)) (aN (iV (eF K plainAttrs_list PySem.F.slot_list_append PySem.F.type_list_append eY (qV (pv 1) (pv 4) (gR aD) ⟨rfl,by rfl,rfl,rfl⟩) (aA (bE (aA (aT (j8 K) (pv 2) aH (fun _ _=>rfl)) (aA (aT (j8 K) (pv 2) aH (fun _ _=>rfl)) (aA (pv 3) aD)))) aD)))) cU)))))
   (aN (aY (pv 1))))),?_⟩
  have h1000:=hP;refine aI ?_;walk_at "vc0"
  refine fun p hp=>?_
  have I0:=nG.nil (cR:=lO) hp;refine aI ⟨_,rfl,v,xs,rfl,hP.kt I0.s.kt,fun b ws H1 s1 hb hws=>⟨b,rfl,⟨ws,bG.of hb⟩,gZ (K:=K) (a:=b) (xs:=ws) (fun i σ H'=>(∃kvs C,nG lO H H' p kvs C/\(∀n c,(∃z∈C,z.1=n/\c∈z.2)↔∃y∈(aQ xs).take i,c.1=y.d/\c.2.1=y.n/\0<c.2.2/\(aX y)[c.2.2]? =some n)/\(∀z∈C,z.2.length<=9*i)/\C.length<=9*i)/\eK H1 H'/\∃v2 v3 v4,σ=[some v,some (.ref p),v2,v3,v4]) ⟨⟨[],[],qT I0 s1,fun n c=>⟨(fun⟨_,h,_⟩=>nomatch h),fun⟨_,h,_⟩=>nomatch h⟩,(fun _ h=>nomatch h),le_refl _⟩,(fun _ _ h=>h),_,_,_,rfl⟩ (fun i σ H' _ ⟨_,k,_⟩=>bG.of (k _ _ hb)) ?_ ?_⟩⟩
  .rintro i u σ H2 hu ⟨⟨kvs,C,I,hsem,hlen,hCl⟩,kt,v2,v3,v4,rfl⟩;obtain⟨y,hy,hL⟩:=L2.Paired.iP hws hu;have hL2:=hL.kp kt;obtain⟨t,r,rfl,ht,hr⟩:=hL2.at';have hil:i<(aQ xs).length:=(List.getElem?_eq_some_iff.mp hy).1;have hSl:=eP xs;have her:=AO y;have hrl:=hL2.ok.lr;walk_at "vc0";refine⟨_,rfl,_,y,rfl,hL2,fun te H3 s3 hte=>.inl ⟨te,_,rfl,bG.of hte,?_⟩⟩;have I3:=qT I s3;have kt3:=kt.trans s3.kt;have hL3:=hL2.kp s3.kt;have ht3:=s3 _ _ ht;refine uO (fun j σ H'=>(∃kvs C,nG lO H H' p kvs C/\(∀n c,(∃z∈C,z.1=n/\c∈z.2)↔(∃y∈(aQ xs).take i,c.1=y.d/\c.2.1=y.n/\0<c.2.2/\(aX y)[c.2.2]? =some n)\/ (c.1=y.d/\c.2.1=y.n/\0<c.2.2/\(aX y)[c.2.2]? =some n/\c.2.2<j))/\(∀z∈C,z.2.length<=9*i+j)/\C.length<=9*i+j)/\eK H3 H'/\∃v3 v4,σ=[some v,some (.ref p),some (.ref t),v3,v4]) ⟨⟨kvs,C,I3,fun n c=>?_,hlen,hCl⟩,(fun _ _ h=>h),_,_,rfl⟩ (fun j σ H' _ ⟨_,k,_⟩=>bG.of (k _ _ hte)) ?_ ?_
   .rw[hsem];exact⟨.inl,fun h=>h.elim id fun h=>absurd h.2.2.2.2 (Nat.not_lt_zero _)⟩
   .rintro j u t2 σ H4 huj ht2 ⟨⟨kvs4,C4,I4,sem4,len4,hCl4⟩,kt4,v3',v4',rfl⟩;obtain⟨e,he,rfl⟩:=strAt huj;have hjl:=(List.getElem?_eq_some_iff.mp he).1;have s5:=aF.upd (o:=.tup [.int j,.str e]) ht2;have I5:=qT I4 s5;have et2:upd H4 t2 (.tup [.int j,.str e]) t2=some (.tup [.int j,.str e]):=aC;have kt5:=kt4.trans s5.kt;generalize upd H4 t2 (.tup [.int j,.str e])=H5 at I5 et2 kt5⊢
    have ht5:=kt5 _ _ ht3;walk_at "vc0";refine⟨_,bG.of et2,rfl,_,_,rfl,_,_,rfl,rfl,?_⟩;walk_at "vc0";refine OU (fun hj=>?_) (fun hj=>?_)
    .have hj0:0<j:=by omega
     obtain⟨ed,hd5⟩:=id I5.d;have hkc:kvs4.length=C4.length:=I5.pr.length.symm;have aL:=x4 (n:=e) (c:=(y.d,y.n,j)) len4 hCl4;have hp0:H p=none:=hp;walk_at "vc4";refine⟨.inl ⟨kvs4,ed,.inl hd5⟩,zero_le _,fun l0 hl0=>?_⟩;have s6:=aF.upd (o:=.lst []) hl0;have I6:=qT I5 s6;have e60:upd H5 l0 (.lst []) l0=some (.lst []):=aC;have hd6:=s6 _ _ hd5;refine⟨kvs4,⟨ed,hd6⟩,.inr e,rfl,gT (by omega),fun lv hv=>?_,fun ep hv=>?_⟩
     .rcases zN.val (n:=e) I6.pr with⟨h0,_⟩|⟨z,hz,ez,kv,hkv,ek,hv2,l,us,el,hl,hcs⟩
      .rw[h0]at hv;cases hv
      rw[hv2]at hv;cases hv;rw[el];have ht6:=s6 _ _ ht5;refine⟨.inl ⟨us,bJ.of hl⟩,_,bG.of ht6,_,cB (j:=1) rfl,_,bG.of ht6,_,sU,e9 (by decide),fun b hb=>?_⟩;have s7:=aF.upd (o:=.tup [.int y.d,.str y.n,.int j]) hb;have I7:=qT I6 s7;have hul:us.length<=9*i+j:=by rw[<-hcs.length];exact len4 z hz
      have I8:=nG.old (cR:=lO) (fun k h=>lO.kt k h) I7 (c:=(y.d,y.n,j)) (b:=b) hz hkv (by rw[ek,ez]) el (s7 _ _ hl) ⟨b,rfl,aC⟩;rw[ez]at I8;refine⟨l,rfl,us,s7 _ _ hl,gT (by omega),⟨kvs4,_,I8,fun n c=>?_,aL.1,aL.2⟩,((kt5.trans s6.kt).trans s7.kt).trans (eK.upd (s7 _ _ hl)),_,rfl⟩;rw[qS,sem4,BD hj0 he]
     .rcases zN.val (n:=e) I6.pr with⟨h0,hn⟩|⟨z,hz,ez,kv,hkv,ek,hv2,_⟩
      rotate_left
      .rw[hv2]at hv;cases hv
      have hlp:l0≠p:=(aG hd5 hl0).symm;have hA:∀a o,H5 a=some o->a≠p->upd (upd H5 l0 (.lst [])) p (.dK (putK kvs4 (.inr e) (.ref l0)) ep) a=some o:=fun a o h ha=>by rw[aM ha,aM (aG h hl0)];exact h
      have htp:t≠p:=fun z=>by rw[z,hd5]at ht5;cases ht5
      have htA:=hA _ _ ht5 htp;have hlA:upd (upd H5 l0 (.lst [])) p (.dK (putK kvs4 (.inr e) (.ref l0)) ep) l0=some (.lst []):=by rw[aM hlp];exact aC
      have hpA:upd (upd H5 l0 (.lst [])) p (.dK (putK kvs4 (.inr e) (.ref l0)) ep) p=some (.dK (putK kvs4 (.inr e) (.ref l0)) ep):=aC;have ktA:eK H5 (upd (upd H5 l0 (.lst [])) p (.dK (putK kvs4 (.inr e) (.ref l0)) ep)):=fun a us h=>hA a _ h fun z=>by rw[z,hd5]at h;cases h
      generalize upd (upd H5 l0 (.lst [])) p (.dK (putK kvs4 (.inr e) (.ref l0)) ep)=HA at*;refine⟨.inl ⟨[],bJ.of hlA⟩,_,bG.of htA,_,cB (j:=1) rfl,_,bG.of htA,_,sU,e9 (by decide),fun b hb=>?_⟩;have s7:=aF.upd (o:=.tup [.int y.d,.str y.n,.int j]) hb;have I8:=nG.new (cR:=lO) (fun k h=>lO.kt k h) I5 (c:=(y.d,y.n,j)) (b:=b) hp0 hn hv hl0 (fun a o h ha=>s7 _ _ (hA a o h ha)) (s7 _ _ hpA) (s7 _ _ hlA) ⟨b,rfl,aC⟩;refine⟨[],s7 _ _ hlA,gT (by simp),⟨_,_,I8,fun n c=>?_,aL.1,aL.2⟩,((kt5.trans ktA).trans s7.kt).trans (eK.upd (s7 _ _ hlA)),_,rfl⟩;rw[qS,sem4,BD hj0 he]
    .have j0:j=0:=by omega
     subst j0;refine⟨⟨kvs4,C4,I5,fun n c=>?_,fun z hz=>by have:=len4 z hz;omega,by omega⟩,kt5,_,rfl⟩;rw[sem4];exact or_congr Iff.rfl ⟨fun h=>absurd h.2.2.2.2 (Nat.not_lt_zero _),fun h=>by have:=h.2.2.1;have:=h.2.2.2.2;omega⟩
   .rintro σ H4 ⟨⟨kvs4,C4,I4,sem4,len4,hCl4⟩,kt4,v3',v4',rfl⟩;rw[length_map]at len4 sem4 hCl4;refine⟨⟨kvs4,C4,I4,fun n c=>?_,fun z hz=>by have:=len4 z hz;omega,by omega⟩,kt3.trans kt4,_,_,_,rfl⟩;rw[sem4,take_snoc hy];constructor
    .rintro(⟨y',h1,h2⟩|⟨h1,h2,h3,h4,_⟩)
     .exact⟨y',mem_append_left _ h1,h2⟩
     .exact⟨y,mem_append_right _ (by simp),h1,h2,h3,h4⟩
    .rintro⟨y',h1,h2⟩;rcases mem_append.mp h1 with h|h
     .exact .inl ⟨y',h,h2⟩
     .rw[mem_singleton.mp h]at h2;exact .inr ⟨h2.1,h2.2.1,h2.2.2.1,h2.2.2.2,(List.getElem?_eq_some_iff.mp h2.2.2.2).1⟩
  .rintro σ H2 ⟨⟨kvs,C,I,hsem,hlen,hCl⟩,kt,v2,v3,v4,rfl⟩;rw[<-hws.length]at hlen hCl;rw[<-hws.length,take_length]at hsem;have hSl:=eP xs;walk_at "vc0";exact q p kvs C H2 I.s I.d I.pr ⟨I.nd,I.ne,fun z hz c hc=>(hsem z.1 c).mp ⟨z,hz,rfl,hc⟩,fun n c h=>(hsem n c).mpr h⟩ fun z hz=>le_trans (hlen z hz) (by omega)
theorem g8:aU ["pack","marks","known","letter","name","elder"] ["pack","marks"] (aB fW):=⟨rfl,rfl,rfl,by decide+kernel,rfl,by decide+kernel,by decide+kernel⟩
set_option maxHeartbeats 4000000 in
theorem CY (T:Txt K mg fs fds tc u) (G_standing:aV P w K mg base cJ 1 (fs 1) (fds 1) ["pack"] iU) (G_elders:aV P w K mg base cJ 1 (fs 0) (fds 0) ["letter"] u6):aV P w K mg base cJ 2 (fs 21) (fds 21) ["pack","marks"] KW:=by
 refine T.y3.F.ok g8 (fun vs H Q E h=>?_) (fun cdv A outer s H vs Q E hr h=>?_)
 .obtain⟨v,mv,xs,hm,zs,rfl,hP,hM,hz,hsub,q⟩:=h;rfl
 .obtain⟨v,mv,xs,hm,zs,rfl,hP,hM,hz,hsub,q⟩:=h;refine⟨_,(aE (aP (i:=2) g8.nd rfl (Or.inl rfl) fF)
   (aE (dP PassesOwn.never rfl (cW K (aW T.eO G_standing hr (by decide) rfl (aA (pv 0) aD))) (aO (i:=3) g8.nd rfl (Or.inl rfl)) (aE (fJ (iE hr) (pv 2) (aT (j8 K) (pv 3) aH (fun _ _=>rfl)) mL rfl)
   (aN (dP PassesOwn.never rfl (cW K (aW T.nN G_elders hr (by decide) rfl (aA (pv 3) aD))) (aO (i:=4) g8.nd rfl (Or.inl rfl)) (aN (fJ (iE hr) (pv 2) (pv 4) mL rfl))))))
   (aE (dP PassesOwn.never rfl (cW K (pv 1)) (dH (n:=2) K rfl (aS (aO (i:=4) g8.nd rfl (Or.inl rfl)) (aS (aO (i:=5) g8.nd rfl (Or.inl rfl)) dD))) (aE (fJ (iE hr) (pv 2) (pv 4) mL rfl)
   (aN (fR (bD kB (pv 5) d9 (cL _)) (aN (fJ (iE hr) (pv 2) (pv 5) mL rfl)) cU))))
   (aN (aY (cF (oN K) (by rfl) T.cT dG (aA (bB BU (by rfl) T.eN gF (aA (pv 2) aD)) aD))))))),?_⟩
  obtain⟨ta,us,rfl,hta,hpm⟩:=hM;refine aI ?_;walk_at "vc0"
  refine fun p hp=>?_
  have s0:aF H (upd H p (.dK [] 0)):=aF.upd hp;have bd:∀{Ks:List Str},Ks.Nodup->(∀x∈Ks,x∈zs)->Ks.length<=60:=fun nd h=>le_trans (fK nd h) hz
  refine aI ⟨_,rfl,v,xs,rfl,hP.kt s0.kt,fun b ws H1 s1 hb hws=>⟨b,rfl,⟨ws,bG.of hb⟩,gZ (K:=K) (a:=b) (xs:=ws) (fun i σ H'=>eK H1 H'/\aF H H'/\(∃Ks,bZ H' p (i5 Ks)/\Ks.Nodup/\∀x,x∈Ks↔∃y∈(aQ xs).take i,x=y.n\/ x∈aX y)/\∃v3 v4 v5,σ=[some v,some (.ref ta),some (.ref p),v3,v4,v5]) ⟨(fun _ _ h=>h),s0.trans s1,⟨[],⟨0,s1 _ _ aC⟩,nodup_nil,fun x=>⟨(fun h=>nomatch h),fun⟨_,h,_⟩=>nomatch h⟩⟩,_,_,_,rfl⟩ (fun i σ H' _ ⟨k,_⟩=>bG.of (k _ _ hb)) ?_ ?_⟩⟩
  .rintro i u σ H2 hu ⟨kt,s2,⟨Ks,⟨e2,hK⟩,ndK,hmem⟩,v3,v4,v5,rfl⟩;obtain⟨y,hy,hL⟩:=L2.Paired.iP hws hu;have hL2:=hL.kp kt;obtain⟨t,r,rfl,ht,hr⟩:=hL2.at';have hyS:=mem_of_getElem? hy;have hyz:y.n∈zs:=hsub _ (.inl ⟨y,hyS,.inl rfl⟩);have sub:∀{Ks':List Str},(∀x∈Ks',(∃y∈(aQ xs).take i,x=y.n\/ x∈aX y)\/ x=y.n\/ x∈aX y)->∀x∈Ks',x∈zs:=fun h x hx=>(h x hx).elim (fun⟨y',h1,h2⟩=>hsub _ (.inl ⟨y',mem_of_mem_take h1,h2⟩)) fun h2=>hsub _ (.inl ⟨y,hyS,h2⟩)
   have hl0:=bd ndK (sub fun x hx=>.inl ((hmem x).mp hx));walk_at "vc0";refine aI ?_;walk_at "vc1"
   refine⟨_,bG.of ht,_,sU,.inl ⟨i5 Ks,.inr y.n,⟨e2,hK⟩,rfl,gT (by rw[nE];omega),fun ep=>?_⟩⟩;have k3:=eK.dk (ob:=.dK (putK (i5 Ks) (.inr y.n) (.bl true)) ep) ⟨e2,hK⟩;have s3:aF H (upd H2 p (.dK (putK (i5 Ks) (.inr y.n) (.bl true)) ep)):=fun b o h=>by rw[aM (aG h hp)];exact s2 b o h
   have d3:bZ (upd H2 p (.dK (putK (i5 Ks) (.inr y.n) (.bl true)) ep)) p (i5 (kI Ks y.n)):=⟨ep,by rw[aC,nW]⟩;have hL3:=hL2.kp k3;generalize upd H2 p (.dK (putK (i5 Ks) (.inr y.n) (.bl true)) ep)=H3 at k3 s3 d3 hL3⊢
   refine⟨_,rfl,_,y,rfl,hL3,fun te H4 s4 hte=>⟨te,rfl,⟨_,bG.of hte⟩,?_⟩⟩;have hme:((aX y).map V.str).length=(aX y).length:=length_map ..;refine gZ (K:=K) (a:=te) (xs:=(aX y).map V.str) (fun j σ H'=>eK H4 H'/\aF H H'/\(∃Ks',bZ H' p (i5 Ks')/\Ks'.Nodup/\∀x,x∈Ks'↔(x∈Ks\/ x=y.n)\/ x∈(aX y).take j)/\∃v4 v5,σ=[some v,some (.ref ta),some (.ref p),some (.ref t),v4,v5]) ⟨(fun _ _ h=>h),s3.trans s4,⟨kI Ks y.n,bY d3 s4,jW ndK,fun x=>by rw[fE];simp⟩,_,_,rfl⟩ (fun j σ H' _ ⟨k,_⟩=>bG.of (k _ _ hte)) ?_ ?_
   .rintro j u σ H5 hu5 ⟨k5,s5,⟨Ks',⟨e5,hK5⟩,nd5,mem5⟩,v4',v5',rfl⟩;obtain⟨e,he,rfl⟩:=strAt hu5;have hee:=mem_of_getElem? he;have hl5:=bd nd5 (sub fun x hx=>by
     rcases(mem5 x).mp hx with(h|h)|h
     .exact .inl ((hmem x).mp h)
     .exact .inr (.inl h)
     .exact .inr (.inr (mem_of_mem_take h)))
    walk_at "vc1";refine .inl ⟨i5 Ks',.inr e,⟨e5,hK5⟩,rfl,gT (by rw[nE];omega),fun ep=>⟨k5.trans (eK.dk ⟨e5,hK5⟩),fun b o h=>by rw[aM (aG h hp)];exact s5 b o h,⟨kI Ks' e,⟨ep,by rw[aC,nW]⟩,jW nd5,fun x=>?_⟩,_,rfl⟩⟩;rw[fE,mem5,take_snoc he,mem_append,mem_singleton,or_assoc]
   .rintro σ H5 ⟨k5,s5,⟨Ks',hK5,nd5,mem5⟩,v4',v5',rfl⟩;rw[hme,take_length]at mem5;refine⟨kt.trans (k3.trans (s4.kt.trans k5)),s5,⟨Ks',hK5,nd5,fun x=>?_⟩,_,_,_,rfl⟩;rw[mem5,hmem,take_snoc hy];constructor
    .rintro((⟨y',h1,h2⟩|h)|h)
     .exact⟨y',mem_append_left _ h1,h2⟩
     .exact⟨y,mem_append_right _ (by simp),.inl h⟩
     .exact⟨y,mem_append_right _ (by simp),.inr h⟩
    .rintro⟨y',h1,h2⟩;rcases mem_append.mp h1 with h|h
     .exact .inl (.inl ⟨y',h,h2⟩)
     .rw[mem_singleton.mp h]at h2;exact h2.elim (fun h=>.inl (.inr h)) .inr
  .rintro σ H2 ⟨kt,s2,⟨Ks,hK,ndK,hmem⟩,v3,v4,v5,rfl⟩;rw[<-hws.length,take_length]at hmem;have hta2:=s2 _ _ hta;have hpm2:Paired (IA H2) hm us:=L2.Paired.cH hpm fun _ _ h=>h.kt s2.kt
   refine aI ⟨_,rfl,ta,rfl,⟨us,bG.of hta2⟩,gZ (K:=K) (a:=ta) (xs:=us) (fun i σ H'=>eK H2 H'/\aF H H'/\(∃Ks',bZ H' p (i5 Ks')/\Ks'.Nodup/\∀x,x∈Ks'↔x∈Ks\/ ∃z∈hm.take i,x=z.1\/ z.2=some x)/\∃v3 v4 v5,σ=[some v,some (.ref ta),some (.ref p),v3,v4,v5]) ⟨(fun _ _ h=>h),s2,⟨Ks,hK,ndK,fun x=>by simp⟩,_,_,_,rfl⟩ (fun i σ H' _ ⟨k,_⟩=>bG.of (k _ _ hta2)) ?_ ?_⟩
   .rintro i u σ H3 hu ⟨k3,s3,⟨Ks',⟨e3,hK3⟩,nd3,mem3⟩,v3',v4',v5',rfl⟩;obtain⟨z,hz',b,rfl,hb⟩:=L2.Paired.iP hpm2 hu;have hzm:=mem_of_getElem? hz';have hb3:=k3 _ _ hb;have etk:hm.take (i+1)=hm.take i++[z]:=take_snoc hz';have sub3:∀{W:List Str},(∀x∈W,(x∈Ks\/ ∃z∈hm.take i,x=z.1\/ z.2=some x)\/ x=z.1\/ z.2=some x)->∀x∈W,x∈zs:=fun h x hx=>by
     rcases h x hx with(h1|⟨z',h1,h2⟩)|h1
     .exact hsub _ (.inl ((hmem x).mp h1))
     .exact hsub _ (.inr ⟨z',mem_of_mem_take h1,h2⟩)
     .exact hsub _ (.inr ⟨z,hzm,h1⟩)
    have hl3:=bd nd3 (sub3 fun x hx=>.inl ((mem3 x).mp hx));walk_at "vc0";refine⟨_,bG.of hb3,rfl,_,_,rfl,_,_,rfl,rfl,?_⟩;refine aI ?_;walk_at "vc1"
    refine .inl ⟨i5 Ks',.inr z.1,⟨e3,hK3⟩,rfl,gT (by rw[nE];omega),fun ep=>?_⟩;have k4:=eK.dk (ob:=.dK (putK (i5 Ks') (.inr z.1) (.bl true)) ep) ⟨e3,hK3⟩;have s4:aF H (upd H3 p (.dK (putK (i5 Ks') (.inr z.1) (.bl true)) ep)):=fun b o h=>by rw[aM (aG h hp)];exact s3 b o h
    have e4:upd H3 p (.dK (putK (i5 Ks') (.inr z.1) (.bl true)) ep) p=some (.dK (i5 (kI Ks' z.1)) ep):=by rw[aC,nW]
    generalize upd H3 p (.dK (putK (i5 Ks') (.inr z.1) (.bl true)) ep)=H4 at k4 s4 e4⊢
    have mem4:∀x,x∈kI Ks' z.1↔(x∈Ks\/ ∃z∈hm.take i,x=z.1\/ z.2=some x)\/ x=z.1:=fun x=>by rw[fE,mem3]
    have hl4:=bd (jW (s:=z.1) nd3) (sub3 fun x hx=>((mem4 x).mp hx).elim .inl fun h=>.inr (.inl h));have fin:∀(x:Str) (W:Prop),(W↔((x∈Ks\/ ∃z∈hm.take i,x=z.1\/ z.2=some x)\/ x=z.1\/ z.2=some x))->(W↔x∈Ks\/ ∃z∈hm.take (i+1),x=z.1\/ z.2=some x):=fun x W hW=>by
     rw[hW,etk];constructor
     .rintro((h|⟨z',h1,h2⟩)|h)
      .exact .inl h
      .exact .inr ⟨z',mem_append_left _ h1,h2⟩
      .exact .inr ⟨z,mem_append_right _ (by simp),h⟩
     .rintro(h|⟨z',h1,h2⟩)
      .exact .inl (.inl h)
      .rcases mem_append.mp h1 with h|h
       .exact .inl (.inr ⟨z',h,h2⟩)
       .rw[mem_singleton.mp h]at h2;exact .inr h2
    walk_at "vc0";cases hz2:z.2 with
    |none=>
     refine oR ⟨k3.trans k4,s4,⟨_,⟨ep,e4⟩,jW nd3,fun x=>fin x _ ?_⟩,_,rfl⟩;rw[mem4,hz2];simp
    |some w=>
     refine rB ?_;walk_at "vc1";refine .inl ⟨_,.inr w,⟨ep,e4⟩,rfl,gT (by rw[nE];omega),fun ep2=>⟨(k3.trans k4).trans (eK.dk ⟨ep,e4⟩),fun b o h=>by rw[aM (aG h hp)];exact s4 b o h,⟨kI (kI Ks' z.1) w,⟨ep2,by rw[aC,nW]⟩,jW (jW nd3),fun x=>fin x _ ?_⟩,_,rfl⟩⟩;rw[fE,mem4,hz2];simp only[Option.some.injEq];rw[or_assoc];exact or_congr Iff.rfl (or_congr Iff.rfl eq_comm)
   .rintro σ H3 ⟨k3,s3,⟨Ks',⟨e3,hK3⟩,nd3,mem3⟩,v3',v4',v5',rfl⟩;rw[<-hpm.length,take_length]at mem3;have hall:∀x,x∈Ks'↔gC (aQ xs) hm x:=fun x=>by rw[mem3,hmem];exact Iff.rfl
    have hl3:=bd nd3 fun x hx=>hsub x ((hall x).mp hx)
    walk_at "vc0";refine⟨i5 Ks',⟨e3,.inl hK3⟩,Ks',GD Ks',by omega,fun l out pm hso hl=>⟨_,bJ.of aC,fun t ht=>?_⟩⟩;have s4:=(aF.upd (o:=.lst (out.map V.str)) hl).trans (aF.upd (o:=.tup (out.map V.str)) ht);exact q t out _ (s3.trans s4) aC (pm.nodup_iff.mpr nd3) hso fun x=>by rw[pm.mem_iff,hall]
theorem lI:aU ["pack","above","found","letter","name"] ["pack","above"] (aB gW):=⟨rfl,rfl,rfl,by decide+kernel,rfl,by decide+kernel,by decide+kernel⟩
set_option maxHeartbeats 4000000 in
theorem G4 (T:Txt K mg fs fds tc u) (G_standing:aV P w K mg base cJ 1 (fs 1) (fds 1) ["pack"] iU):aV P w K mg base cJ 2 (fs 29) (fds 29) ["pack","above"] PJ:=by
 refine T.B3.F.ok lI (fun vs H Q E h=>?_) (fun cdv A outer s H vs Q E hr h=>?_)
 .obtain⟨v,d,xs,ab,rfl,hP,hd,nd,hcl,hl,hin,q⟩:=h;rfl
 .obtain⟨v,d,xs,ab,rfl,hP,hd,nd,hcl,hl,hin,q⟩:=h;refine⟨_,(aE (aP (i:=2) lI.nd rfl (Or.inl rfl) fF)
   (aE (dP PassesOwn.never rfl (cW K (aW T.eO G_standing hr (by decide) rfl (aA (pv 0) aD))) (aO (i:=3) lI.nd rfl (Or.inl rfl)) (aE (aP (i:=4) lI.nd rfl (Or.inl rfl) (aT (j8 K) (pv 3) aH (fun _ _=>rfl)))
   (aN (nJ PassesOwn.never (PW.pt (m3 (bD kB (pv 4) d9 (cL _)) (j9 (bD (Mr.m8 hr) (pv 4) (pv 2) (by rfl))))) (aE (fJ (iE hr) (pv 2) (pv 4) mL rfl)
   (aN (aP (i:=4) lI.nd rfl (Or.inl rfl) (aT (Mr.yM hr) (pv 1) (pv 4) (fun _ _=>rfl)))))))))
   (aN (aY (pv 2))))),?_⟩
  obtain⟨ep0,e0⟩:=hd;refine aI ?_;walk_at "vc0"
  refine fun p hp=>aI ?_
  have s0:aF H (upd H p (HO.dK [] 0)):=aF.upd hp;refine⟨_,rfl,v,xs,rfl,?_,fun b ws H1 s1 hb hws=>⟨b,rfl,⟨ws,bG.of hb⟩,gZ (K:=K) (a:=b) (xs:=ws) (fun i σ H'=>eK H1 H'/\aF H H'/\(∃S,bZ H' p (i5 S)/\uN ab (((aQ xs).map (·.n)).take i) S none)/\∃v3 v4,σ=[some v,some (V.ref d),some (.ref p),v3,v4]) ⟨(fun _ _ h=>h),s0.trans s1,⟨[],⟨0,?_⟩,uN.nil⟩,_,_,rfl⟩ (fun i σ H' _ ⟨s',_⟩=>bG.of (s' _ _ hb)) ?_ ?_⟩⟩
  .obtain⟨a,us,rfl,ha,hpp,hll⟩:=hP;exact⟨a,us,rfl,s0 _ _ ha,L2.Paired.cH hpp fun _ _ h=>h.kp s0.kt,hll⟩
  .exact s1 _ _ aC
  .rintro i x σ H2 hx ⟨s2,s2',⟨S,hS,w⟩,v3,v4,rfl⟩;obtain⟨y,hy,hL⟩:=L2.Paired.iP hws hx;obtain⟨t,r,rfl,ht,hr⟩:=(hL.kp s2).at';have hyn:((aQ xs).map (·.n))[i]? =some y.n:=by rw[getElem?_map,hy];rfl
   walk_at "vc0";refine aI ?_;walk_at "vc0"
   refine⟨_,bG.of ht,_,sU,?_⟩;have w1:=w.more y.n;rw[<-take_snoc hyn]at w1;refine sh_whileP (K:=K) e0 hp hcl hl (hin y (mem_of_getElem? hy)) s2' hS w1 fun S' o H' s' t' d' w'=>⟨s2.trans t',s',⟨S',d',w'⟩,_,_,rfl⟩
  .rintro σ H2 ⟨s2,s2',⟨S,hS,w⟩,v3,v4,rfl⟩;rw[<-hws.length,show(aQ xs).length=((aQ xs).map (·.n)).length from(length_map ..).symm,take_length]at w;walk_at "vc0";exact q p S H2 s2' hp hS w.nd w.iff
theorem gO:aU ["_law_hand_here","_law_used","_law_signs","_law_size","_law_name_here"] ["_law_hand_here","_law_used"] (aB cS):=⟨rfl,rfl,rfl,by decide+kernel,rfl,by decide+kernel,by decide+kernel⟩
set_option maxHeartbeats 4000000 in
theorem w4 (T:Txt K mg fs fds tc u) (G_law_take:aV P w K mg base cJ 1 (fs 33) (fds 33) ["_law_hand_here","_law_many"] CJ):aV P w K mg base cJ 2 (fs 34) (fds 34) ["_law_hand_here","_law_used"] K5:=by
 refine T.rL.F.ok gO (fun vs H Q E h=>?_) (fun cdv A outer s H vs Q E hr h=>?_)
 .obtain⟨p,l,zs,c,rfl,hp,hc,hN,npl,q⟩:=h;rfl
 .obtain⟨p,l,zs,c,rfl,hp,hc,hN,npl,q⟩:=h;refine⟨_,(aE (aP (i:=2) gO.nd rfl (Or.inr rfl) bP)
   (aE (aP (i:=3) gO.nd rfl (Or.inl rfl) (bI fY aH (aW T.bK G_law_take hr (by decide) rfl (aA (pv 0) (aA (aT (j8 K) (bE (aA aH (aA aH (aA aH (aA aH aD))))) (aW T.bK G_law_take hr (by decide) rfl (aA (pv 0) (aA aH aD))) (fun _ _=>rfl)) aD)))))
   (aE (aP (i:=4) gO.nd rfl (Or.inr rfl) (eF K plainAttrs_str slot_str_join type_str_join (K6 K) bP (aA (jM ["_law_turn","_law_signs","_law_hand_here"] 1 [2,0] ["_law_hand_here","_law_used","_law_signs","_law_size","_law_name_here"] (aB cS) rfl rfl rfl (jF rfl T.g6 (aA (pv 3) aD)) (by decide+kernel) (fun _=>(aO (i:=0) (show(["_law_turn","_law_signs","_law_hand_here"]:List Str).Nodup by decide+kernel) rfl (Or.inl rfl))) (fun _=>cC) (fun _=>(aT N3 (pv 1) (aW T.bK G_law_take hr (by decide) rfl (aA (pv 2) (aA aH aD))) (fun _ _=>rfl)))) aD)))
   (aE (fR (bD (SQ K) (pv 4) (pv 1) (by rfl)) (aN (aP (i:=4) gO.nd rfl (Or.inr rfl) (aT (wY K) (jM ["_law_sign","_law_name_here","_law_used"] 1 [4,1] ["_law_hand_here","_law_used","_law_signs","_law_size","_law_name_here"] (aB cS) rfl rfl rfl (FC (pv 2)) (by decide+kernel) (fun _=>(aO (i:=0) (show(["_law_sign","_law_name_here","_law_used"]:List Str).Nodup by decide+kernel) rfl (Or.inl rfl))) (fun _=>(oA (bD (E2 K) (bI eR (cK oM (pv 1) dU (cZ (BY uT aH))) (pv 0)) (pv 2) (by rfl)))) (fun _=>(bI eR (cK oM (pv 1) dU (cZ (BY uT aH))) (pv 0)))) aH (fun _ _=>rfl)))) cU)
   (aN (aY (pv 4))))))),?_⟩
  have e36:uE.length=36:=by decide+kernel
  have e0:(Str.ofString "").length=0:=by decide+kernel
  refine aI ?_;walk_at "vc0"
  refine aI ?_;walk_at "vc0"
  refine⟨by decide,fun t ht=>⟨p,_,c,rfl,Box.same (p:=p) hp (aF.upd ht),by omega,by decide,by decide,fun d H1 d0 d1 hp1 b1=>?_⟩⟩;have ntp:t≠p:=(Box.ne hp ht).symm;have ht1:=b1 _ _ (aC (o:=HO.tup [V.int 3,V.int 3,V.int 3,V.int 12]) (a:=t) (H:=H)) ntp;obtain⟨v,hv,hat⟩:=iT (xs:=[V.int 3,V.int 3,V.int 3,V.int 12]) d0 d1;obtain⟨m,rfl,m0,m12⟩:∃m:Int,v= .int m/\0<m/\m<=12:=by
   simp only[mem_cons,mem_nil_iff,or_false]at hv;rcases hv with h|h|h|h<;>exact⟨_,h,by decide,by decide⟩
  refine⟨_,d,rfl,bG.of ht1,_,hat,p,m,c+1,rfl,hp1,by omega,m0,by omega,fun e H2 f0 f1 hp2 b2=>⟨e,rfl,?_⟩⟩;have bb:=((fQ.of (p:=p) (aF.upd (o:=HO.tup [V.int 3,V.int 3,V.int 3,V.int 12]) ht)).trans b1).trans b2;refine aI ?_;walk_at "vc5"
  refine⟨rfl,_,rfl,_,rfl,by omega,by omega,fun l4 hl4=>sF 0 _ p (c+1+1) 1 (fun _ v=>∃x:Str,v= .str x/\(x.length=1/\∀c∈x.cps.toList,c∈uE.cps.toList)) (fun σ=>∃o,σ=[o,some (V.str uE),some (.ref p)]) ⟨_,rfl⟩ hp2 hl4 (by omega) (fun _ _ _ _ h=>h) ?_ ?_⟩
  .rintro i σ H4 xs N hi ⟨o,rfl⟩ hp4 hx hxl b4 hN;unfold bV;walk_at "vc2";refine⟨p,_,_,rfl,hp4,by omega,by decide,by decide,fun d H5 d0 d1 hp5 b5=>?_⟩;obtain⟨cc,hcm,hcc⟩:=GZ (z:=uE) d0 (by rw[e36];exact d1);exact⟨_,rfl,e9 (by rw[e36];decide),_,hcc,hN _ _ _ ⟨_,rfl⟩ ⟨_,rfl,rfl,fun c hc=>by simp at hc;rw[hc];exact hcm⟩ hp5 b5⟩
  .intro ys H4 hyl hR hy hp4 b4;obtain⟨ns,e,hns⟩:=rZ hR;subst e;rw[length_map]at hyl;have hnb:eJ (Txt.join (Str.ofString "") ns)=true:=CQ (fun _ h=>h) hns (by omega) (by omega);have bb4:=bb.trans b4;have hN4:H4 l=some (.lst (zs.map V.str)):=bb4 _ _ hN.el npl;refine⟨_,l4,ns,rfl,rfl,bJ.of hy,by rw[e0,yE fun y hy=>(hns y hy).1];omega,?_⟩;generalize Txt.join (Str.ofString "") ns=nm at hnb;refine aI ?_;walk_at "vc0"
   refine⟨_,.inl (bJ.of hN4),rfl,oW,?_⟩;rw[vT];cases hcn:zs.contains nm with
   |false=>exact nM (q nm H4 hnb (fun h=>by rw[List.contains_iff_mem.mpr h]at hcn;cases hcn) (Box.up (p:=p) hp4 (by omega)) bb4)
   | true=>
    have hnl:=(oS hnb).2;refine mW ⟨_,rfl,uE,rfl,fun l5 hl5=>uJ uE (fun v=>match v with| .str z=>!zs.contains (Txt.slice nm none (some (-1))++z)|_=>false) (fun v=>match v with| .str z=>.str (Txt.slice nm none (some (-1))++z)|v=>v) (fun σ=>∃o,σ=[o,some (.str nm),some (.ref l)]) ⟨_,rfl⟩ (gT (by rw[e36];decide)) ?_ ?_⟩
    .rintro ch σ xs N hch hz ⟨o,rfl⟩ hN2;unfold bV;walk_at "vc0";have l1:(({cps:= #[ch]}:Str)).length=1:=rfl;have hB:(Txt.slice nm none (some (-1))).length<=12:=C1 hnl;have nl5:l≠l5:=fun e=>by rw[e,hl5]at hN4;cases hN4
     refine⟨e9 (by omega),e9 (by rw[l1];omega),_,.inl (bJ.of (by rw[aM nl5];exact hN4)),rfl,oW,?_⟩;rw[vT];have h:=hN2 [some (.str ⟨#[ch]⟩),some (.str nm),some (.ref l)] ⟨_,rfl⟩;dsimp only at h;cases hcc:zs.contains (Txt.slice nm none (some (-1))++⟨#[ch]⟩)with
     |true=>
      rw[if_neg (by show¬((!zs.contains _)=true);rw[hcc];decide)]at h;exact oR h
     |false=>
      rw[if_pos (by show(!zs.contains _)=true;rw[hcc];rfl)]at h;refine rB ⟨e9 (by omega),e9 (by rw[l1];omega),xs,aC,hz,?_⟩;rw[wC];exact h
    .obtain⟨c0,hc0,hno⟩:∃c∈uE.cps.toList,zs.contains (Txt.slice nm none (some (-1))++⟨#[c]⟩)=false:=by
      apply Classical.byContradiction;intro hall;have hs:∀y∈uE.cps.toList.map (fun c=>Txt.slice nm none (some (-1))++(⟨#[c]⟩:Str)),y∈zs:=fun y hy=>by
       obtain⟨c1,hc1,rfl⟩:=mem_map.mp hy;cases h:zs.contains (Txt.slice nm none (some (-1))++⟨#[c1]⟩)with
       |true=>exact List.contains_iff_mem.mp h
       |false=>exact absurd ⟨c1,hc1,h⟩ hall
      have nd:(uE.cps.toList.map fun c=>Txt.slice nm none (some (-1))++(⟨#[c]⟩:Str)).Nodup:=List.Pairwise.map _ (fun a b hab e=>hab (by
       have e1:(Txt.slice nm none (some (-1))).cps++ #[a]=(Txt.slice nm none (some (-1))).cps++ #[b]:=congrArg Str.cps e;have e2:=congrArg Array.toList e1;rw[toList_append,toList_append]at e2;have e3:=List.append_cancel_left e2;cases e3;rfl)) (show uE.cps.toList.Nodup by decide+kernel)
      have h1:=HP nd hs;rw[length_map,show uE.cps.toList.length=36 by decide+kernel]at h1;have h2:=hN.le;omega
     have hB:=CS hnb;have hm:V.str (⟨#[c0]⟩:Str)∈(uE.cps.toList.map fun c=>V.str (⟨#[c]⟩:Str)).filter (fun v=>match v with|V.str z=>!zs.contains (Txt.slice nm none (some (-1))++z)|_=>false):=mem_filter.mpr ⟨mem_map.mpr ⟨c0,hc0,rfl⟩,by show(!zs.contains _)=true;rw[hno];rfl⟩;refine⟨l5,rfl,_,bJ.of aC,?_⟩;generalize hF:List.filter _ (uE.cps.toList.map fun c=>V.str (⟨#[c]⟩:Str))=F at hm⊢
     obtain⟨y,F',rfl⟩:∃y F',F=y::F':=by
      cases F with
      |nil=>exact absurd hm (by simp)
      |cons y F'=>exact⟨_,_,rfl⟩
     have hy:y∈y::F':=mem_cons_self;rw[<-hF]at hy;obtain⟨c1,hc1,rfl⟩:=mem_map.mp (mem_filter.mp hy).1;have hno1:=(mem_filter.mp hy).2;rw[map_cons];have lB:(Txt.slice nm none (some (-1))++(⟨#[c1]⟩:Str)).length=(Txt.slice nm none (some (-1))).length+1:=EX _ _;refine⟨_,sU,q _ _ (yY (by omega) (by omega) fun c hc=>?_) (fun h=>by have h2:(!zs.contains (Txt.slice nm none (some (-1))++(⟨#[c1]⟩:Str)))=true:=hno1;rw[List.contains_iff_mem.mpr h]at h2;cases h2) (Box.up (p:=p) (Box.same (p:=p) hp4 (aF.upd hl5)) (by omega)) (bb4.trans (fQ.of (aF.upd hl5)))⟩;have hc':c∈((Txt.slice nm none (some (-1))).cps++ #[c1]).toList:=hc;rw[toList_append]at hc';rcases mem_append.mp hc' with h|h
     .exact hB.2 c h
     .rw[mem_singleton.mp h];exact hc1
theorem i6:aU ["_law_hand_here","_law_name_here","_law_names_here","_law_day","_law_row"] ["_law_hand_here","_law_name_here","_law_names_here"] (aB cG):=⟨rfl,rfl,rfl,by decide+kernel,rfl,by decide+kernel,by decide+kernel⟩
set_option maxHeartbeats 4000000 in
theorem sS (T:Txt K mg fs fds tc u) (G_law_take:aV P w K mg base cJ 1 (fs 33) (fds 33) ["_law_hand_here","_law_many"] CJ):aV P w K mg base cJ 2 (fs 36) (fds 36) ["_law_hand_here","_law_name_here","_law_names_here"] EL:=by
 refine T.nH.F.ok i6 (fun vs H Q E h=>?_) (fun cdv A outer s H vs Q E hr h=>?_)
 .obtain⟨p,l,zs,n,c,rfl,hp,hc,hN,hz1,npl,hn,q⟩:=h;rfl
 .obtain⟨p,l,zs,n,c,rfl,hp,hc,hN,hz1,npl,hn,q⟩:=h;refine⟨_,(aE (aP (i:=3) i6.nd rfl (Or.inl rfl) (aT (wY K) (gR (aA (aW T.bK G_law_take hr (by decide) rfl (aA (pv 0) (aA aH aD))) (aA (bI z5 aH (aW T.bK G_law_take hr (by decide) rfl (aA (pv 0) (aA aH aD)))) (aA (aW T.bK G_law_take hr (by decide) rfl (aA (pv 0) (aA aH aD))) aD)))) (aW T.bK G_law_take hr (by decide) rfl (aA (pv 0) (aA aH aD))) (fun _ _=>rfl)))
   (aE (nL (i:=4) ["_law_turn","_law_names_here","_law_hand_here"] 1 [2,0] ["_law_hand_here","_law_name_here","_law_names_here","_law_day","_law_row"] (aB cG) rfl rfl rfl i6.nd rfl rfl (jF rfl T.g6 (aA (aW T.bK G_law_take hr (by decide) rfl (aA (pv 0) (aA (aT (j8 K) (bE (aA aH (aA aH (aA aH (aA aH aD))))) (aW T.bK G_law_take hr (by decide) rfl (aA (pv 0) (aA aH aD))) (fun _ _=>rfl)) aD))) aD)) (by decide+kernel) (fun _=>(aO (i:=0) (show(["_law_turn","_law_names_here","_law_hand_here"]:List Str).Nodup by decide+kernel) rfl (Or.inl rfl))) (fun _=>cC) (fun _=>(aT (wY K) (pv 1) (aW T.bK G_law_take hr (by decide) rfl (aA (pv 2) (aA (bB (NL K) (by rfl) T.jA j5 (aA (pv 1) aD)) aD))) (fun _ _=>rfl))))
   (aN (aY (bE (aA (pv 1) (aA (pv 3) (aA (aT (j8 K) (bE (aA bP (aA bP (aA bP (aA bP aD))))) (aW T.bK G_law_take hr (by decide) rfl (aA (pv 0) (aA aH aD))) (fun _ _=>rfl)) (aA (cF (oN K) (by rfl) T.cT dG (aA (pv 4) aD)) aD))))))))),?_⟩
  refine aI ?_;walk_at "vc0"
  refine⟨p,4,c,rfl,hp,by omega,by decide,by decide,fun d1 H1 d10 d11 hp1 b1=>⟨p,3,c+1,rfl,hp1,by omega,by decide,by decide,fun d2 H2 d20 d21 hp2 b2=>⟨d2,rfl,p,100000000,c+1+1,rfl,hp2,by omega,by decide,by decide,fun d3 H3 d30 d31 hp3 b3=>⟨e9 (by decide),fun t1 ht1=>⟨p,3,c+1+1+1,rfl,Box.same (p:=p) hp3 (aF.upd ht1),by omega,by decide,by decide,fun d4 H4 d40 d41 hp4 b4=>?_⟩⟩⟩⟩⟩;have nt1:t1≠p:=(Box.ne hp3 ht1).symm;have et1:=b4 _ _ (aC (o:=HO.lst [V.int d1,V.int (99999999 - d2),V.int d3]) (a:=t1) (H:=H3)) nt1;obtain⟨v,hv,hat⟩:=iT (xs:=[V.int d1,V.int (99999999 - d2),V.int d3]) d40 d41;obtain⟨dy,rfl,dy0,dy1⟩:∃m:Int,v= .int m/\0<=m/\m<=99999999:=by
   simp only[mem_cons,mem_nil_iff,or_false]at hv;rcases hv with h|h|h<;>exact⟨_,h,by omega,by omega⟩
  refine⟨_,d4,rfl,bJ.of et1,_,hat,?_⟩;have b04:=(((b1.trans b2).trans b3).trans (fQ.of (p:=p) (aF.upd (o:=HO.lst [V.int d1,V.int (99999999 - d2),V.int d3]) ht1))).trans b4;clear b1 b2 b3 b4 hp1 hp2 hp3 ht1 et1 hat hv;refine aI ?_;walk_at "vc0"
  refine⟨_,rfl,by decide,fun t ht=>⟨_,rfl,p,4,_,rfl,Box.same (p:=p) hp4 (aF.upd ht),by omega,by decide,by decide,fun d5 H5 d50 d51 hp5 b5=>?_⟩⟩;have ntp:t≠p:=(Box.ne hp4 ht).symm;have et:=b5 _ _ (aC (o:=HO.tup [V.int 3,V.int 4,V.int 5,V.int 10]) (a:=t) (H:=H4)) ntp;obtain⟨v,hv,hat⟩:=iT (xs:=[V.int 3,V.int 4,V.int 5,V.int 10]) d50 d51;obtain⟨m,rfl,m0,m10⟩:∃m:Int,v= .int m/\0<m/\m<=10:=by
   simp only[mem_cons,mem_nil_iff,or_false]at hv;rcases hv with h|h|h|h<;>exact⟨_,h,by decide,by decide⟩
  have b06:=(b04.trans (fQ.of (p:=p) (aF.upd (o:=HO.tup [V.int 3,V.int 4,V.int 5,V.int 10]) ht))).trans b5;refine⟨t,_,d5,_,rfl,rfl,bG.of et,hat,p,m,_,rfl,hp5,by omega,m0,by omega,fun e H6 e0 e1 hp6 b6=>⟨e,rfl,by omega,by omega,fun l6 hl6=>sF 0 _ p _ 1 (fun _ v=>∃z:Str,v= .str z/\z∈zs) (fun σ=>∃o,σ=[o,some (.ref l),some (.ref p)]) ⟨_,rfl⟩ hp6 hl6 (by omega) (fun _ _ _ _ h=>h) ?_ ?_⟩⟩
  .have hN6:H6 l=some (.lst (zs.map V.str)):=(b06.trans b6) _ _ hN.el npl;rintro i σ H7 xs N hi ⟨o,rfl⟩ hp7 hx hxl b7 hNN;have hN7:=b7 _ _ hN6 npl;have t4:(zs.map V.str).length=zs.length:=length_map ..;have h8:=hN.le;have hi:i<10:=by omega
   unfold bV;walk_at "vc2";refine⟨_,bJ.of hN7,p,_,_,rfl,hp7,by omega,by omega,by omega,fun d H8 d0 d1 hp8 b8=>⟨zs.map V.str,d,rfl,bJ.of (b8 _ _ hN7 npl),?_⟩⟩;obtain⟨y,hy,hat⟩:=iT d0 d1;obtain⟨z,hz,rfl⟩:=mem_map.mp hy;exact⟨_,hat,hNN _ _ _ ⟨_,rfl⟩ ⟨z,rfl,hz⟩ hp8 b8⟩
  intro ys H7 hyl hR hy hp7 b7;have b07:=(b06.trans b6).trans b7;have n7:ys.length<=9:=by omega
  obtain⟨row,erow,hrow⟩:=rZ hR;subst erow;rw[length_map]at n7;clear hyl;refine⟨e9 (by decide),fun t2 ht2=>⟨p,4,_,rfl,Box.same (p:=p) hp7 (aF.upd ht2),by omega,by decide,by decide,fun d8 H8 d80 d81 hp8 b8=>?_⟩⟩;have nt2:t2≠p:=(Box.ne hp7 ht2).symm;have nl6:l6≠p:=(Box.ne hp6 hl6).symm;have e2:=b8 _ _ (aC (o:=HO.tup [V.str (Str.ofString ""),V.str (Str.ofString "re: walls"),V.str (Str.ofString "Walls"),V.str (Str.ofString "walls  (old)")]) (a:=t2) (H:=H7)) nt2;have hy8:=b8 _ _ (aF.upd (o:=HO.tup [V.str (Str.ofString ""),V.str (Str.ofString "re: walls"),V.str (Str.ofString "Walls"),V.str (Str.ofString "walls  (old)")]) ht2 _ _ hy) nl6;obtain⟨v,hv,hat⟩:=iT (xs:=[V.str (Str.ofString ""),V.str (Str.ofString "re: walls"),V.str (Str.ofString "Walls"),V.str (Str.ofString "walls  (old)")]) d80 d81;obtain⟨h,rfl,h60,hcs⟩:∃h:Str,v= .str h/\h.length<=60/\∀c∈h.cps.toList,32<=c/\c<=126:=by
   simp only[mem_cons,mem_nil_iff,or_false]at hv;rcases hv with h|h|h|h<;>exact⟨_,h,by decide+kernel,by decide+kernel⟩
  have b08:=(b07.trans (fQ.of (p:=p) (aF.upd (o:=HO.tup [V.str (Str.ofString ""),V.str (Str.ofString "re: walls"),V.str (Str.ofString "Walls"),V.str (Str.ofString "walls  (old)")]) ht2))).trans b8;have ok:Lt.Ok ⟨n,dy,h,row⟩:=⟨hn,dy0,dy1,⟨h60,hcs⟩,n7,fun z hz=>hN.nm z (hrow z hz)⟩;refine⟨_,d8,rfl,bG.of e2,_,hat,l6,rfl,_,bJ.of hy8,fun r hr=>⟨e9 (by decide),fun a ha=>q _ ⟨n,dy,h,row⟩ _ (sI.of aC (by rw[aM (aG aC ha)];exact aC) ok) rfl hrow ?_ ((b08.trans (.of (aF.upd hr))).trans (.of (aF.upd ha)))⟩⟩;exact Box.up (p:=p) (Box.same (p:=p) (Box.same (p:=p) hp8 (aF.upd hr)) (aF.upd ha)) (by omega)
theorem j6:aU ["_law_hand_here","_law_names_here","_law_kind","_law_marks_here"] ["_law_hand_here","_law_names_here"] (aB dA):=⟨rfl,rfl,rfl,by decide+kernel,rfl,by decide+kernel,by decide+kernel⟩
set_option maxHeartbeats 4000000 in
theorem vS (T:Txt K mg fs fds tc u) (G_law_take:aV P w K mg base cJ 1 (fs 33) (fds 33) ["_law_hand_here","_law_many"] CJ):aV P w K mg base cJ 2 (fs 38) (fds 38) ["_law_hand_here","_law_names_here"] PX:=by
 refine T.pZ.F.ok j6 (fun vs H Q E h=>?_) (fun cdv A outer s H vs Q E hr h=>?_)
 .obtain⟨p,l,zs,c,rfl,hp,hc,hN,hnd,h2,npl,q⟩:=h;rfl
 .obtain⟨p,l,zs,c,rfl,hp,hc,hN,hnd,h2,npl,q⟩:=h;refine⟨_,(aE (aP (i:=2) j6.nd rfl (Or.inl rfl) (aW T.bK G_law_take hr (by decide) rfl (aA (pv 0) (aA aH aD))))
   (aE (aP (i:=3) j6.nd rfl (Or.inl rfl) (gR (aA (bE (aA (aT (wY K) (pv 1) aH (fun _ _=>rfl)) (aA d9 aD))) (aA (bE (aA (aT (wY K) (pv 1) aH (fun _ _=>rfl)) (aA (aT (wY K) (pv 1) aH (fun _ _=>rfl)) aD))) (aA (bE (aA (aT (wY K) (pv 1) aH (fun _ _=>rfl)) (aA d9 aD))) aD)))))
   (aN (aY (cF (oN K) (by rfl) T.cT dG (aA (bB (K4 K hr) (by rfl) T.eN gF (aA (aT (wY K) (gR (aA (cK (M0 K) (pv 3) dU (cZ aH)) (aA (cK (M0 K) (pv 3) dU (cZ aH)) (aA (cK (M0 K) (pv 3) (cZ aH) dU) (aA (cK (M0 K) (pv 3) (cZ aH) dU) aD))))) (pv 2) (fun _ _=>rfl)) aD)) aD)))))),?_⟩
  obtain⟨n0,n1,rest,ez⟩:∃a b r,zs=a::b::r:=by
   match zs,h2 with
   |a::b::r,_=>exact⟨a,b,r,rfl⟩
  have hne:n0≠n1:=fun e=>by rw[ez,e]at hnd;simp at hnd
  refine aI ?_;walk_at "vc0"
  refine⟨p,4,c,rfl,hp,by omega,by decide,by decide,fun d H1 d0 d1 hp1 b1=>?_⟩;have el1:H1 l=some (.lst (.str n0:: .str n1::rest.map V.str)):=by rw[b1 _ _ hN.el npl,ez];rfl
  refine aI ?_;walk_at "vc0"
  refine⟨_,bJ.of el1,_,sU,e9 (by decide),fun t0 ht0=>?_⟩;have s2:=aF.upd (o:=.tup [V.str n0,.aZ]) ht0;have e0:upd H1 t0 (.tup [V.str n0,.aZ]) t0=some (.tup [V.str n0,.aZ]):=aC;generalize upd H1 t0 (.tup [V.str n0,.aZ])=H2 at s2 e0⊢
  refine⟨_,bJ.of (s2 _ _ el1),_,sU,_,bJ.of (s2 _ _ el1),_,cB (j:=1) rfl,e9 (by decide),fun t1 ht1=>?_⟩;have s3:=aF.upd (o:=.tup [V.str n0,.str n1]) ht1;have e1:upd H2 t1 (.tup [V.str n0,.str n1]) t1=some (.tup [V.str n0,.str n1]):=aC;generalize upd H2 t1 (.tup [V.str n0,.str n1])=H3 at s3 e1⊢
  refine⟨_,bJ.of (s3 _ _ (s2 _ _ el1)),_,cB (j:=1) rfl,e9 (by decide),fun t2 ht2=>?_⟩;have s4:=aF.upd (o:=.tup [V.str n1,.aZ]) ht2;have e2:upd H3 t2 (.tup [V.str n1,.aZ]) t2=some (.tup [V.str n1,.aZ]):=aC;generalize upd H3 t2 (.tup [V.str n1,.aZ])=H4 at s4 e2⊢
  refine⟨e9 (by decide),fun m hm=>?_⟩;have s5:=aF.upd (o:=.lst [.ref t0,.ref t1,.ref t2]) hm;have em:upd H4 m (.lst [.ref t0,.ref t1,.ref t2]) m=some (.lst [.ref t0,.ref t1,.ref t2]):=aC;generalize upd H4 m (.lst [.ref t0,.ref t1,.ref t2])=H5 at s5 em⊢
  have e0:=s5 _ _ (s4 _ _ (s3 _ _ e0));have e1:=s5 _ _ (s4 _ _ e1);have e2:=s5 _ _ e2;have s15:=((s2.trans s3).trans s4).trans s5;have c0:i4 [V.ref t0,.ref t1,.ref t2] none (some 0)=[]:=rfl;have c1:i4 [V.ref t0,.ref t1,.ref t2] none (some 1)=[.ref t0]:=rfl;have c2:i4 [V.ref t0,.ref t1,.ref t2] (some 1) none=[.ref t1,.ref t2]:=rfl;have c3:i4 [V.ref t0,.ref t1,.ref t2] (some 2) none=[.ref t2]:=rfl;refine⟨_,bJ.of em,fun a0 ha0=>?_⟩;rw[c0];have s6:=aF.upd (o:=.lst []) ha0;have f0:upd H5 a0 (.lst []) a0=some (.lst []):=aC;generalize upd H5 a0 (.lst [])=H6 at s6 f0⊢
  refine⟨_,bJ.of (s6 _ _ em),fun a1 ha1=>?_⟩;rw[c1];have s7:=aF.upd (o:=.lst [V.ref t0]) ha1;have f1:upd H6 a1 (.lst [V.ref t0]) a1=some (.lst [V.ref t0]):=aC;generalize upd H6 a1 (.lst [V.ref t0])=H7 at s7 f1⊢
  have s57:=s6.trans s7;refine⟨_,bJ.of (s57 _ _ em),fun a2 ha2=>?_⟩;rw[c2];have s8:=aF.upd (o:=.lst [V.ref t1,.ref t2]) ha2;have f2:upd H7 a2 (.lst [V.ref t1,.ref t2]) a2=some (.lst [V.ref t1,.ref t2]):=aC;generalize upd H7 a2 (.lst [V.ref t1,.ref t2])=H8 at s8 f2⊢
  have s58:=s57.trans s8;refine⟨_,bJ.of (s58 _ _ em),fun a3 ha3=>?_⟩;rw[c3];have s9:=aF.upd (o:=.lst [V.ref t2]) ha3;have f3:upd H8 a3 (.lst [V.ref t2]) a3=some (.lst [V.ref t2]):=aC;generalize upd H8 a3 (.lst [V.ref t2])=H9 at s9 f3⊢
  have s59:=s58.trans s9;refine⟨e9 (by decide),fun a4 ha4=>?_⟩;have s10:=aF.upd (o:=.lst [V.ref a0,.ref a1,.ref a2,.ref a3]) ha4;have f4:upd H9 a4 (.lst [V.ref a0,.ref a1,.ref a2,.ref a3]) a4=some (.lst [V.ref a0,.ref a1,.ref a2,.ref a3]):=aC;generalize upd H9 a4 (.lst [V.ref a0,.ref a1,.ref a2,.ref a3])=H10 at s10 f4⊢
  have s5a:=s59.trans s10;have g0:=z9 (z:=(n0,none)) (s5a _ _ e0);have g1:=z9 (z:=(n0,some n1)) (s5a _ _ e1);have g2:=z9 (z:=(n1,none)) (s5a _ _ e2);obtain⟨w,hw,hat⟩:=iT (xs:=[V.ref a0,.ref a1,.ref a2,.ref a3]) d0 d1;obtain⟨ab0,a,us,rfl,hus,htr,hab0⟩:∃(ab0:Hl) (a:Addr) (us:List V),w= .ref a/\H10 a=some (.lst us)/\jR H10 (ab0.map M6) us/\ab0∈MI n0 n1:=by
   simp only[mem_cons,mem_nil_iff,or_false]at hw;rcases hw with rfl|rfl|rfl|rfl
   .exact⟨[],a0,_,rfl,s10 _ _ (s9 _ _ (s8 _ _ (s7 _ _ f0))),.nil,by simp[MI]⟩
   .exact⟨[(n0,none)],a1,_,rfl,s10 _ _ (s9 _ _ (s8 _ _ f1)),.cons g0 .nil,by simp[MI]⟩
   .exact⟨[(n0,some n1),(n1,none)],a2,_,rfl,s10 _ _ (s9 _ _ f2),.cons g1 (.cons g2 .nil),by simp[MI]⟩
   .exact⟨[(n1,none)],a3,_,rfl,s10 _ _ f3,.cons g2 .nil,by simp[MI]⟩
  obtain⟨hl2,hnd2,_,_⟩:=E8 hne hab0 (.refl _);have hul:=htr.length;rw[length_map]at hul;refine⟨_,bJ.of f4,_,hat,a,rfl,us,bJ.of hus,_,htr,by omega,DC _,DR fun x hx y hy e=>by rw[oY (f:=fun z:Str×Option Str=>z.1) hnd2 hx hy e],fun l2 zs2 hzs2 hl2=>⟨_,bJ.of aC,fun t ht=>?_⟩⟩;obtain⟨wb,pw,ew⟩:=pN (Mr.dS 3 _) rfl;rw[ew]at hzs2;have s11:=(aF.upd (o:=.lst zs2) hl2).trans (aF.upd (o:=.tup zs2) ht);obtain⟨k1,k2,k3,k4⟩:=E8 hne hab0 pw;have s1b:=(s15.trans s5a).trans s11;exact q _ wb _ ⟨t,zs2,rfl,aC,L2.Paired.cH (GA hzs2) fun _ _ h=>h.kt s11.kt⟩ k1 k2 k3 (fun z hz=>⟨by rw[ez];rcases(k4 z hz).1 with e|e<;>rw[e]<;>simp,fun y e=>by rw[(k4 z hz).2 y e,ez];simp⟩) (Box.same (p:=p) hp1 s1b) (b1.trans (fQ.of s1b))
theorem eX:aU ["text","rule","kind","word","left"] ["text","rule"] (aB dE):=⟨rfl,rfl,rfl,by decide+kernel,rfl,by decide+kernel,by decide+kernel⟩
set_option maxHeartbeats 4000000 in
theorem wN (T:Txt K mg fs fds tc u) (G_without_ahead:aV P w K mg base cJ 2 (fs 9) (fds 9) ["text","word"] tJ) (G_without_label:aV P w K mg base cJ 1 (fs 10) (fds 10) ["text","word"] tJ) (G_without_behind:aV P w K mg base cJ 1 (fs 11) (fds 11) ["text","word"] tJ):aV P w K mg base cJ 3 (fs 12) (fds 12) ["text","rule"] LW:=by
 refine T.p0.F.ok eX (fun vs H Q E h=>?_) (fun cdv A outer s H vs Q E hr h=>?_)
 .obtain⟨s,v,r,rfl,hs,hru,hy,q⟩:=h;rfl
 .obtain ⟨s,v,r,rfl,hs,hru,hy,q⟩:=h;refine⟨_,(aE (oE (pv 1) (dH (n:=2) K rfl (aS (aO (i:=2) eX.nd rfl (Or.inl rfl)) (aS (aO (i:=3) eX.nd rfl (Or.inl rfl)) dD))))
   (aE (fR (bD tS (pv 2) bP (cL _)) (aN (aP (i:=4) eX.nd rfl (Or.inl rfl) (aW T.kG G_without_ahead hr (by decide) rfl (aA (pv 0) (aA (pv 3) aD))))) (aN (fR (bD tS (pv 2) bP (cL _)) (aN (aP (i:=4) eX.nd rfl (Or.inl rfl) (aW T.kE G_without_label hr (by decide) rfl (aA (pv 0) (aA (pv 3) aD))))) (aN (aP (i:=4) eX.nd rfl (Or.inl rfl) (aW T.jN G_without_behind hr (by decide) rfl (aA (pv 0) (aA (pv 3) aD))))))))
   (aN (aY (kY (bD OA (pv 4) d9 (cL _)) d9 (eF K plainAttrs_str PySem.F.slot_str_strip PySem.F.type_str_strip Mr.HV (pv 4) (aA bP aD))))))),?_⟩
  obtain⟨b,rfl,hb⟩:=hru;have fin:∀(left:Option Str) H1,aF H H1->(∀l,left=some l->l.length<s.length)->if decide (oV left=V.aZ)=true then Q V.aZ H1 else(match oV left with
         |V.str x=>True
         |V.int i=>"str"="int"
         | V.ref p=>
          ("str"="list"/\∃xs,bJ K H1 p xs)\/
           ("str"="tuple"/\∃o,List.lookup p K=some o/\o.cls=Value.type "tuple"/\o.dict=none)\/
            "str"="dict"/\((∃kvs ep,H1 p=some (HO.dK kvs ep))\/ ∃kvs,H1 p=some (HO.dT kvs))\/
             "str"="set"/\∃S n,H1 p=some (HO.set S n)
         |x=>False)/\Mr.HW (oV left) [V.str (Str.ofString " ")] H1 Q:=by
   intro left H1 s1 hl;cases left with
   |none=>exact LQ rfl (q none H1 s1 fun l e=>by cases e)
   |some l=>
    have h1:=hl l rfl;have h2:=DI l (Str.ofString " ");exact LD (fun e=>by cases e) ⟨trivial,l,_,rfl,rfl,e9 (by omega),q (some _) H1 s1 fun l' e=>by cases e;omega⟩
  refine aI ?_;walk_at "vc0"
  refine⟨_,bG.of hb,rfl,_,_,rfl,_,_,rfl,rfl,?_⟩;refine aI ?_;walk_at "vc0"
  refine⟨rfl,qH (fun _=>⟨s,r.2,rfl,hs,hy,fun left H1 s1 hl=>fin left H1 s1 hl⟩) fun _=>⟨rfl,qH (fun _=>⟨s,r.2,rfl,hs,hy,fun left H1 s1 hl=>fin left H1 s1 hl⟩) fun _=>⟨s,r.2,rfl,hs,hy,fun left H1 s1 hl=>fin left H1 s1 hl⟩⟩⟩
theorem jS:aU ["pack","marks","names","held","rows","claimed"] ["pack","marks","names"] (aB dO):=⟨rfl,rfl,rfl,by decide+kernel,rfl,by decide+kernel,by decide+kernel⟩
set_option maxHeartbeats 4000000 in
theorem AI (T:Txt K mg fs fds tc u) (G_rows_of:aV P w K mg base cJ 2 (fs 17) (fds 17) ["pack"] BR) (G_claims_of:aV P w K mg base cJ 2 (fs 18) (fds 18) ["pack"] LI) (G_choice:aV P w K mg base cJ 1 (fs 19) (fds 19) ["held","rows","claimed","name"] LX):aV P w K mg base cJ 3 (fs 20) (fds 20) ["pack","marks","names"] K3:=by
 refine T.tT.F.ok jS (fun vs H Q E h=>?_) (fun cdv A outer s H vs Q E hr h=>?_)
 .obtain⟨v,mv,t,xs,hm,ns,rfl,hP,mX,hM,sV,t4,ht,ndN,hnl,q⟩:=h;rfl
 .obtain⟨v,mv,t,xs,hm,ns,rfl,hP,mX,hM,sV,t4,ht,ndN,hnl,q⟩:=h;refine⟨_,(aE (aP (i:=3) jS.nd rfl (Or.inr rfl) (pG ["name","elder"] 2 [] ["pack","marks","names","held","rows","claimed"] (aB dO) rfl rfl rfl (cW K (pv 1)) (by decide+kernel) (fun _=>(dH (n:=2) K rfl (aS (aO (i:=0) (show(["name","elder"]:List Str).Nodup by decide+kernel) rfl (Or.inl rfl)) (aS (aO (i:=1) (show(["name","elder"]:List Str).Nodup by decide+kernel) rfl (Or.inl rfl)) dD)))) (fun _=>cC) (fun _=>(pv 0)) (fun _=>(pv 1))))
   (aE (aP (i:=4) jS.nd rfl (Or.inr rfl) (aW T.uD G_rows_of hr (by decide) rfl (aA (pv 0) aD)))
   (aE (aP (i:=5) jS.nd rfl (Or.inr rfl) (aW T.p4 G_claims_of hr (by decide) rfl (aA (pv 0) aD)))
   (aN (aY (pG ["name","held","rows","claimed"] 1 [3,4,5] ["pack","marks","names","held","rows","claimed"] (aB dO) rfl rfl rfl (cW K (pv 2)) (by decide+kernel) (fun _=>(aO (i:=0) (show(["name","held","rows","claimed"]:List Str).Nodup by decide+kernel) rfl (Or.inl rfl))) (fun _=>cC) (fun _=>(pv 0)) (fun _=>(aW T.zF G_choice hr (by decide) rfl (aA (pv 1) (aA (pv 2) (aA (pv 3) (aA (pv 0) aD)))))))))))),?_⟩
  obtain⟨ta,us,rfl,hta,hp⟩:=hM;have hlu:=hp.length;have hSl:=eP xs;refine aI ?_;walk_at "vc0"
  refine⟨_,rfl,ta,rfl,⟨us,bG.of hta⟩,fun lh hlh=>NH (bG.of hta) hp sV (gT (by omega)) hlh (fun σ=>∃o1 o2,σ=[o1,o2]) ⟨_,_,rfl⟩ ?_ ?_⟩
  .rintro z u σ H2 kvs N ⟨o1,o2,rfl⟩ ⟨b,rfl,hb⟩ hk hkl hN;unfold jC;walk_at "vc2";exact⟨_,bG.of hb,rfl,_,_,rfl,_,_,rfl,rfl,kvs,hk,.inr z.1,rfl,hkl,fun ep=>hN _ ep ⟨_,_,rfl⟩⟩
  .intro ep;have s1:aF H (upd H lh (.dK (eL hm) ep)):=aF.upd hlh;have e1:upd H lh (.dK (eL hm) ep) lh=some (.dK (eL hm) ep):=aC;generalize upd H lh (.dK (eL hm) ep)=H1 at s1 e1⊢
   refine aI ?_;walk_at "vc0";refine⟨v,xs,rfl,hP.kt s1.kt,fun dr kr H2 s2 hr2 hR=>?_⟩;refine aI ?_;walk_at "vc0"
   refine⟨v,xs,rfl,hP.kt (s1.trans s2).kt,mX,fun dc kc C H3 s3 hc2 hC bA hcl=>?_⟩;have s03:=(s1.trans s2).trans s3;have ht3:=s03 _ _ ht;have hr3:=bY hr2 s3;have hR3:Paired (AD H3) (aQ xs) kr:=L2.Paired.cH hR fun _ _ h=>h.kt s3.kt
   have hh3:=(s2.trans s3) _ _ e1;walk_at "vc0";refine⟨_,rfl,t,rfl,⟨_,bG.of ht3⟩,fun l hl0=>kP (α:=Str) (P:=fun _ n u=>u=V.str n) (bG.of ht3) (pT ns) (fun n=>n) (fun H n v=>∃t r e,v= .ref t/\H t=some (.tup [oV e,r])/\R5 hm (aQ xs) n e) (fun σ=>∃o,σ=[o,some (.ref lh),some (.ref dr),some (.ref dc)]) ⟨_,rfl⟩ hl0 (gT (by omega)) (by rw[List.map_id'];exact ndN) (fun _ _ _ _ k ⟨t,r,e,h1,h2,h3⟩=>⟨t,r,e,h1,k _ _ h2,h3⟩) ?_ (fun H4 kvs s4 hk pr=>?_)⟩
   .rintro n u σ H4 kvs N hn rfl ⟨o,rfl⟩ s4 hk hz hN;unfold jC;walk_at "vc2";refine⟨lh,dr,dc,n,hm,aQ xs,kr,kc,C,rfl,⟨_,s4 _ _ hh3⟩,bY hr3 s4,L2.Paired.cH hR3 fun _ _ h=>h.kt s4.kt,lU xs,bY hc2 s4,L2.Paired.cH hC fun _ _ h=>h.same s4,bA,hcl,fun t2 rr e H5 s5 ht5 hch=>?_⟩;exact⟨kvs,bY hk s5,.inr n,rfl,hz,fun ep=>hN _ _ _ ep ⟨_,rfl⟩ s5 ⟨t2,rr,e,rfl,ht5,hch⟩⟩
   .obtain⟨ab,e2,p2,q2⟩:=BM pr;exact q l ab H4 (s03.trans s4) (DS s03 hl0) ⟨kvs,hk,p2⟩ e2 q2
theorem gY:aU ["pack","marks","ties","held","days","round_about"] ["pack","marks","ties"] (aB cA):=⟨rfl,rfl,rfl,by decide+kernel,rfl,by decide+kernel,by decide+kernel⟩
set_option maxHeartbeats 4000000 in
theorem vM (T:Txt K mg fs fds tc u) (G_days_of:aV P w K mg base cJ 2 (fs 2) (fds 2) ["pack"] GC) (G_rings_in:aV P w K mg base cJ 1 (fs 3) (fds 3) ["above"] QZ) (G_begun_with:aV P w K mg base cJ 1 (fs 23) (fds 23) ["ring","name"] QK) (G_cut_one:aV P w K mg base cJ 1 (fs 22) (fds 22) ["ring","held","days"] QX):aV P w K mg base cJ 3 (fs 24) (fds 24) ["pack","marks","ties"] OY:=by
 refine T.pU.F.ok gY (fun vs H Q E h=>?_) (fun cdv A outer s H vs Q E hr h=>?_)
 .obtain⟨v,mv,d,xs,hm,ab,rfl,hP,hM,sV,t4,hT,nd,hl,hsub,sT,q⟩:=h;rfl
 .obtain⟨v,mv,d,xs,hm,ab,rfl,hP,hM,sV,t4,hT,nd,hl,hsub,sT,q⟩:=h;refine⟨_,(aE (aP (i:=3) gY.nd rfl (Or.inr rfl) (pG ["name","elder"] 2 [] ["pack","marks","ties","held","days","round_about"] (aB cA) rfl rfl rfl (cW K (pv 1)) (by decide+kernel) (fun _=>(dH (n:=2) K rfl (aS (aO (i:=0) (show(["name","elder"]:List Str).Nodup by decide+kernel) rfl (Or.inl rfl)) (aS (aO (i:=1) (show(["name","elder"]:List Str).Nodup by decide+kernel) rfl (Or.inl rfl)) dD)))) (fun _=>cC) (fun _=>(pv 0)) (fun _=>mL)))
   (aE (aP (i:=4) gY.nd rfl (Or.inr rfl) (aW T.tH G_days_of hr (by decide) rfl (aA (pv 0) aD)))
   (aE (aP (i:=5) gY.nd rfl (Or.inl rfl) (aW T.sG G_rings_in hr (by decide) rfl (aA (pG ["name","ties"] 1 [2] ["pack","marks","ties","held","days","round_about"] (aB cA) rfl rfl rfl (wI (pv 2)) (by decide+kernel) (fun _=>(aO (i:=0) (show(["name","ties"]:List Str).Nodup by decide+kernel) rfl (Or.inl rfl))) (fun _=>cC) (fun _=>(pv 0)) (fun _=>(aT (j8 K) (aT (Mr.yM hr) (pv 1) (pv 0) (fun _ _=>rfl)) aH (fun _ _=>rfl)))) aD)))
   (aN (aY (cF (oN K) (by rfl) T.cT dG (aA (bB (K4 K hr) (by rfl) T.eN gF (aA (jM ["ring","held","days"] 1 [3,4] ["pack","marks","ties","held","days","round_about"] (aB cA) rfl rfl rfl (iG K (pv 5)) (by decide+kernel) (fun _=>(aO (i:=0) (show(["ring","held","days"]:List Str).Nodup by decide+kernel) rfl (Or.inl rfl))) (fun _=>cC) (fun _=>(aW T.n4 G_begun_with hr (by decide) rfl (aA (pv 0) (aA (aW T.tM G_cut_one hr (by decide) rfl (aA (pv 0) (aA (pv 1) (aA (pv 2) aD)))) aD))))) aD)) aD))))))),?_⟩
  have h1000:xs.length<=1000:=let⟨_,_,_,_,_,h⟩:=hP;h
  obtain⟨ta,us0,rfl,hta,hp⟩:=hM;have hlu:=hp.length;have hSl:=eP xs;refine aI ?_;walk_at "vc0"
  refine⟨_,rfl,ta,rfl,⟨us0,bG.of hta⟩,fun lh hlh=>kP (bG.of hta) hp (fun z=>z.1) (fun _ _ v=>v=V.bl true) (fun σ=>∃o1 o2,σ=[o1,o2]) ⟨_,_,rfl⟩ hlh (gT (by omega)) sV (fun _ _ _ _ _ h=>h) ?_ (fun H1 kvs s1 hk pr=>?_)⟩
  .rintro z u σ H2 kvs N hz ⟨b,rfl,hb⟩ ⟨o1,o2,rfl⟩ s2 hk hkl hN;unfold jC;walk_at "vc2";exact⟨_,bG.of (s2 _ _ hb),rfl,_,_,rfl,_,_,rfl,rfl,kvs,hk,.inr z.1,rfl,hkl,fun ep=>hN _ _ _ ep ⟨_,_,rfl⟩ (aF.refl _) rfl⟩
  .have ek:=z6 pr;subst ek;refine aI ?_;walk_at "vc0"
   obtain⟨kvd,⟨ed,hd⟩,J6⟩:=hT;refine⟨v,xs,rfl,hP.kt s1.kt,fun dy kd H2 s2 hdy hS=>?_⟩;have hd2:=s2 _ _ (s1 _ _ hd);refine aI ?_;walk_at "vc0"
   refine⟨_,rfl,d,kvd,ed,rfl,.inl hd2,fun l3 hl3=>B1 (Q5 d kvd ed) ab (fun z=>V.str z.1) (fun z=>z.1) (fun _ z v=>v=oV z.2) (fun σ=>∃o,σ=[o,some (.ref d)]) ⟨_,rfl⟩ hl3 (gT (by omega)) nd (fun H' s=>⟨.inl (s _ _ hd2),J6.length⟩) (fun i H' hi s=>⟨.inl (s _ _ hd2),by have:=J6.length;omega⟩) (fun i H3 v H4 hi s y=>?_) (fun _ _ _ _ _ h=>h) ?_ ?_⟩
   .have hik:i<kvd.length:=by have:=J6.length;omega
    obtain⟨z,hz,hT⟩:=L2.Paired.iP J6 (getElem?_eq_getElem hik);refine⟨y.1,z,hz,?_⟩;rw[y.2 _ (getElem?_eq_getElem hik),hT.1];rfl
   .rintro z σ H3 kvs N hz ⟨o,rfl⟩ s3 hk3 hkl hN;unfold jC;walk_at "vc2";obtain⟨t,r,hv,ht⟩:=qO J6 nd hz;have s03:=(s1.trans s2).trans s3;refine⟨d,kvd,.inr z.1,_,rfl,⟨ed,.inl (s3 _ _ hd2)⟩,rfl,hv,t,rfl,_,bG.of (s03 _ _ ht),_,sU,kvs,hk3,.inr z.1,rfl,hkl,fun ep=>hN _ _ _ ep ⟨_,rfl⟩ (aF.refl _) rfl⟩
   .intro H3 kvs s3 hk3 pr3;have ek:=HM pr3;subst ek;have hk3':=hk3;refine⟨l3,ab,rfl,hk3,nd,by omega,fun lr us F S H4 s4 _ e4 hpF fd hS4 hFl hRl=>?_⟩;have s04:=((s1.trans s2).trans s3).trans s4;have hk4:=bY hk (s2.trans (s3.trans s4));have hy4:=bY hdy (s3.trans s4);have hyl:=hS.length;have hul:=hpF.length;have hzf:(F.zip us).map (·.1)=F:=map_fst_zip (by omega);have hzl:(F.zip us).length=F.length:=by rw[length_zip,hul,min_self]
    refine⟨_,rfl,lr,rfl,⟨us,bJ.of e4⟩,fun l5 hl5=>lT (IF K lr) (F.zip us) (·.2) (fun _=>true) QJ (fun σ=>∃o,σ=[o,some (.ref lh),some (.ref dy)]) ⟨_,rfl⟩ hl5 (gT (by omega)) (fun H' s=>⟨us,(bJ.of e4).same s,by omega⟩) (fun i H' hi s=>⟨us,us[i]'(by omega),(bJ.of e4).same s,by simp⟩) (fun i H5 v H6 hi s y=>?_) (fun _ _ _ _ k ⟨b,c,T,e,h,h2⟩=>⟨b,c,T,e,k _ _ h,h2⟩) ?_ ?_⟩
    .have hv:=y.2 us ((bJ.of e4).same s);exact⟨y.1,(F[i]'(by omega),us[i]'(by omega)),by rw[getElem?_eq_getElem hi,getElem_zip],by rw[getElem?_eq_getElem (by omega)]at hv;exact(Option.some.inj hv).symm⟩
    .rintro z σ H5 ys N hz ⟨o,rfl⟩ s5 e5 hyz hN1 hN2;obtain⟨⟨b,eb,hb⟩,hzF⟩:=qP hpF hz;have hb5:=s5 _ _ hb;rw[eb];unfold bV;walk_at "vc2";refine⟨b,lh,dy,z.1,ks hm,kd,aQ xs,rfl,hb5,hRl _ hzF,bY hk4 s5,by rw[length_map];omega,bY hy4 s5,L2.Paired.cH hS fun _ _ h=>h,by omega,D8 (fd.ring _ hzF) nd hsub sT,fun c H6 s6 hc=>⟨b,z.1,c,rfl,s6 _ _ hb5,hc,hRl _ hzF,fun t T H7 s7 ht7 hTl=>?_⟩⟩;exact⟨ys,s7 _ _ (s6 _ _ e5),hyz,hN2 rfl _ _ _ ⟨_,rfl⟩ (s6.trans s7) ⟨t,c,T,rfl,ht7,hc,hTl⟩⟩
    .intro H5 ys s5 hpr e5;rw[show(F.zip us).filter (fun _=>true)=F.zip us from filter_eq_self.mpr (by simp)]at hpr;obtain⟨Rs,hRs,bA⟩:=GI hpr fun z hz=>hRl _ (qP hpF hz).2
     rw[hzf]at bA;have hyl5:=hpr.length;refine⟨l5,rfl,ys,bJ.of e5,_,HN hRs,by omega,fun x hx=>?_,IP Rs,fun l2 zs2 hzs2 hl2=>⟨_,bJ.of aC,fun t ht=>?_⟩⟩
     .obtain⟨T,hT,rfl⟩:=mem_map.mp hx;obtain⟨c,r,rfl,_⟩:=bA.hd T hT;rfl
     .obtain⟨wb,pw,ew⟩:=pN (Mr.dS 3 _) rfl;rw[ew]at hzs2;have s6:=(aF.upd (o:=.lst zs2) hl2).trans (aF.upd (o:=.tup zs2) ht);have hpp:=GV hzs2;refine q t zs2 F S wb _ ((s04.trans s5).trans s6) aC (L2.Paired.cH hpp fun _ _ ⟨b,e,h⟩=>⟨b,e,s6.kt _ _ h⟩) (bA.perm pw) fd hS4 ?_;have h7:=hpp.length;have h8:=pw.length_eq;have h9:=hRs.length;omega
theorem jQ:aU ["_law_hand_here","_law_many","_law_names_here","_law_turn"] ["_law_hand_here","_law_many"] (aB cY):=⟨rfl,rfl,rfl,by decide+kernel,rfl,by decide+kernel,by decide+kernel⟩
set_option maxHeartbeats 4000000 in
theorem vW (T:Txt K mg fs fds tc u) (G_law_name:aV P w K mg base cJ 2 (fs 34) (fds 34) ["_law_hand_here","_law_used"] K5):aV P w K mg base cJ 3 (fs 35) (fds 35) ["_law_hand_here","_law_many"] LY:=by
 refine T.pF.F.ok jQ (fun vs H Q E h=>?_) (fun cdv A outer s H vs Q E hr h=>?_)
 .obtain⟨p,m,c,rfl,hp,hc,hm,q⟩:=h;rfl
 .obtain⟨p,m,c,rfl,hp,hc,hm,q⟩:=h;refine⟨_,(aE (aP (i:=2) jQ.nd rfl (Or.inl rfl) (gR aD))
   (aE (dP PassesOwn.never rfl (jF rfl T.g6 (aA (pv 1) aD)) (aO (i:=3) jQ.nd rfl (Or.inl rfl)) (aN (iV (eF K plainAttrs_list PySem.F.slot_list_append PySem.F.type_list_append eY (pv 2) (aA (aW T.rL G_law_name hr (by decide) rfl (aA (pv 0) (aA (pv 2) aD))) aD)))))
   (aN (aY (pv 2))))),?_⟩
  refine aI ?_;walk_at "vc0"
  refine⟨zero_le _,fun l hl=>?_⟩;have npl:l≠p:=fun e=>by obtain⟨a,b,i,he,_⟩:=hp;rw[e,he]at hl;cases hl
  have s0:=aF.upd (o:=.lst []) hl;refine aI ⟨_,rfl,_,rfl,by omega,by omega,oZ (fun i σ H'=>Box (c+14*i) H' p/\fQ p H H'/\(∃zs,K0 H' l zs/\zs.Nodup/\zs.length=i)/\∃v3,σ=[some (V.ref p),some (V.int m),some (V.ref l),v3]) ⟨?_,fun b o h _=>s0 b o h,⟨[],⟨aC,(fun _ h=>nomatch h),zero_le _⟩,nodup_nil,rfl⟩,_,rfl⟩ ?_ ?_⟩
  .obtain⟨a,b,i,he,r⟩:=hp;exact⟨a,b,i,s0 _ _ he,r⟩
  .rintro i σ H2 hi ⟨hp2,b2,⟨zs,hN,hnd,hz⟩,v3,rfl⟩;have hi:i<m:=by simpa using hi
   walk_at "vc0";refine⟨.inl ⟨_,bJ.of hN.el⟩,p,l,zs,c+14*i,rfl,hp2,by omega,hN,npl,fun x H3 hx hxz hp3 b3=>?_⟩;refine⟨_,b3 _ _ hN.el npl,gT (by rw[length_map];omega),?_,?_,⟨zs++[x],⟨by rw[aC,map_append];rfl,?_,by rw[length_append];show zs.length+1<=9;omega⟩,nodup_append.mpr ⟨hnd,by simp,fun a ha b hb e=>hxz (by rw[<-mem_singleton.mp hb,<-e];exact ha)⟩,by rw[length_append];show zs.length+1=_;omega⟩,?_⟩
   .obtain⟨a,b,k,he,a0,b0,b1,k0,k1⟩:=hp3;exact⟨a,b,k,by rw[aM (fun e=>npl e.symm)];exact he,a0,b0,b1,k0,by omega⟩
   .exact fun b o h n=>by rw[aM (aG h hl)];exact b3 b o (b2 b o h n) n
   .intro z hz;rcases mem_append.mp hz with h|h
    .exact hN.nm z h
    .rw[mem_singleton.mp h];exact hx
   .exact⟨_,rfl⟩
  .rintro σ H2 ⟨hp2,b2,⟨zs,hN,hnd,hz⟩,v3,rfl⟩;walk_at "vc0";exact q l zs H2 hl npl hN hnd (by rw[hz];rfl) hp2 b2
theorem iW:aU ["_law_hand_here","_law_names_here","_law_found","_law_name_here","_law_turn"] ["_law_hand_here","_law_names_here"] (aB dX):=⟨rfl,rfl,rfl,by decide+kernel,rfl,by decide+kernel,by decide+kernel⟩
set_option maxHeartbeats 4000000 in
theorem w6 (T:Txt K mg fs fds tc u) (G_law_take:aV P w K mg base cJ 1 (fs 33) (fds 33) ["_law_hand_here","_law_many"] CJ) (G_law_letter:aV P w K mg base cJ 2 (fs 36) (fds 36) ["_law_hand_here","_law_name_here","_law_names_here"] EL):aV P w K mg base cJ 3 (fs 37) (fds 37) ["_law_hand_here","_law_names_here"] O3:=by
 refine T.qX.F.ok iW (fun vs H Q E h=>?_) (fun cdv A outer s H vs Q E hr h=>?_)
 .obtain⟨p,l,zs,c,rfl,hp,hc,hN,hz1,npl,q⟩:=h;rfl
 .obtain⟨p,l,zs,c,rfl,hp,hc,hN,hz1,npl,q⟩:=h;refine⟨_,(aE (aP (i:=2) iW.nd rfl (Or.inl rfl) (JK w))
   (aE (dP PassesOwn.never rfl (iG K (pv 1)) (aO (i:=3) iW.nd rfl (Or.inl rfl)) (aN (dP PassesOwn.never rfl (jF rfl T.g6 (aA (aT (j8 K) (bE (aA aH (aA aH (aA aH (aA aH (aA aH (aA aH aD))))))) (aW T.bK G_law_take hr (by decide) rfl (aA (pv 0) (aA aH aD))) (fun _ _=>rfl)) aD)) (aO (i:=4) iW.nd rfl (Or.inl rfl)) (aN (JT w hr (pv 2) (aW T.nH G_law_letter hr (by decide) rfl (aA (pv 0) (aA (pv 3) (aA (pv 1) aD)))) mL rfl)))))
   (aN (aY (cF (oN K) (by rfl) T.cT dG (aA (bB (QY hr) (by rfl) T.eN gF (aA (pv 2) aD)) aD)))))),?_⟩
  have h8:=hN.le;have t4:(zs.map V.str).length=zs.length:=length_map ..;refine aI ?_;walk_at "vc0"
  refine .inr fun f hf=>?_
  have npf:=Box.ne hp hf;have s0:aF H (upd H f (DN w f [] 0)):=aF.upd hf;refine aI ⟨_,rfl,l,rfl,⟨_,bJ.of (s0 _ _ hN.el)⟩,q5 (K:=K) (a:=l) (xs:=zs.map V.str) (fun i σ H'=>(∃kvs ep xs,H' f=some (DN w f kvs ep)/\Paired (sJ zs H') xs kvs/\xs.length<=2*i)/\Box (c+65*i) H' p/\fQ p H H'/\∃v3 v4,σ=[some (V.ref p),some (.ref l),some (.ref f),v3,v4]) ⟨⟨[],0,[],aC,.nil,zero_le _⟩,Box.same (p:=p) hp s0,fQ.of s0,_,_,rfl⟩ (fun i σ H' _ ⟨_,_,b,_⟩=>bJ.of (b _ _ hN.el npl)) ?_ ?_⟩
  .rintro i x σ H2 hx ⟨⟨kvs,ep,xs,hf2,hpr,hxl⟩,hp2,b2,v3,v4,rfl⟩;obtain⟨n,hn,rfl⟩:=strAt hx;have hnz:=mem_of_getElem? hn;have hi:i<zs.length:=(List.getElem?_eq_some_iff.mp hn).1;walk_at "vc0";refine⟨by decide,fun t ht=>⟨_,rfl,p,6,c+65*i,rfl,Box.same (p:=p) hp2 (aF.upd ht),by omega,by decide,by decide,fun d H3 d0 d1 hp3 b3=>?_⟩⟩;have ntp:t≠p:=(Box.ne hp2 ht).symm;have et:=b3 _ _ (aC (o:=HO.tup [V.int 0,V.int 1,V.int 1,V.int 1,V.int 1,V.int 2]) (a:=t) (H:=H2)) ntp;obtain⟨v,hv,hat⟩:=iT (xs:=[V.int 0,V.int 1,V.int 1,V.int 1,V.int 1,V.int 2]) d0 d1;obtain⟨m,rfl,m2⟩:∃m:Nat,v= .int m/\m<=2:=by
    simp only[mem_cons,mem_nil_iff,or_false]at hv;rcases hv with h|h|h|h|h|h
    .exact⟨0,h,by decide⟩
    .exact⟨1,h,by decide⟩
    .exact⟨1,h,by decide⟩
    .exact⟨1,h,by decide⟩
    .exact⟨1,h,by decide⟩
    .exact⟨2,h,by decide⟩
   have s2t:aF H2 (upd H2 t (HO.tup [V.int 0,V.int 1,V.int 1,V.int 1,V.int 1,V.int 2])):=aF.upd ht;have bb3:=(b2.trans (fQ.of s2t)).trans b3;have hf3:=b3 _ _ (s2t _ _ hf2) npf.symm;have hpr3:Paired (sJ zs H3) xs kvs:=L2.Paired.cH hpr fun _ _ h=>(h.kt s2t.kt).kt (Box.kt (d:=0) (Box.same (p:=p) hp2 s2t) b3)
   clear hpr hf2 b2 b3;refine⟨t,_,d,_,rfl,rfl,bG.of et,hat,_,rfl,by omega,by omega,oZ (fun j σ H'=>(∃kvs ep xs,H' f=some (DN w f kvs ep)/\Paired (sJ zs H') xs kvs/\xs.length<=2*i+j)/\Box (c+65*i+1+30*j) H' p/\fQ p H H'/\∃v4,σ=[some (V.ref p),some (.ref l),some (.ref f),some (.str n),v4]) ⟨⟨kvs,ep,xs,hf3,hpr3,hxl⟩,hp3,bb3,_,rfl⟩ ?_ ?_⟩
   .rintro j σ H4 hj ⟨⟨kvs,ep,xs,hf4,hpr4,hxl4⟩,hp4,b4,v4,rfl⟩;have hj:j<m:=by simpa using hj
    have hlk:=hpr4.length;walk_at "vc0";refine⟨p,l,zs,n,_,rfl,hp4,by omega,⟨b4 _ _ hN.el npl,hN.nm,hN.le⟩,hz1,npl,hN.nm n hnz,fun v x H5 hL en hrw hp5 b5=>?_⟩;obtain⟨a,r,rfl,ha,hr⟩:=hL.at';obtain⟨ks,eks,dks⟩:=EJ x;have hf5:=b5 _ _ hf4 npf.symm;have hpr5:Paired (sJ zs H5) xs kvs:=L2.Paired.cH hpr4 fun _ _ h=>h.kt (Box.kt (d:=0) hp4 b5)
    have pd:sJ zs H5 x (ks,a,.bl true):=⟨hL,eks,by rw[en];exact hnz,hrw⟩;have hnk:=hL.tr.nk (yI x);rw[eks]at hnk;refine .inr ⟨kvs,ep,a,ks,hf5,sJ.ks hpr5,rfl,hnk,dks,gT (by omega),fun ep'=>?_⟩;obtain⟨xs',hx',hxl'⟩:=sJ.put hpr5 pd;refine⟨⟨_,⟨ep',aC⟩,xs',L2.Paired.cH hx' fun _ _ h=>h.kt (eK.dn hf5),by omega⟩,?_,fun b o h n=>?_,_,rfl⟩
    .show N5 _ (upd _ _ _ p);rw[aM npf];exact hp5
    .rw[aM (aG h hf)];exact b5 b o (b4 b o h n) n
   .rintro σ H4 ⟨⟨kvs,ep,xs,hf4,hpr4,hxl4⟩,hp4,b4,v4,rfl⟩;rw[toNat_natCast]at hxl4 hp4;exact⟨⟨kvs,⟨ep,hf4⟩,xs,hpr4,by omega⟩,Box.up (p:=p) hp4 (by omega),b4,_,_,rfl⟩
  .rintro σ H2 ⟨⟨kvs,ep,xs,hf2,hpr,hxl⟩,hp2,b2,v3,v4,rfl⟩;walk_at "vc0";rw[t4]at hxl hp2;have hlk:=hpr.length;refine⟨kvs,⟨ep,hf2⟩,_,sJ.SA hpr,by omega,fun x hx=>?_,HE xs,fun l2 zs2 ht2 hl2=>⟨_,bJ.of aC,fun t ht=>?_⟩⟩
   .obtain⟨y,_,rfl⟩:=mem_map.mp hx;rfl
   .obtain⟨ys,py,ey⟩:=uB (Mr.dS 3 _);rw[ey]at ht2;have s2:=(aF.upd (o:=.lst zs2) hl2).trans (aF.upd (o:=.tup zs2) ht);have hmem:∀x∈ys,x.Ok/\x.n∈zs/\∀r∈x.row,r∈zs:=fun x hx=>GH hpr x (py.mem_iff.mp hx)
    have hyl:=py.length_eq;exact q _ ys _ ⟨t,zs2,rfl,aC,L2.Paired.cH (HL ht2 fun x hx=>(hmem x hx).1) fun _ _ h=>h.kp s2.kt,by omega⟩ (by omega) (fun x hx=>(hmem x hx).2) (Box.up (p:=p) (Box.same (p:=p) hp2 s2) (by omega)) (b2.trans (fQ.of s2))
theorem g4:aU ["text","rules","number","rule","left"] ["text","rules"] (aB dC):=⟨rfl,rfl,rfl,by decide+kernel,rfl,by decide+kernel,by decide+kernel⟩
set_option maxHeartbeats 4000000 in
theorem wQ (T:Txt K mg fs fds tc u) (G_taken_off:aV P w K mg base cJ 3 (fs 12) (fds 12) ["text","rule"] LW):aV P w K mg base cJ 4 (fs 13) (fds 13) ["text","rules"] P9:=by
 refine T.lA.F.ok g4 (fun vs H Q E h=>?_) (fun cdv A outer s H vs Q E hr h=>?_)
 .obtain⟨s,v,rs,rfl,hs,hR,q⟩:=h;rfl
 .obtain⟨s,v,rs,rfl,hs,hR,q⟩:=h;refine⟨_,(aE (dP PassesOwn.never rfl (wD K rfl T.eQ (aA (pv 1) aD)) (dH (n:=2) K rfl (aS (aO (i:=2) g4.nd rfl (Or.inl rfl)) (aS (aO (i:=3) g4.nd rfl (Or.inl rfl)) dD))) (aE (aP (i:=4) g4.nd rfl (Or.inl rfl) (aW T.p0 G_taken_off hr (by decide) rfl (aA (pv 0) (aA (pv 3) aD))))
   (aN (fR (bD kB (pv 4) d9 (cL _)) (aN (aY (bE (aA (pv 2) (aA (pv 4) aD))))) cU))))
   (aN (aY d9))),?_⟩
  obtain⟨t,us,rfl,ht,hp,hl10,hw⟩:=hR;refine aI ?_;walk_at "vc0"
  refine⟨_,rfl,.inl ⟨t,us,rfl,bG.of ht,uO (fun i σ H'=>aF H H'/\∃v2 v3 v4,σ=[some (.str s),some (.ref t),v2,v3,v4]) ⟨aF.refl _,_,_,_,rfl⟩ (fun i σ H' _ ⟨s',_⟩=>bG.of (s' _ _ ht)) ?_ ?_⟩⟩
  .rintro i u t2 σ H1 hu ht2 ⟨s1,v2,v3,v4,rfl⟩;obtain⟨r,hr1,hr2⟩:=L2.Paired.iP hp hu;have hri:=(List.getElem?_eq_some_iff.mp hr1).1;have s2:=aF.upd (o:=.tup [.int i,u]) ht2;have e2:upd H1 t2 (.tup [.int i,u]) t2=some (.tup [.int i,u]):=aC;generalize upd H1 t2 (.tup [.int i,u])=H2 at s2 e2⊢
   obtain⟨b,rfl,hb⟩:=hr2;have hb2:=s2 _ _ (s1 _ _ hb);walk_at "vc0";refine⟨_,bG.of e2,rfl,_,_,rfl,_,_,rfl,rfl,?_⟩;refine aI ?_;walk_at "vc0"
   refine⟨s,_,r,rfl,hs,⟨b,rfl,hb2⟩,hw r (mem_of_getElem? hr1),fun left H3 s3 hleft=>?_⟩;cases left with
   |none=>
    refine qH (fun e=>?_) (fun _=>?_)
    .cases e
    .exact⟨(s1.trans s2).trans s3,_,rfl⟩
   |some l=>
    refine qH (fun _=>?_) (fun e=>?_)
    .refine⟨e9 (by decide),fun t3 ht3=>q (.ref t3) _ (((s1.trans s2).trans s3).trans (aF.upd ht3)) (.inr ⟨t3,i,l,rfl,aC,hri,hleft l rfl⟩)⟩
    .cases e
  .rintro σ H1 ⟨s1,v2,v3,v4,rfl⟩;walk_at "vc0";exact q (oV none) H1 s1 (.inl rfl)
theorem iZ:aU ["pack","marks","ties","cut","ring"] ["pack","marks"] (aB dI):=⟨rfl,rfl,rfl,by decide+kernel,rfl,by decide+kernel,by decide+kernel⟩
set_option maxHeartbeats 4000000 in
theorem xQ (T:Txt K mg fs fds tc u) (G_choices:aV P w K mg base cJ 3 (fs 20) (fds 20) ["pack","marks","names"] K3) (G_cut_rings:aV P w K mg base cJ 3 (fs 24) (fds 24) ["pack","marks","ties"] OY) (G_places:aV P w K mg base cJ 2 (fs 21) (fds 21) ["pack","marks"] KW):aV P w K mg base cJ 4 (fs 25) (fds 25) ["pack","marks"] FQ:=by
 refine T.mU.F.ok iZ (fun vs H Q E h=>?_) (fun cdv A outer s H vs Q E hr h=>?_)
 .obtain⟨v,mv,xs,hm,zs,rfl,hP,mX,hM,sV,t4,sT,hz,hsub,q⟩:=h;rfl
 .obtain⟨v,mv,xs,hm,zs,rfl,hP,mX,hM,sV,t4,sT,hz,hsub,q⟩:=h;refine⟨_,(aE (aP (i:=2) iZ.nd rfl (Or.inr rfl) (aW T.tT G_choices hr (by decide) rfl (aA (pv 0) (aA (pv 1) (aA (aW T.y3 G_places hr (by decide) rfl (aA (pv 0) (aA (pv 1) aD))) aD)))))
   (aE (aP (i:=3) iZ.nd rfl (Or.inl rfl) (aW T.pU G_cut_rings hr (by decide) rfl (aA (pv 0) (aA (pv 1) (aA (pv 2) aD)))))
   (aE (dP PassesOwn.never rfl (cW K (pv 3)) (aO (i:=4) iZ.nd rfl (Or.inl rfl)) (aN (fJ (iE hr) (pv 2) (aT (j8 K) (pv 4) aH (fun _ _=>rfl)) (bE (aA d9 (aA (bE (aA bP (aA (pv 4) aD))) aD))) rfl)))
   (aN (aY (cF (oN K) (by rfl) T.cT dG (aA (jM ["name","ties"] 1 [2] ["pack","marks","ties","cut","ring"] (aB dI) rfl rfl rfl (iG K (bB BU (by rfl) T.eN gF (aA (pv 2) aD))) (by decide+kernel) (fun _=>(aO (i:=0) (show(["name","ties"]:List Str).Nodup by decide+kernel) rfl (Or.inl rfl))) (fun _=>cC) (fun _=>(bE (aA (pv 0) (aA (aT (j8 K) (aT (Mr.yM hr) (pv 1) (pv 0) (fun _ _=>rfl)) aH (fun _ _=>rfl)) (aA (aT (j8 K) (aT (Mr.yM hr) (pv 1) (pv 0) (fun _ _=>rfl)) aH (fun _ _=>rfl)) aD)))))) aD))))))),?_⟩
  refine aI ?_;walk_at "vc0"
  refine⟨v,mv,xs,hm,zs,rfl,hP,hM,hz,hsub,fun t ns H1 s1 ht hnd hso hmem=>?_⟩;have hnl:ns.length<=zs.length:=fK hnd fun x hx=>hsub x ((hmem x).mp hx)
  refine⟨v,mv,t,xs,hm,ns,rfl,hP.kt s1.kt,mX,jV.kt s1.kt hM,sV,t4,ht,hnd,by omega,fun d ab H2 s2 hd0 hT hks hch=>?_⟩;have hT2:=hT;have nd:(ks ab).Nodup:=by rw[hks];exact hnd
  have hal:ab.length<=60:=by rw[<-length_map (f:=fun z:Str×Option Str=>z.1)];show(ks ab).length<=60;rw[hks];omega
  have s12:=s1.trans s2;refine aI ?_;walk_at "vc0"
  refine⟨v,mv,d,xs,hm,ab,rfl,hP.kt s12.kt,jV.kt s12.kt hM,sV,t4,hT,nd,hal,fun z hz1 hz2=>?_,sT,fun tc us F S Rs H3 s3 htc hRs bA fd hS hul=>?_⟩
  .rcases hch z hz1 with h|h
   .exact h.2
   .exact absurd hz2 h.1
  have hlR:=hRs.length;refine aI ⟨_,rfl,tc,rfl,⟨us,bG.of htc⟩,gZ (K:=K) (fun i σ H'=>fQ d H3 H'/\(∃kvs ab',bZ H' d kvs/\Paired (iF H') ab' kvs/\ks ab'=ks ab/\(∀x y,dB ab' x=some y->dB ab x=some y)/\∀T∈Rs.take i,∀c r,T=c::r->dB ab' c=none)/\∃o,σ=[some v,some mv,some (.ref d),some (.ref tc),o]) ⟨fun _ _ h _=>h,?_,_,rfl⟩ (fun i σ H' _ ⟨b,_⟩=>bG.of (b _ _ htc fun e=>?_)) ?_ ?_⟩
  .obtain⟨kvs,hk,hp⟩:=hT;exact⟨kvs,ab,bY hk s3,L2.Paired.cH hp fun _ _ ⟨e,t,r,e2,h⟩=>⟨e,t,r,e2,s3 _ _ h⟩,rfl,fun _ _ h=>h,fun T h=>by simp at h⟩
  .obtain⟨kvs,⟨ep,hk⟩,_⟩:=hT;rw[e,s3 _ _ hk]at htc;cases htc
  .rintro i u σ H4 hu ⟨b4,⟨kvs,ab',hk,hp,hks',hup,hcut⟩,o,rfl⟩;obtain⟨T,hT,b,rfl,hb⟩:=L2.Paired.iP hRs hu;obtain⟨c,r,eT,R,hR,hcR⟩:=bA.hd T (mem_of_getElem? hT);have hck:c∈ks ab:=by
    obtain⟨n,e⟩:=(fd.ring R hR).pJ hcR;cases hu:dB ab c with
    |none=>rw[Rg.gB,hu]at e;cases e
    |some w=>exact uS hu
   have hil:=(List.getElem?_eq_some_iff.mp hT).1;obtain⟨e4,hk4⟩:=id hk;have hbd:b≠d:=fun e=>by
    obtain⟨kvs,⟨ep,hk⟩,_⟩:=hT2;rw[e,s3 _ _ hk]at hb;cases hb
   have hb4:=b4 _ _ hb hbd;rw[eT]at hb4;have hkl:kvs.length<=60:=by
    have h1:=hp.length;have h2:=congrArg List.length hks';unfold ks at h2;rw[length_map,length_map]at h2;omega
   walk_at "vc1";refine⟨e9 (by decide),fun p hp0=>⟨e9 (by decide),fun p1 hp1=>?_⟩⟩;have s5:=(aF.upd (o:=.tup [V.str (Str.ofString "ring"),V.ref b]) hp0).trans (aF.upd (o:=.tup [.aZ,.ref p]) hp1);have e5:upd (upd H4 p (.tup [V.str (Str.ofString "ring"),V.ref b])) p1 (.tup [.aZ,.ref p]) p1=some (.tup [.aZ,.ref p]):=aC;generalize upd (upd H4 p (.tup [V.str (Str.ofString "ring"),V.ref b])) p1 (.tup [.aZ,.ref p])=H5 at s5 e5⊢
   have hd5:=s5 _ _ hk4;have kt6:∀o,eK H5 (upd H5 d (.dK o (e4+1))):=fun o a us h=>by rw[aM (fun e=>by rw[e,hd5]at h;cases h)];exact h
   refine⟨_,bG.of (s5 _ _ hb4),_,sU,.inl ⟨kvs,.inr c,bY hk s5,rfl,gT (by omega),fun ep=>⟨fun b o h n=>by rw[aM n];exact s5 _ _ (b4 _ _ h n),⟨_,⟨ep,aC⟩,gD ab' c none,IJ (r:=.ref p) (by rw[aM (fun e=>by rw[e,hd5]at e5;cases e5)];exact e5) (L2.Paired.cH hp fun _ _ ⟨e,t,r,e2,h⟩=>⟨e,t,r,e2,by rw[aM (fun e=>by rw[e]at h;rw[hk4]at h;cases h)];exact s5 _ _ h⟩) (by rw[hks'];exact hck),by rw[J8 (by rw[hks'];exact hck)];exact hks',fun x y h=>?_,fun T' hT' c' r' e'=>?_⟩,_,rfl⟩⟩⟩
   .rw[lW]at h;split at h
    .cases h
    .exact hup x y h
   .rw[lW];split
    .rfl
    .rename_i hne;rw[take_snoc hT]at hT';rcases mem_append.mp hT' with h|h
     .exact hcut T' h c' r' e'
     .rw[mem_singleton.mp h,eT]at e';cases e';exact absurd rfl hne
  .rintro σ H4 ⟨b4,⟨kvs,ab',hk,hp,hks',hup,hcut⟩,o,rfl⟩;rw[<-hlR,take_length]at hcut;have hac2:∀x,¬Rg.pJ (dB ab') x:=Rg.II fd (fun x ⟨n,e⟩=>hS x (by
    cases hu:dB ab x with
    |none=>rw[Rg.gB,hu]at e;cases e
    |some w=>exact uS hu)) hup fun R hR=>by
     obtain⟨T,hT,c,r,eT,hc⟩:=bA.al R hR;exact⟨c,hc,hcut T hT c r eT⟩
   obtain⟨e4,hk4⟩:=id hk;have nd':(ks ab').Nodup:=by rw[hks'];exact nd
   have hkl:(ks ab').length<=60:=by rw[hks'];unfold ks;rw[length_map];omega
   have h0d:∀b o,H b=some o->b≠d:=fun b o h e=>by
    have h1:=s1 _ _ h;rw[e,hd0]at h1;cases h1
   have s04:aF H H4:=fun b o h=>b4 _ _ (s3 _ _ (s12 _ _ h)) (h0d b o h)
   walk_at "vc0";refine⟨_,rfl,d,kvs,ks ab',rfl,⟨e4,.inl hk4⟩,jZ hp,by omega,fun ls out pm hso hls=>⟨ls,rfl,⟨_,bJ.of aC⟩,fun l hl=>?_⟩⟩;have s5:=aF.upd (o:=.lst (out.map V.str)) hls;have e5:upd H4 ls (.lst (out.map V.str)) ls=some (.lst (out.map V.str)):=aC;generalize upd H4 ls (.lst (out.map V.str))=H5 at s5 e5 hl⊢
   have hol:=pm.length_eq;refine g9 (bJ.of e5) (fun _=>true) (fun H n v=>∃(b:Addr) (o:Option Str) (r:V),v= .ref b/\H b=some (.tup [.str n,oV o,r])/\(n,o)∈ab') (fun σ=>∃o,σ=[o,some (.ref d)]) ⟨_,rfl⟩ hl (gT (by omega)) (fun _ _ _ _ k ⟨b,o,r,e,h,m⟩=>⟨b,o,r,e,k _ _ h,m⟩) ?_ ?_
   .rintro n σ H6 ys N hn ⟨o,rfl⟩ s6 e6 hz6 hN1 hN2;obtain⟨z,hz,rfl⟩:=mem_map.mp (pm.mem_iff.mp hn);obtain⟨t,r,hv,ht⟩:=qO hp nd' hz;have hd6:=s6 _ _ (s5 _ _ hk4);have ht6:=s6 _ _ (s5 _ _ ht);unfold bV;walk_at "vc2";exact⟨d,kvs,.inr z.1,_,rfl,⟨e4,.inl hd6⟩,rfl,hv,t,rfl,_,bG.of ht6,_,sU,d,kvs,.inr z.1,_,rfl,⟨e4,.inl hd6⟩,rfl,hv,t,rfl,_,bG.of ht6,_,cB (j:=1) rfl,e9 (by decide),fun t7 ht7=>⟨ys,aF.upd ht7 _ _ e6,hz6,hN2 rfl _ _ _ ⟨_,rfl⟩ (aF.upd ht7) ⟨t7,z.2,r,rfl,aC,hz⟩⟩⟩
   .intro H6 ys s6 hpr e6;rw[show out.filter (fun _=>true)=out from filter_eq_self.mpr (by simp)]at hpr;obtain⟨ws,hws,hpw,hsw⟩:=wJ hpr;have ndw:(ks ws).Nodup:=by rw[hws];exact pm.nodup_iff.mpr nd'
    have hkw:∀x,x∈ks ws↔x∈ks ab:=fun x=>by rw[hws,pm.mem_iff,hks']
    have hupw:∀x y,dB ws x=some y->dB ab' x=some y:=fun x y h=>A0 nd' (hsw _ (iC h))
    refine⟨l,rfl,ys,bJ.of e6,fun t ht=>q _ ws _ (((s04.trans s5).trans s6).trans (aF.upd ht)) ⟨t,ys,rfl,aC,L2.Paired.cH hpw fun _ _ ⟨b,r,e,h⟩=>⟨b,r,e,(aF.upd ht) _ _ h⟩⟩ ndw (fun x=>by rw[hkw,hks,hmem]) (fun x y h=>?_) (fun x c=>hac2 x (c.mono hupw)) ?_⟩
    .rw[hkw];have h1:=iC (hup x y (hupw x y h));rw[hks,hmem];rcases hch _ h1 with⟨_,e⟩|⟨_,⟨y0,hy0,_,e⟩|⟨_,⟨y0,hy0,j,_,e,_⟩|⟨_,e⟩⟩⟩
     .exact .inr ⟨_,iC e.symm,.inr rfl⟩
     .exact .inl ⟨y0,hy0,.inr (List.mem_of_getLast? e.symm)⟩
     .exact .inl ⟨y0,hy0,.inr (mem_of_getElem? e.symm)⟩
     .cases e
    .rw[<-length_map (f:=fun z:Str×Option Str=>z.1)];show(ks ws).length<=60;rw[hws];omega
theorem mB:aU ["head","rules","steps","step"] ["head","rules"] (aB fZ):=⟨rfl,rfl,rfl,by decide+kernel,rfl,by decide+kernel,by decide+kernel⟩
set_option maxHeartbeats 4000000 in
theorem DF (T:Txt K mg fs fds tc u) (G_next_step:aV P w K mg base cJ 4 (fs 13) (fds 13) ["text","rules"] P9) (G_plain:aV P w K mg base cJ 1 (fs 7) (fds 7) ["head"] HI):aV P w K mg base cJ 5 (fs 14) (fds 14) ["head","rules"] M8:=by
 refine T.qZ.F.ok mB (fun vs H Q E h=>?_) (fun cdv A outer s H vs Q E hr h=>?_)
 .obtain⟨h,v,rs,rfl,hh,hR,q⟩:=h;rfl
 .obtain⟨h,v,rs,rfl,hh,hR,q⟩:=h;refine⟨_,(aE (aP (i:=2) mB.nd rfl (Or.inl rfl) (gR aD))
   (aE (aP (i:=3) mB.nd rfl (Or.inl rfl) (aW T.lA G_next_step hr (by decide) rfl (aA (aW T.vE G_plain hr (by decide) rfl (aA (pv 0) aD)) (aA (pv 1) aD))))
   (aE (nJ PassesOwn.never (bD kB (pv 3) d9 (cL _)) (aE (iV (eF K plainAttrs_list PySem.F.slot_list_append PySem.F.type_list_append eY (pv 2) (aA (pv 3) aD)))
   (aN (aP (i:=3) mB.nd rfl (Or.inl rfl) (aW T.lA G_next_step hr (by decide) rfl (aA (aT (j8 K) (pv 3) aH (fun _ _=>rfl)) (aA (pv 1) aD)))))))
   (aN (aY (cF (oN K) (by rfl) T.cT dG (aA (pv 2) aD))))))),?_⟩
  refine aI ?_;walk_at "vc0"
  refine⟨zero_le _,fun p hp=>?_⟩;have ep:upd H p (.lst []) p=some (.lst []):=aC;have s0:=aF.upd (o:=.lst []) hp;have hR0:=hR.kt s0.kt;generalize upd H p (.lst [])=H0 at ep s0 hR0⊢
  refine aI ?_;walk_at "vc0";refine⟨h,rfl,hh,fun s H1 s1 hs=>⟨s,_,rs,rfl,hs,hR0.kt s1.kt,fun x H2 s2 hx=>?_⟩⟩;have hx1:x=oV none\/ ∃(t:Addr) (i:Nat) (l:Str),x= .ref t/\H2 t=some (.tup [.int i,.str l])/\i<rs.length/\l.length<200:=hx.imp id fun⟨t,i,l,e,h1,h2,h3⟩=>⟨t,i,l,e,h1,h2,by omega⟩
  have b2:fQ p H0 H2:=fun b o h _=>(s1.trans s2) b o h
  have e2:=(s1.trans s2) _ _ ep;clear hx s1 s2;refine aI (yG (fun σ H'=>∃us x,σ=[some (.str h),some v,some (.ref p),some x]/\fQ p H0 H'/\H' p=some (.lst us)/\(∀u∈us,DT H' rs.length u)/\us.length<=200/\(x=oV none\/ ∃(t:Addr) (i:Nat) (l:Str),x= .ref t/\H' t=some (.tup [.int i,.str l])/\i<rs.length/\us.length+l.length<200)) (fun σ H'=>match H' p with|some (.lst us)=>200 - us.length|_=>0) ⟨[],x,rfl,b2,e2,(fun _ h=>nomatch h),zero_le _,by simpa using hx1⟩ ?_ ?_)
  .rintro σ H3 ⟨us,x,rfl,b3,e3,hus,hul,hx3⟩;walk_at "vc0";refine qH (fun hne=>?_) (fun he=>?_)
   .rcases hx3 with rfl|⟨t,i,l,rfl,ht,hi,hl⟩
    .cases hne
    have kt:eK H3 (upd H3 p (.lst (us++[.ref t]))):=eK.upd e3;have b4:fQ p H0 (upd H3 p (.lst (us++[.ref t]))):=fun b o h n=>by rw[aM n];exact b3 b o h n
    have e4:upd H3 p (.lst (us++[.ref t])) p=some (.lst (us++[.ref t])):=aC;have ht4:=kt _ _ ht;have hR4:EE (upd H3 p (.lst (us++[.ref t]))) v rs:=hR0.kt fun b xs h=>b4 b _ h fun e=>by rw[e,ep]at h;cases h
    have hus4:∀u∈us++[V.ref t],DT (upd H3 p (.lst (us++[.ref t]))) rs.length u:=fun u hu=>by
     rcases mem_append.mp hu with h|h
     .exact(hus u h).kt kt
     .rw[mem_singleton.mp h];exact⟨t,i,l,rfl,ht4,hi,by omega⟩
    have hl4:(us++[V.ref t]).length=us.length+1:=by simp
    refine aI ?_;walk_at "vc0"
    refine⟨.inl ⟨us,bJ.of e3⟩,us,e3,gT (by omega),_,bG.of ht4,_,cB (j:=1) rfl,l,v,rs,rfl,by omega,hR4,fun x H5 s5 hx=>⟨fun b o h n=>s5 _ _ (b4 b o h n),⟨us++[.ref t],s5 _ _ e4,fun u hu=>(hus4 u hu).kt s5.kt,by omega,hx.imp id fun⟨t',i',l',e,h1,h2,h3⟩=>⟨t',e,i',l',h1,h2,by omega⟩⟩,?_⟩⟩;rw[s5 _ _ e4,e3];show 200 - (us++[V.ref t]).length<200 - us.length;omega
   .refine⟨us,bJ.of e3,fun l hl=>q l us _ (fun b o h=>?_) aC (by omega) fun u hu=>(hus u hu).kt (aF.upd hl).kt⟩;rw[aM (aG (b3 b o (s0 b o h) (aG h hp)) hl)];exact b3 b o (s0 b o h) (aG h hp)
  .exact fun σ H Q Q' k ⟨v,hv,e,c,hc,hq⟩=>⟨v,hv,e,c,hc,k _ _ hq⟩
theorem gE:aU ["pack","marks","roots","first","letter","name","root","rank"] ["pack","marks"] (aB fC):=⟨rfl,rfl,rfl,by decide+kernel,rfl,by decide+kernel,by decide+kernel⟩
set_option maxHeartbeats 4000000 in
theorem C8 (T:Txt K mg fs fds tc u) (G_roots_in:aV P w K mg base cJ 1 (fs 6) (fds 6) ["above"] P0) (G_standing:aV P w K mg base cJ 1 (fs 1) (fds 1) ["pack"] iU) (G_elders_in:aV P w K mg base cJ 1 (fs 4) (fds 4) ["ties"] AU) (G_by_names:aV P w K mg base cJ 4 (fs 25) (fds 25) ["pack","marks"] FQ):aV P w K mg base cJ 5 (fs 26) (fds 26) ["pack","marks"] QD:=by
 refine T.y9.F.ok gE (fun vs H Q E h=>?_) (fun cdv A outer s H vs Q E hr h=>?_)
 .obtain⟨v,mv,xs,hm,zs,rfl,hP,mX,hM,sV,t4,sT,hz,hsub,q⟩:=h;rfl
 .obtain⟨v,mv,xs,hm,zs,rfl,hP,mX,hM,sV,t4,sT,hz,hsub,q⟩:=h;refine⟨_,(aE (aP (i:=2) gE.nd rfl (Or.inl rfl) (aW T.rG G_roots_in hr (by decide) rfl (aA (aW T.lK G_elders_in hr (by decide) rfl (aA (aW T.mU G_by_names hr (by decide) rfl (aA (pv 0) (aA (pv 1) aD))) aD)) aD)))
   (aE (aP (i:=3) gE.nd rfl (Or.inr rfl) fF)
   (aE (dP PassesOwn.never rfl (cW K (aW T.eO G_standing hr (by decide) rfl (aA (pv 0) aD))) (aO (i:=4) gE.nd rfl (Or.inl rfl)) (aE (aP (i:=5) gE.nd rfl (Or.inl rfl) (aT (j8 K) (pv 4) aH (fun _ _=>rfl)))
   (aE (aP (i:=6) gE.nd rfl (Or.inl rfl) (aT (Mr.yM hr) (pv 2) (pv 5) (fun _ _=>rfl)))
   (aE (aP (i:=7) gE.nd rfl (Or.inl rfl) (bE (aA (lV x6 (pv 5) (pv 6) (cL _)) (aA (aT (j8 K) (pv 4) aH (fun _ _=>rfl)) (aA (pv 5) aD)))))
   (aN (fJ (iE hr) (pv 3) (pv 6) (bB (Mr.MN K hr) (by rfl) T.mK o9 (aA (pv 7) (aA (yO (iE hr) (pv 3) (pv 6) (pv 7) ⟨rfl,by rfl,rfl,rfl⟩) aD))) rfl))))))
   (aN (aY (cF (oN K) (by rfl) T.cT dG (aA (jM ["root","first"] 1 [3] ["pack","marks","roots","first","letter","name","root","rank"] (aB fC) rfl rfl rfl (iG K (bB BU (by rfl) T.eN gF (aA (pv 3) aD))) (by decide+kernel) (fun _=>(aO (i:=0) (show(["root","first"]:List Str).Nodup by decide+kernel) rfl (Or.inl rfl))) (fun _=>cC) (fun _=>(bE (aA (pv 0) (aA (aT (j8 K) (aT (Mr.yM hr) (pv 1) (pv 0) (fun _ _=>rfl)) aH (fun _ _=>rfl)) aD))))) aD))))))),?_⟩
  refine aI ?_;walk_at "vc0"
  refine⟨v,mv,xs,hm,zs,rfl,hP,mX,hM,sV,t4,sT,hz,hsub,fun w ab H1 s1 hw nd hks hcl hac2 hal=>⟨w,ab,rfl,hw,nd,by omega,fun de H2 s2 _ hde=>⟨de,ab,rfl,hde,nd,hal,hcl,hac2,fun dr rt H3 s3 _ hdr ndr hrt hrk=>?_⟩⟩⟩;have s03:=(s1.trans s2).trans s3;refine aI ?_;walk_at "vc0"
  refine fun p hp=>?_
  have s4:=aF.upd (o:=.dK [] 0) hp;have ep:upd H3 p (.dK [] 0) p=some (.dK [] 0):=aC;generalize upd H3 p (.dK [] 0)=H4 at s4 ep⊢
  refine aI ⟨_,rfl,v,xs,rfl,hP.kt (s03.trans s4).kt,fun b ws H5 s5 hb hws=>⟨b,rfl,⟨ws,bG.of hb⟩,gZ (K:=K) (a:=b) (xs:=ws) (fun i σ H'=>fQ p H5 H'/\(∃kvs rv,bZ H' p kvs/\Paired (vR H') rv kvs/\(rv.map (·.1)).Nodup/\∀z∈rv,z.1∈ks ab/\∃x∈aQ xs,x.n=z.2)/\∃v4 v5 v6 v7,σ=[some v,some mv,some (.ref dr),some (.ref p),v4,v5,v6,v7]) ⟨fun _ _ h _=>h,⟨[],[],⟨0,s5 _ _ ep⟩,.nil,nodup_nil,fun _ h=>nomatch h⟩,_,_,_,_,rfl⟩ (fun i σ H' _ ⟨b1,_⟩=>bG.of (b1 _ _ hb fun e=>by rw[e,s5 _ _ ep]at hb;cases hb)) ?_ ?_⟩⟩
  .rintro i u σ H6 hu ⟨b6,⟨kvs,rv,⟨e6,hk6⟩,hrv,ndv,hv6⟩,v4,v5,v6,v7,rfl⟩;obtain⟨y,hy,hL⟩:=L2.Paired.iP hws hu;have s56:∀c o,H5 c=some o->c≠p->H6 c=some o:=fun c o h n=>b6 c o h n
   have hp5:H5 p=some (.dK [] 0):=s5 _ _ ep;have kt56:eK H5 H6:=fun c us h=>s56 c _ h fun e=>by rw[e,hp5]at h;cases h
   obtain⟨t,r0,rfl,ht,hr0⟩:=(hL.kp kt56).at';have hym:=mem_of_getElem? hy;have hyk:y.n∈ks ab:=(hks y.n).mpr (.inl ⟨y,hym,.inl rfl⟩);obtain⟨ro,hrok,hro⟩:=hrt y.n hyk;obtain⟨e3,hd3⟩:=hdr;have hd6:H6 dr=some (.dK (eL rt) e3):=s56 _ _ (s5 _ _ (s4 _ _ hd3)) (aG hd3 hp);have hrv6:bW (eL rt) (.inr y.n)=some (.str ro):=by rw[o5 (uS hro),hro];rfl
   walk_at "vc0";refine aI ?_;walk_at "vc0"
   refine⟨_,bG.of ht,_,sU,?_⟩;refine aI ?_;walk_at "vc0"
   refine⟨dr,eL rt,.inr y.n,_,rfl,⟨e3,.inl hd6⟩,rfl,hrv6,?_⟩;refine aI ?_;walk_at "vc6"
   refine⟨rfl,_,bG.of ht,_,cB (j:=1) rfl,e9 (by decide),fun b1 hb1=>?_⟩;have s7:=aF.upd (o:=.tup [.bl !decide (y.n=ro),.int y.d,.str y.n]) hb1;have e7:upd H6 b1 (.tup [.bl !decide (y.n=ro),.int y.d,.str y.n]) b1=some (.tup [.bl !decide (y.n=ro),.int y.d,.str y.n]):=aC;generalize upd H6 b1 (.tup [.bl !decide (y.n=ro),.int y.d,.str y.n])=H7 at s7 e7⊢
   have hk7:=s7 _ _ hk6;have hrv7:Paired (vR H7) rv kvs:=L2.Paired.cH hrv fun _ _ ⟨e,b,f,d,e2,h⟩=>⟨e,b,f,d,e2,s7 _ _ h⟩
   obtain⟨o,b2,f2,d2,n2,hog,hoe,hb2,hn2⟩:∃o b2 f2 d2 n2,rT H7 p (.str ro) o/\o.getD (V.ref b1)= .ref b2/\H7 b2=some (.tup [.bl f2,.int d2,.str n2])/\∃x∈aQ xs,x.n=n2:=by
    by_cases hi:ro∈rv.map (·.1)
    .obtain⟨z,hz,ez⟩:=mem_map.mp hi;obtain⟨b,f,d,h1,h2⟩:=wM hrv7 ndv hz;exact⟨some (.ref b),b,f,d,z.2,.inl ⟨kvs,.inr ro,⟨e6,.inl hk7⟩,rfl,by rw[<-ez];exact h1.symm⟩,rfl,h2,(hv6 z hz).2⟩
    .refine⟨none,b1,_,_,_,.inl ⟨kvs,.inr ro,⟨e6,.inl hk7⟩,rfl,?_⟩,rfl,e7,y,hym,rfl⟩;have h1:=any_keys (n:=ro) (nO hrv7);rw[fU,decide_eq_false hi]at h1;cases hv:bW kvs (.inr ro)with
     |none=>rfl
     |some v=>rw[hv]at h1;cases h1
   refine⟨.inl ⟨_,e6,.inl hk7⟩,o,hog,?_⟩;rw[hoe];refine⟨.ref b1,.ref b2,EC (!decide (y.n=ro),y.d,y.n),EC (f2,d2,n2),rfl,.cons (LN e7).rep (.cons (LN hb2).rep .nil),QB _ _,?_⟩;obtain⟨b3,f3,d3,n3,e3',hb3,hn3⟩:∃b3 f3 d3 n3,(if Mr.EA [EC (!decide (y.n=ro),y.d,y.n),EC (f2,d2,n2)] 1 0=true then V.ref b2 else V.ref b1)= .ref b3/\H7 b3=some (.tup [.bl f3,.int d3,.str n3])/\∃x∈aQ xs,x.n=n3:=by
    split
    .exact⟨b2,f2,d2,n2,rfl,hb2,hn2⟩
    .exact⟨b1,_,_,_,rfl,e7,y,hym,rfl⟩
   rw[e3'];have hkl:kvs.length<=60:=by
    rw[<-hrv.length,<-length_map (f:=fun z:Str×Str=>z.1)];have h1:=fK ndv (ys:=ks ab) fun x hx=>by obtain⟨z,hz,rfl⟩:=mem_map.mp hx;exact(hv6 z hz).1
    unfold ks at h1;rw[length_map (as:=ab)]at h1;omega
   refine .inl ⟨kvs,.inr ro,⟨e6,hk7⟩,rfl,gT (by omega),fun ep8=>⟨fun b o h n=>by rw[aM n];exact s7 _ _ (b6 _ _ h n),?_,_,rfl⟩⟩;have kt8:eK H7 (upd H7 p (.dK (putK kvs (.inr ro) (.ref b3)) ep8)):=fun c us h=>by rw[aM fun e=>by rw[e,hk7]at h;cases h];exact h
   obtain⟨rv',h1,h2,h3⟩:=KA (ro:=ro) (kt8 _ _ hb3) (L2.Paired.cH hrv7 fun _ _ ⟨e,b,f,d,e2,h⟩=>⟨e,b,f,d,e2,kt8 _ _ h⟩) ndv;refine⟨_,⟨ep8,aC⟩,rv',h1,h2,fun z hz=>?_⟩;rcases h3 z hz with h|h
   .exact hv6 z h
   .rw[h];exact⟨hrok,hn3⟩
  .rintro σ H6 ⟨b6,⟨kvs,rv,hk6,hrv,ndv,hv6⟩,v4,v5,v6,v7,rfl⟩;obtain⟨e4,hk4⟩:=id hk6;have hkl:(rv.map (·.1)).length<=60:=by
    have h1:=fK ndv (ys:=ks ab) fun x hx=>by obtain⟨z,hz,rfl⟩:=mem_map.mp hx;exact(hv6 z hz).1
    unfold ks at h1;rw[length_map (as:=ab)]at h1;omega
   have s06:aF H H6:=fun b o h=>b6 _ _ (s5 _ _ (s4 _ _ (s03 _ _ h))) (aG (s03 _ _ h) hp)
   walk_at "vc0";refine⟨_,rfl,p,kvs,rv.map (·.1),rfl,⟨e4,.inl hk4⟩,nO hrv,by omega,fun ls out pm hso hls=>⟨ls,rfl,⟨_,bJ.of aC⟩,fun l hl=>?_⟩⟩;have s7:=aF.upd (o:=.lst (out.map V.str)) hls;have e7:upd H6 ls (.lst (out.map V.str)) ls=some (.lst (out.map V.str)):=aC;generalize upd H6 ls (.lst (out.map V.str))=H7 at s7 e7 hl⊢
   have hol:=pm.length_eq;refine g9 (bJ.of e7) (fun _=>true) (fun H n v=>∃(b:Addr) (o:Str),v= .ref b/\H b=some (.tup [.str n,.str o])/\(n,o)∈rv) (fun σ=>∃o,σ=[o,some (.ref p)]) ⟨_,rfl⟩ hl (gT (by omega)) (fun _ _ _ _ k ⟨b,o,e,h,m⟩=>⟨b,o,e,k _ _ h,m⟩) ?_ ?_
   .rintro n σ H8 ys N hn ⟨o,rfl⟩ s8 e8 hz8 hN1 hN2;obtain⟨z,hz,rfl⟩:=mem_map.mp (pm.mem_iff.mp hn);obtain⟨t,f,d,hv,ht⟩:=wM hrv ndv hz;have hd8:=s8 _ _ (s7 _ _ hk4);have ht8:=s8 _ _ (s7 _ _ ht);unfold bV;walk_at "vc2";exact⟨p,kvs,.inr z.1,_,rfl,⟨e4,.inl hd8⟩,rfl,hv,t,rfl,_,bG.of ht8,_,cB (j:=2) rfl,e9 (by decide),fun t7 ht7=>⟨ys,aF.upd ht7 _ _ e8,hz8,hN2 rfl _ _ _ ⟨_,rfl⟩ (aF.upd ht7) ⟨t7,z.2,rfl,aC,hz⟩⟩⟩
   .intro H8 ys s8 hpr e8;rw[show out.filter (fun _=>true)=out from filter_eq_self.mpr (by simp)]at hpr;obtain⟨ws,hws,hpw,hsw⟩:=GO hpr;refine⟨l,rfl,ys,bJ.of e8,fun t ht=>q t ys ws _ (((s06.trans s7).trans s8).trans (aF.upd ht)) aC (L2.Paired.cH hpw fun _ _ ⟨b,e,h⟩=>⟨b,e,(aF.upd ht) _ _ h⟩) (by rw[hws];exact pm.nodup_iff.mpr ndv) (fun z hz=>⟨(hks z.1).mp (hv6 z (hsw z hz)).1,(hv6 z (hsw z hz)).2⟩) ?_⟩;rw[<-length_map (f:=fun z:Str×Str=>z.1),hws];omega
theorem BZ:aU ["head","rules","steps"] ["head","rules"] (aB jY):=⟨rfl,rfl,rfl,by decide+kernel,rfl,by decide+kernel,by decide+kernel⟩
set_option maxHeartbeats 4000000 in
theorem JZ (T:Txt K mg fs fds tc u) (G_peeled:aV P w K mg base cJ 5 (fs 14) (fds 14) ["head","rules"] M8) (G_plain:aV P w K mg base cJ 1 (fs 7) (fds 7) ["head"] HI):aV P w K mg base cJ 6 (fs 15) (fds 15) ["head","rules"] OQ:=by
 refine T.GG.F.ok BZ (fun vs H Q E h=>?_) (fun cdv A outer s H vs Q E hr h=>?_)
 .obtain⟨h,v,rs,rfl,hh,hR,q⟩:=h;rfl
 .obtain⟨h,v,rs,rfl,hh,hR,q⟩:=h;refine⟨_,(aE (aP (i:=2) BZ.nd rfl (Or.inl rfl) (aW T.qZ G_peeled hr (by decide) rfl (aA (pv 0) (aA (pv 1) aD))))
   (aN (aY (kY (gL (pv 2) (fun _=>rfl)) (aT (j8 K) (aT (j8 K) (pv 2) (BY uT aH) (fun _ _=>rfl)) aH (fun _ _=>rfl)) (aW T.vE G_plain hr (by decide) rfl (aA (pv 0) aD)))))),?_⟩
  refine aI ?_;walk_at "vc0"
  refine⟨_,_,_,rfl,hh,hR,fun t us H1 s1 ht hl hus=>⟨_,.inr (.inl ⟨us,bG.of ht,rfl⟩),?_⟩⟩;rcases List.eq_nil_or_concat us with rfl|⟨r,x,rfl⟩
  .exact⟨h,rfl,hh,fun s H2 s2 hs=>q s H2 (s1.trans s2) hs⟩
  .obtain⟨b,i,l,rfl,hb,hi,hll⟩:=hus x (by simp);rw[show(!(r.concat (V.ref b)).isEmpty)=true by simp];exact mW ⟨t,rfl,_,bG.of ht,_,by rw[List.concat_eq_append];exact EF r _,b,rfl,_,bG.of hb,_,cB (j:=1) rfl,q l H1 s1 hll⟩
theorem vK:aU ["head","rules"] ["head","rules"] (aB cN):=⟨rfl,rfl,rfl,by decide+kernel,rfl,by decide+kernel,by decide+kernel⟩
set_option maxHeartbeats 4000000 in
theorem uQ (T:Txt K mg fs fds tc u) (G_peeled:aV P w K mg base cJ 5 (fs 14) (fds 14) ["head","rules"] M8):aV P w K mg base cJ 6 (fs 16) (fds 16) ["head","rules"] QM:=by
 refine T.pS.F.ok vK (fun vs H Q E h=>?_) (fun cdv A outer s H vs Q E hr h=>?_)
 .obtain⟨h,v,rs,rfl,hh,hR,q⟩:=h;rfl
 .obtain⟨h,v,rs,rfl,hh,hR,q⟩:=h;refine⟨_,(aN (aY (bB (RU K rfl) (by rfl) T.xO NW (aA (jM ["number","left","rules"] 2 [1] ["head","rules"] (aB cN) rfl rfl rfl (cW K (aW T.qZ G_peeled hr (by decide) rfl (aA (pv 0) (aA (pv 1) aD)))) (by decide+kernel) (fun _=>(dH (n:=2) K rfl (aS (aO (i:=0) (show(["number","left","rules"]:List Str).Nodup by decide+kernel) rfl (Or.inl rfl)) (aS (aO (i:=1) (show(["number","left","rules"]:List Str).Nodup by decide+kernel) rfl (Or.inl rfl)) dD)))) (fun _=>cC) (fun _=>(lV tS (aT (j8 K) (aT (j8 K) (pv 2) (pv 0) (fun _ _=>rfl)) aH (fun _ _=>rfl)) bP (cL _)))) aD)))),?_⟩;unfold rA IK;walk_at "vc0";refine⟨_,_,_,rfl,hh,hR,fun t us H1 s1 ht hl hus=>⟨t,rfl,⟨us,bG.of ht⟩,fun l hl0=>DL (bG.of ht) (fun u=>.bl (@decide (RS H1 rs u) (Classical.propDecidable _))) (fun σ=>∃o1 o2,σ=[o1,o2,some v]) ⟨_,_,rfl⟩ hl0 (gT (by omega)) ?_ ?_⟩⟩
  .rintro i u σ H2 ys N hu ⟨o1,o2,rfl⟩ s2 e2 hz hN;unfold bV;walk_at "vc2";obtain⟨b,i,lf,rfl,hb,hi,_⟩:=hus u (mem_of_getElem? hu);obtain⟨tr,ur,rfl,htr,hpr,_,_⟩:=hR;have hir:i<ur.length:=by rw[<-hpr.length];exact hi
   obtain⟨r,hr,hrr⟩:=L2.Paired.iP hpr (getElem?_eq_getElem hir);obtain⟨br,er,hbr⟩:=hrr;refine⟨b,rfl,_,bG.of (s2 _ _ hb),rfl,_,_,rfl,_,_,rfl,rfl,tr,rfl,_,_,rfl,bG.of (s2 _ _ (s1 _ _ htr)),_,cB (getElem?_eq_getElem hir),br,er,_,bG.of (s2 _ _ (s1 _ _ hbr)),_,sU,rfl,ys,e2,hz,?_⟩;have ed:decide (V.str r.1=V.str (Str.ofString "ahead"))= @decide (RS H1 rs (.ref b)) (Classical.propDecidable _):=by
    rw[decide_eq_decide];exact⟨fun e=>⟨b,i,lf,r,rfl,hb,hr,V.str.inj e⟩,fun⟨b',i',lf',r',e,hb',hr',e'⟩=>by
     cases e;rw[hb]at hb';cases hb';rw[hr]at hr';cases hr';rw[e']⟩
   rw[ed];exact hN _ _ ⟨_,_,rfl⟩ (fun b o h n=>by rw[aM n];exact h) aC
  .intro H2 s2 e2;refine⟨l,rfl,us.map fun u=> @decide (RS H1 rs u) (Classical.propDecidable _),bJ.of (by rw[e2];unfold vQ;rw[map_map];rfl),q _ H2 (s1.trans s2)⟩
theorem bX:aU ["pack","marks","rules","letters","marked","found","root","voice","day","head","text"] ["pack","marks","rules"] (aB bQ):=⟨rfl,rfl,rfl,by decide+kernel,rfl,by decide+kernel,by decide+kernel⟩
set_option maxHeartbeats 4000000 in
theorem sE (T:Txt K mg fs fds tc u) (G_voices:aV P w K mg base cJ 5 (fs 26) (fds 26) ["pack","marks"] QD) (G_bare:aV P w K mg base cJ 6 (fs 15) (fds 15) ["head","rules"] OQ) (G_standing:aV P w K mg base cJ 1 (fs 1) (fds 1) ["pack"] iU) (G_is_answer:aV P w K mg base cJ 6 (fs 16) (fds 16) ["head","rules"] QM):aV P w K mg base cJ 7 (fs 27) (fds 27) ["pack","marks","rules"] ON:=by
 refine T.mI.F.ok bX (fun vs H Q E h=>?_) (fun cdv A outer s H vs Q E hr h=>?_)
 .obtain⟨v,mv,rl,xs,hm,zs,rs,rfl,fa,q⟩:=h;rfl
 .obtain⟨v,mv,rl,xs,hm,zs,rs,rfl,fa,q⟩:=h;refine⟨_,(aE (xD (i:=3) ["letter"] 1 [] ["pack","marks","rules","letters","marked","found","root","voice","day","head","text"] (aB bQ) rfl rfl rfl bX.nd rfl rfl (cW K (aW T.eO G_standing hr (by decide) rfl (aA (pv 0) aD))) (by decide+kernel) (fun _=>(aO (i:=0) (show(["letter"]:List Str).Nodup by decide+kernel) rfl (Or.inl rfl))) (fun _=>cC) (fun _=>(aT (j8 K) (pv 0) aH (fun _ _=>rfl))) (fun _=>(pv 0)))
   (aE (xD (i:=4) ["name","elder"] 2 [] ["pack","marks","rules","letters","marked","found","root","voice","day","head","text"] (aB bQ) rfl rfl rfl bX.nd rfl rfl (cW K (pv 1)) (by decide+kernel) (fun _=>(dH (n:=2) K rfl (aS (aO (i:=0) (show(["name","elder"]:List Str).Nodup by decide+kernel) rfl (Or.inl rfl)) (aS (aO (i:=1) (show(["name","elder"]:List Str).Nodup by decide+kernel) rfl (Or.inl rfl)) dD)))) (fun _=>cC) (fun _=>(pv 0)) (fun _=>mL))
   (aE (aP (i:=5) bX.nd rfl (Or.inl rfl) fF)
   (aE (dP PassesOwn.never rfl (cW K (aW T.y9 G_voices hr (by decide) rfl (aA (pv 0) (aA (pv 1) aD)))) (dH (n:=2) K rfl (aS (aO (i:=6) bX.nd rfl (Or.inl rfl)) (aS (aO (i:=7) bX.nd rfl (Or.inl rfl)) dD))) (aE (oE (cK wA (aT (Mr.yM hr) (pv 3) (pv 7) (fun _ _=>rfl)) (cZ aH) (cZ aH)) (dH (n:=2) K rfl (aS (aO (i:=8) bX.nd rfl (Or.inl rfl)) (aS (aO (i:=9) bX.nd rfl (Or.inl rfl)) dD))))
   (aE (aP (i:=10) bX.nd rfl (Or.inl rfl) (aW T.GG G_bare hr (by decide) rfl (aA (pv 9) (aA (pv 2) aD))))
   (aN (fR (PW.pt (m3 (bD (Mr.m8 hr) (pv 6) (pv 4) (by rfl)) (j9 (bD x6 (pv 10) bP (cL _))))) (aN (iV (eF K plainAttrs_list PySem.F.slot_list_append PySem.F.type_list_append eY (qV (pv 5) (pv 10) (gR aD) ⟨rfl,by rfl,rfl,rfl⟩) (aA (bE (aA (aW T.pS G_is_answer hr (by decide) rfl (aA (pv 9) (aA (pv 2) aD))) (aA (pv 8) (aA (pv 7) (aA (pv 6) aD))))) aD)))) cU)))))
   (aN (aY (pv 5))))))),?_⟩
  have SL:=eP xs;refine aI ?_;walk_at "vc0"
  refine⟨_,rfl,v,xs,rfl,fa.P,fun b ws H1 s1 hb hws=>⟨b,rfl,⟨ws,bG.of hb⟩,fun dl hdl=>kP (P:=fun H x u=>sI H u x) (bG.of hb) hws (fun x=>x.n) (fun H x v=>sI H v x) (fun σ=>∃o,σ=[o]) ⟨_,rfl⟩ hdl (gT (by have:=fa.mX;omega)) (lU xs) (fun _ _ _ _ k h=>h.kp k) ?_ (fun H2 kl s2 hkl prl=>?_)⟩⟩
  .rintro x u σ H2 kvs N hx hL ⟨o,rfl⟩ s2 hk hz hN;have hL2:=hL.kp s2.kt;obtain⟨t,r,rfl,ht,hr⟩:=hL2.at';unfold jC;walk_at "vc2";exact⟨_,bG.of ht,_,sU,kvs,hk,.inr x.n,rfl,hz,fun ep=>hN _ _ _ ep ⟨_,rfl⟩ (aF.refl _) hL2⟩
  have fa2:=fa.kt (s1.trans s2).kt;obtain⟨ta,us0,rfl,hta,hpm⟩:=id fa2.M;have hlu:=hpm.length;refine aI ?_;walk_at "vc0"
  refine⟨_,rfl,ta,rfl,⟨us0,bG.of hta⟩,fun lh hlh=>kP (bG.of hta) hpm (fun z=>z.1) (fun _ _ v=>v=V.bl true) (fun σ=>∃o1 o2,σ=[o1,o2]) ⟨_,_,rfl⟩ hlh (gT (by have:=fa.t4;omega)) fa.sV (fun _ _ _ _ _ h=>h) ?_ (fun H3 km s3 hkm prm=>?_)⟩
  .rintro z u σ H2 kvs N hz ⟨b,rfl,hb⟩ ⟨o1,o2,rfl⟩ s2 hk hkl hN;unfold jC;walk_at "vc2";exact⟨_,bG.of (s2 _ _ hb),rfl,_,_,rfl,_,_,rfl,rfl,kvs,hk,.inr z.1,rfl,hkl,fun ep=>hN _ _ _ ep ⟨_,_,rfl⟩ (aF.refl _) rfl⟩
  have ekm:=z6 prm;subst ekm;have fa3:=fa2.kt s3.kt;have hkl3:=bY hkl s3;have prl3:Paired (oK H3) (aQ xs) kl:=L2.Paired.cH prl fun _ _ h=>⟨h.1,h.2.kp s3.kt⟩
  have s03:=(s1.trans s2).trans s3;refine aI ?_;walk_at "vc0"
  refine fun p hp=>?_
  have I0:=nG.nil (cR:=fT) hp;have s4:=aF.upd (o:=.dK [] 0) hp;generalize upd H3 p (.dK [] 0)=H4 at I0 s4⊢
  have fa4:=fa3.kt s4.kt;refine aI ⟨_,rfl,_,rfl,v,.ref ta,xs,hm,zs,rfl,fa4.P,fa.mX,fa4.M,fa.sV,fa.t4,fa.sT,fa.hz,fa.sub,fun tv uv rv H5 s5 htv hrv ndr hrs hrl=>⟨tv,rfl,⟨uv,bG.of htv⟩,gZ (K:=K) (a:=tv) (xs:=uv) (fun i σ H'=>(∃kvs C,nG fT H3 H' p kvs C/\(∀z∈C,∀c∈z.2,gC (aQ xs) hm c.2.2.2)/\(∀z∈C,z.2.length<=i)/\C.length<=i)/\eK H5 H'/\∃v6 v7 v8 v9 v10,σ=[some v,some (.ref ta),some rl,some (.ref dl),some (.ref lh),some (.ref p),v6,v7,v8,v9,v10]) ⟨⟨[],[],nG.same (cR:=fT) (fun k h=>fT.kt k h) I0 s5,(fun _ h=>nomatch h),(fun _ h=>nomatch h),le_refl _⟩,(fun _ _ h=>h),_,_,_,_,_,rfl⟩ (fun i σ H' _ ⟨_,k,_⟩=>bG.of (k _ _ htv)) ?_ ?_⟩⟩
  .rintro i u σ H6 hu ⟨⟨kvs,C,I,hpl,hlen,hCl⟩,kt,v6,v7,v8,v9,v10,rfl⟩;obtain⟨z,hz,b2,rfl,hb2⟩:=L2.Paired.iP hrv hu;have hil:=(List.getElem?_eq_some_iff.mp hz).1;obtain⟨hz1,y,hy,hy2⟩:=hrs z (mem_of_getElem? hz);have hb6:=kt _ _ hb2;have s36:=I.s;rcases oK.val (n:=z.2) prl3 with⟨_,h0⟩|⟨y2,hy3,ey,w,hw,hLw⟩
   .exact absurd hy2 (h0 y hy)
   obtain⟨tw,w9,rfl,htw,_⟩:=hLw.at';have hhd:=hLw.ok.hd;have hHS:yV y2.h:=⟨hhd.1,fun c hc=>by have:=hhd.2 c hc;omega⟩;obtain⟨el,hkl'⟩:=hkl3;walk_at "vc0";refine⟨_,bG.of hb6,rfl,_,_,rfl,_,_,rfl,rfl,?_⟩;refine aI ?_;walk_at "vc0"
   refine⟨dl,kl,.inr z.2,_,rfl,⟨el,.inl (s36 _ _ hkl')⟩,rfl,hw,tw,rfl,_,s36 _ _ htw,fun t1 H7 s7 ht1=>?_⟩;have ht1:H7 t1=some (.tup [.int y2.d,.str y2.h]):=ht1;refine⟨_,bG.of ht1,rfl,_,_,rfl,_,_,rfl,rfl,?_⟩;refine aI ?_;walk_at "vc0"
   have I7:=nG.same (cR:=fT) (fun k h=>fT.kt k h) I s7;have fa7:=fa3.kt I7.s.kt;refine⟨y2.h,rl,rs,rfl,hHS,fa7.R,fun tx H8 s8 htx=>?_⟩;have I8:=nG.same (cR:=fT) (fun k h=>fT.kt k h) I7 s8;have fa8:=fa7.kt s8.kt;have kt8:=(kt.trans s7.kt).trans s8.kt;obtain⟨em,hlh8⟩:=bY hkm I8.s;have hp3:H3 p=none:=hp;have aL:∀c:IV,(∀z∈qF C tx c,z.2.length<=i+1)/\(qF C tx c).length<=i+1:=fun c=>x4 (n:=tx) (c:=c) hlen hCl
   have hpl':∀c:IV,gC (aQ xs) hm c.2.2.2->∀z∈qF C tx c,∀d∈z.2,gC (aQ xs) hm d.2.2.2:=fun c hc z hz d hd=>(qS.mp ⟨z,hz,rfl,hd⟩).elim (fun⟨z',hz',_,hd'⟩=>hpl z' hz' d hd') fun⟨_,e⟩=>by rw[e];exact hc
   walk_at "vc0";have fin:(∃kvs C,nG fT H3 H8 p kvs C/\(∀z∈C,∀c∈z.2,gC (aQ xs) hm c.2.2.2)/\(∀z∈C,z.2.length<=i+1)/\C.length<=i+1)/\eK H5 H8/\∃x,some (V.str tx)=x:=⟨⟨kvs,C,I8,hpl,fun z hz=>le_succ_of_le (hlen z hz),le_succ_of_le hCl⟩,kt8,_,rfl⟩;refine⟨lh,_,.inr z.1,rfl,⟨em,.inl hlh8⟩,rfl,_,rfl,w5 fin fun _ _=>⟨rfl,w5 fin fun _ _=>?_⟩⟩;clear fin;obtain⟨ed,hd8⟩:=id I8.d;have hkc:kvs.length=C.length:=I8.pr.length.symm;have huv:=hrv.length;walk_at "vc4";refine⟨.inl ⟨kvs,ed,.inl hd8⟩,zero_le _,fun l0 hl0=>?_⟩;have s9:=aF.upd (o:=.lst []) hl0;have I9:=nG.same (cR:=fT) (fun k h=>fT.kt k h) I8 s9;have e90:upd H8 l0 (.lst []) l0=some (.lst []):=aC;have hd9:=s9 _ _ hd8;refine⟨kvs,⟨ed,hd9⟩,.inr tx,rfl,gT (by omega),fun lv hv=>?_,fun ep hv=>?_⟩
   .rcases zN.val (n:=tx) I9.pr with⟨h0,_⟩|⟨zz,hzz,ez,kv,hkv,ek,hv2,l,us,el,hl,hcs⟩
    .rw[h0]at hv;cases hv
    rw[hv2]at hv;cases hv;rw[el];refine⟨.inl ⟨us,bJ.of hl⟩,y2.h,rl,rs,rfl,hHS,(fa8.kt s9.kt).R,fun ba H10 s10=>⟨e9 (by decide),fun b hb=>?_⟩⟩;have s11:=s10.trans (aF.upd (o:=.tup [.bl ba,.int y2.d,.str z.2,.str z.1]) hb);have I11:=nG.same (cR:=fT) (fun k h=>fT.kt k h) I9 s11;have hul:us.length<=i:=by rw[<-hcs.length];exact hlen zz hzz
    have I12:=nG.old (cR:=fT) (fun k h=>fT.kt k h) I11 (c:=(ba,y2.d,z.2,z.1)) (b:=b) hzz hkv (by rw[ek,ez]) el (s11 _ _ hl) ⟨b,rfl,aC⟩;rw[ez]at I12;exact⟨l,rfl,us,s11 _ _ hl,gT (by omega),⟨kvs,_,I12,hpl' _ hz1,(aL _).1,(aL _).2⟩,((kt8.trans s9.kt).trans s11.kt).trans (eK.upd (s11 _ _ hl)),_,rfl⟩
   .rcases zN.val (n:=tx) I9.pr with⟨h0,hn⟩|⟨zz,hzz,ez,kv,hkv,ek,hv2,_⟩
    rotate_left
    .rw[hv2]at hv;cases hv
    have hlp:l0≠p:=(aG hd8 hl0).symm;have hA:∀a o,H8 a=some o->a≠p->upd (upd H8 l0 (.lst [])) p (.dK (putK kvs (.inr tx) (.ref l0)) ep) a=some o:=fun a o h ha=>by rw[aM ha,aM (aG h hl0)];exact h
    have hlA:upd (upd H8 l0 (.lst [])) p (.dK (putK kvs (.inr tx) (.ref l0)) ep) l0=some (.lst []):=by rw[aM hlp];exact aC
    have hpA:upd (upd H8 l0 (.lst [])) p (.dK (putK kvs (.inr tx) (.ref l0)) ep) p=some (.dK (putK kvs (.inr tx) (.ref l0)) ep):=aC;have ktA:eK H8 (upd (upd H8 l0 (.lst [])) p (.dK (putK kvs (.inr tx) (.ref l0)) ep)):=fun a us h=>hA a _ h fun z=>by rw[z,hd8]at h;cases h
    generalize upd (upd H8 l0 (.lst [])) p (.dK (putK kvs (.inr tx) (.ref l0)) ep)=HA at*;refine⟨.inl ⟨[],bJ.of hlA⟩,y2.h,rl,rs,rfl,hHS,(fa8.kt ktA).R,fun ba H10 s10=>⟨e9 (by decide),fun b hb=>?_⟩⟩;have s11:=s10.trans (aF.upd (o:=.tup [.bl ba,.int y2.d,.str z.2,.str z.1]) hb);have I12:=nG.new (cR:=fT) (fun k h=>fT.kt k h) I8 (c:=(ba,y2.d,z.2,z.1)) (b:=b) hp3 hn hv hl0 (fun a o h ha=>s11 _ _ (hA a o h ha)) (s11 _ _ hpA) (s11 _ _ hlA) ⟨b,rfl,aC⟩;exact⟨[],s11 _ _ hlA,gT (by simp),⟨_,_,I12,hpl' _ hz1,(aL _).1,(aL _).2⟩,((kt8.trans ktA).trans s11.kt).trans (eK.upd (s11 _ _ hlA)),_,rfl⟩
  .rintro σ H6 ⟨⟨kvs,C,I,hpl,hlen,hCl⟩,kt,v6,v7,v8,v9,v10,rfl⟩;walk_at "vc0";rw[<-hrv.length]at hlen hCl;exact q p kvs C H6 (s03.trans I.s) (mO s03 hp) I.d I.pr (fun z hz=>⟨I.ne z hz,le_trans (hlen z hz) hrl,hpl z hz⟩) (le_trans hCl hrl)
theorem cQ:aU ["pack","marks","rules","found","text","trees","leader","tree"] ["pack","marks","rules"] (aB bR):=⟨rfl,rfl,rfl,by decide+kernel,rfl,by decide+kernel,by decide+kernel⟩
set_option maxHeartbeats 4000000 in
theorem oH (T:Txt K mg fs fds tc u) (G_alike_trees:aV P w K mg base cJ 7 (fs 27) (fds 27) ["pack","marks","rules"] ON):aV P w K mg base cJ 8 (fs 28) (fds 28) ["pack","marks","rules"] KO:=by
 refine T.kH.F.ok cQ (fun vs H Q E h=>?_) (fun cdv A outer s H vs Q E hr h=>?_)
 .obtain⟨v,mv,rl,xs,hm,zs,rs,rfl,fa,q⟩:=h;rfl
 .obtain⟨v,mv,rl,xs,hm,zs,rs,rfl,fa,q⟩:=h;refine⟨_,(aE (aP (i:=3) cQ.nd rfl (Or.inl rfl) fF)
   (aE (dP PassesOwn.never rfl (EY (GQ (aW T.mI G_alike_trees hr (by decide) rfl (aA (pv 0) (aA (pv 1) (aA (pv 2) aD)))))) (dH (n:=2) K rfl (aS (aO (i:=4) cQ.nd rfl (Or.inl rfl)) (aS (aO (i:=5) cQ.nd rfl (Or.inl rfl)) dD))) (aE (aP (i:=6) cQ.nd rfl (Or.inl rfl) (bB (Mr.QU K hr) (by rfl) T.mK o9 (aA (pv 5) aD)))
   (aN (dP PassesOwn.never rfl (iG K (pv 5)) (aO (i:=7) cQ.nd rfl (Or.inl rfl)) (aN (fR (PW.pt (m3 (bD (Mr.RP K hr) (pv 7) (pv 6) (cL _)) (j9 (gL (aT (j8 K) (pv 7) aH (fun _ _=>rfl)) (fun _=>rfl))))) (aN (fJ (iE hr) (pv 3) (aT (j8 K) (pv 7) aH (fun _ _=>rfl)) (bE (aA (aT (j8 K) (pv 6) aH (fun _ _=>rfl)) (aA (bE (aA bP (aA (pv 4) aD))) aD))) rfl)) cU))))))
   (aN (aY (pv 3))))),?_⟩
  refine aI ?_;walk_at "vc0"
  refine fun p hp=>?_
  have s0:=aF.upd (o:=.dK [] 0) hp;have ep0:upd H p (.dK [] 0) p=some (.dK [] 0):=aC;generalize upd H p (.dK [] 0)=H0 at s0 ep0⊢
  refine aI ⟨_,rfl,_,rfl,_,rfl,v,mv,rl,xs,hm,zs,rs,rfl,fa.kt s0.kt,fun d kd C H1 s1 hd0 hd hC hCo hCl=>?_⟩;have ndp:d≠p:=fun e=>by rw[e,ep0]at hd0;cases hd0
  obtain⟨ed,hd⟩:=hd;have hpl:=hC.length;refine⟨d,kd,rfl,⟨ed,.inl hd⟩,fun w hw=>⟨w,d,kd,ed,rfl,aC,.inl (aF.upd hw _ _ hd),?_⟩⟩;have s2:=s1.trans (aF.upd (o:=LV w d) hw);have hd2:=aF.upd (o:=LV w d) hw _ _ hd;have hC2:Paired (zN fT (upd H1 w (LV w d))) C kd:=L2.Paired.cH hC fun _ _ ⟨e,l,us,e2,h,q⟩=>⟨e,l,us,e2,aF.upd hw _ _ h,L2.Paired.cH q fun _ _ r=>fT.kt (aF.upd hw).kt r⟩
  have ep2:=s2 _ _ ep0;generalize upd H1 w (LV w d)=H2 at s2 hd2 hC2 ep2⊢
  refine CK (fun i σ H'=>fQ p H2 H'/\(∃kvs ab,bZ H' p kvs/\Paired (iF H') ab kvs/\ab.length<=60*i/\∀z∈ab,gC (aQ xs) hm z.1/\∀y,z.2=some y->gC (aQ xs) hm y)/\∃v4 v5 v6 v7,σ=[some v,some mv,some rl,some (.ref p),v4,v5,v6,v7]) ⟨fun _ _ h _=>h,⟨[],[],⟨0,ep2⟩,.nil,le_refl _,fun _ h=>nomatch h⟩,_,_,_,_,rfl⟩ (fun i σ H' _ ⟨b,_⟩=>.inl (b _ _ hd2 ndp)) ?_ ?_
  .rintro i kv t σ H3 hkv ht ⟨b3,⟨kvs,ab,⟨e3,hk3⟩,hT,hal,hab⟩,v4,v5,v6,v7,rfl⟩;obtain⟨z,hz,hL⟩:=L2.Paired.iP hC2 hkv;obtain⟨hk,l,us,hl,hus,hcs⟩:=hL;obtain⟨hne,hzl,hzp⟩:=hCo z (mem_of_getElem? hz);have hil:=(List.getElem?_eq_some_iff.mp hkv).1;have s4:=aF.upd (o:=.tup [kV kv.1,kv.2]) ht;have e4:upd H3 t (.tup [kV kv.1,kv.2]) t=some (.tup [kV kv.1,kv.2]):=aC;generalize upd H3 t (.tup [kV kv.1,kv.2])=H4 at s4 e4⊢
   rw[hk,hl]at e4;walk_at "vc0";refine⟨_,bG.of e4,rfl,_,_,rfl,_,_,rfl,rfl,?_⟩;refine aI ?_;walk_at "vc0"
   have kt34:eK H2 H4:=fun c us h=>s4 _ _ (b3 _ _ h fun e=>by rw[e,ep2]at h;cases h)
   have nlp:l≠p:=fun e=>by rw[e,ep2]at hus;cases hus
   have hl4:H4 l=some (.lst us):=s4 _ _ (b3 _ _ hus nlp);have hcs4:Paired (fT H4) z.2 us:=L2.Paired.cH hcs fun _ _ r=>fT.kt kt34 r
   refine⟨l,us,z.2.map wF,rfl,bJ.of hl4,(B4 hcs4).rep,by rw[length_map];exact List.length_pos_iff.mpr hne,EG _,?_⟩;obtain⟨c,hc,bl,ebl,hbl⟩:=HU (bt:=Mr.EA (z.2.map wF)) hcs4 hne;rw[ebl];have hcl:=hcs.length;have b34:fQ p H2 H4:=fun b o h n=>s4 _ _ (b3 b o h n)
   have hk4:=s4 _ _ hk3;refine⟨_,rfl,l,rfl,⟨us,bJ.of hl4⟩,q5 (K:=K) (fun j σ H'=>fQ p H4 H'/\(∃kvs ab,bZ H' p kvs/\Paired (iF H') ab kvs/\ab.length<=60*i+j/\∀z∈ab,gC (aQ xs) hm z.1/\∀y,z.2=some y->gC (aQ xs) hm y)/\∃v7,σ=[some v,some mv,some rl,some (.ref p),some (.str z.1),some (.ref l),some (.ref bl),v7]) ⟨fun _ _ h _=>h,⟨kvs,ab,⟨e3,hk4⟩,L2.Paired.cH hT fun _ _ ⟨e,t,r,e2,h⟩=>⟨e,t,r,e2,s4 _ _ h⟩,hal,hab⟩,_,rfl⟩ (fun j σ H' _ ⟨b,_⟩=>bJ.of (b _ _ hl4 nlp)) ?_ ?_⟩
   .rintro j u σ H5 hu ⟨b5,⟨kvs5,ab5,⟨e5,hk5⟩,hT5,hal5,hab5⟩,v7,rfl⟩;obtain⟨c2,hc2,b2,rfl,hb2⟩:=L2.Paired.iP hcs4 hu;have hc2':=mem_of_getElem? hc2;have hjl:=(List.getElem?_eq_some_iff.mp hc2).1;have kt45:eK H4 H5:=fun c us h=>b5 _ _ h fun e=>by rw[e,hk4]at h;cases h
    have hb5:=kt45 _ _ hb2;have hbl5:=kt45 _ _ hbl;walk_at "vc0";have fin:fQ p H4 H5/\(∃kvs,bZ H5 p kvs/\∃x,Paired (iF H5) x kvs/\x.length<=60*i+(j+1)/\∀z∈x,gC (aQ xs) hm z.1/\∀y,z.2=some y->gC (aQ xs) hm y)/\∃v7,some (V.ref b2)=v7:=⟨b5,⟨kvs5,⟨e5,hk5⟩,ab5,hT5,by omega,hab5⟩,_,rfl⟩;refine⟨wF c2,wF c,Mr.Red.rep (zW ⟨b2,rfl,hb5⟩).rep,Mr.Red.rep (zW ⟨bl,rfl,hbl5⟩).rep,rfl,rfl,_,rfl,w5 fin fun _ fin=>⟨_,bG.of hb5,_,sU,c2.1,rfl,w5 fin fun _ _=>?_⟩⟩;have hkl:=hT5.length;walk_at "vc1";refine⟨_,bG.of hbl5,_,cB (j:=3) rfl,e9 (by decide),fun a1 ha1=>⟨e9 (by decide),fun a2 ha2=>?_⟩⟩;have s6:=(aF.upd (o:=.tup [V.str (Str.ofString "heads"),V.str z.1]) ha1).trans (aF.upd (o:=.tup [.str c.2.2.2,.ref a1]) ha2);have e6:upd (upd H5 a1 (.tup [V.str (Str.ofString "heads"),V.str z.1])) a2 (.tup [.str c.2.2.2,.ref a1]) a2=some (.tup [.str c.2.2.2,.ref a1]):=aC;generalize upd (upd H5 a1 (.tup [V.str (Str.ofString "heads"),V.str z.1])) a2 (.tup [.str c.2.2.2,.ref a1])=H6 at s6 e6⊢
    have hk6:=s6 _ _ hk5;have kt6:∀ep,eK H6 (upd H6 p (.dK (putK kvs5 (.inr c2.2.2.2) (.ref a2)) ep)):=fun ep a us h=>by rw[aM (fun e=>by rw[e,hk6]at h;cases h)];exact h
    refine⟨_,bG.of (s6 _ _ hb5),_,cB (j:=3) rfl,.inl ⟨kvs5,.inr c2.2.2.2,⟨e5,hk6⟩,rfl,gT (by omega),fun ep=>⟨fun b o h n=>by rw[aM n];exact s6 _ _ (b5 _ _ h n),?_,_,rfl⟩⟩⟩;obtain⟨ab',h1,_,h3,h4⟩:=yX (n:=c2.2.2.2) (e:=some c.2.2.2) (kt6 ep _ _ e6) (L2.Paired.cH hT5 fun _ _ ⟨e,t,r,e2,h⟩=>⟨e,t,r,e2,kt6 ep _ _ (s6 _ _ h)⟩);refine⟨_,⟨ep,aC⟩,ab',h1,by omega,fun y hy=>?_⟩;rcases h3 y hy with h|h
    .exact hab5 y h
    .rw[h];exact⟨hzp c2 hc2',fun y e=>by cases e;exact hzp c hc⟩
   .rintro σ H5 ⟨b5,⟨kvs5,ab5,hk5,hT5,hal5,hab5⟩,v7,rfl⟩;exact⟨b34.trans b5,⟨kvs5,hk5,ab5,hT5,by omega,hab5⟩,_,_,_,_,rfl⟩
  .rintro σ H3 ⟨b3,⟨kvs,ab,hk3,hT,hal,hab⟩,v4,v5,v6,v7,rfl⟩;walk_at "vc0";exact q p ab H3 (fun b o h=>b3 _ _ (s2 _ _ (s0 _ _ h)) (aG h hp)) hp ⟨kvs,hk3,hT⟩ (by omega) hab
theorem lZ:aU ["pack","marks","rules","by_name","seen","ties"] ["pack","marks","rules"] (aB fG):=⟨rfl,rfl,rfl,by decide+kernel,rfl,by decide+kernel,by decide+kernel⟩
set_option maxHeartbeats 4000000 in
theorem DW (T:Txt K mg fs fds tc u) (G_by_names:aV P w K mg base cJ 4 (fs 25) (fds 25) ["pack","marks"] FQ) (G_shown:aV P w K mg base cJ 2 (fs 29) (fds 29) ["pack","above"] PJ) (G_ties_in:aV P w K mg base cJ 1 (fs 5) (fds 5) ["ties"] ES) (G_elders_in:aV P w K mg base cJ 1 (fs 4) (fds 4) ["ties"] AU) (G_ties_by_heads:aV P w K mg base cJ 8 (fs 28) (fds 28) ["pack","marks","rules"] KO):aV P w K mg base cJ 9 (fs 30) (fds 30) ["pack","marks","rules"] EZ:=by
 refine T.qY.F.ok lZ (fun vs H Q E h=>?_) (fun cdv A outer s H vs Q E hr h=>?_)
 .obtain⟨v,mv,rl,xs,hm,zs,rs,rfl,fa,q⟩:=h;rfl
 .obtain⟨v,mv,rl,xs,hm,zs,rs,rfl,fa,q⟩:=h;refine⟨_,(aE (aP (i:=3) lZ.nd rfl (Or.inl rfl) (aW T.mU G_by_names hr (by decide) rfl (aA (pv 0) (aA (pv 1) aD))))
   (aE (aP (i:=4) lZ.nd rfl (Or.inl rfl) (aW T.B3 G_shown hr (by decide) rfl (aA (pv 0) (aA (aW T.lK G_elders_in hr (by decide) rfl (aA (pv 3) aD)) aD))))
   (aE (aP (i:=5) lZ.nd rfl (Or.inr rfl) (aW T.tD G_ties_in hr (by decide) rfl (aA (pv 3) aD)))
   (aE (iV (KI (pv 5) (aW T.kH G_ties_by_heads hr (by decide) rfl (aA (pv 0) (aA (pv 1) (aA (pv 2) aD)))) ⟨rfl,by rfl,rfl,rfl⟩))
   (aN (aY (cF (oN K) (by rfl) T.cT dG (aA (jM ["name","ties"] 1 [5] ["pack","marks","rules","by_name","seen","ties"] (aB fG) rfl rfl rfl (iG K (bB BU (by rfl) T.eN gF (aA (pv 4) aD))) (by decide+kernel) (fun _=>(aO (i:=0) (show(["name","ties"]:List Str).Nodup by decide+kernel) rfl (Or.inl rfl))) (fun _=>cC) (fun _=>(bE (aA (pv 0) (aA (aT (j8 K) (aT (Mr.yM hr) (pv 1) (pv 0) (fun _ _=>rfl)) aH (fun _ _=>rfl)) (aA (aT (j8 K) (aT (Mr.yM hr) (pv 1) (pv 0) (fun _ _=>rfl)) aH (fun _ _=>rfl)) aD)))))) aD)))))))),?_⟩
  refine aI ?_;walk_at "vc0"
  refine⟨v,mv,xs,hm,zs,rfl,fa.P,fa.mX,fa.M,fa.sV,fa.t4,fa.sT,fa.hz,fa.sub,fun w ab H1 s1 hw nd hks hcl hac2 hal=>?_⟩;have fa1:=fa.kt s1.kt;refine aI ?_;walk_at "vc0"
  refine⟨w,ab,rfl,hw,nd,by omega,fun de H2 s2 hd0 hde=>?_⟩;have fa2:=fa1.kt s2.kt;have hw2:lF H2 w ab:=let⟨t,us,e,ht,hp⟩:=hw;⟨t,us,e,s2 _ _ ht,L2.Paired.cH hp fun _ _ ⟨b,r,e,h⟩=>⟨b,r,e,s2 _ _ h⟩⟩
  refine⟨v,de,xs,ab,rfl,fa2.P,hde,nd,hcl,by omega,fun x hx=>(hks _).mpr (.inl ⟨x,hx,.inl rfl⟩),fun f S H3 s3 hf hfS ndS hS=>?_⟩;have hSk:∀x∈S,x∈ks ab:=fun x hx=>J1 hcl (fun n hn=>by obtain⟨y,hy,rfl⟩:=mem_map.mp hn;exact(hks _).mpr (.inl ⟨y,hy,.inl rfl⟩)) ((hS x).mp hx)
  have hkl:(ks ab).length<=60:=by unfold ks;rw[length_map];exact hal
  have hSl:S.length<=60:=le_trans (fK ndS hSk) hkl;refine aI ?_;walk_at "vc0"
  refine⟨w,ab,rfl,⟨_,_,(id hw2).choose_spec.choose_spec.1,s3 _ _ (id hw2).choose_spec.choose_spec.2.1,L2.Paired.cH (id hw2).choose_spec.choose_spec.2.2 fun _ _ ⟨b,r,e,h⟩=>⟨b,r,e,s3 _ _ h⟩⟩,nd,by omega,fun td H4 s4 htd hT=>?_⟩;have fa4:=(fa2.kt s3.kt).kt s4.kt;have hTd:=hT;obtain⟨kvs,⟨e4,hk4⟩,hT⟩:=hT;refine aI ?_;walk_at "vc0"
  refine⟨_,rfl,td,rfl,.inl ⟨kvs,e4,.inl hk4⟩,_,rfl,_,rfl,_,rfl,v,mv,rl,xs,hm,zs,rs,rfl,fa4,fun dh ab2 H5 s5 hdh hT2 hl2 hab2=>?_⟩;have hk5:=s5 _ _ hk4;obtain⟨more,⟨eh,hm5⟩,hTm⟩:=hT2;have ndh:td≠dh:=fun e=>by rw[<-e,hk4]at hdh;cases hdh
  have hkvl:=hT.length;have hml2:=hTm.length;refine⟨dh,kvs,more,rfl,⟨e4,hk5⟩,⟨eh,.inl hm5⟩,ndh,e9 (by omega),fun ep=>?_⟩;obtain⟨ab3,hT3,hks3,hab3⟩:=sD hTm (L2.Paired.cH hT fun _ _ ⟨e,t,r,e2,h⟩=>⟨e,t,r,e2,s5 _ _ h⟩) fun z hz=>(hks _).mpr (hab2 z hz).1
  have htdn:H td=none:=mO ((s1.trans s2).trans s3) htd;have s04:=((s1.trans s2).trans s3).trans s4;have s06:aF H (upd H5 td (.dK (fL kvs more) ep)):=fun b o h=>by rw[aM (aG h htdn)];exact s5 _ _ (s04 _ _ h)
  have kt6:eK H5 (upd H5 td (.dK (fL kvs more) ep)):=fun a us h=>by rw[aM (fun e=>by rw[e,hk5]at h;cases h)];exact h
  have hk6:upd H5 td (.dK (fL kvs more) ep) td=some (.dK (fL kvs more) ep):=aC;have nft:f≠td:=fun e=>by obtain⟨_,h⟩:=hfS;rw[<-e,h]at htd;cases htd
  have hf6:bZ (upd H5 td (.dK (fL kvs more) ep)) f (i5 S):=let⟨e,h⟩:=hfS;⟨e,by rw[aM nft];exact s5 _ _ (s4 _ _ h)⟩
  have hT6:Paired (iF (upd H5 td (.dK (fL kvs more) ep))) ab3 (fL kvs more):=L2.Paired.cH hT3 fun _ _ ⟨e,t,r,e2,h⟩=>⟨e,t,r,e2,kt6 _ _ h⟩
  generalize upd H5 td (.dK (fL kvs more) ep)=H6 at s06 hk6 hf6 hT6⊢
  have nd3:(ks ab3).Nodup:=by rw[hks3];exact nd
  have hPl:∀z∈ab3,gC (aQ xs) hm z.1/\∀y,z.2=some y->gC (aQ xs) hm y:=fun z hz=>by
   rcases hab3 z hz with h|h
   .exact⟨(hks _).mp (mem_map.mpr ⟨z,h,rfl⟩),fun y e=>(hks _).mp (hcl z.1 y (A0 nd (by rw[<-e];exact h)))⟩
   .exact hab2 z h
  obtain⟨ef,hf6⟩:=hf6;refine⟨_,rfl,f,i5 S,S,rfl,⟨ef,.inl hf6⟩,by unfold i5;rw[map_map];rfl,by omega,fun ls out pm hso hls=>⟨ls,rfl,⟨_,bJ.of aC⟩,fun l hl=>?_⟩⟩;have s7:=aF.upd (o:=.lst (out.map V.str)) hls;have e7:upd H6 ls (.lst (out.map V.str)) ls=some (.lst (out.map V.str)):=aC;generalize upd H6 ls (.lst (out.map V.str))=H7 at s7 e7 hl⊢
  have hol:=pm.length_eq;refine g9 (bJ.of e7) (fun _=>true) (fun H n v=>∃(b:Addr) (o:Option Str) (r:V),v= .ref b/\H b=some (.tup [.str n,oV o,r])/\(n,o)∈ab3) (fun σ=>∃o,σ=[o,some (.ref td)]) ⟨_,rfl⟩ hl (gT (by omega)) (fun _ _ _ _ k ⟨b,o,r,e,h,m⟩=>⟨b,o,r,e,k _ _ h,m⟩) ?_ ?_
  .rintro n σ H8 ys N hn ⟨o,rfl⟩ s8 e8 hz8 hN1 hN2;have hnk:n∈ks ab3:=by rw[hks3];exact hSk n (pm.mem_iff.mp hn)
   obtain⟨z,hz,rfl⟩:=mem_map.mp hnk;obtain⟨t,r,hv,ht⟩:=qO hT6 nd3 hz;have hd8:=s8 _ _ (s7 _ _ hk6);have ht8:=s8 _ _ (s7 _ _ ht);unfold bV;walk_at "vc2";exact⟨td,_,.inr z.1,_,rfl,⟨ep,.inl hd8⟩,rfl,hv,t,rfl,_,bG.of ht8,_,sU,td,_,.inr z.1,_,rfl,⟨ep,.inl hd8⟩,rfl,hv,t,rfl,_,bG.of ht8,_,cB (j:=1) rfl,e9 (by decide),fun t9 ht9=>⟨ys,aF.upd ht9 _ _ e8,hz8,hN2 rfl _ _ _ ⟨_,rfl⟩ (aF.upd ht9) ⟨t9,z.2,r,rfl,aC,hz⟩⟩⟩
  .intro H8 ys s8 hpr e8;rw[show out.filter (fun _=>true)=out from filter_eq_self.mpr (by simp)]at hpr;obtain⟨ws,hws,hpw,hsw⟩:=wJ hpr;refine⟨l,rfl,ys,bJ.of e8,fun t ht=>q _ ws _ (((s06.trans s7).trans s8).trans (aF.upd ht)) ⟨t,ys,rfl,aC,L2.Paired.cH hpw fun _ _ ⟨b,r,e,h⟩=>⟨b,r,e,(aF.upd ht) _ _ h⟩⟩ ?_ fun z hz=>hPl z (hsw z hz)⟩;rw[<-length_map (f:=fun z:Str×Option Str=>z.1)];show(ks ws).length<=60;rw[hws];omega
theorem AS:aU ["forest"] ["forest"] (aB eC):=⟨rfl,rfl,rfl,by decide+kernel,rfl,by decide+kernel,by decide+kernel⟩
set_option maxHeartbeats 4000000 in
theorem A1 (T:Txt K mg fs fds tc u) (G_forest:aV P w K mg base cJ 9 (fs 30) (fds 30) ["pack","marks","rules"] EZ):aV P w K mg base cJ 10 (fs 31) (fds 31) ["forest"] PD:=by
 refine T.pB.F.ok AS (fun vs H Q E h=>?_) (fun cdv A outer s H vs Q E hr h=>?_)
 .obtain⟨v,ab,rfl,hv,hl,q⟩:=h;rfl
 .obtain⟨v,ab,rfl,hv,hl,q⟩:=h;refine⟨_,(aN (aY (cF (oN K) (by rfl) T.cT dG (aA (jM ["name","elder","reason"] 3 [] ["forest"] (aB eC) rfl rfl rfl (cW K (pv 0)) (by decide+kernel) (fun _=>(dH (n:=3) K rfl (aS (aO (i:=0) (show(["name","elder","reason"]:List Str).Nodup by decide+kernel) rfl (Or.inl rfl)) (aS (aO (i:=1) (show(["name","elder","reason"]:List Str).Nodup by decide+kernel) rfl (Or.inl rfl)) (aS (aO (i:=2) (show(["name","elder","reason"]:List Str).Nodup by decide+kernel) rfl (Or.inl rfl)) dD))))) (fun _=>cC) (fun _=>(bE (aA (pv 0) (aA (pv 1) aD))))) aD)))),?_⟩;obtain⟨t,us,rfl,ht,hp⟩:=hv;have hul:=hp.length;have hzf:(ab.zip us).map (·.1)=ab:=map_fst_zip (by omega);have hzl:(ab.zip us).length=ab.length:=by rw[length_zip,hul,min_self]
  walk_at "vc0";refine⟨_,rfl,t,rfl,⟨us,bG.of ht⟩,fun l5 hl5=>lT (DY K t) (ab.zip us) (·.2) (fun _=>true) (fun H z v=>IA H z.1 v) (fun σ=>∃o1 o2 o3,σ=[o1,o2,o3]) ⟨_,_,_,rfl⟩ hl5 (gT (by omega)) (fun H' s=>⟨us,(bG.of ht).same s,by omega⟩) (fun i H' hi s=>⟨us,us[i]'(by omega),(bG.of ht).same s,by simp⟩) (fun i H5 v H6 hi s y=>?_) (fun _ _ _ _ k ⟨b,e,h⟩=>⟨b,e,k _ _ h⟩) ?_ ?_⟩
  .have hv:=y.2 us ((bG.of ht).same s);exact⟨y.1,(ab[i]'(by omega),us[i]'(by omega)),by rw[getElem?_eq_getElem hi,getElem_zip],by rw[getElem?_eq_getElem (by omega)]at hv;exact(Option.some.inj hv).symm⟩
  .rintro z σ H5 ys N hz ⟨o1,o2,o3,rfl⟩ s5 e5 hyz hN1 hN2;obtain⟨⟨b,r,eb,hb⟩,_⟩:=qP hp hz;have hb5:=s5 _ _ hb;rw[eb];unfold bV;walk_at "vc2";exact⟨_,bG.of hb5,rfl,_,_,rfl,_,_,rfl,_,_,rfl,rfl,e9 (by decide),fun t7 ht7=>⟨ys,aF.upd ht7 _ _ e5,hyz,hN2 rfl _ _ _ ⟨_,_,_,rfl⟩ (aF.upd ht7) ⟨t7,rfl,aC⟩⟩⟩
  .intro H5 ys s5 hpr e5;rw[show(ab.zip us).filter (fun _=>true)=ab.zip us from filter_eq_self.mpr (by simp)]at hpr;have hpr2:=AB hpr;rw[hzf]at hpr2;exact⟨l5,rfl,ys,bJ.of e5,fun t2 ht2=>q _ _ (s5.trans (aF.upd ht2)) ⟨t2,ys,rfl,aC,L2.Paired.cH hpr2 fun _ _ ⟨b,e,h⟩=>⟨b,e,aF.upd ht2 _ _ h⟩⟩⟩
theorem d6:aU ["_law_hand_here","_law_names_here","_law_rules","_law_marks_here","_law_pack_here","_law_one","_law_other","_law_due"] ["_law_hand_here"] (aB cP):=⟨rfl,rfl,rfl,by decide+kernel,rfl,by decide+kernel,by decide+kernel⟩
set_option maxHeartbeats 4000000 in
theorem wK (T:Txt K mg fs fds tc u) (G_law_names:aV P w K mg base cJ 3 (fs 35) (fds 35) ["_law_hand_here","_law_many"] LY) (G_law_marks:aV P w K mg base cJ 2 (fs 38) (fds 38) ["_law_hand_here","_law_names_here"] PX) (G_law_pack:aV P w K mg base cJ 3 (fs 37) (fds 37) ["_law_hand_here","_law_names_here"] O3) (G_law_take:aV P w K mg base cJ 1 (fs 33) (fds 33) ["_law_hand_here","_law_many"] CJ) (G_forest:aV P w K mg base cJ 9 (fs 30) (fds 30) ["pack","marks","rules"] EZ) (G_wish_of:aV P w K mg base cJ 10 (fs 31) (fds 31) ["forest"] PD):aV P w K mg base cJ 11 (fs 39) (fds 39) ["_law_hand_here"] K1:=by
 refine T.pR.F.ok d6 (fun vs H Q E h=>?_) (fun cdv A outer s H vs Q E hr h=>?_)
 .obtain⟨p,c,rfl,hp,hc,q⟩:=h;rfl
 .obtain⟨p,c,rfl,hp,hc,q⟩:=h;refine⟨_,(aE (aP (i:=1) d6.nd rfl (Or.inl rfl) (aW T.pF G_law_names hr (by decide) rfl (aA (pv 0) (aA (bI fY aH (aW T.bK G_law_take hr (by decide) rfl (aA (pv 0) (aA aH aD)))) aD))))
   (aE (aP (i:=2) d6.nd rfl (Or.inl rfl) (aT (j8 K) (bE (aA (bE (aA (bE (aA bP (aA bP aD))) aD)) (aA (bE aD) aD))) (aW T.bK G_law_take hr (by decide) rfl (aA (pv 0) (aA aH aD))) (fun _ _=>rfl)))
   (aE (aP (i:=3) d6.nd rfl (Or.inl rfl) (aW T.pZ G_law_marks hr (by decide) rfl (aA (pv 0) (aA (pv 1) aD))))
   (aE (aP (i:=4) d6.nd rfl (Or.inl rfl) (aW T.qX G_law_pack hr (by decide) rfl (aA (pv 0) (aA (pv 1) aD))))
   (aE (L7 (i:=5) (j:=6) rfl d6.nd rfl rfl (by decide) rfl rfl (aA (aW T.qY G_forest hr (by decide) rfl (aA (pv 4) (aA (pv 3) (aA (pv 2) aD)))) (aA (aW T.qY G_forest hr (by decide) rfl (aA (cK wA (pv 4) (cZ (aW T.bK G_law_take hr (by decide) rfl (aA (pv 0) (aA (bI fY (bB (RR K) (by rfl) T.jA j5 (aA (pv 4) aD)) aH) aD)))) dU) (aA (pv 3) (aA (pv 2) aD)))) aD)) rfl)
   (aE (nL (i:=7) ["_law_trees"] 1 [] ["_law_hand_here","_law_names_here","_law_rules","_law_marks_here","_law_pack_here","_law_one","_law_other","_law_due"] (aB cP) rfl rfl rfl d6.nd rfl rfl (cW K (bE (aA (pv 5) (aA (pv 6) aD)))) (by decide+kernel) (fun _=>(aO (i:=0) (show(["_law_trees"]:List Str).Nodup by decide+kernel) rfl (Or.inl rfl))) (fun _=>cC) (fun _=>(cF (oN K) (by rfl) T.cT dG (aA (jM ["_law_entry"] 1 [] ["_law_trees"] _ rfl rfl rfl (cW K (pv 0)) (by kernel_rfl) (fun _=>(aO (i:=0) (show(["_law_entry"]:List Str).Nodup by decide+kernel) rfl (Or.inl rfl))) (fun _=>cC) (fun _=>(bE (aA (aT (j8 K) (pv 0) aH (fun _ _=>rfl)) (aA (aT (j8 K) (pv 0) aH (fun _ _=>rfl)) aD))))) aD))))
   (aN (aY (lV tS (bB (rW K hr) (by rfl) T.o7 CC (aA (gR (aA (aW T.pB G_wish_of hr (by decide) rfl (aA (pv 5) aD)) (aA (aW T.pB G_wish_of hr (by decide) rfl (aA (pv 6) aD)) aD))) aD)) (bB (rW K hr) (by rfl) T.o7 CC (aA (pv 7) aD)) (cL _)))))))))),?_⟩
  refine aI ?_;walk_at "vc0"
  refine⟨p,8,c,rfl,hp,by omega,by decide,by decide,fun n0 H1 n00 n08 hp1 b1=>?_⟩;obtain⟨m0,rfl⟩:∃k:Nat,n0=(k:Int):=⟨n0.toNat,by omega⟩;refine⟨_,rfl,p,2+m0,c+1,by rw[Int.natCast_add];rfl,hp1,by omega,by omega,fun l zs H2 hl npl hN hnd hzl hp2 b2=>?_⟩;have b02:=b1.trans b2;clear b1 b2 hp1;refine aI ?_;walk_at "vc0"
  refine⟨e9 (by decide),fun a1 h1=>?_⟩;have s3:=aF.upd (o:=.tup [V.str (Str.ofString "ahead"),.str (Str.ofString "re")]) h1;have e1:upd H2 a1 (.tup [V.str (Str.ofString "ahead"),.str (Str.ofString "re")]) a1=some (.tup [V.str (Str.ofString "ahead"),.str (Str.ofString "re")]):=aC;generalize upd H2 a1 (.tup [V.str (Str.ofString "ahead"),.str (Str.ofString "re")])=H3 at s3 e1⊢
  refine⟨e9 (by decide),fun a2 h2=>?_⟩;have s4:=s3.trans (aF.upd (o:=.tup [V.ref a1]) h2);have e2:upd H3 a2 (.tup [V.ref a1]) a2=some (.tup [V.ref a1]):=aC;replace e1:=aF.upd (o:=.tup [V.ref a1]) h2 _ _ e1;generalize upd H3 a2 (.tup [V.ref a1])=H4 at s4 e1 e2⊢
  refine⟨e9 (by decide),fun a3 h3=>?_⟩;have s5:=s4.trans (aF.upd (o:=.tup []) h3);have e3:upd H4 a3 (.tup []) a3=some (.tup []):=aC;replace e1:=aF.upd (o:=.tup []) h3 _ _ e1;replace e2:=aF.upd (o:=.tup []) h3 _ _ e2;generalize upd H4 a3 (.tup [])=H5 at s5 e1 e2 e3⊢
  refine⟨e9 (by decide),fun a4 h4=>?_⟩;have s6:=s5.trans (aF.upd (o:=.tup [V.ref a2,.ref a3]) h4);have e4:upd H5 a4 (.tup [V.ref a2,.ref a3]) a4=some (.tup [V.ref a2,.ref a3]):=aC;replace e1:=aF.upd (o:=.tup [V.ref a2,.ref a3]) h4 _ _ e1;replace e2:=aF.upd (o:=.tup [V.ref a2,.ref a3]) h4 _ _ e2;replace e3:=aF.upd (o:=.tup [V.ref a2,.ref a3]) h4 _ _ e3;generalize upd H5 a4 (.tup [V.ref a2,.ref a3])=H6 at s6 e1 e2 e3 e4⊢
  have hp6:=Box.same (p:=p) hp2 s6;have el6:=s6 _ _ hN.el;have b06:=b02.trans (fQ.of (p:=p) s6);clear b02 s3 s4 s5 h1 h2 h3 h4;refine⟨p,2,_,rfl,hp6,by omega,by decide,by decide,fun d H7 d0 d1 hp7 b7=>?_⟩;have kt7:=Box.kt (d:=0) hp6 b7;have el7:=b7 _ _ el6 npl;obtain⟨rl,hrl,hat⟩:=iT (xs:=[V.ref a2,.ref a3]) d0 d1;obtain⟨rs,hR⟩:∃rs,EE H7 rl rs:=by
   simp only[mem_cons,mem_nil_iff,or_false]at hrl;rcases hrl with rfl|rfl
   .exact⟨[(Str.ofString "ahead",Str.ofString "re")],a2,_,rfl,kt7 _ _ e2,.cons ⟨a1,rfl,kt7 _ _ e1⟩ .nil,by simp,fun r hr=>by rw[mem_singleton.mp hr];show(Str.ofString "re").length<=20;decide+kernel⟩
   .exact⟨[],a3,_,rfl,kt7 _ _ e3,.nil,by simp,fun _ h=>nomatch h⟩
  refine⟨_,d,rfl,bG.of (kt7 _ _ e4),rl,hat,?_⟩;have b07:=b06.trans b7;have hN7:K0 H7 l zs:=⟨el7,hN.nm,hN.le⟩;clear b06 b7 kt7 e1 e2 e3 e4 el6 s6 hp6;refine aI ?_;walk_at "vc0"
  refine⟨p,l,zs,_,rfl,hp7,by omega,hN7,hnd,by omega,npl,fun mv hm H8 hM t4 sV sT hms hp8 b8=>?_⟩;have kt8:=Box.kt (d:=0) hp7 b8;have hN8:K0 H8 l zs:=⟨b8 _ _ el7 npl,hN.nm,hN.le⟩;have b08:=b07.trans b8;refine aI ?_;walk_at "vc0"
  refine⟨p,l,zs,_,rfl,hp8,by omega,hN8,by omega,npl,fun pk xs H9 hPk hxl hmem hp9 b9=>?_⟩;have kt9:=Box.kt (d:=0) hp8 b9;have b09:=b08.trans b9;have hsub:∀ys:List Lt,(∀x∈ys,x∈xs)->∀x,gC (aQ ys) hm x->x∈zs:=fun ys hys x hx=>by
   rcases hx with⟨y,hy,h⟩|⟨z,hz,h⟩
   .obtain⟨h1,h2⟩:=hmem y (hys y (AF ys y hy));rcases h with rfl|h
    .exact h1
    .exact h2 x (AA h)
   .rcases h with rfl|h
    .exact(hms z hz).1
    .exact(hms z hz).2 x h
  have hz9:=hN.le;have fa:LO H9 pk mv rl xs hm zs rs:=⟨hPk,by omega,jV.kt kt9 hM,sV,by omega,sT,by omega,hsub xs fun _ h=>h,EE.kt (kt8.trans kt9) hR⟩;clear b07 b8 b9 b08 kt8 kt9 hp7 hp8 hN7 hN8 hPk hM hR el7;obtain⟨ta,us,rfl,hta,hpp,h1000⟩:=fa.P;have hul:=hpp.length;refine aI ?_;walk_at "vc0"
  refine⟨.ref ta,mv,rl,xs,hm,zs,rs,rfl,fa,fun w1 ab1 H10 s10 hw1 hl1 hpl1=>?_⟩;have hp10:=Box.same (p:=p) hp9 s10;refine⟨us,bG.of (s10 _ _ hta),p,_,_,rfl,hp10,by omega,by omega,by omega,fun e H11 e0 e1 hp11 b11=>?_⟩;obtain⟨j,rfl⟩:∃j:Nat,e=(j:Int):=⟨e.toNat,by omega⟩;have kt11:=s10.kt.trans (Box.kt (d:=0) hp10 b11);refine⟨_,rfl,us,kt11 _ _ hta,fun ls H12 s12 hls=>?_⟩;rw[CD]at hls;have kt12:=kt11.trans s12.kt;have fa9:=fa.kt kt12;have fa12:LO H12 (.ref ls) mv rl (xs.drop j) hm zs rs:=⟨⟨ls,_,rfl,hls,pD j (L2.Paired.cH hpp fun _ _ h=>h.kp kt12),by rw[length_drop];omega⟩,by rw[length_drop];omega,fa9.M,sV,by omega,sT,by omega,hsub _ fun _ h=>List.mem_of_mem_drop h,fa9.R⟩;refine⟨.ref ls,mv,rl,xs.drop j,hm,zs,rs,rfl,fa12,fun w2 ab2 H13 s13 hw2 hl2 hpl2=>?_⟩;have hp13:=Box.same (p:=p) (Box.same (p:=p) hp11 s12) s13;have b013:=((b09.trans (fQ.of (p:=p) s10)).trans b11).trans (fQ.of (p:=p) (s12.trans s13));have kt13:=((Box.kt (d:=0) hp10 b11).trans s12.kt).trans s13.kt;have hw1':=lF.kt kt13 hw1;have hsub2:∀x,gC (aQ xs) hm x->eJ x=true:=fun x hx=>hN.nm x (hsub xs (fun _ h=>h) x hx)
  have hsub3:∀x,gC (aQ (xs.drop j)) hm x->eJ x=true:=fun x hx=>hN.nm x (hsub _ (fun _ h=>List.mem_of_mem_drop h) x hx)
  have hok1:∀z∈ab1,eJ z.1=true/\∀y,z.2=some y->eJ y=true:=fun z hz=>⟨hsub2 _ (hpl1 z hz).1,fun y e=>hsub2 _ ((hpl1 z hz).2 y e)⟩
  have hok2:∀z∈ab2,eJ z.1=true/\∀y,z.2=some y->eJ y=true:=fun z hz=>⟨hsub3 _ (hpl2 z hz).1,fun y e=>hsub3 _ ((hpl2 z hz).2 y e)⟩
  clear fa fa9 fa12 hpl1 hpl2 hsub2 hsub3 hsub hpp hls kt11 kt12 b09 b11 s12 s10 hw1 hp9 hp10 hp11 hms hmem;refine aI ?_;refine⟨_,rfl,_,rfl,e9 (by simp),fun tt htt=>⟨tt,rfl,⟨_,bG.of aC⟩,fun lc hlc=>?_⟩⟩;have s14:=aF.upd (o:=.tup [w1,w2]) htt;have ett:upd H13 tt (.tup [w1,w2]) tt=some (.tup [w1,w2]):=aC;generalize upd H13 tt (.tup [w1,w2])=H14 at s14 ett hlc⊢
  refine tX (P:=fun ab v=>lF H14 v ab) (es:=[ab1,ab2]) (bG.of ett) (.cons (hw1'.kt s14.kt) (.cons (hw2.kt s14.kt) .nil)) (fun H ab v=>jV H v ab) (fun σ=>∃o,σ=[o]) ⟨_,rfl⟩ hlc (gT (by simp)) (fun _ _ _ _ k h=>h.kt k) ?_ ?_
  .rintro ab u σ H15 ys N hab hT ⟨o,rfl⟩ s15 e15 hz hN;obtain⟨t,us1,rfl,ht,hpT⟩:=hT;have ht15:=s15 _ _ ht;unfold bV;walk_at "vc2";have hl15:ab.length<=60:=by
    simp only[mem_cons,mem_nil_iff,or_false]at hab;rcases hab with rfl|rfl<;>omega
   refine⟨_,rfl,t,rfl,⟨us1,bG.of ht15⟩,fun l5 hl5=>tX (P:=MV H14) (bG.of ht15) hpT (fun H z v=>IA H z v) (fun σ=>∃o,σ=[o]) ⟨_,rfl⟩ hl5 (gT (by omega)) (fun _ _ _ _ k ⟨b,e,h⟩=>⟨b,e,k _ _ h⟩) ?_ ?_⟩
   .rintro z u σ H16 ys N2 hz' ⟨b,r,rfl,hb⟩ ⟨o,rfl⟩ s16 e16 hyz hN2;have hb16:=s16 _ _ (s15 _ _ hb);unfold bV;walk_at "vc2";exact⟨_,bG.of hb16,_,sU,_,bG.of hb16,_,cB (j:=1) rfl,e9 (by decide),fun t7 ht7=>⟨ys,aF.upd ht7 _ _ e16,hyz,hN2 _ _ _ ⟨_,rfl⟩ (aF.upd ht7) ⟨t7,rfl,aC⟩⟩⟩
   .intro H16 us2 s16 hpr2 e16;exact⟨l5,rfl,us2,bJ.of e16,fun t2 ht2=>⟨ys,(s16.trans (aF.upd ht2)) _ _ e15,hz,hN _ _ _ ⟨_,rfl⟩ (s16.trans (aF.upd ht2)) ⟨t2,us2,rfl,aC,L2.Paired.cH hpr2 fun _ _ ⟨b,e,h⟩=>⟨b,e,aF.upd ht2 _ _ h⟩⟩⟩⟩
  .intro H15 ys s15 hpr e15;walk_at "vc0";obtain⟨u1,u2,rfl,hu1,hu2⟩:∃u1 u2,ys=[u1,u2]/\jV H15 u1 ab1/\jV H15 u2 ab2:=by
    cases hpr with
    |cons h1 r=>cases r with
     |cons h2 r=>cases r;exact⟨_,_,rfl,h1,h2⟩
   refine⟨w1,ab1,rfl,(hw1'.kt s14.kt).kt s15.kt,by omega,fun v1 H16 s16 hv1=>⟨w2,ab2,rfl,((hw2.kt s14.kt).kt s15.kt).kt s16.kt,by omega,fun v2 H17 s17 hv2=>⟨e9 (by decide),fun a ha=>?_⟩⟩⟩;have s18:=aF.upd (o:=.lst [v1,v2]) ha;have k1:=s17.kt.trans s18.kt;have k2:=s16.kt.trans k1;have Sm2:Sm 16000000 40 (.list [zE ab1,zE ab2]):=(Sm.lst (n:=20000) (k:=3) (m:=2) (fun d hd=>by
    simp only[mem_cons,mem_nil_iff,or_false]at hd;rcases hd with rfl|rfl
    .exact HD hl1 hok1
    .exact HD hl2 hok2) (by simp)).mono (by decide) (by decide)
   refine⟨a,_,[zE ab1,zE ab2],rfl,bJ.of aC,.cons (u4 (hv1.kt k1)) (.cons (u4 (hv2.kt s18.kt)) .nil),Sm2,lc,_,[zE ab1,zE ab2],rfl,bJ.of (s18 _ _ (s17 _ _ (s16 _ _ e15))),.cons (u4 (hu1.kt k2)) (.cons (u4 (hu2.kt k2)) .nil),Sm2,rfl,?_⟩;rw[decide_eq_true rfl];exact q _ (b013.trans (fQ.of ((((s14.trans s15).trans s16).trans s17).trans s18)))
theorem ER:aU ["_law_script","_law_k"] ["_law_script"] (aB hV):=⟨rfl,rfl,rfl,by decide+kernel,rfl,by decide+kernel,by decide+kernel⟩
set_option maxHeartbeats 4000000 in
theorem MG (T:Txt K mg fs fds tc u) (G_law_right:aV P w K mg base cJ 11 (fs 39) (fds 39) ["_law_hand_here"] K1) (G_law_hand:aV P w K mg base cJ 1 (fs 32) (fds 32) ["_law_script","_law_k"] (OS K)):aV P w K mg base cJ 12 (fs 40) (fds 40) ["_law_script"] (BH K):=by
 refine T.PK.F.ok ER (fun vs H Q E h=>?_) (fun cdv A outer s H vs Q E hr h=>?_)
 .obtain⟨a,ns,rfl,hS,hl,q⟩:=h;rfl
 .obtain⟨a,ns,rfl,hS,hl,q⟩:=h;refine⟨_,(aE (dP PassesOwn.never rfl (jF rfl T.g6 (aA (bB (CZ rfl) (by rfl) T.yJ NB (aA aH (aA (bB (CL rfl) (by rfl) T.mK o9 (aA aH (aA (bB (NL K) (by rfl) T.jA j5 (aA (pv 0) aD)) aD))) aD))) aD)) (aO (i:=1) ER.nd rfl (Or.inl rfl)) (aN (fR (z7 (GB (aW T.pR G_law_right hr (by decide) rfl (aA (aW T.rO G_law_hand hr (by decide) rfl (aA (pv 0) (aA (pv 1) aD))) aD)))) (aN (aY mL)) cU)))
   (aN (aY mL))),?_⟩
  refine aI ?_;have hm:=turns (L:=((ns.map V.int).length:Int)) (c:=5) (by decide);refine⟨_,rfl,a,_,rfl,hS,_,_,rfl,_,_,rfl,_,rfl,by omega,by omega,oZ (fun i σ H'=>aF H H'/\∃v1,σ=[some (V.ref a),v1]) ⟨aF.refl _,_,rfl⟩ ?_ ?_⟩
  .rintro i σ H1 hi ⟨s1,v1,rfl⟩;have hi':(i:Int)<60:=by omega
   walk_at "vc0";refine⟨a,ns,_,rfl,hS.same s1,by omega,by omega,fun p H2 hp hp2 s2=>⟨p,0,rfl,hp2,by decide,fun H3 b3=>⟨true,rfl,oR ⟨fun b o h=>b3 _ _ (s2 _ _ (s1 _ _ h)) (aG (s1 _ _ h) hp),_,rfl⟩⟩⟩⟩
  .rintro σ H1 ⟨s1,v1,rfl⟩;walk_at "vc0";exact q H1
end
theorem all_mk {w:World} {h:Heap} {mg:Str->Option Value} {fa f0 f1 f2 f3 f4 f5 f6 f7 f8 f9 f10 f11 f12 f13 f14 f15 f16 f17 f18 f19 f20 f21 f22 f23 f24 f25 f26 f27 f28 f29 f30 f31 f32 f33 f34 f35 f36 f37 f38 f39 f40:Addr} (X:K.In h) (G:h.Ns mainGlobals mg) (hfa:mg "law"=some (.ref fa))
  {od0 an0 od1 an1 od2 an2 od3 an3 od4 an4 od5 an5 od6 an6 od7 an7 od8 an8 od9 an9 od10 an10 od11 an11 od12 an12 od13 an13 od14 an14 od15 an15 od16 an16 od17 an17 od18 an18 od19 an19 od20 an20 od21 an21 od22 an22 od23 an23 od24 an24 od25 an25 od26 an26 od27 an27 od28 an28 od29 an29 od30 an30 od31 an31 od32 an32 od33 an33 od34 an34 od35 an35 od36 an36 od37 an37 od38 an38 od39 an39 od40 an40:Option Addr} {sl0 sl1 sl2 sl3 sl4 sl5 sl6 sl7 sl8 sl9 sl10 sl11 sl12 sl13 sl14 sl15 sl16 sl17 sl18 sl19 sl20 sl21 sl22 sl23 sl24 sl25 sl26 sl27 sl28 sl29 sl30 sl31 sl32 sl33 sl34 sl35 sl36 sl37 sl38 sl39 sl40:Array (Option Value)} {oc0 kV0 dc0 pm0 cd0 ct0 oc1 kV1 dc1 pm1 cd1 ct1 oc2 kV2 dc2 pm2 cd2 ct2 oc3 kV3 dc3 pm3 cd3 ct3 oc4 kV4 dc4 pm4 cd4 ct4 oc5 kV5 dc5 pm5 cd5 ct5 oc6 kV6 dc6 pm6 cd6 ct6 oc7 kV7 dc7 pm7 cd7 ct7 oc8 kV8 dc8 pm8 cd8 ct8 oc9 kV9 dc9 pm9 cd9 ct9 oc10 kV10 dc10 pm10 cd10 ct10 oc11 kV11 dc11 pm11 cd11 ct11 oc12 kV12 dc12 pm12 cd12 ct12 oc13 kV13 dc13 pm13 cd13 ct13 oc14 kV14 dc14 pm14 cd14 ct14 oc15 kV15 dc15 pm15 cd15 ct15 oc16 kV16 dc16 pm16 cd16 ct16 oc17 kV17 dc17 pm17 cd17 ct17 oc18 kV18 dc18 pm18 cd18 ct18 oc19 kV19 dc19 pm19 cd19 ct19 oc20 kV20 dc20 pm20 cd20 ct20 oc21 kV21 dc21 pm21 cd21 ct21 oc22 kV22 dc22 pm22 cd22 ct22 oc23 kV23 dc23 pm23 cd23 ct23 oc24 kV24 dc24 pm24 cd24 ct24 oc25 kV25 dc25 pm25 cd25 ct25 oc26 kV26 dc26 pm26 cd26 ct26 oc27 kV27 dc27 pm27 cd27 ct27 oc28 kV28 dc28 pm28 cd28 ct28 oc29 kV29 dc29 pm29 cd29 ct29 oc30 kV30 dc30 pm30 cd30 ct30 oc31 kV31 dc31 pm31 cd31 ct31 oc32 kV32 dc32 pm32 cd32 ct32 oc33 kV33 dc33 pm33 cd33 ct33 oc34 kV34 dc34 pm34 cd34 ct34 oc35 kV35 dc35 pm35 cd35 ct35 oc36 kV36 dc36 pm36 cd36 ct36 oc37 kV37 dc37 pm37 cd37 ct37 oc38 kV38 dc38 pm38 cd38 ct38 oc39 kV39 dc39 pm39 cd39 ct39 oc40 kV40 dc40 pm40 cd40 ct40:Value} {tk0:Tok}
  (a0:nsIn K mainGlobals "elders"=some (some (.ref f0))) (l0:K.lookup f0=some ⟨oc0,od0,.func (fnOf "elders" "elders" (aK fI) (aJ fI) (aB fI) .none kV0 dc0 pm0 an0 cd0 ct0),sl0⟩) (c0:codeIn K cd0 "elders"=true) (k0:keepIn K (.ref f0)=true)
  (a1:nsIn K mainGlobals "standing"=some (some (.ref f1))) (l1:K.lookup f1=some ⟨oc1,od1,.func (fnOf "standing" "standing" (aK d7) (aJ d7) (aB d7) .none kV1 dc1 pm1 an1 cd1 ct1),sl1⟩) (c1:codeIn K cd1 "standing"=true) (k1:keepIn K (.ref f1)=true)
  (a2:nsIn K mainGlobals "days_of"=some (some (.ref f2))) (l2:K.lookup f2=some ⟨oc2,od2,.func (fnOf "days_of" "days_of" (aK eB) (aJ eB) (aB eB) .none kV2 dc2 pm2 an2 cd2 ct2),sl2⟩) (c2:codeIn K cd2 "days_of"=true) (k2:keepIn K (.ref f2)=true)
  (a3:nsIn K mainGlobals "rings_in"=some (some (.ref f3))) (l3:K.lookup f3=some ⟨oc3,od3,.func (fnOf "rings_in" "rings_in" (aK dW) (aJ dW) (aB dW) .none kV3 dc3 pm3 an3 cd3 ct3),sl3⟩) (c3:codeIn K cd3 "rings_in"=true) (k3:keepIn K (.ref f3)=true)
  (a4:nsIn K mainGlobals "elders_in"=some (some (.ref f4))) (l4:K.lookup f4=some ⟨oc4,od4,.func (fnOf "elders_in" "elders_in" (aK cO) (aJ cO) (aB cO) .none kV4 dc4 pm4 an4 cd4 ct4),sl4⟩) (c4:codeIn K cd4 "elders_in"=true) (k4:keepIn K (.ref f4)=true)
  (a5:nsIn K mainGlobals "ties_in"=some (some (.ref f5))) (l5:K.lookup f5=some ⟨oc5,od5,.func (fnOf "ties_in" "ties_in" (aK eE) (aJ eE) (aB eE) .none kV5 dc5 pm5 an5 cd5 ct5),sl5⟩) (c5:codeIn K cd5 "ties_in"=true) (k5:keepIn K (.ref f5)=true)
  (a6:nsIn K mainGlobals "roots_in"=some (some (.ref f6))) (l6:K.lookup f6=some ⟨oc6,od6,.func (fnOf "roots_in" "roots_in" (aK eA) (aJ eA) (aB eA) .none kV6 dc6 pm6 an6 cd6 ct6),sl6⟩) (c6:codeIn K cd6 "roots_in"=true) (k6:keepIn K (.ref f6)=true)
  (a7:nsIn K mainGlobals "plain"=some (some (.ref f7))) (l7:K.lookup f7=some ⟨oc7,od7,.func (fnOf "plain" "plain" (aK gH) (aJ gH) (aB gH) .none kV7 dc7 pm7 an7 cd7 ct7),sl7⟩) (c7:codeIn K cd7 "plain"=true) (k7:keepIn K (.ref f7)=true)
  (a8:nsIn K mainGlobals "is_count"=some (some (.ref f8))) (l8:K.lookup f8=some ⟨oc8,od8,.func (fnOf "is_count" "is_count" (aK dM) (aJ dM) (aB dM) .none kV8 dc8 pm8 an8 cd8 ct8),sl8⟩) (c8:codeIn K cd8 "is_count"=true) (k8:keepIn K (.ref f8)=true)
  (a9:nsIn K mainGlobals "without_ahead"=some (some (.ref f9))) (l9:K.lookup f9=some ⟨oc9,od9,.func (fnOf "without_ahead" "without_ahead" (aK bT) (aJ bT) (aB bT) .none kV9 dc9 pm9 an9 cd9 ct9),sl9⟩) (c9:codeIn K cd9 "without_ahead"=true) (k9:keepIn K (.ref f9)=true)
  (a10:nsIn K mainGlobals "without_label"=some (some (.ref f10))) (l10:K.lookup f10=some ⟨oc10,od10,.func (fnOf "without_label" "without_label" (aK bS) (aJ bS) (aB bS) .none kV10 dc10 pm10 an10 cd10 ct10),sl10⟩) (c10:codeIn K cd10 "without_label"=true) (k10:keepIn K (.ref f10)=true)
  (a11:nsIn K mainGlobals "without_behind"=some (some (.ref f11))) (l11:K.lookup f11=some ⟨oc11,od11,.func (fnOf "without_behind" "without_behind" (aK bM) (aJ bM) (aB bM) .none kV11 dc11 pm11 an11 cd11 ct11),sl11⟩) (c11:codeIn K cd11 "without_behind"=true) (k11:keepIn K (.ref f11)=true)
  (a12:nsIn K mainGlobals "taken_off"=some (some (.ref f12))) (l12:K.lookup f12=some ⟨oc12,od12,.func (fnOf "taken_off" "taken_off" (aK dE) (aJ dE) (aB dE) .none kV12 dc12 pm12 an12 cd12 ct12),sl12⟩) (c12:codeIn K cd12 "taken_off"=true) (k12:keepIn K (.ref f12)=true)
  (a13:nsIn K mainGlobals "next_step"=some (some (.ref f13))) (l13:K.lookup f13=some ⟨oc13,od13,.func (fnOf "next_step" "next_step" (aK dC) (aJ dC) (aB dC) .none kV13 dc13 pm13 an13 cd13 ct13),sl13⟩) (c13:codeIn K cd13 "next_step"=true) (k13:keepIn K (.ref f13)=true)
  (a14:nsIn K mainGlobals "peeled"=some (some (.ref f14))) (l14:K.lookup f14=some ⟨oc14,od14,.func (fnOf "peeled" "peeled" (aK fZ) (aJ fZ) (aB fZ) .none kV14 dc14 pm14 an14 cd14 ct14),sl14⟩) (c14:codeIn K cd14 "peeled"=true) (k14:keepIn K (.ref f14)=true)
  (a15:nsIn K mainGlobals "bare"=some (some (.ref f15))) (l15:K.lookup f15=some ⟨oc15,od15,.func (fnOf "bare" "bare" (aK jY) (aJ jY) (aB jY) .none kV15 dc15 pm15 an15 cd15 ct15),sl15⟩) (c15:codeIn K cd15 "bare"=true) (k15:keepIn K (.ref f15)=true)
  (a16:nsIn K mainGlobals "is_answer"=some (some (.ref f16))) (l16:K.lookup f16=some ⟨oc16,od16,.func (fnOf "is_answer" "is_answer" (aK cN) (aJ cN) (aB cN) .none kV16 dc16 pm16 an16 cd16 ct16),sl16⟩) (c16:codeIn K cd16 "is_answer"=true) (k16:keepIn K (.ref f16)=true)
  (a17:nsIn K mainGlobals "rows_of"=some (some (.ref f17))) (l17:K.lookup f17=some ⟨oc17,od17,.func (fnOf "rows_of" "rows_of" (aK eD) (aJ eD) (aB eD) .none kV17 dc17 pm17 an17 cd17 ct17),sl17⟩) (c17:codeIn K cd17 "rows_of"=true) (k17:keepIn K (.ref f17)=true)
  (a18:nsIn K mainGlobals "claims_of"=some (some (.ref f18))) (l18:K.lookup f18=some ⟨oc18,od18,.func (fnOf "claims_of" "claims_of" (aK dF) (aJ dF) (aB dF) .none kV18 dc18 pm18 an18 cd18 ct18),sl18⟩) (c18:codeIn K cd18 "claims_of"=true) (k18:keepIn K (.ref f18)=true)
  (a19:nsIn K mainGlobals "choice"=some (some (.ref f19))) (l19:K.lookup f19=some ⟨oc19,od19,.func (fnOf "choice" "choice" (aK fS) (aJ fS) (aB fS) .none kV19 dc19 pm19 an19 cd19 ct19),sl19⟩) (c19:codeIn K cd19 "choice"=true) (k19:keepIn K (.ref f19)=true)
  (a20:nsIn K mainGlobals "choices"=some (some (.ref f20))) (l20:K.lookup f20=some ⟨oc20,od20,.func (fnOf "choices" "choices" (aK dO) (aJ dO) (aB dO) .none kV20 dc20 pm20 an20 cd20 ct20),sl20⟩) (c20:codeIn K cd20 "choices"=true) (k20:keepIn K (.ref f20)=true)
  (a21:nsIn K mainGlobals "places"=some (some (.ref f21))) (l21:K.lookup f21=some ⟨oc21,od21,.func (fnOf "places" "places" (aK fW) (aJ fW) (aB fW) .none kV21 dc21 pm21 an21 cd21 ct21),sl21⟩) (c21:codeIn K cd21 "places"=true) (k21:keepIn K (.ref f21)=true)
  (a22:nsIn K mainGlobals "cut_one"=some (some (.ref f22))) (l22:K.lookup f22=some ⟨oc22,od22,.func (fnOf "cut_one" "cut_one" (aK cX) (aJ cX) (aB cX) .none kV22 dc22 pm22 an22 cd22 ct22),sl22⟩) (c22:codeIn K cd22 "cut_one"=true) (k22:keepIn K (.ref f22)=true)
  (a23:nsIn K mainGlobals "begun_with"=some (some (.ref f23))) (l23:K.lookup f23=some ⟨oc23,od23,.func (fnOf "begun_with" "begun_with" (aK cM) (aJ cM) (aB cM) .none kV23 dc23 pm23 an23 cd23 ct23),sl23⟩) (c23:codeIn K cd23 "begun_with"=true) (k23:keepIn K (.ref f23)=true)
  (a24:nsIn K mainGlobals "cut_rings"=some (some (.ref f24))) (l24:K.lookup f24=some ⟨oc24,od24,.func (fnOf "cut_rings" "cut_rings" (aK cA) (aJ cA) (aB cA) .none kV24 dc24 pm24 an24 cd24 ct24),sl24⟩) (c24:codeIn K cd24 "cut_rings"=true) (k24:keepIn K (.ref f24)=true)
  (a25:nsIn K mainGlobals "by_names"=some (some (.ref f25))) (l25:K.lookup f25=some ⟨oc25,od25,.func (fnOf "by_names" "by_names" (aK dI) (aJ dI) (aB dI) .none kV25 dc25 pm25 an25 cd25 ct25),sl25⟩) (c25:codeIn K cd25 "by_names"=true) (k25:keepIn K (.ref f25)=true)
  (a26:nsIn K mainGlobals "voices"=some (some (.ref f26))) (l26:K.lookup f26=some ⟨oc26,od26,.func (fnOf "voices" "voices" (aK fC) (aJ fC) (aB fC) .none kV26 dc26 pm26 an26 cd26 ct26),sl26⟩) (c26:codeIn K cd26 "voices"=true) (k26:keepIn K (.ref f26)=true)
  (a27:nsIn K mainGlobals "alike_trees"=some (some (.ref f27))) (l27:K.lookup f27=some ⟨oc27,od27,.func (fnOf "alike_trees" "alike_trees" (aK bQ) (aJ bQ) (aB bQ) .none kV27 dc27 pm27 an27 cd27 ct27),sl27⟩) (c27:codeIn K cd27 "alike_trees"=true) (k27:keepIn K (.ref f27)=true)
  (a28:nsIn K mainGlobals "ties_by_heads"=some (some (.ref f28))) (l28:K.lookup f28=some ⟨oc28,od28,.func (fnOf "ties_by_heads" "ties_by_heads" (aK bR) (aJ bR) (aB bR) .none kV28 dc28 pm28 an28 cd28 ct28),sl28⟩) (c28:codeIn K cd28 "ties_by_heads"=true) (k28:keepIn K (.ref f28)=true)
  (a29:nsIn K mainGlobals "shown"=some (some (.ref f29))) (l29:K.lookup f29=some ⟨oc29,od29,.func (fnOf "shown" "shown" (aK gW) (aJ gW) (aB gW) .none kV29 dc29 pm29 an29 cd29 ct29),sl29⟩) (c29:codeIn K cd29 "shown"=true) (k29:keepIn K (.ref f29)=true)
  (a30:nsIn K mainGlobals "forest"=some (some (.ref f30))) (l30:K.lookup f30=some ⟨oc30,od30,.func (fnOf "forest" "forest" (aK fG) (aJ fG) (aB fG) .none kV30 dc30 pm30 an30 cd30 ct30),sl30⟩) (c30:codeIn K cd30 "forest"=true) (k30:keepIn K (.ref f30)=true)
  (a31:nsIn K mainGlobals "wish_of"=some (some (.ref f31))) (l31:K.lookup f31=some ⟨oc31,od31,.func (fnOf "wish_of" "wish_of" (aK eC) (aJ eC) (aB eC) .none kV31 dc31 pm31 an31 cd31 ct31),sl31⟩) (c31:codeIn K cd31 "wish_of"=true) (k31:keepIn K (.ref f31)=true)
  (a32:nsIn K mainGlobals "_law_hand"=some (some (.ref f32))) (l32:K.lookup f32=some ⟨oc32,od32,.func (fnOf "_law_hand" "_law_hand" (aK dY) (aJ dY) (aB dY) .none kV32 dc32 pm32 an32 cd32 ct32),sl32⟩) (c32:codeIn K cd32 "_law_hand"=true) (k32:keepIn K (.ref f32)=true)
  (a33:nsIn K mainGlobals "_law_take"=some (some (.ref f33))) (l33:K.lookup f33=some ⟨oc33,od33,.func (fnOf "_law_take" "_law_take" (aK dZ) (aJ dZ) (aB dZ) .none kV33 dc33 pm33 an33 cd33 ct33),sl33⟩) (c33:codeIn K cd33 "_law_take"=true) (k33:keepIn K (.ref f33)=true)
  (a34:nsIn K mainGlobals "_law_name"=some (some (.ref f34))) (l34:K.lookup f34=some ⟨oc34,od34,.func (fnOf "_law_name" "_law_name" (aK cS) (aJ cS) (aB cS) .none kV34 dc34 pm34 an34 cd34 ct34),sl34⟩) (c34:codeIn K cd34 "_law_name"=true) (k34:keepIn K (.ref f34)=true)
  (a35:nsIn K mainGlobals "_law_names"=some (some (.ref f35))) (l35:K.lookup f35=some ⟨oc35,od35,.func (fnOf "_law_names" "_law_names" (aK cY) (aJ cY) (aB cY) .none kV35 dc35 pm35 an35 cd35 ct35),sl35⟩) (c35:codeIn K cd35 "_law_names"=true) (k35:keepIn K (.ref f35)=true)
  (a36:nsIn K mainGlobals "_law_letter"=some (some (.ref f36))) (l36:K.lookup f36=some ⟨oc36,od36,.func (fnOf "_law_letter" "_law_letter" (aK cG) (aJ cG) (aB cG) .none kV36 dc36 pm36 an36 cd36 ct36),sl36⟩) (c36:codeIn K cd36 "_law_letter"=true) (k36:keepIn K (.ref f36)=true)
  (a37:nsIn K mainGlobals "_law_pack"=some (some (.ref f37))) (l37:K.lookup f37=some ⟨oc37,od37,.func (fnOf "_law_pack" "_law_pack" (aK dX) (aJ dX) (aB dX) .none kV37 dc37 pm37 an37 cd37 ct37),sl37⟩) (c37:codeIn K cd37 "_law_pack"=true) (k37:keepIn K (.ref f37)=true)
  (a38:nsIn K mainGlobals "_law_marks"=some (some (.ref f38))) (l38:K.lookup f38=some ⟨oc38,od38,.func (fnOf "_law_marks" "_law_marks" (aK dA) (aJ dA) (aB dA) .none kV38 dc38 pm38 an38 cd38 ct38),sl38⟩) (c38:codeIn K cd38 "_law_marks"=true) (k38:keepIn K (.ref f38)=true)
  (a39:nsIn K mainGlobals "_law_right"=some (some (.ref f39))) (l39:K.lookup f39=some ⟨oc39,od39,.func (fnOf "_law_right" "_law_right" (aK cP) (aJ cP) (aB cP) .none kV39 dc39 pm39 an39 cd39 ct39),sl39⟩) (c39:codeIn K cd39 "_law_right"=true) (k39:keepIn K (.ref f39)=true)
  (a40:nsIn K mainGlobals "law"=some (some (.ref f40))) (l40:K.lookup f40=some ⟨oc40,od40,.func (fnOf "law" "law" (aK hV) (aJ hV) (aB hV) .none kV40 dc40 pm40 an40 cd40 ct40),sl40⟩) (c40:codeIn K cd40 "law"=true) (k40:keepIn K (.ref f40)=true)
  (cT:nsIn K mainGlobals "tuple"=some none)
  (eQ:nsIn K mainGlobals "enumerate"=some none)
  (zL:nsIn K mainGlobals "all"=some none)
  (jA:nsIn K mainGlobals "len"=some none)
  (mK:nsIn K mainGlobals "min"=some none)
  (yT:nsIn K mainGlobals "int"=some none)
  (eN:nsIn K mainGlobals "sorted"=some none)
  (g6:nsIn K mainGlobals "range"=some none)
  (xO:nsIn K mainGlobals "any"=some none)
  (o7:nsIn K mainGlobals "repr"=some none)
  (yJ:nsIn K mainGlobals "max"=some none)
  (e_FIGURES:nsIn K mainGlobals "FIGURES"=some (some (.str (Str.ofString "0123456789") tk0)))
  :∃fd:FuncData,(∀(s:Shared) (v:Value),BindsTo s fd ⟨[v],[]⟩ [("_law_script",v)])/\∀base:Heap,K.In base->base.Ns mainGlobals mg->aV l.prog w K mg base cJ 12 fa fd ["_law_script"] (BH K):=by
 have e:=hfa.symm.trans (mg_of X G a40);cases e;have F0:=bC (st:=fI) l0 c0 k0;have b0:=F0.binds (ps:=["letter"]) fun _ _ _ _ _ _ us hl=>match us,hl with|[_],_=>rfl
 have F1:=bC (st:=d7) l1 c1 k1;have b1:=F1.binds (ps:=["pack"]) fun _ _ _ _ _ _ us hl=>match us,hl with|[_],_=>rfl
 have F2:=bC (st:=eB) l2 c2 k2;have b2:=F2.binds (ps:=["pack"]) fun _ _ _ _ _ _ us hl=>match us,hl with|[_],_=>rfl
 have F3:=bC (st:=dW) l3 c3 k3;have b3:=F3.binds (ps:=["above"]) fun _ _ _ _ _ _ us hl=>match us,hl with|[_],_=>rfl
 have F4:=bC (st:=cO) l4 c4 k4;have b4:=F4.binds (ps:=["ties"]) fun _ _ _ _ _ _ us hl=>match us,hl with|[_],_=>rfl
 have F5:=bC (st:=eE) l5 c5 k5;have b5:=F5.binds (ps:=["ties"]) fun _ _ _ _ _ _ us hl=>match us,hl with|[_],_=>rfl
 have F6:=bC (st:=eA) l6 c6 k6;have b6:=F6.binds (ps:=["above"]) fun _ _ _ _ _ _ us hl=>match us,hl with|[_],_=>rfl
 have F7:=bC (st:=gH) l7 c7 k7;have b7:=F7.binds (ps:=["head"]) fun _ _ _ _ _ _ us hl=>match us,hl with|[_],_=>rfl
 have F8:=bC (st:=dM) l8 c8 k8;have b8:=F8.binds (ps:=["text"]) fun _ _ _ _ _ _ us hl=>match us,hl with|[_],_=>rfl
 have F9:=bC (st:=bT) l9 c9 k9;have b9:=F9.binds (ps:=["text","word"]) fun _ _ _ _ _ _ us hl=>match us,hl with|[_,_],_=>rfl
 have F10:=bC (st:=bS) l10 c10 k10;have b10:=F10.binds (ps:=["text","word"]) fun _ _ _ _ _ _ us hl=>match us,hl with|[_,_],_=>rfl
 have F11:=bC (st:=bM) l11 c11 k11;have b11:=F11.binds (ps:=["text","word"]) fun _ _ _ _ _ _ us hl=>match us,hl with|[_,_],_=>rfl
 have F12:=bC (st:=dE) l12 c12 k12;have b12:=F12.binds (ps:=["text","rule"]) fun _ _ _ _ _ _ us hl=>match us,hl with|[_,_],_=>rfl
 have F13:=bC (st:=dC) l13 c13 k13;have b13:=F13.binds (ps:=["text","rules"]) fun _ _ _ _ _ _ us hl=>match us,hl with|[_,_],_=>rfl
 have F14:=bC (st:=fZ) l14 c14 k14;have b14:=F14.binds (ps:=["head","rules"]) fun _ _ _ _ _ _ us hl=>match us,hl with|[_,_],_=>rfl
 have F15:=bC (st:=jY) l15 c15 k15;have b15:=F15.binds (ps:=["head","rules"]) fun _ _ _ _ _ _ us hl=>match us,hl with|[_,_],_=>rfl
 have F16:=bC (st:=cN) l16 c16 k16;have b16:=F16.binds (ps:=["head","rules"]) fun _ _ _ _ _ _ us hl=>match us,hl with|[_,_],_=>rfl
 have F17:=bC (st:=eD) l17 c17 k17;have b17:=F17.binds (ps:=["pack"]) fun _ _ _ _ _ _ us hl=>match us,hl with|[_],_=>rfl
 have F18:=bC (st:=dF) l18 c18 k18;have b18:=F18.binds (ps:=["pack"]) fun _ _ _ _ _ _ us hl=>match us,hl with|[_],_=>rfl
 have F19:=bC (st:=fS) l19 c19 k19;have b19:=F19.binds (ps:=["held","rows","claimed","name"]) fun _ _ _ _ _ _ us hl=>match us,hl with|[_,_,_,_],_=>rfl
 have F20:=bC (st:=dO) l20 c20 k20;have b20:=F20.binds (ps:=["pack","marks","names"]) fun _ _ _ _ _ _ us hl=>match us,hl with|[_,_,_],_=>rfl
 have F21:=bC (st:=fW) l21 c21 k21;have b21:=F21.binds (ps:=["pack","marks"]) fun _ _ _ _ _ _ us hl=>match us,hl with|[_,_],_=>rfl
 have F22:=bC (st:=cX) l22 c22 k22;have b22:=F22.binds (ps:=["ring","held","days"]) fun _ _ _ _ _ _ us hl=>match us,hl with|[_,_,_],_=>rfl
 have F23:=bC (st:=cM) l23 c23 k23;have b23:=F23.binds (ps:=["ring","name"]) fun _ _ _ _ _ _ us hl=>match us,hl with|[_,_],_=>rfl
 have F24:=bC (st:=cA) l24 c24 k24;have b24:=F24.binds (ps:=["pack","marks","ties"]) fun _ _ _ _ _ _ us hl=>match us,hl with|[_,_,_],_=>rfl
 have F25:=bC (st:=dI) l25 c25 k25;have b25:=F25.binds (ps:=["pack","marks"]) fun _ _ _ _ _ _ us hl=>match us,hl with|[_,_],_=>rfl
 have F26:=bC (st:=fC) l26 c26 k26;have b26:=F26.binds (ps:=["pack","marks"]) fun _ _ _ _ _ _ us hl=>match us,hl with|[_,_],_=>rfl
 have F27:=bC (st:=bQ) l27 c27 k27;have b27:=F27.binds (ps:=["pack","marks","rules"]) fun _ _ _ _ _ _ us hl=>match us,hl with|[_,_,_],_=>rfl
 have F28:=bC (st:=bR) l28 c28 k28;have b28:=F28.binds (ps:=["pack","marks","rules"]) fun _ _ _ _ _ _ us hl=>match us,hl with|[_,_,_],_=>rfl
 have F29:=bC (st:=gW) l29 c29 k29;have b29:=F29.binds (ps:=["pack","above"]) fun _ _ _ _ _ _ us hl=>match us,hl with|[_,_],_=>rfl
 have F30:=bC (st:=fG) l30 c30 k30;have b30:=F30.binds (ps:=["pack","marks","rules"]) fun _ _ _ _ _ _ us hl=>match us,hl with|[_,_,_],_=>rfl
 have F31:=bC (st:=eC) l31 c31 k31;have b31:=F31.binds (ps:=["forest"]) fun _ _ _ _ _ _ us hl=>match us,hl with|[_],_=>rfl
 have F32:=bC (st:=dY) l32 c32 k32;have b32:=F32.binds (ps:=["_law_script","_law_k"]) fun _ _ _ _ _ _ us hl=>match us,hl with|[_,_],_=>rfl
 have F33:=bC (st:=dZ) l33 c33 k33;have b33:=F33.binds (ps:=["_law_hand_here","_law_many"]) fun _ _ _ _ _ _ us hl=>match us,hl with|[_,_],_=>rfl
 have F34:=bC (st:=cS) l34 c34 k34;have b34:=F34.binds (ps:=["_law_hand_here","_law_used"]) fun _ _ _ _ _ _ us hl=>match us,hl with|[_,_],_=>rfl
 have F35:=bC (st:=cY) l35 c35 k35;have b35:=F35.binds (ps:=["_law_hand_here","_law_many"]) fun _ _ _ _ _ _ us hl=>match us,hl with|[_,_],_=>rfl
 have F36:=bC (st:=cG) l36 c36 k36;have b36:=F36.binds (ps:=["_law_hand_here","_law_name_here","_law_names_here"]) fun _ _ _ _ _ _ us hl=>match us,hl with|[_,_,_],_=>rfl
 have F37:=bC (st:=dX) l37 c37 k37;have b37:=F37.binds (ps:=["_law_hand_here","_law_names_here"]) fun _ _ _ _ _ _ us hl=>match us,hl with|[_,_],_=>rfl
 have F38:=bC (st:=dA) l38 c38 k38;have b38:=F38.binds (ps:=["_law_hand_here","_law_names_here"]) fun _ _ _ _ _ _ us hl=>match us,hl with|[_,_],_=>rfl
 have F39:=bC (st:=cP) l39 c39 k39;have b39:=F39.binds (ps:=["_law_hand_here"]) fun _ _ _ _ _ _ us hl=>match us,hl with|[_],_=>rfl
 have F40:=bC (st:=hV) l40 c40 k40;have b40:=F40.binds (ps:=["_law_script"]) fun _ _ _ _ _ _ us hl=>match us,hl with|[_],_=>rfl
 have T:Txt K mg (fun i=>([f0,f1,f2,f3,f4,f5,f6,f7,f8,f9,f10,f11,f12,f13,f14,f15,f16,f17,f18,f19,f20,f21,f22,f23,f24,f25,f26,f27,f28,f29,f30,f31,f32,f33,f34,f35,f36,f37,f38,f39,fa]:List Addr).getD i 0) (fun i=>([fnOf "elders" "elders" (aK fI) (aJ fI) (aB fI) .none kV0 dc0 pm0 an0 cd0 ct0,fnOf "standing" "standing" (aK d7) (aJ d7) (aB d7) .none kV1 dc1 pm1 an1 cd1 ct1,fnOf "days_of" "days_of" (aK eB) (aJ eB) (aB eB) .none kV2 dc2 pm2 an2 cd2 ct2,fnOf "rings_in" "rings_in" (aK dW) (aJ dW) (aB dW) .none kV3 dc3 pm3 an3 cd3 ct3,fnOf "elders_in" "elders_in" (aK cO) (aJ cO) (aB cO) .none kV4 dc4 pm4 an4 cd4 ct4,fnOf "ties_in" "ties_in" (aK eE) (aJ eE) (aB eE) .none kV5 dc5 pm5 an5 cd5 ct5,fnOf "roots_in" "roots_in" (aK eA) (aJ eA) (aB eA) .none kV6 dc6 pm6 an6 cd6 ct6,fnOf "plain" "plain" (aK gH) (aJ gH) (aB gH) .none kV7 dc7 pm7 an7 cd7 ct7,fnOf "is_count" "is_count" (aK dM) (aJ dM) (aB dM) .none kV8 dc8 pm8 an8 cd8 ct8,fnOf "without_ahead" "without_ahead" (aK bT) (aJ bT) (aB bT) .none kV9 dc9 pm9 an9 cd9 ct9,fnOf "without_label" "without_label" (aK bS) (aJ bS) (aB bS) .none kV10 dc10 pm10 an10 cd10 ct10,fnOf "without_behind" "without_behind" (aK bM) (aJ bM) (aB bM) .none kV11 dc11 pm11 an11 cd11 ct11,fnOf "taken_off" "taken_off" (aK dE) (aJ dE) (aB dE) .none kV12 dc12 pm12 an12 cd12 ct12,fnOf "next_step" "next_step" (aK dC) (aJ dC) (aB dC) .none kV13 dc13 pm13 an13 cd13 ct13,fnOf "peeled" "peeled" (aK fZ) (aJ fZ) (aB fZ) .none kV14 dc14 pm14 an14 cd14 ct14,fnOf "bare" "bare" (aK jY) (aJ jY) (aB jY) .none kV15 dc15 pm15 an15 cd15 ct15,fnOf "is_answer" "is_answer" (aK cN) (aJ cN) (aB cN) .none kV16 dc16 pm16 an16 cd16 ct16,fnOf "rows_of" "rows_of" (aK eD) (aJ eD) (aB eD) .none kV17 dc17 pm17 an17 cd17 ct17,fnOf "claims_of" "claims_of" (aK dF) (aJ dF) (aB dF) .none kV18 dc18 pm18 an18 cd18 ct18,fnOf "choice" "choice" (aK fS) (aJ fS) (aB fS) .none kV19 dc19 pm19 an19 cd19 ct19,fnOf "choices" "choices" (aK dO) (aJ dO) (aB dO) .none kV20 dc20 pm20 an20 cd20 ct20,fnOf "places" "places" (aK fW) (aJ fW) (aB fW) .none kV21 dc21 pm21 an21 cd21 ct21,fnOf "cut_one" "cut_one" (aK cX) (aJ cX) (aB cX) .none kV22 dc22 pm22 an22 cd22 ct22,fnOf "begun_with" "begun_with" (aK cM) (aJ cM) (aB cM) .none kV23 dc23 pm23 an23 cd23 ct23,fnOf "cut_rings" "cut_rings" (aK cA) (aJ cA) (aB cA) .none kV24 dc24 pm24 an24 cd24 ct24,fnOf "by_names" "by_names" (aK dI) (aJ dI) (aB dI) .none kV25 dc25 pm25 an25 cd25 ct25,fnOf "voices" "voices" (aK fC) (aJ fC) (aB fC) .none kV26 dc26 pm26 an26 cd26 ct26,fnOf "alike_trees" "alike_trees" (aK bQ) (aJ bQ) (aB bQ) .none kV27 dc27 pm27 an27 cd27 ct27,fnOf "ties_by_heads" "ties_by_heads" (aK bR) (aJ bR) (aB bR) .none kV28 dc28 pm28 an28 cd28 ct28,fnOf "shown" "shown" (aK gW) (aJ gW) (aB gW) .none kV29 dc29 pm29 an29 cd29 ct29,fnOf "forest" "forest" (aK fG) (aJ fG) (aB fG) .none kV30 dc30 pm30 an30 cd30 ct30,fnOf "wish_of" "wish_of" (aK eC) (aJ eC) (aB eC) .none kV31 dc31 pm31 an31 cd31 ct31,fnOf "_law_hand" "_law_hand" (aK dY) (aJ dY) (aB dY) .none kV32 dc32 pm32 an32 cd32 ct32,fnOf "_law_take" "_law_take" (aK dZ) (aJ dZ) (aB dZ) .none kV33 dc33 pm33 an33 cd33 ct33,fnOf "_law_name" "_law_name" (aK cS) (aJ cS) (aB cS) .none kV34 dc34 pm34 an34 cd34 ct34,fnOf "_law_names" "_law_names" (aK cY) (aJ cY) (aB cY) .none kV35 dc35 pm35 an35 cd35 ct35,fnOf "_law_letter" "_law_letter" (aK cG) (aJ cG) (aB cG) .none kV36 dc36 pm36 an36 cd36 ct36,fnOf "_law_pack" "_law_pack" (aK dX) (aJ dX) (aB dX) .none kV37 dc37 pm37 an37 cd37 ct37,fnOf "_law_marks" "_law_marks" (aK dA) (aJ dA) (aB dA) .none kV38 dc38 pm38 an38 cd38 ct38,fnOf "_law_right" "_law_right" (aK cP) (aJ cP) (aB cP) .none kV39 dc39 pm39 an39 cd39 ct39,fnOf "law" "law" (aK hV) (aJ hV) (aB hV) .none kV40 dc40 pm40 an40 cd40 ct40]:List FuncData).getD i (fnOf "law" "law" (aK hV) (aJ hV) (aB hV) .none kV40 dc40 pm40 an40 cd40 ct40)) (fun i=>([0]:List Addr).getD i 0) (fun i=>([.str (Str.ofString "0123456789") tk0]:List Value).getD i .none):=⟨⟨F0,mg_of X G a0,b0⟩,⟨F1,mg_of X G a1,b1⟩,⟨F2,mg_of X G a2,b2⟩,⟨F3,mg_of X G a3,b3⟩,⟨F4,mg_of X G a4,b4⟩,⟨F5,mg_of X G a5,b5⟩,⟨F6,mg_of X G a6,b6⟩,⟨F7,mg_of X G a7,b7⟩,⟨F8,mg_of X G a8,b8⟩,⟨F9,mg_of X G a9,b9⟩,⟨F10,mg_of X G a10,b10⟩,⟨F11,mg_of X G a11,b11⟩,⟨F12,mg_of X G a12,b12⟩,⟨F13,mg_of X G a13,b13⟩,⟨F14,mg_of X G a14,b14⟩,⟨F15,mg_of X G a15,b15⟩,⟨F16,mg_of X G a16,b16⟩,⟨F17,mg_of X G a17,b17⟩,⟨F18,mg_of X G a18,b18⟩,⟨F19,mg_of X G a19,b19⟩,⟨F20,mg_of X G a20,b20⟩,⟨F21,mg_of X G a21,b21⟩,⟨F22,mg_of X G a22,b22⟩,⟨F23,mg_of X G a23,b23⟩,⟨F24,mg_of X G a24,b24⟩,⟨F25,mg_of X G a25,b25⟩,⟨F26,mg_of X G a26,b26⟩,⟨F27,mg_of X G a27,b27⟩,⟨F28,mg_of X G a28,b28⟩,⟨F29,mg_of X G a29,b29⟩,⟨F30,mg_of X G a30,b30⟩,⟨F31,mg_of X G a31,b31⟩,⟨F32,mg_of X G a32,b32⟩,⟨F33,mg_of X G a33,b33⟩,⟨F34,mg_of X G a34,b34⟩,⟨F35,mg_of X G a35,b35⟩,⟨F36,mg_of X G a36,b36⟩,⟨F37,mg_of X G a37,b37⟩,⟨F38,mg_of X G a38,b38⟩,⟨F39,mg_of X G a39,b39⟩,⟨F40,mg_of X G a40,b40⟩,mg_none_of X G cT,mg_none_of X G eQ,mg_none_of X G zL,mg_none_of X G jA,mg_none_of X G mK,mg_none_of X G yT,mg_none_of X G eN,mg_none_of X G g6,mg_none_of X G xO,mg_none_of X G o7,mg_none_of X G yJ,mg_of X G e_FIGURES,⟨_,rfl⟩⟩;refine⟨fnOf "law" "law" (aK hV) (aJ hV) (aB hV) .none kV40 dc40 pm40 an40 cd40 ct40,fun s v=>.of_eq rfl,fun base _ _=>?_⟩;have G_elders:=DO (P:=l.prog) (w:=w) (base:=base) T;have G_standing:=yW (P:=l.prog) (w:=w) (base:=base) T;have G_rings_in:=yF (P:=l.prog) (w:=w) (base:=base) T;have G_elders_in:=vH (P:=l.prog) (w:=w) (base:=base) T;have G_ties_in:=z3 (P:=l.prog) (w:=w) (base:=base) T;have G_roots_in:=zJ (P:=l.prog) (w:=w) (base:=base) T;have G_plain:=HS (P:=l.prog) (w:=w) (base:=base) T;have G_is_count:=xE (P:=l.prog) (w:=w) (base:=base) T;have G_without_label:=oF (P:=l.prog) (w:=w) (base:=base) T;have G_without_behind:=nY (P:=l.prog) (w:=w) (base:=base) T;have G_choice:=DA (P:=l.prog) (w:=w) (base:=base) T;have G_cut_one:=A4 (P:=l.prog) (w:=w) (base:=base) T;have G_begun_with:=sN (P:=l.prog) (w:=w) (base:=base) T;have G_law_hand:=xZ (P:=l.prog) (w:=w) (base:=base) T;have G_law_take:=xR (P:=l.prog) (w:=w) (base:=base) T;have G_days_of:=AM (P:=l.prog) (w:=w) (base:=base) T G_standing;have G_without_ahead:=o4 (P:=l.prog) (w:=w) (base:=base) T G_is_count;have G_rows_of:=AN (P:=l.prog) (w:=w) (base:=base) T G_elders G_standing;have G_claims_of:=vY (P:=l.prog) (w:=w) (base:=base) T G_standing G_elders;have G_places:=CY (P:=l.prog) (w:=w) (base:=base) T G_standing G_elders;have G_shown:=G4 (P:=l.prog) (w:=w) (base:=base) T G_standing;have G_law_name:=w4 (P:=l.prog) (w:=w) (base:=base) T G_law_take;have G_law_letter:=sS (P:=l.prog) (w:=w) (base:=base) T G_law_take;have G_law_marks:=vS (P:=l.prog) (w:=w) (base:=base) T G_law_take;have G_taken_off:=wN (P:=l.prog) (w:=w) (base:=base) T G_without_ahead G_without_label G_without_behind;have G_choices:=AI (P:=l.prog) (w:=w) (base:=base) T G_rows_of G_claims_of G_choice;have G_cut_rings:=vM (P:=l.prog) (w:=w) (base:=base) T G_days_of G_rings_in G_begun_with G_cut_one;have G_law_names:=vW (P:=l.prog) (w:=w) (base:=base) T G_law_name;have G_law_pack:=w6 (P:=l.prog) (w:=w) (base:=base) T G_law_take G_law_letter;have G_next_step:=wQ (P:=l.prog) (w:=w) (base:=base) T G_taken_off;have G_by_names:=xQ (P:=l.prog) (w:=w) (base:=base) T G_choices G_cut_rings G_places;have G_peeled:=DF (P:=l.prog) (w:=w) (base:=base) T G_next_step G_plain;have G_voices:=C8 (P:=l.prog) (w:=w) (base:=base) T G_roots_in G_standing G_elders_in G_by_names;have G_bare:=JZ (P:=l.prog) (w:=w) (base:=base) T G_peeled G_plain;have G_is_answer:=uQ (P:=l.prog) (w:=w) (base:=base) T G_peeled;have G_alike_trees:=sE (P:=l.prog) (w:=w) (base:=base) T G_voices G_bare G_standing G_is_answer;have G_ties_by_heads:=oH (P:=l.prog) (w:=w) (base:=base) T G_alike_trees;have G_forest:=DW (P:=l.prog) (w:=w) (base:=base) T G_by_names G_shown G_ties_in G_elders_in G_ties_by_heads;have G_wish_of:=A1 (P:=l.prog) (w:=w) (base:=base) T G_forest;have G_law_right:=wK (P:=l.prog) (w:=w) (base:=base) T G_law_names G_law_marks G_law_pack G_law_take G_forest G_wish_of;exact MG T G_law_right G_law_hand
theorem walk {q:Program} {loose:List Str} {XP:(Str->Option Value)->Heap->Prop} {YP:World->Heap->Prop} {d:DefRec} {K:Params->Frag} (hn:l.most=some 63) (hdf:d.params.defaults=[])
  (hY:∀(w:World) (h:Heap),YP w h->(K w.params).In h)
  (F:∀(w:World) (mg:Str->Option Value) (fa:Addr) (h:Heap),(K w.params).In h->h.Ns mainGlobals mg->mg d.name=some (.ref fa)->
   ∃fd:FuncData,(∀(s:Shared) (u:Value),BindsTo s fd ⟨[u],[]⟩ [("_law_script",u)])/\∀base:Heap,(K w.params).In base->base.Ns mainGlobals mg->aV l.prog w (K w.params) mg base cJ 12 fa fd ["_law_script"] (BH (K w.params))):
  PySem.W.WalkO q loose XP YP l.row.toRowW d [] (fun f vs=>PySem.call f vs):=
 L2.JI (n:=63) (k:=12) (x:="_law_script") (CX:=fun _=>cJ) (sp:=fun w=>BH (K w.params)) hn (by decide) hdf ⟨rfl,by decide,by decide,rfl⟩ hY F (fun _ _ a ns hl _ hS=>⟨a,ns,rfl,hS,hl,fun _=>rfl⟩) fun _ _ _ _ _ z=>z
end My
open PySem PySem.W PyProof.Rows
set_option maxRecDepth 100000 in
set_option maxHeartbeats 0 in
theorem PySem.Challenge.cw_answertrees_k59_wishes_of_forests_holds : PySem.Challenge.rw_answertrees_k59_wishes_of_forests.Holds := by
 refine PySem.W.holds_law My.SO fun said=>PySem.W.holds_open (q:=My.Q4) (loose:=[]) (XP:=PySem.W.XL My.Q4 []) (YP:=PySem.W.InK My.SH) (N:=My.SD) My.SN (PySem.W.InK.of fun _=>by kernel_rfl) PySem.W.InK.keeps (fun s e=>xl_of s (Bool.and_eq_true_iff.mp e).1) PySem.W.XL.keeps (by rfl) (by rfl) (by rfl) (fun s e=>PySem.W.recFacts_of (Bool.and_eq_true_iff.mp e).2) rfl said (by decide+kernel) ⟨rfl,rfl,rfl,rfl,rfl,by decide+kernel⟩ ?hw ?hc
 case hw=>w_witness2
 k_fill
 refine My.walk (l:=PySem.Challenge.rw_answertrees_k59_wishes_of_forests) rfl rfl (fun w h Y=>Y) ?F
 case F=>
  intro w mg fa h KX G hmg
  refine' My.all_mk KX G hmg ?a0 ?l0 ?c0 ?k0 ?a1 ?l1 ?c1 ?k1 ?a2 ?l2 ?c2 ?k2 ?a3 ?l3 ?c3 ?k3 ?a4 ?l4 ?c4 ?k4 ?a5 ?l5 ?c5 ?k5 ?a6 ?l6 ?c6 ?k6 ?a7 ?l7 ?c7 ?k7 ?a8 ?l8 ?c8 ?k8 ?a9 ?l9 ?c9 ?k9 ?a10 ?l10 ?c10 ?k10 ?a11 ?l11 ?c11 ?k11 ?a12 ?l12 ?c12 ?k12 ?a13 ?l13 ?c13 ?k13 ?a14 ?l14 ?c14 ?k14 ?a15 ?l15 ?c15 ?k15 ?a16 ?l16 ?c16 ?k16 ?a17 ?l17 ?c17 ?k17 ?a18 ?l18 ?c18 ?k18 ?a19 ?l19 ?c19 ?k19 ?a20 ?l20 ?c20 ?k20 ?a21 ?l21 ?c21 ?k21 ?a22 ?l22 ?c22 ?k22 ?a23 ?l23 ?c23 ?k23 ?a24 ?l24 ?c24 ?k24 ?a25 ?l25 ?c25 ?k25 ?a26 ?l26 ?c26 ?k26 ?a27 ?l27 ?c27 ?k27 ?a28 ?l28 ?c28 ?k28 ?a29 ?l29 ?c29 ?k29 ?a30 ?l30 ?c30 ?k30 ?a31 ?l31 ?c31 ?k31 ?a32 ?l32 ?c32 ?k32 ?a33 ?l33 ?c33 ?k33 ?a34 ?l34 ?c34 ?k34 ?a35 ?l35 ?c35 ?k35 ?a36 ?l36 ?c36 ?k36 ?a37 ?l37 ?c37 ?k37 ?a38 ?l38 ?c38 ?k38 ?a39 ?l39 ?c39 ?k39 ?a40 ?l40 ?c40 ?k40 ?cT ?eQ ?zL ?jA ?mK ?yT ?eN ?g6 ?xO ?o7 ?yJ ?e_FIGURES
  (case a0=>k_is)
  (case l0=>k_is)
  (case c0=>k_is)
  (case k0=>k_is)
  (case a1=>k_is)
  (case l1=>k_is)
  (case c1=>k_is)
  (case k1=>k_is)
  (case a2=>k_is)
  (case l2=>k_is)
  (case c2=>k_is)
  (case k2=>k_is)
  (case a3=>k_is)
  (case l3=>k_is)
  (case c3=>k_is)
  (case k3=>k_is)
  (case a4=>k_is)
  (case l4=>k_is)
  (case c4=>k_is)
  (case k4=>k_is)
  (case a5=>k_is)
  (case l5=>k_is)
  (case c5=>k_is)
  (case k5=>k_is)
  (case a6=>k_is)
  (case l6=>k_is)
  (case c6=>k_is)
  (case k6=>k_is)
  (case a7=>k_is)
  (case l7=>k_is)
  (case c7=>k_is)
  (case k7=>k_is)
  (case a8=>k_is)
  (case l8=>k_is)
  (case c8=>k_is)
  (case k8=>k_is)
  (case a9=>k_is)
  (case l9=>k_is)
  (case c9=>k_is)
  (case k9=>k_is)
  (case a10=>k_is)
  (case l10=>k_is)
  (case c10=>k_is)
  (case k10=>k_is)
  (case a11=>k_is)
  (case l11=>k_is)
  (case c11=>k_is)
  (case k11=>k_is)
  (case a12=>k_is)
  (case l12=>k_is)
  (case c12=>k_is)
  (case k12=>k_is)
  (case a13=>k_is)
  (case l13=>k_is)
  (case c13=>k_is)
  (case k13=>k_is)
  (case a14=>k_is)
  (case l14=>k_is)
  (case c14=>k_is)
  (case k14=>k_is)
  (case a15=>k_is)
  (case l15=>k_is)
  (case c15=>k_is)
  (case k15=>k_is)
  (case a16=>k_is)
  (case l16=>k_is)
  (case c16=>k_is)
  (case k16=>k_is)
  (case a17=>k_is)
  (case l17=>k_is)
  (case c17=>k_is)
  (case k17=>k_is)
  (case a18=>k_is)
  (case l18=>k_is)
  (case c18=>k_is)
  (case k18=>k_is)
  (case a19=>k_is)
  (case l19=>k_is)
  (case c19=>k_is)
  (case k19=>k_is)
  (case a20=>k_is)
  (case l20=>k_is)
  (case c20=>k_is)
  (case k20=>k_is)
  (case a21=>k_is)
  (case l21=>k_is)
  (case c21=>k_is)
  (case k21=>k_is)
  (case a22=>k_is)
  (case l22=>k_is)
  (case c22=>k_is)
  (case k22=>k_is)
  (case a23=>k_is)
  (case l23=>k_is)
  (case c23=>k_is)
  (case k23=>k_is)
  (case a24=>k_is)
  (case l24=>k_is)
  (case c24=>k_is)
  (case k24=>k_is)
  (case a25=>k_is)
  (case l25=>k_is)
  (case c25=>k_is)
  (case k25=>k_is)
  (case a26=>k_is)
  (case l26=>k_is)
  (case c26=>k_is)
  (case k26=>k_is)
  (case a27=>k_is)
  (case l27=>k_is)
  (case c27=>k_is)
  (case k27=>k_is)
  (case a28=>k_is)
  (case l28=>k_is)
  (case c28=>k_is)
  (case k28=>k_is)
  (case a29=>k_is)
  (case l29=>k_is)
  (case c29=>k_is)
  (case k29=>k_is)
  (case a30=>k_is)
  (case l30=>k_is)
  (case c30=>k_is)
  (case k30=>k_is)
  (case a31=>k_is)
  (case l31=>k_is)
  (case c31=>k_is)
  (case k31=>k_is)
  (case a32=>k_is)
  (case l32=>k_is)
  (case c32=>k_is)
  (case k32=>k_is)
  (case a33=>k_is)
  (case l33=>k_is)
  (case c33=>k_is)
  (case k33=>k_is)
  (case a34=>k_is)
  (case l34=>k_is)
  (case c34=>k_is)
  (case k34=>k_is)
  (case a35=>k_is)
  (case l35=>k_is)
  (case c35=>k_is)
  (case k35=>k_is)
  (case a36=>k_is)
  (case l36=>k_is)
  (case c36=>k_is)
  (case k36=>k_is)
  (case a37=>k_is)
  (case l37=>k_is)
  (case c37=>k_is)
  (case k37=>k_is)
  (case a38=>k_is)
  (case l38=>k_is)
  (case c38=>k_is)
  (case k38=>k_is)
  (case a39=>k_is)
  (case l39=>k_is)
  (case c39=>k_is)
  (case k39=>k_is)
  (case a40=>k_is)
  (case l40=>k_is)
  (case c40=>k_is)
  (case k40=>k_is)
  (case cT=>k_is)
  (case eQ=>k_is)
  (case zL=>k_is)
  (case jA=>k_is)
  (case mK=>k_is)
  (case yT=>k_is)
  (case eN=>k_is)
  (case g6=>k_is)
  (case xO=>k_is)
  (case o7=>k_is)
  (case yJ=>k_is)
  (case e_FIGURES=>k_is)
#print axioms PySem.Challenge.cw_answertrees_k59_wishes_of_forests_holds
